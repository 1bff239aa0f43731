/-
  Rows that lie in memory while the world grows.
-/
import Derived.Test.YtkgmcjeficgciaaDoorRooms
namespace Go.Proofs.YtkgmcjeficgciaaDoor
open Go Go.RowKit

/-- The rows named lie where they lie; what is below w0's end is as w0 has it; B1 blocks at least are there. -/
def Held (w0 : World) (B1 : Nat) (bs : List (Nat × Array Value × TypeId)) (w : World) : Prop :=
  (∀ x ∈ bs, w.heap[x.1]? = some (.cells x.2.1 x.2.2 (0, 0))) ∧ Below w0.heap.size w0 w ∧ B1 ≤ w.heap.size
theorem Held.grow {w0 w w' : World} {B1 : Nat} {bs : List (Nat × Array Value × TypeId)} (h : Held w0 B1 bs w) (hB : Below w.heap.size w w') : Held w0 B1 bs w' :=
  ⟨fun x hx => (hB.block _ (Array.getElem?_eq_some_iff.1 (h.1 x hx)).1).trans (h.1 x hx), h.2.1.trans (hB.mono h.2.1.size), Nat.le_trans h.2.2 hB.size⟩
theorem Held.set {w0 w : World} {B1 g : Nat} {bs : List (Nat × Array Value × TypeId)} {F : Array Value} (h : Held w0 B1 bs w) (hlt : ∀ x ∈ bs, x.1 < g) (hg : w0.heap.size ≤ g) : Held w0 B1 bs (w.setRow g F) := by
  refine ⟨fun x hx => (setRow_other _ _ _ _ (by have := hlt x hx; omega)).trans (h.1 x hx), h.2.1.trans ⟨rfl, rfl, rfl, by simp, fun k hk => setRow_other _ _ _ _ (by omega)⟩, by simpa using h.2.2⟩
theorem Held.cell {w0 w : World} {B1 b : Nat} {bs : List (Nat × Array Value × TypeId)} {cs : Array Value} {t : TypeId} (h : Held w0 B1 bs w) (hm : (b, cs, t) ∈ bs) (i : Nat) : w.cell? ⟨b, i, none⟩ = cs[i]? := by
  rw [cell_of_row _ _ _ _ _ _ (h.1 _ hm)]
theorem Held.lt {w0 w : World} {B1 : Nat} {bs : List (Nat × Array Value × TypeId)} (h : Held w0 B1 bs w) : w0.heap.size ≤ w.heap.size ∧ ∀ x ∈ bs, x.1 < w.heap.size :=
  ⟨h.2.1.size, fun x hx => (Array.getElem?_eq_some_iff.1 (h.1 x hx)).1⟩
theorem Held.drew {w0 w : World} {B1 : Nat} {bs : List (Nat × Array Value × TypeId)} (h : Held w0 B1 bs w) : Held w0 w.heap.size bs { w with drawn := w.drawn + 1 } := ⟨h.1, h.2.1.drew, Nat.le_refl _⟩
theorem Held.draw {w0 w : World} {B1 : Nat} {bs : List (Nat × Array Value × TypeId)} (h : Held w0 B1 bs w) : Held w0 B1 bs { w with drawn := w.drawn + 1 } := ⟨h.1, h.2.1.drew, h.2.2⟩
theorem Held.more {w0 w : World} {B1 b : Nat} {bs : List (Nat × Array Value × TypeId)} {cs : Array Value} {t : TypeId} (h : Held w0 B1 bs w) (hr : w.heap[b]? = some (.cells cs t (0, 0))) : Held w0 B1 ((b, cs, t) :: bs) w :=
  ⟨fun x hx => by
    rcases List.mem_cons.1 hx with rfl | hx
    · exact hr
    · exact h.1 x hx, h.2⟩
end Go.Proofs.YtkgmcjeficgciaaDoor
