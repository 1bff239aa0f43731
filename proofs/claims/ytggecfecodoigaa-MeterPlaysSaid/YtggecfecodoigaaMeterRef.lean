/-
  The document's own meter in memory, and the contract of its Raise.
-/
import Derived.Test.YtggecfecodoigaaRefStSmall
import Derived.BigQuiet
namespace Go.Proofs.Ytggecfecodoigaa
open Go Go.RowKit

/-- The document's meter by the side of the store in block b. -/
def RMet (w : World) (xb b : Nat) (n m : Int) : Prop := w.heap[xb]? = some (.cells #[.pointer (some ⟨b, 0, none⟩), .int .i64 n, .int .i64 m] 64 (0, 0))
theorem RAt.other {w : World} {base : Nat} {f : RfF} {s : StS} (h : RAt w base f s) {k : Nat} {c : Array Value} {t : TypeId} {fr : Nat × Nat} (hk : w.heap[k]? = some (.cells c t fr))
    (h1 : t ≠ 51) (h2 : t ≠ 9) (h3 : t ≠ 53) (h4 : t ≠ 3) : ¬ f.has k := by
  rintro (rfl | e | e | e)
  · exact row_ty hk h.obj h1 rfl
  · exact own_ty h.last hk h2 e
  · exact own_ty h.waits hk h3 e
  · exact own_ty h.count hk h4 e
section
variable {w : World} {xb b : Nat} {n m : Int}
theorem RMet.cell0 (h : RMet w xb b n m) : w.cell? ⟨xb, 0, none⟩ = some (.pointer (some ⟨b, 0, none⟩)) := by rw [cell_of_row _ _ _ _ _ _ h]; rfl
theorem RMet.cell1 (h : RMet w xb b n m) : w.cell? ⟨xb, 1, none⟩ = some (.int .i64 n) := by rw [cell_of_row _ _ _ _ _ _ h]; rfl
theorem RMet.cell2 (h : RMet w xb b n m) : w.cell? ⟨xb, 2, none⟩ = some (.int .i64 m) := by rw [cell_of_row _ _ _ _ _ _ h]; rfl
theorem RMet.free (h : RMet w xb b n m) (i : Nat) : w.frozen? ⟨xb, i, none⟩ = false := frozen_of_row w xb i _ _ h
theorem RMet.lt (h : RMet w xb b n m) : xb < w.heap.size := (Array.getElem?_eq_some_iff.1 h).1
theorem RMet.put (h : RMet w xb b n m) (k : Int) : RMet (w.setCell ⟨xb, 1, none⟩ (.int .i64 k)) xb b k m := by
  unfold RMet
  rw [heap_setCell_same w xb 1 _ _ _ h]
  rfl
/-- A full one. -/
theorem rmraise_full (h : RMet w xb b m m) : Calls Try.prog 31 #[.pointer (some ⟨xb, 0, none⟩)] w fun e w' => e = .returned (.int .i64 33) ∧ ∃ k, w' = w.drewN k := by
  have d1 := h.cell1
  have d2 := h.cell2
  clear h
  go_enter Try.func31, Try.ntmps31
  go_wp2_with (fail)
  go_quiet (fail)
  go_wp2_with (fail)
  go_ret
  exact ⟨rfl, _, rfl⟩
/-- One whose store is off. -/
theorem rmraise_off {base : Nat} {f : RfF} {s : StS} (hs : RAt w base f s) (h : RMet w xb f.b n m) (hn : n ≠ m) (h0 : s.C = 0) :
    Calls Try.prog 31 #[.pointer (some ⟨xb, 0, none⟩)] w fun e w' => e = .returned (.int .i64 31) ∧ ∃ k, w' = w.drewN k := by
  have H := Lib.hid (And.intro h (And.intro hn (And.intro hs h0)))
  have d1 := h.cell1
  have d2 := h.cell2
  clear h hn hs h0
  go_enter Try.func31, Try.ntmps31
  go_wp2_with (fail)
  go_quiet (fail)
  rw [show (n == m) = false from beq_false_of_ne H.out.2.1]
  have hB : Below w.heap.size w (w.drewN nq) := below_draws (Below.refl _ _) _
  have hS := H.out.2.2.1.far hB
  have d0 : (w.drewN nq).cell? ⟨xb, 0, none⟩ = some (.pointer (some ⟨f.b, 0, none⟩)) := H.out.1.cell0
  have H1 := Lib.hid hS
  clear hB hS d1 d2
  go_wp2_with (fail)
  refine (rspend_no H1.out H.out.2.2.2).mono ?_
  rintro e w1 ⟨rfl, rfl⟩
  dsimp only
  go_wp2_with (fail)
  go_ret
  exact ⟨rfl, _, rfl⟩
/-- One that may still rise, where the store has calls left. -/
theorem rmraise_yes {base : Nat} {f : RfF} {s : StS} (hs : RAt w base f s) (h : RMet w xb f.b n m) (hn : n ≠ m) (h0 : s.C ≠ 0) (hr : -9223372036854775808 ≤ n + 1 ∧ n + 1 ≤ 9223372036854775807) :
    Calls Try.prog 31 #[.pointer (some ⟨xb, 0, none⟩)] w fun e w' => e = .returned (.int .i64 0) ∧ ∃ w1, RAt w1 base f s.spent ∧ Moved f.has w w1 ∧ RMet w1 xb f.b n m ∧ w' = w1.setCell ⟨xb, 1, none⟩ (.int .i64 (n + 1)) := by
  have H := Lib.hid (And.intro h (And.intro hn (And.intro hs (And.intro h0 hr))))
  have d1 := h.cell1
  have d2 := h.cell2
  clear h hn hs h0
  go_enter Try.func31, Try.ntmps31
  go_wp2_with (fail)
  go_quiet (fail)
  rw [show (n == m) = false from beq_false_of_ne H.out.2.1]
  have hB : Below w.heap.size w (w.drewN nq) := below_draws (Below.refl _ _) _
  have hS := H.out.2.2.1.far hB
  have hm : RMet (w.drewN nq) xb f.b n m := H.out.1
  have d0 := hm.cell0
  have H1 := Lib.hid (And.intro hS (And.intro hm hB))
  clear hB hS hm d1 d2
  go_wp2_with (fail)
  refine (rspend_yes H1.out.1 H.out.2.2.2.1).mono ?_
  rintro e w1 ⟨rfl, hA, hK⟩
  have hM : RMet w1 xb f.b n m := (hK.block xb H1.out.2.1.lt (H1.out.1.other H1.out.2.1 (by decide) (by decide) (by decide) (by decide))).trans H1.out.2.1
  have c1 := hM.cell1
  have f1 := hM.free 1
  have HE := Lib.hid (And.intro hA (And.intro ((Moved.of_below H1.out.2.2).trans (fun _ h => .inl h) hK) hM))
  clear hA hK hM d0
  dsimp only
  go_wp2_with (fail)
  go_ret
  exact ⟨rfl, w1, HE.out.1, HE.out.2.1, HE.out.2.2, rfl⟩
end
end Go.Proofs.Ytggecfecodoigaa
