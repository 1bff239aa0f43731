/-
  Runs that begin one behind the other: which blocks are in use; the row of flags that the law keeps.
-/
import Derived.Test.YtdmnhgbdeifpbaaRingFirst
namespace Go.Proofs.Ytdmnhgbdeifpbaa
open Go Go.RowKit

/-- A slice of numbers that came in. -/
def IntsIn (w : World) (a : Option Addr) (l : List Int) : Prop :=
  l.length = 0 ∨ ∃ ab off, a = some ⟨ab, off, none⟩ ∧ ∀ j < l.length, w.cell? ⟨ab, off + j, none⟩ = some (.int .i64 (l.getD j 0))
/-- What is in use is of a place of this lap. -/
def ApU (f l low at_ : Int) (U : List Bool) : Prop := U.length = 4096 ∧ ∀ j : Nat, U[j]? = some true → ∃ p : Int, low ≤ p ∧ p < at_ ∧ (j : Int) = f + p % l
theorem ApU.later {f l low a a' : Int} {U : List Bool} (h : ApU f l low a U) (ha : a ≤ a') : ApU f l low a' U := ⟨h.1, fun j hj => by
  obtain ⟨p, h1, h2, h3⟩ := h.2 j hj
  exact ⟨p, h1, by omega, h3⟩⟩
theorem ApU.start (f l low : Int) : ApU f l low low (List.replicate 4096 false) := ⟨List.length_replicate .., fun j hj => by
  rw [List.getElem?_replicate] at hj
  split at hj <;> simp at hj⟩
theorem ApU.free {f l low a : Int} {U : List Bool} (h : ApU f l low a U) (hl : 1 ≤ l) (h1 : low ≤ a) (h2 : a < low + l) {K : Nat} (hK : (K : Int) = f + a % l) (hk : K < 4096) : U[K]? = some false := by
  have hlt : K < U.length := by rw [h.1]; exact hk
  rw [List.getElem?_eq_getElem hlt]
  cases hu : U[K] with
  | false => rfl
  | true =>
    obtain ⟨p, g1, g2, g3⟩ := h.2 K (by rw [List.getElem?_eq_getElem hlt, hu])
    have := same_lap (l := l) (p := p) (q := a) (low := low) hl ⟨g1, by omega⟩ ⟨h1, h2⟩ (by omega)
    omega
theorem ApU.use {f l low a : Int} {U : List Bool} (h : ApU f l low a U) (h1 : low ≤ a) {K : Nat} (hK : (K : Int) = f + a % l) : ApU f l low (a + 1) (U.set K true) := by
  refine ⟨by rw [List.length_set]; exact h.1, fun j hj => ?_⟩
  by_cases e : K = j
  · subst e
    exact ⟨a, h1, by omega, hK⟩
  · rw [List.getElem?_set_ne e] at hj
    obtain ⟨p, g1, g2, g3⟩ := h.2 j hj
    exact ⟨p, g1, by omega, g3⟩
/-- A row of flags. -/
def rowT (l : List Bool) : Array Value := (l.map Value.bool).toArray
theorem zero_used : ∃ cz : Array Value, (∀ w, (zeroValue 50).run Try.prog w = .ok (.agg cz) w) ∧ cz = rowT (List.replicate 4096 false) := by
  have h := zero_of_info (P := Try.prog) (t := 50) (v := .agg (List.replicate 4096 (Value.bool false)).toArray) (n := 4096) (by kernel_rfl)
  exact ⟨_, h.1, by rw [rowT, List.map_replicate]⟩
/-- The law's own world: its ring, its flags; what came in is as it was. -/
structure ApW (w wr : World) (b ub : Nat) (f l : Int) (U : List Bool) : Prop where
  below : Below w.heap.size w wr
  ring : RgAt wr b f l
  row : wr.heap[ub]? = some (.cells (rowT U) 50 (0, 0))
  own : w.heap.size ≤ ub
section
variable {w wr w' : World} {b ub : Nat} {f l : Int} {U : List Bool}
theorem ApW.far (h : ApW w wr b ub f l U) (hB : Below wr.heap.size wr w') : ApW w w' b ub f l U :=
  ⟨h.below.trans (hB.mono h.below.size), h.ring.below hB, (hB.block _ (Array.getElem?_eq_some_iff.1 h.row).1).trans h.row, h.own⟩
theorem ApW.cell (h : ApW w wr b ub f l U) {K : Nat} {u : Bool} (hu : U[K]? = some u) : wr.cell? ⟨ub, K, none⟩ = some (.bool u) := by
  rw [cell_of_row _ _ _ _ _ _ h.row, rowT, List.getElem?_toArray, List.getElem?_map, hu]
  rfl
theorem ApW.set (h : ApW w wr b ub f l U) (K : Nat) : ApW w (wr.setCell ⟨ub, K, none⟩ (.bool true)) b ub f l (U.set K true) := by
  have hne : b ≠ ub := fun e => by
    have h1 := h.row
    rw [← e, show wr.heap[b]? = _ from h.ring] at h1
    injection h1 with h1
    injection h1 with _ e'
    exact absurd e' (by decide)
  refine ⟨h.below.trans ⟨rfl, rfl, rfl, by simp [World.setCell], fun k hk => heap_setCell_other _ _ _ _ (by have := h.own; show k ≠ ub; omega)⟩, ?_, ?_, h.own⟩
  · exact (heap_setCell_other _ _ _ _ (by exact hne)).trans h.ring
  · rw [heap_setCell_same wr ub K _ _ _ h.row]
    simp [rowT, List.map_set]
theorem IntsIn.at {a : Option Addr} {xs : List Int} (h : IntsIn w a xs) (hB : Below w.heap.size w wr) {i : Nat} (hi : i < xs.length) : ∃ ab off, a = some ⟨ab, off, none⟩ ∧ wr.cell? ⟨ab, off + i, none⟩ = some (.int .i64 (xs.getD i 0)) := by
  rcases h with h | ⟨ab, off, h1, h2⟩
  · omega
  · exact ⟨ab, off, h1, (hB.cell (p := ⟨ab, off + i, none⟩) (block_lt_of_cell (h2 i hi))).trans (h2 i hi)⟩
end
end Go.Proofs.Ytdmnhgbdeifpbaa
