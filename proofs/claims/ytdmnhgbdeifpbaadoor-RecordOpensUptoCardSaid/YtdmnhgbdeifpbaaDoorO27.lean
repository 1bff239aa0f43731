/-
  Part 27 of 42 of what the proof leans on.
-/
import Derived.Test.YtdmnhgbdeifpbaaDoorO16
namespace Go.Proofs.YtdmnhgbdeifpbaaDoor
open Go Go.RowKit
theorem load_rec {w : World} {b o : Nat} {C : Array Value} (hC : C.size = 36) (hc : ∀ j v, C[j]? = some v → w.cell? ⟨b, o + j, none⟩ = some v) : (loadVar 25 ⟨b, o, none⟩).run Tryd.prog w = .ok (.agg C) w := by
  have hagg : ∀ w, (isAgg 25).run Tryd.prog w = .ok true w := Tryd.isAgg25; have hs : ∀ w, (sizeOf 25).run Tryd.prog w = .ok 36 w := Tryd.sizeOf25
  have := run_loadCells_list (P := Tryd.prog) w ⟨b, o, none⟩ C.toList (fun j v hv => by
    rw [addr_add]
    exact hc j v (by simpa using hv))
  rw [show C.toList.length = 36 by simp [hC]] at this
  simp [loadVar, hagg, hs, this, Result.andThen]
def caseC (C : Array Value) (kv : Value) (ahead : List (BitVec 8)) (bv : Value) : Array Value := C ++ (#[kv] ++ (byA ahead ++ #[bv]))
def RowK (w : World) (b : Nat) (C : Array Value) (kv : Value) (ahead : List (BitVec 8)) (bv : Value) : Prop := C.size = 36 ∧ ahead.length = 32 ∧ w.heap[b]? = some (.cells (caseC C kv ahead bv) 44 (0, 0))
theorem RowK.below {w w' : World} {b : Nat} {C : Array Value} {kv : Value} {ahead : List (BitVec 8)} {bv : Value} (h : RowK w b C kv ahead bv) (hB : Below w.heap.size w w') : RowK w' b C kv ahead bv := ⟨h.1, h.2.1, (hB.block b (Array.getElem?_eq_some_iff.1 h.2.2).1).trans h.2.2⟩
theorem RowK.d4 {w : World} {b : Nat} {C : Array Value} {kv : Value} {ahead : List (BitVec 8)} {bv : Value} (h : RowK w b C kv ahead bv) :
    (loadVar 25 ⟨b, 0, none⟩).run Tryd.prog w = .ok (.agg C) w ∧ w.cell? ⟨b, 36, none⟩ = some kv ∧ (loadVar 23 ⟨b, 37, none⟩).run Tryd.prog w = .ok (.agg (byA ahead)) w ∧ w.cell? ⟨b, 69, none⟩ = some bv := by
  obtain ⟨hC, ha, hr⟩ := h
  have hA : (byA ahead).size = 32 := by rw [byA_size, ha]
  refine ⟨load_rec hC fun j v hj => ?_, ?_, load_arr ha fun j v hj => ?_, ?_⟩
  · have hj36 : j < C.size := (Array.getElem?_eq_some_iff.1 hj).1; rw [Nat.zero_add, cell_of_row _ _ _ _ _ _ hr, caseC, Array.getElem?_append_left hj36, hj]
  · rw [cell_of_row _ _ _ _ _ _ hr, caseC, Array.getElem?_append_right (by omega), hC, Array.getElem?_append_left (by simp)]
    rfl
  · have hj32 : j < (byA ahead).size := (Array.getElem?_eq_some_iff.1 hj).1
    rw [cell_of_row _ _ _ _ _ _ hr, caseC, Array.getElem?_append_right (by omega), hC, Array.getElem?_append_right (by simp; omega), Array.getElem?_append_left (by simp; omega), show 37 + j - 36 - (#[kv] : Array Value).size = j by simp; omega, hj]
  · rw [cell_of_row _ _ _ _ _ _ hr, caseC, Array.getElem?_append_right (by omega), hC, Array.getElem?_append_right (by simp), Array.getElem?_append_right (by simp [hA]), show 69 - 36 - (#[kv] : Array Value).size - (byA ahead).size = 0 by simp [hA]]
    rfl
end Go.Proofs.YtdmnhgbdeifpbaaDoor
