/-
  A row of blocks of 128 bytes in memory: one block is read, stored, laid over in part.
-/
import Derived.Test.YtdmnhgbdeifpbaaStorePure
import Derived.Deep.MidRow
import Derived.Laws.CopyOwn
namespace Go.Proofs.Ytdmnhgbdeifpbaa
open Go Go.RowKit

theorem splice_map (l x : List (BitVec 8)) (o : Nat) : splice (l.map B) o (x.map B) = (splice l o x).map B := by simp [splice]
theorem flatB_append (L M : List (List (BitVec 8))) : flatB (L ++ M) = flatB L ++ flatB M := by simp [flatB]
theorem flatB_splice {L : List (List (BitVec 8))} (h : Blocks L) {k : Nat} (hk : k < L.length) (x : List (BitVec 8)) (hx : x.length ≤ 128) :
    splice (flatB L) (128 * k) x = flatB (L.set k (x ++ (L.getD k []).drop x.length)) := by
  have hl : L = L.take k ++ L[k] :: L.drop (k + 1) := by
    rw [List.getElem_cons_drop, List.take_append_drop]
  have hA : (flatB (L.take k)).length = 128 * k := by
    rw [flatB_length (fun b hb => h b (List.mem_of_mem_take hb)), List.length_take, Nat.min_eq_left (by omega)]
  have hb : L[k].length = 128 := h _ (List.getElem_mem hk)
  have e1 : flatB L = flatB (L.take k) ++ (L[k] ++ flatB (L.drop (k + 1))) := by
    conv => lhs; rw [hl]
    rw [flatB_append]
    rfl
  have e2 : L.set k (x ++ (L.getD k []).drop x.length) = L.take k ++ (x ++ L[k].drop x.length) :: L.drop (k + 1) := by
    rw [List.set_eq_take_append_cons_drop, if_pos hk]
    simp [List.getD_eq_getElem?_getD, hk]
  rw [e2, flatB_append, show flatB ((x ++ L[k].drop x.length) :: L.drop (k + 1)) = x ++ L[k].drop x.length ++ flatB (L.drop (k + 1)) by simp [flatB]]
  unfold splice
  rw [e1, List.take_append_of_le_length (by omega), List.take_of_length_le (by omega), List.drop_append, List.drop_of_length_le (by omega), hA, List.nil_append, show 128 * k + x.length - 128 * k = x.length by omega, List.drop_append_of_le_length (by omega)]
  simp
theorem flatB_set {L : List (List (BitVec 8))} (h : Blocks L) {k : Nat} (hk : k < L.length) (x : List (BitVec 8)) (hx : x.length = 128) :
    splice (flatB L) (128 * k) x = flatB (L.set k x) := by
  rw [flatB_splice h hk x (by omega), List.drop_of_length_le (by rw [h.at hk]; omega), List.append_nil]
theorem flatB_torn {L : List (List (BitVec 8))} (h : Blocks L) {k : Nat} (hk : k < L.length) (b : List (BitVec 8)) (hb : b.length = 128) (n : Nat) (hn : n ≤ 128) :
    splice (flatB L) (128 * k) (b.take n) = flatB (L.set k (torn n b (L.getD k []))) := by
  have hl : (b.take n).length = n := by simp; omega
  rw [flatB_splice h hk (b.take n) (by omega), hl]
  rfl
/-- The row of a list of blocks. -/
def rowB (L : List (List (BitVec 8))) : Array Value := ((flatB L).map B).toArray
theorem rowB_size {L : List (List (BitVec 8))} (h : Blocks L) : (rowB L).size = 128 * L.length := by simp [rowB, flatB_length h]
theorem rowB_at {L : List (List (BitVec 8))} (h : Blocks L) (k j : Nat) (hk : k < L.length) (hj : j < 128) : (rowB L)[128 * k + j]? = ((L.getD k []).map B)[j]? := by
  simp only [rowB, List.getElem?_toArray, List.getElem?_map]
  rw [flatB_at h k j hk hj]
theorem row_range {w : World} {g : Nat} {L : List (List (BitVec 8))} {t : TypeId} {fr : Nat × Nat} (hg : w.heap[g]? = some (.cells (rowB L) t fr)) (h : Blocks L) {k : Nat} (hk : k < L.length) :
    w.rangeAt g (128 * k) ((L.getD k []).map B) := fun j v hv => by
  have hj : j < 128 := by
    have h1 := (List.getElem?_eq_some_iff.1 hv).1
    rw [List.length_map, h.at hk] at h1
    exact h1
  rw [cell_of_row w g _ _ t fr hg, rowB_at h k j hk hj]
  exact hv
theorem row_there {w : World} {g : Nat} {L : List (List (BitVec 8))} {t : TypeId} (hg : w.heap[g]? = some (.cells (rowB L) t (0, 0))) (h : Blocks L) {k : Nat} (hk : k < L.length) :
    w.there g (128 * k) 128 := fun j hj => by
  refine ⟨?_, frozen_of_row w g _ _ t hg⟩
  rw [cell_of_row w g _ _ t (0, 0) hg, rowB_at h k j hk hj]
  have := h.at hk
  rw [List.getElem?_map, List.getElem?_eq_getElem (by omega)]
  rfl
theorem setCells_splice (w : World) (g o : Nat) (t : TypeId) (vs : List Value) (cur : Array Value) (hg : w.heap[g]? = some (.cells cur t (0, 0))) (hl : o + vs.length ≤ cur.size) (h1 : ∀ v ∈ vs, v.oneCell' = true) :
    w.setCells g o vs = w.setRow g (splice cur.toList o vs).toArray := by
  have e1 := run_storeCells_cells (P := Try.prog) g o vs 0 w (fun j hj => by rw [cell_of_row w g _ _ t (0, 0) hg]; simp; omega) (fun j hj => frozen_of_row w g _ _ t hg) h1
  have e2 := run_storeCells_at Try.prog g o t vs 0 cur w hg (by omega) h1
  rw [e1] at e2
  simp only [Nat.add_zero, Result.ok.injEq, true_and] at e2
  rw [e2]
  simp [splice]
theorem bytes_oneCell (x : List (BitVec 8)) : ∀ v ∈ x.map B, v.oneCell' = true := fun v hv => by
  obtain ⟨b, _, rfl⟩ := List.mem_map.1 hv
  rfl
/-- A whole block is stored. -/
theorem setCells_row {w : World} {g : Nat} {L : List (List (BitVec 8))} {t : TypeId} (hg : w.heap[g]? = some (.cells (rowB L) t (0, 0))) (h : Blocks L) {k : Nat} (hk : k < L.length) (x : List (BitVec 8)) (hx : x.length = 128) :
    w.setCells g (128 * k) (x.map B) = w.setRow g (rowB (L.set k x)) := by
  have hsz : (rowB L).size = 128 * L.length := rowB_size h
  rw [setCells_splice w g (128 * k) t (x.map B) _ hg (by rw [hsz]; simp; omega) (bytes_oneCell x)]
  congr 1
  show (splice ((flatB L).map B) (128 * k) (x.map B)).toArray = _
  rw [splice_map, flatB_set h hk x hx]
  rfl
/-- Noughts. -/
def zeroB : List (BitVec 8) := List.replicate 128 0
theorem zeros_blocks (n : Nat) : Blocks (List.replicate n zeroB) := fun b hb => by
  obtain ⟨_, rfl⟩ := List.mem_replicate.1 hb
  rfl
theorem rowB_zeros (n : Nat) : rowB (List.replicate n zeroB) = (List.replicate (128 * n) (Value.int .u8 0)).toArray := by
  have : flatB (List.replicate n zeroB) = List.replicate (128 * n) 0 := by
    induction n with
    | zero => rfl
    | succ n ih =>
      show zeroB ++ flatB (List.replicate n zeroB) = _
      rw [ih]
      show List.replicate 128 0 ++ List.replicate (128 * n) 0 = _
      rw [List.replicate_append_replicate]
      congr 1
      omega
  unfold rowB
  rw [this, List.map_replicate]
  rfl
end Go.Proofs.Ytdmnhgbdeifpbaa
