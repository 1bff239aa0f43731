/-
  The bytes of an act: the contract of the law's own whole.
-/
import Derived.Test.YtdmnhgbdeifpbaaStoreImage
namespace Go.Proofs.Ytdmnhgbdeifpbaa
open Go Go.RowKit

def wholeAt (bs : List (BitVec 8)) (j : Nat) : BitVec 8 := if 0 < bs.length then gl bs (j % bs.length) else 0
/-- The bytes so far: the first i are laid. -/
def wholeTo (bs : List (BitVec 8)) (i : Nat) : List (BitVec 8) := (List.range 128).map fun j => if j < i then wholeAt bs j else 0
theorem wholeTo_zero (bs : List (BitVec 8)) : wholeTo bs 0 = List.replicate 128 0 := by
  have h : wholeTo bs 0 = (List.range 128).map fun _ => (0 : BitVec 8) := List.map_congr_left fun j _ => by simp
  rw [h, List.map_const', List.length_range]
theorem wholeTo_length (bs : List (BitVec 8)) (i : Nat) : (wholeTo bs i).length = 128 := by simp [wholeTo]
theorem wholeTo_end (bs : List (BitVec 8)) (h : bs.length ≠ 1) : wholeTo bs 128 = wholeB bs := by
  unfold wholeB
  rw [if_neg h]
  apply List.map_congr_left
  intro j hj
  rw [if_pos (List.mem_range.1 hj)]
  rfl
theorem wholeTo_step (bs : List (BitVec 8)) (i : Nat) (h : i < 128) : (wholeTo bs i).set i (wholeAt bs i) = wholeTo bs (i + 1) := by
  apply List.ext_getElem?
  intro j
  unfold wholeTo
  by_cases e : i = j
  · subst e
    rw [List.getElem?_set_self (by simpa using h)]
    simp [h]
  · rw [List.getElem?_set_ne e]
    by_cases hj : j < 128
    · simp only [List.getElem?_map, List.getElem?_range hj, Option.map_some]
      congr 1
      by_cases h1 : j < i
      · rw [if_pos h1, if_pos (by omega)]
      · rw [if_neg h1, if_neg (by omega)]
    · simp [hj]
theorem wholeTo_none (bs : List (BitVec 8)) (i : Nat) (h : bs.length = 0) : wholeTo bs (i + 1) = wholeTo bs i := by
  apply List.map_congr_left
  intro j _
  simp [wholeAt, h]
theorem mk_bytes (w : World) : (Instr.makeSlice 25 (.int .i64 128) (.int .i64 128)).run Try.prog w =
    .ok (.slice (some ⟨w.heap.size, 0, none⟩) 128 128) (w.alloc (.cells (((List.replicate 128 (0 : BitVec 8)).map B).toArray) 5)) := by
  obtain ⟨i, hi, hz, hs, hb⟩ := info_u8
  have hr := run_make (P := Try.prog) w 25 5 i _ Try.underlying25 hi hz .i64 .i64 128 128 (by omega) (Int.le_refl _) (by rw [hb]; omega) (by omega)
  simp only [show (128 : Int).toNat = 128 from rfl] at hr
  rw [hr, hs]
  show Result.ok _ (w.alloc (.cells (madeCells #[Value.int .u8 0] (128 * 1)) _)) = _
  have h := made_same 1 (128 * 1) (.int .u8 0) (by omega)
  have h' : madeCells #[Value.int .u8 0] (128 * 1) = ((List.replicate 128 (0 : BitVec 8)).map B).toArray := by
    refine Eq.trans h ?_
    rw [List.map_replicate]
    rfl
  rw [h']
/-- What whole leaves: bytes that it made, or those that it was given. -/
def WholeEnd (w : World) (ba : Option Addr) (bs : List (BitVec 8)) (e : Ending) (w' : World) : Prop :=
  ∃ a c, e = .returned (.slice a (wholeB bs).length c) ∧ SrcP w' a (wholeB bs).length (wholeB bs) ∧ Below w.heap.size w w' ∧ ((a = ba ∧ bs.length = 1) ∨ ∀ ab, a.map (·.block) = some ab → w.heap.size ≤ ab)
end Go.Proofs.Ytdmnhgbdeifpbaa
