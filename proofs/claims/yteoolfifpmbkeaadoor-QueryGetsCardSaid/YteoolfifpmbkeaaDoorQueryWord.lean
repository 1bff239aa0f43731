/-
  The contracts of strings.Cut at a blank, of package query's next word (a closure), and of its number; what they tell, plain.
-/
import Derived.Test.YteoolfifpmbkeaaDoorQueryRight
import Derived.Test.YteoolfifpmbkeaaDoorEventNumber
import Derived.Lib.CutLaws
namespace Go.Proofs.YteoolfifpmbkeaaDoor
open Go Go.RowKit

/-- Ahead of the first blank, and behind it. -/
def cutL : List (BitVec 8) → List (BitVec 8) × List (BitVec 8)
  | [] => ([], [])
  | c :: r => if c = 32 then ([], r) else (c :: (cutL r).1, (cutL r).2)
theorem cutL_len : ∀ s, (cutL s).1.length ≤ s.length ∧ (cutL s).2.length ≤ s.length
  | [] => ⟨Nat.le_refl _, Nat.le_refl _⟩
  | c :: r => by
    have := cutL_len r
    unfold cutL
    split
    · exact ⟨Nat.zero_le _, Nat.le_succ _⟩
    · simp only [List.length_cons]
      omega
theorem cutL_text (a r : List (BitVec 8)) (h : ∀ c ∈ a, c ≠ 32) : cutL (a ++ 32 :: r) = (a, r) := by
  induction a with
  | nil => simp [cutL]
  | cons c a ih =>
    rw [List.cons_append, cutL, if_neg (h c (by simp)), ih fun d hd => h d (by simp [hd])]
theorem cutL_last (a : List (BitVec 8)) (h : ∀ c ∈ a, c ≠ 32) : cutL a = (a, []) := by
  induction a with
  | nil => rfl
  | cons c a ih =>
    rw [cutL, if_neg (h c (by simp)), ih fun d hd => h d (by simp [hd])]
theorem cutL_cases : ∀ s : List (BitVec 8), (∃ a r, s = a ++ 32 :: r ∧ (∀ c ∈ a, c ≠ 32)) ∨ (∀ c ∈ s, c ≠ 32)
  | [] => .inr (by simp)
  | c :: r => by
    by_cases h : c = 32
    · exact .inl ⟨[], r, by rw [h]; rfl, by simp⟩
    · rcases cutL_cases r with ⟨a, t, rfl, ha⟩ | hr
      · exact .inl ⟨c :: a, t, rfl, fun d hd => by rcases List.mem_cons.1 hd with rfl | hd; exact h; exact ha d hd⟩
      · exact .inr fun d hd => by rcases List.mem_cons.1 hd with rfl | hd; exact h; exact hr d hd
theorem lv_ne {a : List (BitVec 8)} (h : ∀ c ∈ a, c ≠ 32) : noBlank (lvB a) := by
  intro c hc e
  obtain ⟨x, hx, rfl⟩ := List.mem_map.1 hc
  refine h x hx (BitVec.eq_of_toNat_eq ?_)
  have h1 : (UInt8.ofNat x.toNat).toNat = 32 := by rw [e]; rfl
  have hx := x.isLt
  have h2 : (UInt8.ofNat x.toNat).toNat = x.toNat := by
    rw [UInt8.toNat_ofNat']
    exact Nat.mod_eq_of_lt hx
  rw [← h2, h1]
  rfl
theorem cut_lv (s : List (BitVec 8)) : (Lib.cut (lvB s) [32]).1 = lvB (cutL s).1 ∧ (Lib.cut (lvB s) [32]).2.1 = lvB (cutL s).2 := by
  rcases cutL_cases s with ⟨a, r, rfl, ha⟩ | hs
  · rw [cutL_text a r ha, lvB_append]
    have e : lvB (32 :: r) = 32 :: lvB r := rfl
    have hi := index_text (lvB a) (lvB r) (lv_ne ha)
    rw [e]
    unfold Lib.cut
    rw [hi, if_pos (by omega)]
    simp
  · rw [cutL_last s hs]
    unfold Lib.cut
    rw [index_blank _ (lv_ne hs), if_neg (by omega)]
    exact ⟨rfl, rfl⟩
def cutB (s : List (BitVec 8)) : Bool := (Lib.cut (lvB s) [32]).2.2
/-- How long a needle the library looks for: it lies in the world. -/
def MaxIn (w : World) : Prop := ∃ m, w.cell? ⟨3, 0, none⟩ = some (.int .i64 m)
theorem MaxIn.below {w w' : World} (h : MaxIn w) (hB : Below w.heap.size w w') : MaxIn w' := by
  obtain ⟨m, h⟩ := h
  exact ⟨m, (hB.cell (block_lt_of_cell h)).trans h⟩
theorem qcut_any (w : World) (s : List (BitVec 8)) (hl : s.length ≤ 1000000) (hM : MaxIn w) :
    Calls Tryd.prog 38 #[Sv s, .string ⟨#[32]⟩] w fun e w' => e = .returned (.tuple #[Sv (cutL s).1, Sv (cutL s).2, .bool (cutB s)]) ∧ ∃ n, w' = w.drewN n := by
  obtain ⟨m, hm⟩ := hM
  have hsz : (⟨(lvB s).toArray⟩ : ByteArray).size = s.length := by
    show (lvB s).toArray.size = _
    rw [List.size_toArray, lvB_length]
  have h := Tryd.strings_Cut ⟨(lvB s).toArray⟩ ⟨#[32]⟩ m w (by rw [hsz]; omega) hm
  rw [← Sv_lv] at h
  obtain ⟨h1, h2⟩ := cut_lv s
  rw [show (⟨(lvB s).toArray⟩ : ByteArray).data.toList = lvB s from rfl, show (⟨#[32]⟩ : ByteArray).data.toList = [32] from rfl, h1, h2, ← Sv_lv, ← Sv_lv] at h
  exact h
/-- A captured string. -/
def CutAt (w : World) (sb : Nat) (s : List (BitVec 8)) : Prop := w.heap[sb]? = some (.cells #[Sv s] 9 (0, 0))
set_option maxRecDepth 100000 in
theorem qword_any (w : World) (sb : Nat) (s : List (BitVec 8)) (hl : s.length ≤ 1000000) (hM : MaxIn w) (hS : CutAt w sb s) :
    Calls Tryd.prog 37 #[.pointer (some ⟨sb, 0, none⟩)] w fun e w' => e = .returned (Sv (cutL s).1) ∧ CutAt w' sb (cutL s).2 ∧ w.grownBy w' (some sb) := by
  have HC := Lib.hid (qcut_any w s hl hM)
  have c0 : w.cell? ⟨sb, 0, none⟩ = some (Sv s) := by rw [cell_of_row _ _ _ _ _ _ hS]; rfl
  have HS := Lib.hid hS
  obtain ⟨a, ha⟩ : ∃ a, a = (cutL s).1 := ⟨_, rfl⟩
  obtain ⟨r, hr⟩ : ∃ r, r = (cutL s).2 := ⟨_, rfl⟩
  rw [← ha, ← hr] at HC ⊢
  clear hl hM hS ha hr
  go_enter Tryd.func37, Tryd.ntmps37
  go_wp2_with (fail)
  refine HC.out.mono ?_
  rintro e w1 ⟨rfl, n, rfl⟩
  have HS1 : Hid (CutAt (w.drewN n) sb s) := Lib.hid HS.out
  have c1 : (w.drewN n).cell? ⟨sb, 0, none⟩ = some (Sv s) := c0
  have f1 : (w.drewN n).frozen? ⟨sb, 0, none⟩ = false := frozen_of_row _ _ _ _ _ HS1.out
  have hst : (storeCells ⟨sb, 0, none⟩ [Sv r]).run Tryd.prog (w.drewN n) = .ok () ((w.drewN n).setCell ⟨sb, 0, none⟩ (Sv r)) := by
    rw [run_storeCells_Sv]
    simp [stored, f1, c1]
  clear c0
  dsimp only
  go_wp2_with (fail)
  rw [hst]
  clear hst c1 f1
  go_wp2_with (fail)
  go_ret
  exact ⟨rfl, heap_setCell_same _ _ _ _ _ _ HS1.out, ⟨rfl, rfl, rfl, by simp [World.setCell], fun k hk hne => heap_setCell_other _ _ _ _ (by simpa [eq_comm] using hne)⟩⟩
end Go.Proofs.YteoolfifpmbkeaaDoor
