/-
  Package wins's Parse, part one: cut at two full stops, the candidate; a number and a copy.
-/
import Derived.Test.YtkgmcjeficgciaaDoorWinsRow
namespace Go.Proofs.YtkgmcjeficgciaaDoor
open Go Go.RowKit

def noDot (l : List UInt8) : Prop := ∀ c ∈ l, c ≠ 46
theorem index_dots (a r : List UInt8) (h : noDot a) : Lib.index (a ++ 46 :: 46 :: r) [46, 46] = (a.length : Int) := by
  refine Lib.index_first (by simp) (by simp [Lib.occAt]) fun j hj => ?_
  rw [Bool.eq_false_iff]
  intro ho
  have := Lib.occAt_head (s := a ++ 46 :: 46 :: r) (t := [46]) rfl ho
  rw [List.getElem?_append_left hj] at this
  exact h _ (List.mem_of_getElem? this) rfl
/-- What strings.Cut(s, "..") makes. -/
def cutD (s : List (BitVec 8)) : List (BitVec 8) × List (BitVec 8) := (bvL (Lib.cut (lvB s) [46, 46]).1, bvL (Lib.cut (lvB s) [46, 46]).2.1)
theorem lv_noDot {a : List (BitVec 8)} (h : ∀ c ∈ a, c ≠ 46) : noDot (lvB a) := by
  intro c hc e
  obtain ⟨x, hx, rfl⟩ := List.mem_map.1 hc
  refine h x hx (BitVec.eq_of_toNat_eq ?_)
  have h1 : (UInt8.ofNat x.toNat).toNat = 46 := by rw [e]; rfl
  have hx := x.isLt
  have h2 : (UInt8.ofNat x.toNat).toNat = x.toNat := by
    rw [UInt8.toNat_ofNat']
    exact Nat.mod_eq_of_lt hx
  rw [← h2, h1]
  rfl
theorem cutD_text (a r : List (BitVec 8)) (h : ∀ c ∈ a, c ≠ 46) : cutD (a ++ bDots ++ r) = (a, r) := by
  have e : lvB (a ++ bDots ++ r) = lvB a ++ 46 :: 46 :: lvB r := by
    rw [lvB_append, lvB_append, List.append_assoc]
    rfl
  have hi := index_dots (lvB a) (lvB r) (lv_noDot h)
  unfold cutD
  rw [e]
  unfold Lib.cut
  rw [hi, if_pos (by omega)]
  simp [bvL_lvB]
theorem cutD_len (s : List (BitVec 8)) : (cutD s).1.length ≤ s.length ∧ (cutD s).2.length ≤ s.length := by
  have hb : ∀ l : List UInt8, (bvL l).length = l.length := fun l => by simp [bvL]
  have hs := lvB_length s
  unfold cutD Lib.cut
  split
  · simp only [hb, List.length_take, List.length_drop]
    omega
  · simp only [hb]
    exact ⟨by omega, by simp⟩
theorem wcutD_any (w : World) (s : List (BitVec 8)) (hl : s.length ≤ 1000000) (hM : MaxIn w) :
    Calls Tryd.prog 50 #[Sv s, .string ⟨#[46, 46]⟩] w fun e w' => (∃ z, e = .returned (.tuple #[Sv (cutD s).1, Sv (cutD s).2, .bool z])) ∧ ∃ n, w' = w.drewN n := by
  obtain ⟨m, hm⟩ := hM
  have hsz : (⟨(lvB s).toArray⟩ : ByteArray).size = s.length := by
    show (lvB s).toArray.size = _
    rw [List.size_toArray, lvB_length]
  have h := Tryd.strings_Cut ⟨(lvB s).toArray⟩ ⟨#[46, 46]⟩ m w (by rw [hsz]; omega) hm
  rw [← Sv_lv] at h
  rw [show (⟨(lvB s).toArray⟩ : ByteArray).data.toList = lvB s from rfl, show (⟨#[46, 46]⟩ : ByteArray).data.toList = [46, 46] from rfl] at h
  refine h.mono ?_
  rintro e w' ⟨rfl, hn⟩
  refine ⟨⟨(Lib.cut (lvB s) [46, 46]).2.2, ?_⟩, hn⟩
  have e1 : Sv (cutD s).1 = .string ⟨(Lib.cut (lvB s) [46, 46]).1.toArray⟩ := by rw [Sv_lv, cutD, lvB_bvL]
  have e2 : Sv (cutD s).2 = .string ⟨(Lib.cut (lvB s) [46, 46]).2.1.toArray⟩ := by rw [Sv_lv, cutD, lvB_bvL]
  rw [e1, e2]
/-- The window that a text may tell. -/
def candW (s : List (BitVec 8)) : WindowL := ⟨(cutL s).1, numL (cutD (cutL s).2).1, numL (cutD (cutL s).2).2⟩
theorem numL_itoaW (n : Int) (h : 0 ≤ n ∧ n ≤ 4398046511104) : numL (itoaL n) = n := by
  have hs : (Lib.itoa n).length ≤ 18 := by
    unfold Lib.itoa
    split
    · have := digits_len 12 n.natAbs (by omega)
      simp only [List.length_cons]
      omega
    · have := digits_len 12 n.toNat (by omega)
      omega
  rw [numL, itoaL_bv, lvB_bvL, Lib.atoiAll_short _ hs, atoi_itoa]
  rfl
theorem candW_text {x : WindowL} (h : x.rightB = true) : candW x.text = x := by
  obtain ⟨h1, h2, h3, h4, h5, h6, h7⟩ := rightW_cases h
  have hk := key_noBlank h
  have e : x.text = x.key ++ 32 :: (itoaL x.lo ++ bDots ++ itoaL x.hi) := by simp [WindowL.text, bBlank, List.append_assoc]
  unfold candW
  rw [e, cutL_text _ _ hk]
  simp only
  rw [cutD_text _ _ (digit_noDot _)]
  simp only
  rw [numL_itoaW x.lo (by omega), numL_itoaW x.hi (by omega)]
theorem cand_parse (s : List (BitVec 8)) : parseW s = if (candW s).rightB = true ∧ (candW s).text = s then (candW s, true) else (zeroW, false) :=
  (parseW_cand s (candW s) (fun x hx e => by rw [← e]; exact candW_text hx)).symm
set_option maxRecDepth 100000 in
theorem wnumber_any (w : World) (l : List (BitVec 8)) (hl : l.length ≤ 1000000) (hE : ErrsIn w) : Calls Tryd.prog 51 #[Sv l] w (Below0 w (.int .i64 (numL l))) := by
  have hsz : (⟨(lvB l).toArray⟩ : ByteArray).size ≤ 1000000 := by simpa [ByteArray.size, lvB] using hl
  have hnum : numL l = match Lib.atoiAll (lvB l) with | .ok v => v | _ => 0 := rfl
  cases h : Lib.atoiAll (lvB l) with
  | ok v =>
    have HA := Lib.hid (Tryd.strconv_Atoi_ok ⟨(lvB l).toArray⟩ (by omega) v h w)
    rw [← Sv_lv] at HA
    rw [hnum, h]
    clear h hnum hsz hl
    go_enter Tryd.func51, Tryd.ntmps51
    go_wp2_with (fail)
    refine HA.out.mono ?_
    rintro e w1 ⟨rfl, hw⟩
    have HB : Hid (Below w.heap.size w w1) := by
      rcases hw with rfl | ⟨t, rfl⟩
      · exact Below.refl _ _
      · exact Lib.bytesWorld_below w _ t
    clear hw
    dsimp only
    go_wp2_with (fail)
    go_ret
    exact ⟨rfl, HB.out⟩
  | «syntax» =>
    obtain ⟨ev, h1, h2⟩ := hE 2 (.inl rfl)
    have HA := Lib.hid (Tryd.strconv_Atoi_syntax ⟨(lvB l).toArray⟩ (by omega) h ev w h1 h2)
    rw [← Sv_lv] at HA
    rw [hnum, h]
    clear h hnum hsz hl h1 h2 hE
    go_enter Tryd.func51, Tryd.ntmps51
    go_wp2_with (fail)
    refine HA.out.mono ?_
    rintro e w1 ⟨N, rfl, hN, hrow, hB⟩
    have HB := Lib.hid hB
    clear hN hrow hB
    dsimp only
    go_wp2_with (fail)
    go_ret
    exact ⟨rfl, HB.out⟩
  | range =>
    obtain ⟨ev, h1, h2⟩ := hE 3 (.inr rfl)
    have HA := Lib.hid (Tryd.strconv_Atoi_range ⟨(lvB l).toArray⟩ (by omega) h ev w h1 h2)
    rw [← Sv_lv] at HA
    rw [hnum, h]
    clear h hnum hsz hl h1 h2 hE
    go_enter Tryd.func51, Tryd.ntmps51
    go_wp2_with (fail)
    refine HA.out.mono ?_
    rintro e w1 ⟨N, rfl, hN, hrow, hB⟩
    have HB := Lib.hid hB
    clear hN hrow hB
    dsimp only
    go_wp2_with (fail)
    go_ret
    exact ⟨rfl, HB.out⟩
theorem wclone_any (w : World) (s : List (BitVec 8)) (hl : s.length ≤ 1000000) : Calls Tryd.prog 52 #[Sv s] w (Below0 w (Sv s)) := by
  have hs : (strOf s).size ≤ 1000000 := by rw [strOf_size]; exact hl
  have HC : Hid (Calls Tryd.prog 74 #[Sv s] w (Below0 w (Sv s))) := Lib.hid (Tryd.stringslite_Clone (strOf s) w (by omega))
  clear hs hl
  go_enter Tryd.func52, Tryd.ntmps52
  go_wp2_with (fail)
  refine HC.out.mono ?_
  rintro e w1 ⟨rfl, hB⟩
  have HB := Lib.hid hB
  clear hB
  dsimp only
  go_wp2_with (fail)
  go_ret
  exact ⟨rfl, HB.out⟩
end Go.Proofs.YtkgmcjeficgciaaDoor
