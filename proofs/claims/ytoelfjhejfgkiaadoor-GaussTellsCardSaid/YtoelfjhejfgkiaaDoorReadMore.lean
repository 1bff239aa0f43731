/-
  The contracts of a reader's Number, Signed, Fixed, Text; of a nil one's.
-/
import Derived.Test.YtoelfjhejfgkiaaDoorReadWord
namespace Go.Proofs.YtoelfjhejfgkiaaDoor
open Go Go.RowKit

theorem word_err {t : TapeL} (h : t.word.2.e ≠ 0) : t.word.1 = 0 := by
  unfold TapeL.word at h ⊢
  by_cases h1 : t.e ≠ 0
  · rw [if_pos h1]
  · rw [if_neg h1] at h ⊢
    by_cases h2 : (rdW 10 0 0 t.s).1 = 0
    · rw [if_pos h2] at h
      exact absurd rfl h
    · rw [if_neg h2]
theorem fail_err {t : TapeL} (h : t.e ≠ 0) (k : Int) : t.fail k = t := if_neg fun h' => h h'.1
theorem bits_and1 (v : Nat) (h : v < 18446744073709551616) : bits .and .u64 (v : Int) 1 = ((v % 2 : Nat) : Int) := by
  have e : BitVec.ofInt 64 (v : Int) = BitVec.ofNat 64 v := by
    apply BitVec.eq_of_toNat_eq
    simp
  show IntKind.u64.wrap ((BitVec.ofInt 64 (v : Int) &&& BitVec.ofInt 64 1).toNat : Int) = _
  have e1 : BitVec.ofInt 64 1 = BitVec.ofNat 64 1 := rfl
  rw [e, e1, BitVec.toNat_and, BitVec.toNat_ofNat, BitVec.toNat_ofNat, Nat.mod_eq_of_lt (by omega : v < 2 ^ 64)]
  rw [show (1 % 2 ^ 64 : Nat) = 1 from rfl, Nat.and_one_is_mod, wrapU64 _ (by omega)]
theorem bits_xor_i64 (q : Nat) (h : q < 9223372036854775808) : bits .xor .i64 (-1) (q : Int) = -(q : Int) - 1 := by
  have e : BitVec.ofInt 64 (q : Int) = BitVec.ofNat 64 q := by
    apply BitVec.eq_of_toNat_eq
    simp
  have e2 : BitVec.ofInt 64 (-1) = BitVec.allOnes 64 := by decide +kernel
  show IntKind.i64.wrap ((BitVec.ofInt 64 (-1) ^^^ BitVec.ofInt 64 (q : Int)).toNat : Int) = _
  rw [e, e2, BitVec.allOnes_xor, BitVec.toNat_not]
  simp [IntKind.wrap, IntKind.bits, IntKind.signed]
  omega
set_option maxRecDepth 100000 in
theorem rsigned_any (w : World) (base b : Nat) (t : TapeL) (h : RdAt base w b t) :
    Calls Tryd.prog 34 #[.pointer (some ⟨b, 0, none⟩)] w (RdEnd base w b t.signed.2 (.int .i64 t.signed.1)) := by
  have HS := Lib.hid (rword_any w base b t h)
  obtain ⟨v, hv⟩ : ∃ v, v = t.word.1 := ⟨_, rfl⟩
  have hvl : v < 18446744073709551616 := by rw [hv]; exact t.word_lt
  rw [TapeL.signed, ← hv]
  rw [← hv] at HS
  clear hv h
  obtain ⟨q, hq⟩ : ∃ q, q = v / 2 := ⟨_, rfl⟩
  obtain ⟨r, hr⟩ : ∃ r, r = v % 2 := ⟨_, rfl⟩
  have e1 : (v : Int) / 2 = (q : Int) := by omega
  have e2 := bits_and1 v hvl
  rw [← hr] at e2
  have hcv := fun w => run_conv_u64_i64n w q (by omega)
  have e4 := bits_xor_i64 q (by omega)
  by_cases h1 : r = 1
  · have e0 : ((r : Int) == 1) = true := by rw [h1]; rfl
    have hz : zag v = -(q : Int) - 1 := by rw [zag, ← hr, if_pos h1, ← hq]
    rw [hz]
    clear hz h1 hq hr hvl
    go_enter Tryd.func34, Tryd.ntmps34
    go_wp2_with (fail)
    refine HS.out.mono ?_
    rintro e w1 ⟨rfl, hT1, hg1⟩
    have H1 := Lib.hid (And.intro hT1 hg1)
    clear hT1 hg1
    dsimp only
    go_wp2_with (fail)
    go_ret
    exact ⟨rfl, H1.out.1, H1.out.2⟩
  · have e0 : ((r : Int) == 1) = false := by simp; omega
    have hz : zag v = (q : Int) := by rw [zag, ← hr, if_neg h1, ← hq]
    rw [hz]
    clear hz h1 hq hr hvl
    go_enter Tryd.func34, Tryd.ntmps34
    go_wp2_with (fail)
    refine HS.out.mono ?_
    rintro e w1 ⟨rfl, hT1, hg1⟩
    have H1 := Lib.hid (And.intro hT1 hg1)
    clear hT1 hg1
    dsimp only
    go_wp2_with (fail)
    go_ret
    exact ⟨rfl, H1.out.1, H1.out.2⟩
theorem rsigned_nil (w : World) : Calls Tryd.prog 34 #[.pointer none] w fun e w' => e = .returned (.int .i64 0) ∧ w' = w := by
  have hcv := fun w => run_conv_u64_i64n w 0 (by omega)
  have e2 := bits_and1 0 (by omega)
  simp only [Int.natCast_zero] at hcv e2
  go_enter Tryd.func34, Tryd.ntmps34
  go_wp2_with (fail)
  refine (rword_nil w).mono ?_
  rintro e w1 ⟨rfl, rfl⟩
  dsimp only
  go_wp2_with (fail)
  go_ret
  exact ⟨rfl, rfl⟩
/-- Bytes that a reader gave, in memory of their own; and the reader behind it. -/
def RdBytes (base : Nat) (w : World) (b : Nat) (x : List (BitVec 8) × TapeL) (e : Ending) (w' : World) : Prop :=
  ∃ a c, e = .returned (.slice a x.1.length c) ∧ SrcN w.heap.size w' a x.1 ∧ RdAt base w' b x.2 ∧ w.grownBy w' (some b)
theorem fixed_neg {t : TapeL} {n : Int} (h : n < 0) : t.fixed n = ([], t.fail 2) := by
  unfold TapeL.fixed
  by_cases h0 : t.e = 0
  · rw [if_neg (by simp [h0]), if_pos h]
  · rw [if_pos h0, fail_err h0]
theorem fixed_long {t : TapeL} {n : Int} (h : (t.s.length : Int) < n) : t.fixed n = ([], t.fail 10) := by
  unfold TapeL.fixed
  by_cases h0 : t.e = 0
  · rw [if_neg (by simp [h0]), if_neg (by omega), if_pos h]
  · rw [if_pos h0, fail_err h0]
theorem fixed_good {t : TapeL} {n : Nat} (h : n ≤ t.s.length) (hs : t.e ≠ 0 → t.s = []) : t.fixed (n : Int) = (t.s.take n, ⟨t.s.drop n, t.e⟩) := by
  unfold TapeL.fixed
  by_cases h0 : t.e = 0
  · rw [if_neg (by simp [h0]), if_neg (by omega), if_neg (by omega)]
    simp
  · rw [if_pos h0]
    have := hs h0
    obtain ⟨s, e⟩ := t
    obtain rfl : s = [] := this
    simp
theorem fixed_err {t : TapeL} (h : t.e ≠ 0) (n : Int) : t.fixed n = ([], t) := if_pos h
theorem text_eq (t : TapeL) (most : Int) : t.text most = (t.number most).2.fixed (t.number most).1 := by
  unfold TapeL.text TapeL.number
  have he := @word_err t
  obtain ⟨v, hv⟩ : ∃ v, v = t.word.1 := ⟨_, rfl⟩
  obtain ⟨s, hs⟩ : ∃ s, s = t.word.2 := ⟨_, rfl⟩
  rw [← hv, ← hs]
  rw [← hv, ← hs] at he
  clear hv hs
  by_cases hbig : 9223372036854775807 < v
  · simp only [if_pos hbig]
    have h0 : s.e = 0 := by
      by_cases h : s.e = 0
      · exact h
      · have := he h
        omega
    have h1 : (s.fail 11).e ≠ 0 := by
      rw [TapeL.fail, if_pos ⟨h0, by decide⟩]
      show (11 : Int) ≠ 0
      decide
    rw [if_neg (fun h => h1 h.1)]
  · simp only [if_neg hbig]
    rw [if_neg (show ¬ (s.e = 0 ∧ (9223372036854775807 : Int) < (v : Int)) by omega)]
    by_cases hm : s.e = 0 ∧ most < (v : Int)
    · simp only [if_pos hm]
      have h1 : (s.fail 12).e ≠ 0 := by
        rw [TapeL.fail, if_pos ⟨hm.1, by decide⟩]
        show (12 : Int) ≠ 0
        decide
      rw [fixed_err h1, fixed_err h1]
    · simp only [if_neg hm]
end Go.Proofs.YtoelfjhejfgkiaaDoor
