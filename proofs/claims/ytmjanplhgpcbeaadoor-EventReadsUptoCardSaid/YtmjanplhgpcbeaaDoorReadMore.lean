/-
  The contracts of a reader's Number, Signed, Fixed, Text; of a nil one's.
-/
import Derived.Test.YtmjanplhgpcbeaaDoorReadWord
namespace Go.Proofs.YtmjanplhgpcbeaaDoor
open Go Go.RowKit

theorem word_err {t : TapeL} (h : t.word.2.e ≠ 0) : t.word.1 = 0 := by
  unfold TapeL.word at h ⊢
  by_cases h1 : t.e ≠ 0
  · rw [if_pos h1]
  · rw [if_neg h1] at h ⊢
    by_cases h2 : (rdW 10 0 0 t.s).1 = 0
    · rw [if_pos h2] at h
      exact absurd rfl h
    · rw [if_neg h2]
theorem fail_err {t : TapeL} (h : t.e ≠ 0) (k : Int) : t.fail k = t := if_neg fun h' => h h'.1
set_option maxRecDepth 100000 in
theorem rnumber_any (w : World) (base b : Nat) (t : TapeL) (most : Int) (h : RdAt base w b t) :
    Calls Tryd.prog 43 #[.pointer (some ⟨b, 0, none⟩), .int .i64 most] w (RdEnd base w b (t.number most).2 (.int .i64 (t.number most).1)) := by
  have HS := Lib.hid (rword_any w base b t h)
  have he := @word_err t
  obtain ⟨v, hv⟩ : ∃ v, v = t.word.1 := ⟨_, rfl⟩
  obtain ⟨s, hs⟩ : ∃ s, s = t.word.2 := ⟨_, rfl⟩
  have hvl : v < 18446744073709551616 := by rw [hv]; exact t.word_lt
  rw [TapeL.number, ← hv, ← hs]
  rw [← hv, ← hs] at HS he
  clear hv hs h
  by_cases hbig : 9223372036854775807 < v
  · have hb : (9223372036854775807 : Int) < (v : Int) := by omega
    rw [if_pos hbig]
    clear hbig hvl he
    go_enter Tryd.func43, Tryd.ntmps43
    go_wp2_with (fail)
    refine HS.out.mono ?_
    rintro e w1 ⟨rfl, hT1, hg1⟩
    have H1 := Lib.hid (And.intro hT1 hg1)
    clear hT1 hg1
    dsimp only
    go_wp2_with (fail)
    refine (rfail_any w1 base b s 11 H1.out.1).mono ?_
    rintro e w2 ⟨rfl, hT2, hg2⟩
    have H2 := Lib.hid (And.intro hT2 hg2)
    clear hT2 hg2
    dsimp only
    go_wp2_with (fail)
    go_ret
    exact ⟨rfl, H2.out.1, grown_trans H1.out.2 H2.out.2⟩
  · have hb : ¬ (9223372036854775807 : Int) < (v : Int) := by omega
    rw [if_neg hbig]
    have hcv := fun w => run_conv_u64_i64n w v (by omega)
    clear hvl hbig
    by_cases hm : most < (v : Int)
    · have hr : (if s.e = 0 ∧ most < (v : Int) then ((0 : Int), s.fail 12) else ((v : Int), s)) = (0, s.fail 12) := by
        by_cases h0 : s.e = 0
        · rw [if_pos ⟨h0, hm⟩]
        · rw [if_neg (fun h => h0 h.1), fail_err h0, he h0]
          rfl
      rw [hr]
      clear he hr
      go_enter Tryd.func43, Tryd.ntmps43
      go_wp2_with (fail)
      refine HS.out.mono ?_
      rintro e w1 ⟨rfl, hT1, hg1⟩
      have H1 := Lib.hid (And.intro hT1 hg1)
      clear hT1 hg1
      dsimp only
      go_wp2_with (fail)
      refine (rfail_any w1 base b s 12 H1.out.1).mono ?_
      rintro e w2 ⟨rfl, hT2, hg2⟩
      have H2 := Lib.hid (And.intro hT2 hg2)
      clear hT2 hg2
      dsimp only
      go_wp2_with (fail)
      go_ret
      exact ⟨rfl, H2.out.1, grown_trans H1.out.2 H2.out.2⟩
    · rw [if_neg (fun h => hm h.2)]
      clear he
      go_enter Tryd.func43, Tryd.ntmps43
      go_wp2_with (fail)
      refine HS.out.mono ?_
      rintro e w1 ⟨rfl, hT1, hg1⟩
      have H1 := Lib.hid (And.intro hT1 hg1)
      clear hT1 hg1
      dsimp only
      go_wp2_with (fail)
      go_ret
      exact ⟨rfl, H1.out.1, H1.out.2⟩
theorem rnumber_nil (w : World) : Calls Tryd.prog 43 #[.pointer none, .int .i64 9] w fun e w' => e = .returned (.int .i64 0) ∧ w' = w := by
  have hcv := fun w => run_conv_u64_i64n w 0 (by omega)
  simp only [Int.natCast_zero] at hcv
  go_enter Tryd.func43, Tryd.ntmps43
  go_wp2_with (fail)
  refine (rword_nil w).mono ?_
  rintro e w1 ⟨rfl, rfl⟩
  dsimp only
  go_wp2_with (fail)
  go_ret
  exact ⟨rfl, rfl⟩
theorem bits_and1 (v : Nat) (h : v < 18446744073709551616) : bits .and .u64 (v : Int) 1 = ((v % 2 : Nat) : Int) := by
  have e : BitVec.ofInt 64 (v : Int) = BitVec.ofNat 64 v := by
    apply BitVec.eq_of_toNat_eq
    simp
  show IntKind.u64.wrap ((BitVec.ofInt 64 (v : Int) &&& BitVec.ofInt 64 1).toNat : Int) = _
  have e1 : BitVec.ofInt 64 1 = BitVec.ofNat 64 1 := rfl
  rw [e, e1, BitVec.toNat_and, BitVec.toNat_ofNat, BitVec.toNat_ofNat, Nat.mod_eq_of_lt (by omega : v < 2 ^ 64)]
  rw [show (1 % 2 ^ 64 : Nat) = 1 from rfl, Nat.and_one_is_mod, wrapU64 _ (by omega)]
theorem bits_xor_i64 (q : Nat) (h : q < 9223372036854775808) : bits .xor .i64 (-1) (q : Int) = -(q : Int) - 1 := by
  have e : BitVec.ofInt 64 (q : Int) = BitVec.ofNat 64 q := by
    apply BitVec.eq_of_toNat_eq
    simp
  have e2 : BitVec.ofInt 64 (-1) = BitVec.allOnes 64 := by decide +kernel
  show IntKind.i64.wrap ((BitVec.ofInt 64 (-1) ^^^ BitVec.ofInt 64 (q : Int)).toNat : Int) = _
  rw [e, e2, BitVec.allOnes_xor, BitVec.toNat_not]
  simp [IntKind.wrap, IntKind.bits, IntKind.signed]
  omega
set_option maxRecDepth 100000 in
theorem rsigned_any (w : World) (base b : Nat) (t : TapeL) (h : RdAt base w b t) :
    Calls Tryd.prog 46 #[.pointer (some ⟨b, 0, none⟩)] w (RdEnd base w b t.signed.2 (.int .i64 t.signed.1)) := by
  have HS := Lib.hid (rword_any w base b t h)
  obtain ⟨v, hv⟩ : ∃ v, v = t.word.1 := ⟨_, rfl⟩
  have hvl : v < 18446744073709551616 := by rw [hv]; exact t.word_lt
  rw [TapeL.signed, ← hv]
  rw [← hv] at HS
  clear hv h
  obtain ⟨q, hq⟩ : ∃ q, q = v / 2 := ⟨_, rfl⟩
  obtain ⟨r, hr⟩ : ∃ r, r = v % 2 := ⟨_, rfl⟩
  have e1 : (v : Int) / 2 = (q : Int) := by omega
  have e2 := bits_and1 v hvl
  rw [← hr] at e2
  have hcv := fun w => run_conv_u64_i64n w q (by omega)
  have e4 := bits_xor_i64 q (by omega)
  by_cases h1 : r = 1
  · have e0 : ((r : Int) == 1) = true := by rw [h1]; rfl
    have hz : zag v = -(q : Int) - 1 := by rw [zag, ← hr, if_pos h1, ← hq]
    rw [hz]
    clear hz h1 hq hr hvl
    go_enter Tryd.func46, Tryd.ntmps46
    go_wp2_with (fail)
    refine HS.out.mono ?_
    rintro e w1 ⟨rfl, hT1, hg1⟩
    have H1 := Lib.hid (And.intro hT1 hg1)
    clear hT1 hg1
    dsimp only
    go_wp2_with (fail)
    go_ret
    exact ⟨rfl, H1.out.1, H1.out.2⟩
  · have e0 : ((r : Int) == 1) = false := by simp; omega
    have hz : zag v = (q : Int) := by rw [zag, ← hr, if_neg h1, ← hq]
    rw [hz]
    clear hz h1 hq hr hvl
    go_enter Tryd.func46, Tryd.ntmps46
    go_wp2_with (fail)
    refine HS.out.mono ?_
    rintro e w1 ⟨rfl, hT1, hg1⟩
    have H1 := Lib.hid (And.intro hT1 hg1)
    clear hT1 hg1
    dsimp only
    go_wp2_with (fail)
    go_ret
    exact ⟨rfl, H1.out.1, H1.out.2⟩
theorem rsigned_nil (w : World) : Calls Tryd.prog 46 #[.pointer none] w fun e w' => e = .returned (.int .i64 0) ∧ w' = w := by
  have hcv := fun w => run_conv_u64_i64n w 0 (by omega)
  have e2 := bits_and1 0 (by omega)
  simp only [Int.natCast_zero] at hcv e2
  go_enter Tryd.func46, Tryd.ntmps46
  go_wp2_with (fail)
  refine (rword_nil w).mono ?_
  rintro e w1 ⟨rfl, rfl⟩
  dsimp only
  go_wp2_with (fail)
  go_ret
  exact ⟨rfl, rfl⟩
theorem rfixed_nil (w : World) (n : Int) : Calls Tryd.prog 62 #[.pointer none, .int .i64 n] w fun e w' => e = .returned (.slice none 0 0) ∧ w' = w := by
  go_enter Tryd.func62, Tryd.ntmps62
  go_wp2_with (fail)
  go_ret
  exact ⟨rfl, rfl⟩
/-- Bytes that a reader gave, in memory of their own; and the reader behind it. -/
def RdBytes (base : Nat) (w : World) (b : Nat) (x : List (BitVec 8) × TapeL) (e : Ending) (w' : World) : Prop :=
  ∃ a c, e = .returned (.slice a x.1.length c) ∧ SrcN w.heap.size w' a x.1 ∧ RdAt base w' b x.2 ∧ w.grownBy w' (some b)
theorem fixed_neg {t : TapeL} {n : Int} (h : n < 0) : t.fixed n = ([], t.fail 2) := by
  unfold TapeL.fixed
  by_cases h0 : t.e = 0
  · rw [if_neg (by simp [h0]), if_pos h]
  · rw [if_pos h0, fail_err h0]
theorem fixed_long {t : TapeL} {n : Int} (h : (t.s.length : Int) < n) : t.fixed n = ([], t.fail 10) := by
  unfold TapeL.fixed
  by_cases h0 : t.e = 0
  · rw [if_neg (by simp [h0]), if_neg (by omega), if_pos h]
  · rw [if_pos h0, fail_err h0]
theorem fixed_good {t : TapeL} {n : Nat} (h : n ≤ t.s.length) (hs : t.e ≠ 0 → t.s = []) : t.fixed (n : Int) = (t.s.take n, ⟨t.s.drop n, t.e⟩) := by
  unfold TapeL.fixed
  by_cases h0 : t.e = 0
  · rw [if_neg (by simp [h0]), if_neg (by omega), if_neg (by omega)]
    simp
  · rw [if_pos h0]
    have := hs h0
    obtain ⟨s, e⟩ := t
    obtain rfl : s = [] := this
    simp
set_option maxRecDepth 100000 in
set_option maxHeartbeats 1000000 in
theorem rfixed_any (w : World) (base b : Nat) (t : TapeL) (n : Int) (h : RdAt base w b t) :
    Calls Tryd.prog 62 #[.pointer (some ⟨b, 0, none⟩), .int .i64 n] w (RdBytes base w b (t.fixed n)) := by
  obtain ⟨a, L, c, hb, hL, hLc, hcm, hac, hsr, hte, hlen⟩ := id h
  obtain ⟨c0, c1, f0, f1⟩ := rd_cells hb
  by_cases hneg : n < 0
  · rw [fixed_neg hneg]
    have HF := Lib.hid (rfail_any w base b t 2 h)
    clear h hb hL hLc hcm hac hsr hte hlen
    go_enter Tryd.func62, Tryd.ntmps62
    go_wp2_with (fail)
    refine HF.out.mono ?_
    rintro e w1 ⟨rfl, hT1, hg1⟩
    have H1 := Lib.hid (And.intro hT1 hg1)
    clear hT1 hg1
    dsimp only
    go_wp2_with (fail)
    go_ret
    exact ⟨none, 0, rfl, .inl rfl, H1.out⟩
  · obtain ⟨m, rfl⟩ := Int.eq_ofNat_of_zero_le (show 0 ≤ n by omega)
    have m0 : ¬ (m : Int) < 0 := hneg
    by_cases hlong : L < m
    · have m1 : (L : Int) < (m : Int) := by omega
      rw [fixed_long (by rw [← hL]; exact m1)]
      have HF := Lib.hid (rfail_any w base b t 10 h)
      clear h hb hL hLc hcm hac hsr hte hlen hlong hneg
      go_enter Tryd.func62, Tryd.ntmps62
      go_wp2_with (fail)
      refine HF.out.mono ?_
      rintro e w1 ⟨rfl, hT1, hg1⟩
      have H1 := Lib.hid (And.intro hT1 hg1)
      clear hT1 hg1
      dsimp only
      go_wp2_with (fail)
      go_ret
      exact ⟨none, 0, rfl, .inl rfl, H1.out⟩
    · have m1 : ¬ (L : Int) < (m : Int) := by omega
      rw [fixed_good (by omega) hte]
      have hsl : ∀ w, (Instr.slice 29 (.slice a L c) none (some (.int .i64 (m : Int))) none).run Tryd.prog w = .ok (.slice a m c) w := fun w =>
        run_slice_sl_h 29 5 Tryd.underlying29 (fun w => Tryd.sizeOf5 w) a L c m (by omega) w
      obtain ⟨sa, hsa⟩ : ∃ sa, sa = if c = m then a else a.map (·.add m) := ⟨_, rfl⟩
      obtain ⟨sn, hsn⟩ : ∃ sn, sn = L - m := ⟨_, rfl⟩
      obtain ⟨sc, hsc⟩ : ∃ sc, sc = c - m := ⟨_, rfl⟩
      have hsl2 : ∀ w, (Instr.slice 29 (.slice a L c) (some (.int .i64 (m : Int))) none none).run Tryd.prog w = .ok (.slice sa sn sc) w := fun w => by
        rw [hsa, hsn, hsc]
        exact run_slice_sl_any 29 5 Tryd.underlying29 (fun w => Tryd.sizeOf5 w) a L c m (by omega) w
      have hml : m = (t.s.take m).length := by rw [List.length_take]; omega
      have HC := Lib.hid (bclone_any w a c m (t.s.take m) hml (hsr.take m) hac (by rw [← hml]; omega))
      have HX := Lib.hid (And.intro hb (And.intro hL (And.intro hLc (And.intro hcm (And.intro hac (And.intro hsr (And.intro hte (And.intro hlen (And.intro hsa (And.intro hsn (And.intro hsc (And.intro hlong hml))))))))))))
      clear h hb hL hLc hcm hac hsr hte hlen hlong hneg hsa hsn hsc hml
      go_enter Tryd.func62, Tryd.ntmps62
      go_wp2_with (fail)
      refine HC.out.mono ?_
      rintro e w1 ⟨a', c', rfl, _, _, _, hsn1, hB1⟩
      obtain ⟨hb, hL, hLc, hcm, hac, hsr, hte, hlen, hsa, hsn, hsc, hlong, hml⟩ := HX.out
      have hbl := (Array.getElem?_eq_some_iff.1 hb).1
      have hb1 := (hB1.block b hbl).trans hb
      obtain ⟨d0, d1, g0, g1⟩ := rd_cells hb1
      rw [← hml]
      have H1 := Lib.hid (And.intro hsn1 (And.intro hB1 hb1))
      clear hb hL hLc hcm hac hsr hte hlen hsa hsn hsc hlong hml hbl hb1 hsn1 hB1
      dsimp only
      go_wp2_with (fail)
      go_ret
      obtain ⟨hb, hL, hLc, hcm, hac, hsr, hte, hlen, hsa, hsn, hsc, hlong, hml⟩ := HX.out
      obtain ⟨hsn1, hB1, hb1⟩ := H1.out
      have hbl := (Array.getElem?_eq_some_iff.1 hb).1
      have hg := grown_setCell w1 b 0 (.slice sa sn sc)
      have hgw : w.grownBy w1 (some b) := ⟨hB1.os, hB1.tape, hB1.output, hB1.size, fun k hk _ => hB1.block k hk⟩
      refine ⟨a', c', by show _ = Ending.returned (.slice a' (t.s.take m).length c'); rw [← hml]; rfl, hsn1.grown hg hbl, ⟨sa, sn, sc, heap_setCell_same w1 b 0 _ _ (.slice sa sn sc) hb1, ?_, by omega, by omega, ?_, ?_, ?_, ?_⟩, grown_trans hgw hg⟩
      · show sn = (t.s.drop m).length
        rw [List.length_drop, hsn, hL]
      · intro h
        rw [hsa] at h
        by_cases hcm' : c = m
        · rw [hsc]; omega
        · rw [if_neg hcm'] at h
          have : a = none := by
            cases a with
            | none => rfl
            | some a => cases h
          have := hac this
          omega
      · have := ((hsr.grown hgw).grown hg).drop m c (by omega) (by omega)
        rw [← hsa] at this
        exact this
      · intro h
        show t.s.drop m = []
        rw [hte h]
        simp
      · show (t.s.drop m).length ≤ _
        rw [List.length_drop]
        omega
theorem fixed_err {t : TapeL} (h : t.e ≠ 0) (n : Int) : t.fixed n = ([], t) := if_pos h
theorem text_eq (t : TapeL) (most : Int) : t.text most = (t.number most).2.fixed (t.number most).1 := by
  unfold TapeL.text TapeL.number
  have he := @word_err t
  obtain ⟨v, hv⟩ : ∃ v, v = t.word.1 := ⟨_, rfl⟩
  obtain ⟨s, hs⟩ : ∃ s, s = t.word.2 := ⟨_, rfl⟩
  rw [← hv, ← hs]
  rw [← hv, ← hs] at he
  clear hv hs
  by_cases hbig : 9223372036854775807 < v
  · simp only [if_pos hbig]
    have h0 : s.e = 0 := by
      by_cases h : s.e = 0
      · exact h
      · have := he h
        omega
    have h1 : (s.fail 11).e ≠ 0 := by
      rw [TapeL.fail, if_pos ⟨h0, by decide⟩]
      show (11 : Int) ≠ 0
      decide
    rw [if_neg (fun h => h1 h.1)]
  · simp only [if_neg hbig]
    rw [if_neg (show ¬ (s.e = 0 ∧ (9223372036854775807 : Int) < (v : Int)) by omega)]
    by_cases hm : s.e = 0 ∧ most < (v : Int)
    · simp only [if_pos hm]
      have h1 : (s.fail 12).e ≠ 0 := by
        rw [TapeL.fail, if_pos ⟨hm.1, by decide⟩]
        show (12 : Int) ≠ 0
        decide
      rw [fixed_err h1, fixed_err h1]
    · simp only [if_neg hm]
set_option maxRecDepth 100000 in
theorem rtext_any (w : World) (base b : Nat) (t : TapeL) (most : Int) (h : RdAt base w b t) :
    Calls Tryd.prog 45 #[.pointer (some ⟨b, 0, none⟩), .int .i64 most] w (RdBytes base w b (t.text most)) := by
  rw [text_eq]
  have HN := Lib.hid (rnumber_any w base b t most h)
  obtain ⟨k, hk⟩ : ∃ k, k = (t.number most).1 := ⟨_, rfl⟩
  obtain ⟨s, hs⟩ : ∃ s, s = (t.number most).2 := ⟨_, rfl⟩
  rw [← hk, ← hs]
  rw [← hk, ← hs] at HN
  clear hk hs h
  go_enter Tryd.func45, Tryd.ntmps45
  go_wp2_with (fail)
  refine HN.out.mono ?_
  rintro e w1 ⟨rfl, hT1, hg1⟩
  have HF := Lib.hid (rfixed_any w1 base b s k hT1)
  have H1 := Lib.hid hg1
  clear hT1 hg1
  dsimp only
  go_wp2_with (fail)
  refine HF.out.mono ?_
  rintro e w2 ⟨a', c', rfl, k1, k2, k3⟩
  have H2 := Lib.hid (And.intro k1 (And.intro k2 k3))
  obtain ⟨N, hN⟩ : ∃ N, N = (s.fixed k).1.length := ⟨_, rfl⟩
  rw [← hN]
  have HNN := Lib.hid hN
  clear k1 k2 k3 hN
  dsimp only
  go_wp2_with (fail)
  go_ret
  exact ⟨a', c', by rw [← HNN.out]; rfl, H2.out.1.mono H1.out.size, H2.out.2.1, grown_trans H1.out H2.out.2.2⟩
theorem rtext_nil (w : World) : Calls Tryd.prog 45 #[.pointer none, .int .i64 9] w fun e w' => e = .returned (.slice none 0 0) ∧ w' = w := by
  go_enter Tryd.func45, Tryd.ntmps45
  go_wp2_with (fail)
  refine (rnumber_nil w).mono ?_
  rintro e w1 ⟨rfl, rfl⟩
  dsimp only
  go_wp2_with (fail)
  refine (rfixed_nil w1 0).mono ?_
  rintro e w2 ⟨rfl, rfl⟩
  dsimp only
  go_wp2_with (fail)
  go_ret
  exact ⟨rfl, rfl⟩
end Go.Proofs.YtmjanplhgpcbeaaDoor
