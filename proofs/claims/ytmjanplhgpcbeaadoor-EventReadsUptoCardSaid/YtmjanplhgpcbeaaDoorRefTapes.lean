/-
  The contracts of the reference's Tape: Number, Signed, Fixed, Text, End.
-/
import Derived.Test.YtmjanplhgpcbeaaDoorRefTape
namespace Go.Proofs.YtmjanplhgpcbeaaDoor
open Go.RowKit

theorem run_conv_u64_i64n (w : World) (n : Nat) (h : n < 9223372036854775808) : (convert 77 3 (.int .u64 (n : Int))).run Tryd.prog w = .ok (.int .i64 (n : Int)) w := by
  have : IntKind.i64.wrap (n : Int) = n := IntWalk.i64_in _ (by omega)
  simp [convert, Conv.intToInt, run_underlying Tryd.underlying3, run_underlying Tryd.underlying77, this]

set_option maxRecDepth 100000 in
theorem rtNumber_any (w : World) (b : Nat) (t : TapeL) (most : Int) (h : TapeAt w b t) :
    Calls Tryd.prog 44 #[.pointer (some ⟨b, 0, none⟩), .int .i64 most] w (TapeEnd w b (t.number most).2 (.int .i64 (t.number most).1)) := by
  have HS := Lib.hid (rtWord_any w b t h)
  obtain ⟨v, hv⟩ : ∃ v, v = t.word.1 := ⟨_, rfl⟩
  obtain ⟨s, hs⟩ : ∃ s, s = t.word.2 := ⟨_, rfl⟩
  have hvl : v < 18446744073709551616 := by rw [hv]; exact t.word_lt
  rw [TapeL.number, ← hv, ← hs]
  rw [← hv, ← hs] at HS
  clear hv hs h
  by_cases hbig : 9223372036854775807 < v
  · have hb : (9223372036854775807 : Int) < (v : Int) := by omega
    rw [if_pos hbig]
    clear hbig hvl
    go_enter Tryd.func44, Tryd.ntmps44
    go_wp2_with (fail)
    refine HS.out.mono ?_
    rintro e w1 ⟨rfl, hT1, hg1⟩
    have H1 := Lib.hid (And.intro hT1 hg1)
    clear hT1 hg1
    dsimp only
    go_wp2_with (fail)
    refine (rtFail_any w1 b s 11 H1.out.1).mono ?_
    rintro e w2 ⟨rfl, hT2, hg2⟩
    have H2 := Lib.hid (And.intro hT2 hg2)
    clear hT2 hg2
    dsimp only
    go_wp2_with (fail)
    go_ret
    exact ⟨rfl, H2.out.1, grown_trans H1.out.2 H2.out.2⟩
  · have hb : ¬ (9223372036854775807 : Int) < (v : Int) := by omega
    rw [if_neg hbig]
    have hcv := fun w => run_conv_u64_i64n w v (by omega)
    clear hvl hbig
    obtain ⟨se, hse⟩ : ∃ x, x = s.e := ⟨_, rfl⟩
    rw [← hse]
    have HSE := Lib.hid hse
    clear hse
    by_cases h0 : se = 0
    · have e0 : (se == 0) = true := by rw [h0]; rfl
      by_cases hm : most < (v : Int)
      · rw [if_pos ⟨h0, hm⟩]
        clear h0
        go_enter Tryd.func44, Tryd.ntmps44
        go_wp2_with (fail)
        refine HS.out.mono ?_
        rintro e w1 ⟨rfl, hT1, hg1⟩
        obtain ⟨c0, c1, f0, f1⟩ := hT1.cells
        rw [← HSE.out] at c1
        have H1 := Lib.hid (And.intro hT1 hg1)
        clear hT1 hg1 c0 f0 f1
        dsimp only
        go_wp2_with (fail)
        refine (rtFail_any w1 b s 12 H1.out.1).mono ?_
        rintro e w2 ⟨rfl, hT2, hg2⟩
        have H2 := Lib.hid (And.intro hT2 hg2)
        clear hT2 hg2
        dsimp only
        go_wp2_with (fail)
        go_ret
        exact ⟨rfl, H2.out.1, grown_trans H1.out.2 H2.out.2⟩
      · rw [if_neg (fun h => hm h.2)]
        clear h0
        go_enter Tryd.func44, Tryd.ntmps44
        go_wp2_with (fail)
        refine HS.out.mono ?_
        rintro e w1 ⟨rfl, hT1, hg1⟩
        obtain ⟨c0, c1, f0, f1⟩ := hT1.cells
        rw [← HSE.out] at c1
        have H1 := Lib.hid (And.intro hT1 hg1)
        clear hT1 hg1 c0 f0 f1
        dsimp only
        go_wp2_with (fail)
        go_ret
        exact ⟨rfl, H1.out.1, H1.out.2⟩
    · have e0 : (se == 0) = false := by simpa using h0
      rw [if_neg (fun h => h0 h.1)]
      clear h0
      go_enter Tryd.func44, Tryd.ntmps44
      go_wp2_with (fail)
      refine HS.out.mono ?_
      rintro e w1 ⟨rfl, hT1, hg1⟩
      obtain ⟨c0, c1, f0, f1⟩ := hT1.cells
      rw [← HSE.out] at c1
      have H1 := Lib.hid (And.intro hT1 hg1)
      clear hT1 hg1 c0 f0 f1
      dsimp only
      go_wp2_with (fail)
      go_ret
      exact ⟨rfl, H1.out.1, H1.out.2⟩

set_option maxRecDepth 100000 in
theorem rtSigned_any (w : World) (b : Nat) (t : TapeL) (h : TapeAt w b t) :
    Calls Tryd.prog 50 #[.pointer (some ⟨b, 0, none⟩)] w (TapeEnd w b t.signed.2 (.int .i64 t.signed.1)) := by
  have HS := Lib.hid (rtWord_any w b t h)
  obtain ⟨v, hv⟩ : ∃ v, v = t.word.1 := ⟨_, rfl⟩
  have hvl : v < 18446744073709551616 := by rw [hv]; exact t.word_lt
  rw [TapeL.signed, ← hv]
  rw [← hv] at HS
  clear hv h
  obtain ⟨q, hq⟩ : ∃ q, q = v / 2 := ⟨_, rfl⟩
  obtain ⟨r, hr⟩ : ∃ r, r = v % 2 := ⟨_, rfl⟩
  have e1 : (v : Int) / 2 = (q : Int) := by omega
  have e2 : (v : Int) % 2 = (r : Int) := by omega
  have e3 : IntKind.u64.wrap (q : Int) = (q : Int) := wrapU64 q (by omega)
  have hcv := fun w => run_conv_u64_i64n w q (by omega)
  by_cases h1 : r = 1
  · have e0 : ((r : Int) == 1) = true := by rw [h1]; rfl
    have hz : zag v = -(q : Int) - 1 := by rw [zag, ← hr, if_pos h1, ← hq]
    have e4 : IntKind.i64.wrap (-(q : Int)) = -(q : Int) := IntWalk.i64_in _ (by omega)
    have e5 : IntKind.i64.wrap (-(q : Int) - 1) = -(q : Int) - 1 := IntWalk.i64_in _ (by omega)
    rw [hz]
    clear hz h1 hq hr hvl
    go_enter Tryd.func50, Tryd.ntmps50
    go_wp2_with (fail)
    refine HS.out.mono ?_
    rintro e w1 ⟨rfl, hT1, hg1⟩
    have H1 := Lib.hid (And.intro hT1 hg1)
    clear hT1 hg1
    dsimp only
    go_wp2_with (fail)
    go_ret
    exact ⟨rfl, H1.out.1, H1.out.2⟩
  · have e0 : ((r : Int) == 1) = false := by simp; omega
    have hz : zag v = (q : Int) := by rw [zag, ← hr, if_neg h1, ← hq]
    rw [hz]
    clear hz h1 hq hr hvl
    go_enter Tryd.func50, Tryd.ntmps50
    go_wp2_with (fail)
    refine HS.out.mono ?_
    rintro e w1 ⟨rfl, hT1, hg1⟩
    have H1 := Lib.hid (And.intro hT1 hg1)
    clear hT1 hg1
    dsimp only
    go_wp2_with (fail)
    go_ret
    exact ⟨rfl, H1.out.1, H1.out.2⟩

set_option maxRecDepth 100000 in
theorem rtFixed_any (w : World) (b : Nat) (t : TapeL) (n : Int) (h : TapeAt w b t) :
    Calls Tryd.prog 63 #[.pointer (some ⟨b, 0, none⟩), .int .i64 n] w (TapeEnd w b (t.fixed n).2 (Sv (t.fixed n).1)) := by
  obtain ⟨c0, c1, f0, f1⟩ := h.cells
  have HH := Lib.hid h
  obtain ⟨te, hte⟩ : ∃ x, x = t.e := ⟨_, rfl⟩
  obtain ⟨l, hll⟩ : ∃ x, x = t.s := ⟨_, rfl⟩
  rw [← hte] at c1
  rw [← hll] at c0
  have HT := Lib.hid (And.intro hte hll)
  rw [TapeL.fixed, ← hte, ← hll]
  clear h hte hll
  by_cases h1 : te = 0
  · have e1 : (te != 0) = false := by rw [h1]; rfl
    rw [if_neg (fun h => h h1)]
    have HZ := Lib.hid h1
    clear h1
    by_cases h2 : n < 0
    · rw [if_pos h2]
      go_enter Tryd.func63, Tryd.ntmps63
      go_wp2_with (fail)
      refine (rtFail_any w b t 2 HH.out).mono ?_
      rintro e w2 ⟨rfl, hT2, hg2⟩
      have H2 := Lib.hid (And.intro hT2 hg2)
      clear hT2 hg2
      dsimp only
      go_wp2_with (fail)
      go_ret
      exact ⟨rfl, H2.out.1, H2.out.2⟩
    · obtain ⟨m, rfl⟩ := Int.eq_ofNat_of_zero_le (show 0 ≤ n by omega)
      rw [if_neg h2]
      have lk : ∀ w ty, (Builtin.len_ #[9] ty #[Sv l]).run Tryd.prog w = .ok (.int .i64 (l.length : Int)) w := fun w ty => run_len_Sv w ty l
      obtain ⟨L, hL⟩ : ∃ L, L = l.length := ⟨_, rfl⟩
      rw [← hL] at lk ⊢
      by_cases h3 : (L : Int) < (m : Int)
      · rw [if_pos h3]
        clear h2 hL
        go_enter Tryd.func63, Tryd.ntmps63
        go_wp2_with (fail)
        refine (rtFail_any w b t 10 HH.out).mono ?_
        rintro e w2 ⟨rfl, hT2, hg2⟩
        have H2 := Lib.hid (And.intro hT2 hg2)
        clear hT2 hg2
        dsimp only
        go_wp2_with (fail)
        go_ret
        exact ⟨rfl, H2.out.1, H2.out.2⟩
      · rw [if_neg h3]
        have ht := fun w => run_take_Sv w l m (by omega)
        have hd := fun w => run_drop_Sv w l m (by omega)
        obtain ⟨x, hx⟩ : ∃ x, x = l.take m := ⟨_, rfl⟩
        obtain ⟨y, hy⟩ : ∃ y, y = l.drop m := ⟨_, rfl⟩
        rw [← hx] at ht
        rw [← hy] at hd
        rw [Int.toNat_natCast, ← hx, ← hy]
        clear h2 hL hx hy
        go_enter Tryd.func63, Tryd.ntmps63
        go_wp2_with (fail)
        go_ret
        refine ⟨rfl, ?_, grown_setCell w b 0 _⟩
        have h1 := heap_setCell_same w b 0 _ _ (Sv y) HH.out
        rw [HT.out.1]
        exact h1
  · have e1 : (te != 0) = true := by simpa using h1
    rw [if_pos h1]
    clear h1
    go_enter Tryd.func63, Tryd.ntmps63
    go_wp2_with (fail)
    go_ret
    exact ⟨rfl, HH.out, grown_refl _ _⟩

set_option maxRecDepth 100000 in
theorem rtText_any (w : World) (b : Nat) (t : TapeL) (most : Int) (h : TapeAt w b t) :
    Calls Tryd.prog 49 #[.pointer (some ⟨b, 0, none⟩), .int .i64 most] w (TapeEnd w b (t.text most).2 (Sv (t.text most).1)) := by
  have HS := Lib.hid (rtNumber_any w b t 9223372036854775807 h)
  rw [TapeL.text]
  obtain ⟨n, hn⟩ : ∃ n, n = (t.number 9223372036854775807).1 := ⟨_, rfl⟩
  obtain ⟨s, hs⟩ : ∃ s, s = (t.number 9223372036854775807).2 := ⟨_, rfl⟩
  rw [← hn, ← hs] at HS ⊢
  clear hn hs h
  obtain ⟨se, hse⟩ : ∃ x, x = s.e := ⟨_, rfl⟩
  rw [← hse]
  have HSE := Lib.hid hse
  clear hse
  by_cases h0 : se = 0
  · have e0 : (se == 0) = true := by rw [h0]; rfl
    by_cases hm : most < n
    · rw [if_pos ⟨h0, hm⟩]
      clear h0
      go_enter Tryd.func49, Tryd.ntmps49
      go_wp2_with (fail)
      refine HS.out.mono ?_
      rintro e w1 ⟨rfl, hT1, hg1⟩
      obtain ⟨c0, c1, f0, f1⟩ := hT1.cells
      rw [← HSE.out] at c1
      have H1 := Lib.hid (And.intro hT1 hg1)
      clear hT1 hg1 c0 f0 f1
      dsimp only
      go_wp2_with (fail)
      refine (rtFail_any w1 b s 12 H1.out.1).mono ?_
      rintro e w2 ⟨rfl, hT2, hg2⟩
      have H2 := Lib.hid (And.intro hT2 hg2)
      clear hT2 hg2
      dsimp only
      go_wp2_with (fail)
      refine (rtFixed_any w2 b _ n H2.out.1).mono ?_
      rintro e w3 ⟨rfl, hT3, hg3⟩
      have H3 := Lib.hid (And.intro hT3 hg3)
      clear hT3 hg3
      dsimp only
      go_wp2_with (fail)
      go_ret
      exact ⟨rfl, H3.out.1, grown_trans H1.out.2 (grown_trans H2.out.2 H3.out.2)⟩
    · rw [if_neg (fun h => hm h.2)]
      clear h0
      go_enter Tryd.func49, Tryd.ntmps49
      go_wp2_with (fail)
      refine HS.out.mono ?_
      rintro e w1 ⟨rfl, hT1, hg1⟩
      obtain ⟨c0, c1, f0, f1⟩ := hT1.cells
      rw [← HSE.out] at c1
      have H1 := Lib.hid (And.intro hT1 hg1)
      clear hT1 hg1 c0 f0 f1
      dsimp only
      go_wp2_with (fail)
      refine (rtFixed_any w1 b _ n H1.out.1).mono ?_
      rintro e w3 ⟨rfl, hT3, hg3⟩
      have H3 := Lib.hid (And.intro hT3 hg3)
      clear hT3 hg3
      dsimp only
      go_wp2_with (fail)
      go_ret
      exact ⟨rfl, H3.out.1, grown_trans H1.out.2 H3.out.2⟩
  · have e0 : (se == 0) = false := by simpa using h0
    rw [if_neg (fun h => h0 h.1)]
    clear h0
    go_enter Tryd.func49, Tryd.ntmps49
    go_wp2_with (fail)
    refine HS.out.mono ?_
    rintro e w1 ⟨rfl, hT1, hg1⟩
    obtain ⟨c0, c1, f0, f1⟩ := hT1.cells
    rw [← HSE.out] at c1
    have H1 := Lib.hid (And.intro hT1 hg1)
    clear hT1 hg1 c0 f0 f1
    dsimp only
    go_wp2_with (fail)
    refine (rtFixed_any w1 b _ n H1.out.1).mono ?_
    rintro e w3 ⟨rfl, hT3, hg3⟩
    have H3 := Lib.hid (And.intro hT3 hg3)
    clear hT3 hg3
    dsimp only
    go_wp2_with (fail)
    go_ret
    exact ⟨rfl, H3.out.1, grown_trans H1.out.2 H3.out.2⟩

set_option maxRecDepth 100000 in
theorem rtEnd_any (w : World) (b : Nat) (t : TapeL) (h : TapeAt w b t) :
    Calls Tryd.prog 25 #[.pointer (some ⟨b, 0, none⟩)] w fun e w' => e = .returned (.int .i64 t.done) ∧ w' = w := by
  obtain ⟨c0, c1, f0, f1⟩ := h.cells
  obtain ⟨te, hte⟩ : ∃ x, x = t.e := ⟨_, rfl⟩
  obtain ⟨l, hll⟩ : ∃ x, x = t.s := ⟨_, rfl⟩
  rw [← hte] at c1
  rw [← hll] at c0
  rw [TapeL.done, ← hte, ← hll]
  clear h hte hll f0 f1
  by_cases h1 : te = 0
  · have e1 : (te == 0) = true := by rw [h1]; rfl
    by_cases h2 : l = []
    · have e2 : decide (l = []) = true := decide_eq_true h2
      rw [if_neg (fun h => h.2 h2)]
      clear h1 h2
      go_enter Tryd.func25, Tryd.ntmps25
      go_wp2_with (fail)
      go_ret
      exact ⟨rfl, rfl⟩
    · have e2 : decide (l = []) = false := decide_eq_false h2
      rw [if_pos ⟨h1, h2⟩]
      clear h1 h2
      go_enter Tryd.func25, Tryd.ntmps25
      go_wp2_with (fail)
      go_ret
      exact ⟨rfl, rfl⟩
  · have e1 : (te == 0) = false := by simpa using h1
    rw [if_neg (fun h => h1 h.1)]
    clear h1
    go_enter Tryd.func25, Tryd.ntmps25
    go_wp2_with (fail)
    go_ret
    exact ⟨rfl, rfl⟩
end Go.Proofs.YtmjanplhgpcbeaaDoor
