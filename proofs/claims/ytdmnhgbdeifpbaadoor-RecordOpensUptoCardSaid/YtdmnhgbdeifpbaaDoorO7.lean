/-
  Part 7 of 42 of what the proof leans on.
-/
import Derived.Test.YtdmnhgbdeifpbaaDoorO4
namespace Go.Proofs.YtdmnhgbdeifpbaaDoor
open Go.RowKit
def TapeAt (w : World) (b : Nat) (t : TapeL) : Prop := w.heap[b]? = some (.cells #[Sv t.s, .int .i64 t.e] 70 (0, 0))
def TapeEnd (w : World) (b : Nat) (t : TapeL) (v : Value) (e : Ending) (w' : World) : Prop := e = .returned v ∧ TapeAt w' b t ∧ w.grownBy w' (some b)
theorem TapeAt.cells {w : World} {b : Nat} {t : TapeL} (h : TapeAt w b t) : w.cell? ⟨b, 0, none⟩ = some (Sv t.s) ∧ w.cell? ⟨b, 1, none⟩ = some (.int .i64 t.e) ∧ w.frozen? ⟨b, 0, none⟩ = false ∧ w.frozen? ⟨b, 1, none⟩ = false := by
  refine ⟨?_, ?_, frozen_of_row w b 0 _ _ h, frozen_of_row w b 1 _ _ h⟩
  · rw [cell_of_row _ _ _ _ _ _ h]; rfl
  · rw [cell_of_row _ _ _ _ _ _ h]; rfl
theorem grown_refl (w : World) (b : Option Nat) : w.grownBy w b := ⟨rfl, rfl, rfl, Nat.le_refl _, fun _ _ _ => rfl⟩
set_option maxRecDepth 100000 in
theorem rtFail_any (w : World) (b : Nat) (t : TapeL) (e : Int) (h : TapeAt w b t) :
    Calls Tryd.prog 39 #[.pointer (some ⟨b, 0, none⟩), .int .i64 e] w (TapeEnd w b (t.fail e) (.tuple #[])) := by
  obtain ⟨c0, c1, f0, f1⟩ := h.cells; have HH := Lib.hid h; clear h; obtain ⟨te, hte⟩ : ∃ x, x = t.e := ⟨_, rfl⟩; rw [← hte] at c1; have HT := Lib.hid hte; clear hte
  by_cases h1 : te = 0
  · have e1 : (te == 0) = true := by rw [h1]; rfl
    by_cases h2 : e = 0
    · have e2 : (e != 0) = false := by rw [h2]; rfl
      have hf : t.fail e = t := if_neg (by omega)
      rw [hf]; clear h1 h2 hf
      go_enter Tryd.func39, Tryd.ntmps39
      go_wp2_with (fail)
      go_end0
      exact ⟨rfl, HH.out, grown_refl _ _⟩
    · have e2 : (e != 0) = true := by simpa using h2
      have hf : t.fail e = ⟨[], e⟩ := if_pos ⟨by rw [← HT.out]; exact h1, h2⟩
      rw [hf]; clear h1 h2 hf
      go_enter Tryd.func39, Tryd.ntmps39
      go_wp2_with (fail)
      go_end0
      refine ⟨rfl, ?_, grown_trans (grown_setCell w b 1 _) (grown_setCell _ b 0 _)⟩; have h1 := heap_setCell_same w b 1 _ _ (.int .i64 e) HH.out; exact heap_setCell_same _ b 0 _ _ (Sv []) h1
  · have e1 : (te == 0) = false := by simpa using h1
    have hf : t.fail e = t := if_neg (by have := HT.out; omega)
    rw [hf]; clear h1 hf
    go_enter Tryd.func39, Tryd.ntmps39
    go_wp2_with (fail)
    go_end0
    exact ⟨rfl, HH.out, grown_refl _ _⟩
def TWordRel (w : World) (b : Nat) (l0 : List (BitVec 8)) (vw vu vi : Value) (wr : World) : Prop :=
  ∃ (i n acc u : Nat) (l : List (BitVec 8)), i + n = 9 ∧ u = 128 ^ i ∧ acc < u ∧ vw = .int .u64 (acc : Int) ∧ vu = .int .u64 (u : Int) ∧ vi = .int .i64 (i : Int) ∧
    TapeAt wr b ⟨l, 0⟩ ∧ w.grownBy wr (some b) ∧ rdW (n + 1) i acc l = rdW 10 0 0 l0
def badB (i c : Nat) : Bool := decide ((c = 0 ∧ 0 < i) ∨ (i = 9 ∧ 1 < c))
def BadCut (bad : Bool) (i x : Nat) (W1 : World) (si sx s : Value) (wx : World) : Prop := si = .int .i64 (i : Int) ∧ sx = .int .u64 (x : Int) ∧ s = .bool bad ∧ wx = W1
theorem rdW_cons (n i acc : Nat) (c : BitVec 8) (r : List (BitVec 8)) : rdW (n + 1) i acc (c :: r) =
    if badB i c.toNat then (11, 0, []) else if c.toNat < 128 then (0, acc + c.toNat % 128 * 128 ^ i, r) else rdW n (i + 1) (acc + c.toNat % 128 * 128 ^ i) r := by
  simp only [rdW, badB, decide_eq_true_eq]
theorem run_conv_B_u64 (w : World) (c : BitVec 8) : (convert 5 95 (B c)).run Tryd.prog w = .ok (.int .u64 (c.toNat : Int)) w := by
  have := c.isLt
  simp [convert, B, Conv.intToInt, run_underlying Tryd.underlying5, run_underlying Tryd.underlying95, wrapU64 c.toNat (by omega)]
theorem tapeWord_err {t : TapeL} {k : Nat} {v : Nat} {r : List (BitVec 8)} (h0 : t.e = 0) (h : rdW 10 0 0 t.s = (k, v, r)) (hk : k ≠ 0) : t.word = (0, ⟨[], (k : Int)⟩) := by
  rw [TapeL.word, if_neg (by simp [h0]), h, if_neg hk, TapeL.fail, if_pos ⟨h0, by omega⟩]
theorem tapeWord_ok {t : TapeL} {v : Nat} {r : List (BitVec 8)} (h0 : t.e = 0) (h : rdW 10 0 0 t.s = (0, v, r)) : t.word = (v, ⟨r, 0⟩) := by
  rw [TapeL.word, if_neg (by simp [h0]), h, if_pos rfl]
set_option maxRecDepth 100000 in
set_option maxHeartbeats 2000000 in
theorem rtWord_any (w : World) (b : Nat) (t : TapeL) (h : TapeAt w b t) :
    Calls Tryd.prog 69 #[.pointer (some ⟨b, 0, none⟩)] w (TapeEnd w b t.word.2 (.int .u64 (t.word.1 : Int))) := by
  obtain ⟨c0, c1, f0, f1⟩ := h.cells; have HH := Lib.hid h; clear h f0 f1 c0; obtain ⟨te, hte⟩ : ∃ x, x = t.e := ⟨_, rfl⟩; rw [← hte] at c1
  by_cases h1 : te = 0
  · have e1 : (te != 0) = false := by rw [h1]; rfl
    have HT := Lib.hid (show t.e = 0 by rw [← hte]; exact h1)
    clear hte h1
    go_enter Tryd.func69, Tryd.ntmps69
    go_wp2_with (fail); clear c1 e1
    go_loopw [3, 4, 5] (TWordRel w b t.s) (fun _ _ i _ => 10 - (intOf i).toNat)
    case atStart => exact ⟨0, 9, 0, 1, t.s, rfl, by simp, by omega, rfl, rfl, rfl, by have h := HH.out; unfold TapeAt at h ⊢; rw [HT.out] at h; exact h, grown_refl _ _, rfl⟩
    case round =>
      obtain ⟨i, n, acc, u, l, hin, hu, hacc, rfl, rfl, rfl, hA, hg, hrd⟩ := hrel
      have hi10 : (i : Int) < 10 := by omega
      obtain ⟨d0, d1, f0, f1⟩ := hA.cells; have HA := Lib.hid (And.intro hA (And.intro hg (And.intro hrd (And.intro hin (And.intro hu hacc))))); clear hA hg hrd hin hu hacc
      cases l with
      | nil =>
        have eq0 : ∀ w, (binOp .eql 9 (Sv []) (.string ⟨#[]⟩)).run Tryd.prog w = .ok (.bool true) w := fun w => run_eql_Sv0 w []; go_wp2_with (fail); refine (rtFail_any wr b ⟨[], 0⟩ 10 HA.out.1).mono ?_; rintro e w1 ⟨rfl, hT1, hg1⟩; have H1 := Lib.hid (And.intro hT1 hg1); clear hT1 hg1; dsimp only; go_wp2_with (fail); go_ret
        have hw : t.word = (0, ⟨[], ((10 : Nat) : Int)⟩) := tapeWord_err HT.out (HA.out.2.2.1.symm) (by decide)
        rw [hw]; exact ⟨rfl, H1.out.1, grown_trans HA.out.2.1 H1.out.2⟩
      | cons c r =>
        have eq0 : ∀ w, (binOp .eql 9 (Sv (c :: r)) (.string ⟨#[]⟩)).run Tryd.prog w = .ok (.bool false) w := fun w => run_eql_Sv0 w (c :: r); have hix : ∀ w, (Instr.index 9 (Sv (c :: r)) (.int .i64 0)).run Tryd.prog w = .ok (B c) w := fun w => run_index_Sv0 w c r; have hcv : ∀ w, (convert 5 95 (B c)).run Tryd.prog w = .ok (.int .u64 (c.toNat : Int)) w := fun w => run_conv_B_u64 w c
        have hsl : ∀ w, (Instr.slice 9 (Sv (c :: r)) (some (.int .i64 1)) none none).run Tryd.prog w = .ok (Sv r) w := fun w => run_drop_Sv w (c :: r) 1 (by simp)
        obtain ⟨x, hx⟩ : ∃ x, x = c.toNat := ⟨_, rfl⟩
        have hxl : x < 256 := by rw [hx]; exact c.isLt
        rw [← hx] at hcv; have HX := Lib.hid hx; clear hx
        go_upto_region 13 with (fail)
        obtain ⟨W1, hW1⟩ : ∃ W1, W1 = wr.setCell ⟨b, 0, none⟩ (Sv r) := ⟨_, rfl⟩; rw [← hW1]
        have hA1 : TapeAt W1 b ⟨r, 0⟩ := by rw [hW1]; exact heap_setCell_same wr b 0 _ _ (Sv r) HA.out.1
        have hg1 : w.grownBy W1 (some b) := by rw [hW1]; exact grown_trans HA.out.2.1 (grown_setCell wr b 0 _)
        have H1 := Lib.hid (And.intro hA1 hg1); clear hW1 hA1 hg1 d0 d1 f0 f1 eq0 hix hcv hsl; obtain ⟨bad, hbad⟩ : ∃ z, z = badB i x := ⟨_, rfl⟩; have HBAD := Lib.hid hbad
        go_cut [5, 6, 50] from 12 to 63 (fun si sx s wx => BadCut bad i x W1 si sx s wx)
        case first =>
          rw [badB] at hbad
          by_cases x0 : x = 0
          · have q1 : ((x : Int) == 0) = true := by rw [x0]; rfl
            by_cases i0 : 0 < i
            · have q2 : (0 : Int) < (i : Int) := by omega
              have q3 : bad = true := by rw [hbad]; exact decide_eq_true (.inl ⟨x0, i0⟩)
              have ix : i = i := rfl; have xx := x0; have Q3 := Lib.hid (And.intro q3 (And.intro ix xx)); clear x0 i0 q3 ix xx hbad; go_wp2_with (fail)
              go_meet
              exact ⟨by first | rfl | (rw [Q3.out.2.1]; done) | (rw [Q3.out.2.1]; rfl), by first | rfl | (rw [Q3.out.2.2]; done) | (rw [Q3.out.2.2]; rfl), by rw [Q3.out.1], rfl⟩
            · have q2 : ¬ (0 : Int) < (i : Int) := by omega
              have q4 : ((i : Int) == 9) = false := by simp; omega
              have q3 : bad = false := by rw [hbad]; exact decide_eq_false (by omega)
              have ix : i = 0 := by omega
              have xx := x0; have Q3 := Lib.hid (And.intro q3 (And.intro ix xx)); clear x0 i0 q3 ix xx hbad; go_wp2_with (fail)
              go_meet
              exact ⟨by first | rfl | (rw [Q3.out.2.1]; done) | (rw [Q3.out.2.1]; rfl), by first | rfl | (rw [Q3.out.2.2]; done) | (rw [Q3.out.2.2]; rfl), by rw [Q3.out.1], rfl⟩
          · have q1 : ((x : Int) == 0) = false := by simp; omega
            have xx : x = x := rfl
            by_cases i9 : i = 9
            · have q4 : ((i : Int) == 9) = true := by rw [i9]; rfl
              have ix := i9
              by_cases x1 : 1 < x
              · have q5 : (1 : Int) < (x : Int) := by omega
                have q3 : bad = true := by rw [hbad]; exact decide_eq_true (.inr ⟨i9, x1⟩)
                have Q3 := Lib.hid (And.intro q3 (And.intro ix xx)); clear x0 i9 x1 q3 ix xx hbad; go_wp2_with (fail)
                go_meet
                exact ⟨by first | rfl | (rw [Q3.out.2.1]; done) | (rw [Q3.out.2.1]; rfl), by first | rfl | (rw [Q3.out.2.2]; done) | (rw [Q3.out.2.2]; rfl), by rw [Q3.out.1], rfl⟩
              · have q5 : ¬ (1 : Int) < (x : Int) := by omega
                have q3 : bad = false := by rw [hbad]; exact decide_eq_false (by omega)
                have Q3 := Lib.hid (And.intro q3 (And.intro ix xx)); clear x0 i9 x1 q3 ix xx hbad; go_wp2_with (fail)
                go_meet
                exact ⟨by first | rfl | (rw [Q3.out.2.1]; done) | (rw [Q3.out.2.1]; rfl), by first | rfl | (rw [Q3.out.2.2]; done) | (rw [Q3.out.2.2]; rfl), by rw [Q3.out.1], rfl⟩
            · have q4 : ((i : Int) == 9) = false := by simp; omega
              have q3 : bad = false := by rw [hbad]; exact decide_eq_false (by omega)
              have ix : i = i := rfl; have Q3 := Lib.hid (And.intro q3 (And.intro ix xx)); clear x0 i9 q3 ix xx hbad; go_wp2_with (fail)
              go_meet
              exact ⟨by first | rfl | (rw [Q3.out.2.1]; done) | (rw [Q3.out.2.1]; rfl), by first | rfl | (rw [Q3.out.2.2]; done) | (rw [Q3.out.2.2]; rfl), by rw [Q3.out.1], rfl⟩
        case rest =>
          obtain ⟨rfl, rfl, rfl, rfl⟩ := hcut; clear hbad; obtain ⟨hA, hg, hrd, hin, hu, hacc⟩ := HA.out; rw [rdW_cons, ← HX.out, ← HBAD.out, ← hu] at hrd; have HH1 := Lib.hid (And.intro hrd (And.intro hin (And.intro hu hacc))); clear hA hg hrd hin hu hacc
          cases bad with
          | true =>
            go_wp2_with (fail); refine (rtFail_any wc b ⟨r, 0⟩ 11 H1.out.1).mono ?_; rintro e w2 ⟨rfl, hT2, hg2⟩; have H2 := Lib.hid (And.intro hT2 hg2); clear hT2 hg2; dsimp only; go_wp2_with (fail); go_ret; have hrd := HH1.out.1; rw [if_pos trivial] at hrd
            have hw : t.word = (0, ⟨[], ((11 : Nat) : Int)⟩) := tapeWord_err HT.out hrd.symm (by decide)
            rw [hw]; exact ⟨rfl, H2.out.1, grown_trans H1.out.2 H2.out.2⟩
          | false =>
            obtain ⟨y, hy⟩ : ∃ y, y = x % 128 := ⟨_, rfl⟩
            have e1 : (x : Int) % 128 = (y : Int) := by omega
            obtain ⟨z, hz⟩ : ∃ z, z = y * u := ⟨_, rfl⟩
            have e2 : (y : Int) * (u : Int) = (z : Int) := by rw [hz]; exact (Int.natCast_mul y u).symm
            obtain ⟨hrd, hin, hu, hacc⟩ := HH1.out
            rw [if_neg (by decide), ← hy, ← hz] at hrd
            have hbf : ¬ ((x = 0 ∧ 0 < i) ∨ (i = 9 ∧ 1 < x)) := of_decide_eq_false HBAD.out.symm
            have hpos : 0 < u := by rw [hu]; exact Nat.pow_pos (by decide)
            have hzb : z ≤ 127 * u := by rw [hz]; exact Nat.mul_le_mul_right _ (by omega)
            have hsum : acc + z < 18446744073709551616 ∧ (i < 9 → u * 128 ≤ 9223372036854775808 ∧ acc + z < u * 128) := by
              rcases Nat.lt_or_ge i 9 with h9 | h9
              · have h1 : 128 ^ (i + 1) ≤ 128 ^ 9 := Nat.pow_le_pow_right (by decide) (by omega)
                rw [Nat.pow_succ, ← hu, p9] at h1; omega
              · have : i = 9 := by omega
                subst this
                have h2 : z ≤ 1 * u := by rw [hz]; exact Nat.mul_le_mul_right _ (by omega)
                rw [p9] at hu; omega
            have hub : u ≤ 9223372036854775808 := by
              have h1 : 128 ^ i ≤ 128 ^ 9 := Nat.pow_le_pow_right (by decide) (by omega)
              rw [← hu, p9] at h1; exact h1
            have e3 : IntKind.u64.wrap (z : Int) = (z : Int) := wrapU64 z (by omega)
            obtain ⟨a2, ha2⟩ : ∃ a, a = acc + z := ⟨_, rfl⟩
            have e4 : (acc : Int) + (z : Int) = (a2 : Int) := by omega
            have e5 : IntKind.u64.wrap (a2 : Int) = (a2 : Int) := wrapU64 a2 (by omega)
            rw [← ha2] at hrd hsum
            by_cases h128 : x < 128
            · have q : (x : Int) < 128 := by omega
              rw [if_pos h128] at hrd; have HR := Lib.hid (tapeWord_ok HT.out hrd.symm); clear hy hz hrd hin hu hacc hbf hpos hzb hsum hub ha2 h128 hxl; go_wp2_with (fail); go_ret; rw [HR.out]; exact ⟨rfl, H1.out.1, H1.out.2⟩
            · have q : ¬ (x : Int) < 128 := by omega
              have hi9 : i < 9 := by omega
              obtain ⟨v, hv⟩ : ∃ v, v = u * 128 := ⟨_, rfl⟩
              have e6 : (u : Int) * 128 = (v : Int) := by omega
              have e7 : IntKind.u64.wrap (v : Int) = (v : Int) := wrapU64 v (by omega)
              obtain ⟨n', hn'⟩ : ∃ n', n = n' + 1 := ⟨n - 1, by omega⟩
              rw [if_neg h128, hn'] at hrd
              have HR := Lib.hid (And.intro hrd (And.intro (show i + 1 + n' = 9 by omega) (And.intro (show v = 128 ^ (i + 1) by rw [hv, hu, Nat.pow_succ]) (show a2 < v by omega))))
              clear hy hz hrd hin hu hacc hbf hpos hzb hsum hub ha2 h128 hxl hv hi9 hn'; go_wp2_with (fail)
              exact ⟨⟨i + 1, n', a2, v, r, HR.out.2.1, HR.out.2.2.1, HR.out.2.2.2, rfl, rfl, by go_num, H1.out.1, H1.out.2, HR.out.1⟩, by simp [intOf]; omega⟩
  · have e1 : (te != 0) = true := by simpa using h1
    have hw : t.word = (0, t) := if_pos (by rw [← hte]; exact h1)
    rw [hw]; clear h1 hw hte
    go_enter Tryd.func69, Tryd.ntmps69
    go_wp2_with (fail); go_ret; exact ⟨rfl, HH.out, grown_refl _ _⟩
end Go.Proofs.YtdmnhgbdeifpbaaDoor
namespace Go.Proofs.YtdmnhgbdeifpbaaDoor
open Go.RowKit
theorem run_conv_u64_i64n (w : World) (n : Nat) (h : n < 9223372036854775808) : (convert 95 3 (.int .u64 (n : Int))).run Tryd.prog w = .ok (.int .i64 (n : Int)) w := by
  have : IntKind.i64.wrap (n : Int) = n := IntWalk.i64_in _ (by omega)
  simp [convert, Conv.intToInt, run_underlying Tryd.underlying3, run_underlying Tryd.underlying95, this]
set_option maxRecDepth 100000 in
theorem rtNumber_any (w : World) (b : Nat) (t : TapeL) (most : Int) (h : TapeAt w b t) :
    Calls Tryd.prog 36 #[.pointer (some ⟨b, 0, none⟩), .int .i64 most] w (TapeEnd w b (t.number most).2 (.int .i64 (t.number most).1)) := by
  have HS := Lib.hid (rtWord_any w b t h); obtain ⟨v, hv⟩ : ∃ v, v = t.word.1 := ⟨_, rfl⟩; obtain ⟨s, hs⟩ : ∃ s, s = t.word.2 := ⟨_, rfl⟩
  have hvl : v < 18446744073709551616 := by rw [hv]; exact t.word_lt
  rw [TapeL.number, ← hv, ← hs]; rw [← hv, ← hs] at HS; clear hv hs h
  by_cases hbig : 9223372036854775807 < v
  · have hb : (9223372036854775807 : Int) < (v : Int) := by omega
    rw [if_pos hbig]; clear hbig hvl
    go_enter Tryd.func36, Tryd.ntmps36
    go_wp2_with (fail); refine HS.out.mono ?_; rintro e w1 ⟨rfl, hT1, hg1⟩; have H1 := Lib.hid (And.intro hT1 hg1); clear hT1 hg1; dsimp only; go_wp2_with (fail); refine (rtFail_any w1 b s 11 H1.out.1).mono ?_; rintro e w2 ⟨rfl, hT2, hg2⟩; have H2 := Lib.hid (And.intro hT2 hg2); clear hT2 hg2; dsimp only; go_wp2_with (fail); go_ret; exact ⟨rfl, H2.out.1, grown_trans H1.out.2 H2.out.2⟩
  · have hb : ¬ (9223372036854775807 : Int) < (v : Int) := by omega
    rw [if_neg hbig]
    have hcv := fun w => run_conv_u64_i64n w v (by omega)
    clear hvl hbig; obtain ⟨se, hse⟩ : ∃ x, x = s.e := ⟨_, rfl⟩; rw [← hse]; have HSE := Lib.hid hse; clear hse
    by_cases h0 : se = 0
    · have e0 : (se == 0) = true := by rw [h0]; rfl
      by_cases hm : most < (v : Int)
      · rw [if_pos ⟨h0, hm⟩]; clear h0
        go_enter Tryd.func36, Tryd.ntmps36
        go_wp2_with (fail); refine HS.out.mono ?_; rintro e w1 ⟨rfl, hT1, hg1⟩; obtain ⟨c0, c1, f0, f1⟩ := hT1.cells; rw [← HSE.out] at c1; have H1 := Lib.hid (And.intro hT1 hg1); clear hT1 hg1 c0 f0 f1; dsimp only; go_wp2_with (fail); refine (rtFail_any w1 b s 12 H1.out.1).mono ?_; rintro e w2 ⟨rfl, hT2, hg2⟩; have H2 := Lib.hid (And.intro hT2 hg2); clear hT2 hg2; dsimp only; go_wp2_with (fail); go_ret; exact ⟨rfl, H2.out.1, grown_trans H1.out.2 H2.out.2⟩
      · rw [if_neg (fun h => hm h.2)]; clear h0
        go_enter Tryd.func36, Tryd.ntmps36
        go_wp2_with (fail); refine HS.out.mono ?_; rintro e w1 ⟨rfl, hT1, hg1⟩; obtain ⟨c0, c1, f0, f1⟩ := hT1.cells; rw [← HSE.out] at c1; have H1 := Lib.hid (And.intro hT1 hg1); clear hT1 hg1 c0 f0 f1; dsimp only; go_wp2_with (fail); go_ret; exact ⟨rfl, H1.out.1, H1.out.2⟩
    · have e0 : (se == 0) = false := by simpa using h0
      rw [if_neg (fun h => h0 h.1)]; clear h0
      go_enter Tryd.func36, Tryd.ntmps36
      go_wp2_with (fail); refine HS.out.mono ?_; rintro e w1 ⟨rfl, hT1, hg1⟩; obtain ⟨c0, c1, f0, f1⟩ := hT1.cells; rw [← HSE.out] at c1; have H1 := Lib.hid (And.intro hT1 hg1); clear hT1 hg1 c0 f0 f1; dsimp only; go_wp2_with (fail); go_ret; exact ⟨rfl, H1.out.1, H1.out.2⟩
set_option maxRecDepth 100000 in
theorem rtSigned_any (w : World) (b : Nat) (t : TapeL) (h : TapeAt w b t) :
    Calls Tryd.prog 70 #[.pointer (some ⟨b, 0, none⟩)] w (TapeEnd w b t.signed.2 (.int .i64 t.signed.1)) := by
  have HS := Lib.hid (rtWord_any w b t h); obtain ⟨v, hv⟩ : ∃ v, v = t.word.1 := ⟨_, rfl⟩
  have hvl : v < 18446744073709551616 := by rw [hv]; exact t.word_lt
  rw [TapeL.signed, ← hv]; rw [← hv] at HS; clear hv h; obtain ⟨q, hq⟩ : ∃ q, q = v / 2 := ⟨_, rfl⟩; obtain ⟨r, hr⟩ : ∃ r, r = v % 2 := ⟨_, rfl⟩
  have e1 : (v : Int) / 2 = (q : Int) := by omega
  have e2 : (v : Int) % 2 = (r : Int) := by omega
  have e3 : IntKind.u64.wrap (q : Int) = (q : Int) := wrapU64 q (by omega)
  have hcv := fun w => run_conv_u64_i64n w q (by omega)
  by_cases h1 : r = 1
  · have e0 : ((r : Int) == 1) = true := by rw [h1]; rfl
    have hz : zag v = -(q : Int) - 1 := by rw [zag, ← hr, if_pos h1, ← hq]
    have e4 : IntKind.i64.wrap (-(q : Int)) = -(q : Int) := IntWalk.i64_in _ (by omega)
    have e5 : IntKind.i64.wrap (-(q : Int) - 1) = -(q : Int) - 1 := IntWalk.i64_in _ (by omega)
    rw [hz]; clear hz h1 hq hr hvl
    go_enter Tryd.func70, Tryd.ntmps70
    go_wp2_with (fail); refine HS.out.mono ?_; rintro e w1 ⟨rfl, hT1, hg1⟩; have H1 := Lib.hid (And.intro hT1 hg1); clear hT1 hg1; dsimp only; go_wp2_with (fail); go_ret; exact ⟨rfl, H1.out.1, H1.out.2⟩
  · have e0 : ((r : Int) == 1) = false := by simp; omega
    have hz : zag v = (q : Int) := by rw [zag, ← hr, if_neg h1, ← hq]
    rw [hz]; clear hz h1 hq hr hvl
    go_enter Tryd.func70, Tryd.ntmps70
    go_wp2_with (fail); refine HS.out.mono ?_; rintro e w1 ⟨rfl, hT1, hg1⟩; have H1 := Lib.hid (And.intro hT1 hg1); clear hT1 hg1; dsimp only; go_wp2_with (fail); go_ret; exact ⟨rfl, H1.out.1, H1.out.2⟩
set_option maxRecDepth 100000 in
theorem rtFixed_any (w : World) (b : Nat) (t : TapeL) (n : Int) (h : TapeAt w b t) :
    Calls Tryd.prog 38 #[.pointer (some ⟨b, 0, none⟩), .int .i64 n] w (TapeEnd w b (t.fixed n).2 (Sv (t.fixed n).1)) := by
  obtain ⟨c0, c1, f0, f1⟩ := h.cells; have HH := Lib.hid h; obtain ⟨te, hte⟩ : ∃ x, x = t.e := ⟨_, rfl⟩; obtain ⟨l, hll⟩ : ∃ x, x = t.s := ⟨_, rfl⟩; rw [← hte] at c1; rw [← hll] at c0; have HT := Lib.hid (And.intro hte hll); rw [TapeL.fixed, ← hte, ← hll]; clear h hte hll
  by_cases h1 : te = 0
  · have e1 : (te != 0) = false := by rw [h1]; rfl
    rw [if_neg (fun h => h h1)]; have HZ := Lib.hid h1; clear h1
    by_cases h2 : n < 0
    · rw [if_pos h2]
      go_enter Tryd.func38, Tryd.ntmps38
      go_wp2_with (fail); refine (rtFail_any w b t 2 HH.out).mono ?_; rintro e w2 ⟨rfl, hT2, hg2⟩; have H2 := Lib.hid (And.intro hT2 hg2); clear hT2 hg2; dsimp only; go_wp2_with (fail); go_ret; exact ⟨rfl, H2.out.1, H2.out.2⟩
    · obtain ⟨m, rfl⟩ := Int.eq_ofNat_of_zero_le (show 0 ≤ n by omega)
      rw [if_neg h2]; have lk : ∀ w ty, (Builtin.len_ #[9] ty #[Sv l]).run Tryd.prog w = .ok (.int .i64 (l.length : Int)) w := fun w ty => run_len_Sv w ty l; obtain ⟨L, hL⟩ : ∃ L, L = l.length := ⟨_, rfl⟩; rw [← hL] at lk ⊢
      by_cases h3 : (L : Int) < (m : Int)
      · rw [if_pos h3]; clear h2 hL
        go_enter Tryd.func38, Tryd.ntmps38
        go_wp2_with (fail); refine (rtFail_any w b t 10 HH.out).mono ?_; rintro e w2 ⟨rfl, hT2, hg2⟩; have H2 := Lib.hid (And.intro hT2 hg2); clear hT2 hg2; dsimp only; go_wp2_with (fail); go_ret; exact ⟨rfl, H2.out.1, H2.out.2⟩
      · rw [if_neg h3]
        have ht := fun w => run_take_Sv w l m (by omega)
        have hd := fun w => run_drop_Sv w l m (by omega)
        obtain ⟨x, hx⟩ : ∃ x, x = l.take m := ⟨_, rfl⟩; obtain ⟨y, hy⟩ : ∃ y, y = l.drop m := ⟨_, rfl⟩; rw [← hx] at ht; rw [← hy] at hd; rw [Int.toNat_natCast, ← hx, ← hy]; clear h2 hL hx hy
        go_enter Tryd.func38, Tryd.ntmps38
        go_wp2_with (fail); go_ret; refine ⟨rfl, ?_, grown_setCell w b 0 _⟩; have h1 := heap_setCell_same w b 0 _ _ (Sv y) HH.out; rw [HT.out.1]; exact h1
  · have e1 : (te != 0) = true := by simpa using h1
    rw [if_pos h1]; clear h1
    go_enter Tryd.func38, Tryd.ntmps38
    go_wp2_with (fail); go_ret; exact ⟨rfl, HH.out, grown_refl _ _⟩
set_option maxRecDepth 100000 in
theorem rtText_any (w : World) (b : Nat) (t : TapeL) (most : Int) (h : TapeAt w b t) :
    Calls Tryd.prog 57 #[.pointer (some ⟨b, 0, none⟩), .int .i64 most] w (TapeEnd w b (t.text most).2 (Sv (t.text most).1)) := by
  have HS := Lib.hid (rtNumber_any w b t 9223372036854775807 h); rw [TapeL.text]; obtain ⟨n, hn⟩ : ∃ n, n = (t.number 9223372036854775807).1 := ⟨_, rfl⟩; obtain ⟨s, hs⟩ : ∃ s, s = (t.number 9223372036854775807).2 := ⟨_, rfl⟩; rw [← hn, ← hs] at HS ⊢; clear hn hs h; obtain ⟨se, hse⟩ : ∃ x, x = s.e := ⟨_, rfl⟩; rw [← hse]; have HSE := Lib.hid hse; clear hse
  by_cases h0 : se = 0
  · have e0 : (se == 0) = true := by rw [h0]; rfl
    by_cases hm : most < n
    · rw [if_pos ⟨h0, hm⟩]; clear h0
      go_enter Tryd.func57, Tryd.ntmps57
      go_wp2_with (fail); refine HS.out.mono ?_; rintro e w1 ⟨rfl, hT1, hg1⟩; obtain ⟨c0, c1, f0, f1⟩ := hT1.cells; rw [← HSE.out] at c1; have H1 := Lib.hid (And.intro hT1 hg1); clear hT1 hg1 c0 f0 f1; dsimp only; go_wp2_with (fail); refine (rtFail_any w1 b s 12 H1.out.1).mono ?_; rintro e w2 ⟨rfl, hT2, hg2⟩; have H2 := Lib.hid (And.intro hT2 hg2); clear hT2 hg2; dsimp only; go_wp2_with (fail); refine (rtFixed_any w2 b _ n H2.out.1).mono ?_; rintro e w3 ⟨rfl, hT3, hg3⟩; have H3 := Lib.hid (And.intro hT3 hg3); clear hT3 hg3; dsimp only; go_wp2_with (fail); go_ret; exact ⟨rfl, H3.out.1, grown_trans H1.out.2 (grown_trans H2.out.2 H3.out.2)⟩
    · rw [if_neg (fun h => hm h.2)]; clear h0
      go_enter Tryd.func57, Tryd.ntmps57
      go_wp2_with (fail); refine HS.out.mono ?_; rintro e w1 ⟨rfl, hT1, hg1⟩; obtain ⟨c0, c1, f0, f1⟩ := hT1.cells; rw [← HSE.out] at c1; have H1 := Lib.hid (And.intro hT1 hg1); clear hT1 hg1 c0 f0 f1; dsimp only; go_wp2_with (fail); refine (rtFixed_any w1 b _ n H1.out.1).mono ?_; rintro e w3 ⟨rfl, hT3, hg3⟩; have H3 := Lib.hid (And.intro hT3 hg3); clear hT3 hg3; dsimp only; go_wp2_with (fail); go_ret; exact ⟨rfl, H3.out.1, grown_trans H1.out.2 H3.out.2⟩
  · have e0 : (se == 0) = false := by simpa using h0
    rw [if_neg (fun h => h0 h.1)]; clear h0
    go_enter Tryd.func57, Tryd.ntmps57
    go_wp2_with (fail); refine HS.out.mono ?_; rintro e w1 ⟨rfl, hT1, hg1⟩; obtain ⟨c0, c1, f0, f1⟩ := hT1.cells; rw [← HSE.out] at c1; have H1 := Lib.hid (And.intro hT1 hg1); clear hT1 hg1 c0 f0 f1; dsimp only; go_wp2_with (fail); refine (rtFixed_any w1 b _ n H1.out.1).mono ?_; rintro e w3 ⟨rfl, hT3, hg3⟩; have H3 := Lib.hid (And.intro hT3 hg3); clear hT3 hg3; dsimp only; go_wp2_with (fail); go_ret; exact ⟨rfl, H3.out.1, grown_trans H1.out.2 H3.out.2⟩
set_option maxRecDepth 100000 in
theorem rtEnd_any (w : World) (b : Nat) (t : TapeL) (h : TapeAt w b t) :
    Calls Tryd.prog 40 #[.pointer (some ⟨b, 0, none⟩)] w fun e w' => e = .returned (.int .i64 t.done) ∧ w' = w := by
  obtain ⟨c0, c1, f0, f1⟩ := h.cells; obtain ⟨te, hte⟩ : ∃ x, x = t.e := ⟨_, rfl⟩; obtain ⟨l, hll⟩ : ∃ x, x = t.s := ⟨_, rfl⟩; rw [← hte] at c1; rw [← hll] at c0; rw [TapeL.done, ← hte, ← hll]; clear h hte hll f0 f1
  by_cases h1 : te = 0
  · have e1 : (te == 0) = true := by rw [h1]; rfl
    by_cases h2 : l = []
    · have e2 : decide (l = []) = true := decide_eq_true h2; rw [if_neg (fun h => h.2 h2)]; clear h1 h2
      go_enter Tryd.func40, Tryd.ntmps40
      go_wp2_with (fail); go_ret; exact ⟨rfl, rfl⟩
    · have e2 : decide (l = []) = false := decide_eq_false h2; rw [if_pos ⟨h1, h2⟩]; clear h1 h2
      go_enter Tryd.func40, Tryd.ntmps40
      go_wp2_with (fail); go_ret; exact ⟨rfl, rfl⟩
  · have e1 : (te == 0) = false := by simpa using h1
    rw [if_neg (fun h => h1 h.1)]; clear h1
    go_enter Tryd.func40, Tryd.ntmps40
    go_wp2_with (fail); go_ret; exact ⟨rfl, rfl⟩
end Go.Proofs.YtdmnhgbdeifpbaaDoor
