/-
  RingApart's law: runs that begin one behind the other, with room, lie on unlike blocks.
-/
import Derived.Test.YtdmnhgbdeifpbaaRingApartP
import Derived.Deep.CutBlock
namespace Go.Proofs.Ytdmnhgbdeifpbaa
open Go Go.RowKit

set_option maxRecDepth 100000 in
set_option maxHeartbeats 4000000 in
theorem ringApart_law (w : World) (f l low : Int) (a : Option Addr) (c : Nat) (xs : List Int) (hX : IntsIn w a xs) (hxl : xs.length ≤ 9223372036854775807) :
    Calls Try.prog 4 #[rgC f l, .int .i64 low, .slice a xs.length c] w (Below0 w (.bool true)) := by
  obtain ⟨P, hP⟩ : ∃ P : Ending → World → Prop, P = Below0 w (.bool true) := ⟨_, rfl⟩
  rw [← hP]
  obtain ⟨wb, hwb⟩ : ∃ W, W = w.alloc (.cells #[.int .i64 f, .int .i64 l] 23) := ⟨_, rfl⟩
  obtain ⟨b, hbb⟩ : ∃ b, b = w.heap.size := ⟨_, rfl⟩
  have hnw := rg_new w f l
  rw [← hwb, ← hbb] at hnw
  have HB : Hid (RgAt wb b f l ∧ Below w.heap.size w wb) := by rw [← hbb]; exact hnw
  have HE : Hid (∀ w', Below w.heap.size w w' → P (.returned (.bool true)) w') := by
    rw [hP]
    exact Lib.hid fun w' h => ⟨rfl, h⟩
  have HF := Lib.hid (rgfirst_any wb)
  have HX := Lib.hid hX
  obtain ⟨N, hN⟩ : ∃ N, N = xs.length := ⟨_, rfl⟩
  rw [← hN] at hxl ⊢
  have HN := Lib.hid (And.intro hN trivial)
  obtain ⟨R, hR⟩ : ∃ R, R = decide (rgRight f l 4096) := ⟨_, rfl⟩
  have HRi : Hid (∀ w', Calls Try.prog 15 #[rgC f l, .int .i64 4096] w' (Below0 w' (.bool R))) := by
    rw [hR]
    exact Lib.hid fun w' => rgright_any w' f l 4096
  have HR := Lib.hid hR
  unfold rgC at HRi ⊢
  clear hP hnw hX hN hR
  cases R with
  | false =>
    go_enter Try.func4, Try.ntmps4
    go_upto_region 1 with (fail)
    rw [← hwb, ← hbb]
    clear hwb hbb
    go_wp2_with (fail)
    refine HF.out.mono ?_
    rintro e w1 ⟨rfl, hB1⟩
    have H1 : Hid (RgAt w1 b f l ∧ Below w.heap.size w w1) := ⟨HB.out.1.below hB1, HB.out.2.trans (hB1.mono HB.out.2.size)⟩
    clear hB1
    dsimp only
    have d0 := H1.out.1.c0
    have d1 := H1.out.1.c1
    go_wp2_with (fail)
    refine (HRi.out w1).mono ?_
    clear d0 d1
    rintro e w2 ⟨rfl, hB2⟩
    have H2 : Hid (RgAt w2 b f l ∧ Below w.heap.size w w2) := ⟨H1.out.1.below hB2, H1.out.2.trans (hB2.mono H1.out.2.size)⟩
    clear hB2
    dsimp only
    have HQ := Lib.hid (HE.out w2 H2.out.2)
    go_wp2_with (fail)
    exact HQ.out
  | true =>
    have hRt : rgRight f l 4096 := of_decide_eq_true HR.out.symm
    by_cases h0 : low < 0
    · clear hRt
      go_enter Try.func4, Try.ntmps4
      go_upto_region 1 with (fail)
      rw [← hwb, ← hbb]
      clear hwb hbb
      go_wp2_with (fail)
      refine HF.out.mono ?_
      rintro e w1 ⟨rfl, hB1⟩
      have H1 : Hid (RgAt w1 b f l ∧ Below w.heap.size w w1) := ⟨HB.out.1.below hB1, HB.out.2.trans (hB1.mono HB.out.2.size)⟩
      clear hB1
      dsimp only
      have d0 := H1.out.1.c0
      have d1 := H1.out.1.c1
      go_wp2_with (fail)
      refine (HRi.out w1).mono ?_
      clear d0 d1
      rintro e w2 ⟨rfl, hB2⟩
      have H2 : Hid (RgAt w2 b f l ∧ Below w.heap.size w w2) := ⟨H1.out.1.below hB2, H1.out.2.trans (hB2.mono H1.out.2.size)⟩
      clear hB2
      dsimp only
      have HQ := Lib.hid (HE.out w2 H2.out.2)
      go_wp2_with (fail)
      exact HQ.out
    by_cases h1 : 1099511627776 < low
    · clear hRt
      go_enter Try.func4, Try.ntmps4
      go_upto_region 1 with (fail)
      rw [← hwb, ← hbb]
      clear hwb hbb
      go_wp2_with (fail)
      refine HF.out.mono ?_
      rintro e w1 ⟨rfl, hB1⟩
      have H1 : Hid (RgAt w1 b f l ∧ Below w.heap.size w w1) := ⟨HB.out.1.below hB1, HB.out.2.trans (hB1.mono HB.out.2.size)⟩
      clear hB1
      dsimp only
      have d0 := H1.out.1.c0
      have d1 := H1.out.1.c1
      go_wp2_with (fail)
      refine (HRi.out w1).mono ?_
      clear d0 d1
      rintro e w2 ⟨rfl, hB2⟩
      have H2 : Hid (RgAt w2 b f l ∧ Below w.heap.size w w2) := ⟨H1.out.1.below hB2, H1.out.2.trans (hB2.mono H1.out.2.size)⟩
      clear hB2
      dsimp only
      have HQ := Lib.hid (HE.out w2 H2.out.2)
      go_wp2_with (fail)
      exact HQ.out
    by_cases h2 : 100 < (N : Int)
    · clear hRt
      go_enter Try.func4, Try.ntmps4
      go_upto_region 1 with (fail)
      rw [← hwb, ← hbb]
      clear hwb hbb
      go_wp2_with (fail)
      refine HF.out.mono ?_
      rintro e w1 ⟨rfl, hB1⟩
      have H1 : Hid (RgAt w1 b f l ∧ Below w.heap.size w w1) := ⟨HB.out.1.below hB1, HB.out.2.trans (hB1.mono HB.out.2.size)⟩
      clear hB1
      dsimp only
      have d0 := H1.out.1.c0
      have d1 := H1.out.1.c1
      go_wp2_with (fail)
      refine (HRi.out w1).mono ?_
      clear d0 d1
      rintro e w2 ⟨rfl, hB2⟩
      have H2 : Hid (RgAt w2 b f l ∧ Below w.heap.size w w2) := ⟨H1.out.1.below hB2, H1.out.2.trans (hB2.mono H1.out.2.size)⟩
      clear hB2
      dsimp only
      have HQ := Lib.hid (HE.out w2 H2.out.2)
      go_wp2_with (fail)
      exact HQ.out
    obtain ⟨hp, hfl⟩ := hRt
    have hf : 0 ≤ f ∧ f ≤ 4096 := ⟨hp.1, hp.2.1⟩
    have hl : 1 ≤ l ∧ l ≤ 4096 := hp.2.2
    have hlo : 0 ≤ low ∧ low ≤ 1099511627776 := by omega
    have hN9 : N ≤ 100 := by omega
    have HP := Lib.hid hp
    clear hp
    go_enter Try.func4, Try.ntmps4
    go_upto_region 1 with (fail)
    rw [← hwb, ← hbb]
    clear hwb hbb
    go_wp2_with (fail)
    refine HF.out.mono ?_
    rintro e w1 ⟨rfl, hB1⟩
    have H1 : Hid (RgAt w1 b f l ∧ Below w.heap.size w w1) := ⟨HB.out.1.below hB1, HB.out.2.trans (hB1.mono HB.out.2.size)⟩
    clear hB1
    dsimp only
    have d0 := H1.out.1.c0
    have d1 := H1.out.1.c1
    go_wp2_with (fail)
    refine (HRi.out w1).mono ?_
    clear d0 d1
    rintro e w2 ⟨rfl, hB2⟩
    have H2 : Hid (RgAt w2 b f l ∧ Below w.heap.size w w2) := ⟨H1.out.1.below hB2, H1.out.2.trans (hB2.mono H1.out.2.size)⟩
    clear hB2
    dsimp only
    go_upto_region 6 with (fail)
    obtain ⟨cz, hz, hcz⟩ := zero_used
    have HZ := Lib.hid hcz
    clear hcz
    go_upto_region 7 with (fail)
    obtain ⟨w3, hw3⟩ : ∃ W, W = w2.alloc (.cells cz 50) := ⟨_, rfl⟩
    obtain ⟨ub, hub⟩ : ∃ b, b = w2.heap.size := ⟨_, rfl⟩
    rw [← hw3, ← hub]
    have H3 : Hid (ApW w w3 b ub f l (List.replicate 4096 false)) := by
      have hB : Below w2.heap.size w2 w3 := by rw [hw3]; exact (Below.refl _ w2).alloc (Nat.le_refl _) _
      exact ⟨H2.out.2.trans (hB.mono H2.out.2.size), H2.out.1.below hB, by rw [hw3, hub, heap_alloc_new, HZ.out], by rw [hub]; exact H2.out.2.size⟩
    clear hw3 hub hz HZ cz
    go_wp2_with (fail)
    go_loopw [7, 34] (fun u v wr => ∃ (i : Nat) (at_ : Int) (U : List Bool), i ≤ N ∧ u = .int .i64 at_ ∧ v = .int .i64 (i : Int) ∧ low ≤ at_ ∧ at_ ≤ low + l ∧ ApU f l low at_ U ∧ ApW w wr b ub f l U) (fun _ v _ => N - (intOf v).toNat)
    case atStart => exact ⟨0, low, _, Nat.zero_le _, rfl, rfl, Int.le_refl _, by omega, ApU.start f l low, H3.out⟩
    case round =>
      obtain ⟨i, at_, U, hi, rfl, rfl, ha1, ha2, hU, hW⟩ := hrel
      by_cases hlt : i < N
      · have hi0 : (0 : Int) ≤ (i : Int) ∧ (i : Int) < N := by omega
        obtain ⟨ab, off, rfl, hcell⟩ := HX.out.at hW.below (i := i) (by rw [← HN.out.1]; exact hlt)
        obtain ⟨x, hx⟩ : ∃ x, x = xs.getD i 0 := ⟨_, rfl⟩
        rw [← hx] at hcell
        obtain ⟨D, hD⟩ : ∃ D, D = decide (rgRoom f l low at_ x) := ⟨_, rfl⟩
        have HRo : Hid (∀ w', Calls Try.prog 16 #[rgC f l, .int .i64 low, .int .i64 at_, .int .i64 x] w' (Below0 w' (.bool D))) := by
          rw [hD]
          exact Lib.hid fun w' => rgroom_any w' f l low at_ x
        unfold rgC at HRo
        have d0 := hW.ring.c0
        have d1 := hW.ring.c1
        have HV := Lib.hid (And.intro hU (And.intro hW hD))
        clear hU hW hD hx
        go_wp2_with (fail)
        refine (HRo.out wr).mono ?_
        clear d0 d1 hcell
        rintro e w4 ⟨rfl, hB4⟩
        have H4 := Lib.hid (HV.out.2.1.far hB4)
        clear hB4
        dsimp only
        cases D with
        | false =>
          go_wp2_with (fail)
          exact ⟨⟨i + 1, at_, U, by omega, rfl, by go_num, ha1, ha2, HV.out.1, H4.out⟩, by simp [intOf]; omega⟩
        | true =>
          have hroom : rgRoom f l low at_ x := of_decide_eq_true HV.out.2.2.symm
          obtain ⟨hr1, -, -, hr2⟩ := hroom
          obtain ⟨-, -, hx1, hx2, hs1, hs2, hlap⟩ := rgStart_bounds hr1
          obtain ⟨S, hS⟩ : ∃ S, S = rgStart f l at_ x := ⟨_, rfl⟩
          rw [← hS] at hs1 hs2 hlap hr2
          have HSt : Hid (∀ w', Calls Try.prog 17 #[rgC f l, .int .i64 at_, .int .i64 x] w' (Below0 w' (.int .i64 S))) := by
            rw [hS]
            exact Lib.hid fun w' => rgstart_any w' f l at_ x
          unfold rgC at HSt
          obtain ⟨n, rfl⟩ : ∃ n : Nat, x = (n : Int) := ⟨x.toNat, by omega⟩
          have HS := Lib.hid (And.intro hlap (And.intro hs1 (HV.out.1.later hs1)))
          clear hr1 hS hlap HV HRo
          have d0 := H4.out.ring.c0
          have d1 := H4.out.ring.c1
          go_wp2_with (fail)
          refine (HSt.out w4).mono ?_
          clear d0 d1
          rintro e w5 ⟨rfl, hB5⟩
          have H5 := Lib.hid (H4.out.far hB5)
          clear hB5
          dsimp only
          go_wp2_with (fail)
          go_loopw [49] (fun v wx => ∃ (j : Nat) (V : List Bool), j ≤ n ∧ v = .int .i64 (j : Int) ∧ ApU f l low (S + (j : Int)) V ∧ ApW w wx b ub f l V) (fun v _ => n - (intOf v).toNat)
          case atStart => exact ⟨0, U, Nat.zero_le _, rfl, by simpa using HS.out.2.2, H5.out⟩
          case round =>
            obtain ⟨j, V, hj, rfl, hV, hWx⟩ := hrel
            by_cases hjn : j < n
            · have hj0 : (0 : Int) ≤ (j : Int) ∧ (j : Int) < n := by omega
              have hl1 := hl.1
              have hms := mod_bounds (v := S) (l := l) hl1
              have hst := mod_step (v := S) (l := l) (i := (j : Int)) (by omega) (by have := HS.out.1; omega) hl1
              obtain ⟨M, hM⟩ : ∃ M, M = S % l := ⟨_, rfl⟩
              have hlap := HS.out.1
              rw [← hM] at hms hst hlap
              obtain ⟨K0, hK0⟩ : ∃ K0 : Nat, (K0 : Int) = f + M := ⟨(f + M).toNat, by omega⟩
              obtain ⟨K, hK⟩ : ∃ K : Nat, (K : Int) = f + (S + (j : Int)) % l := ⟨K0 + j, by rw [hst]; omega⟩
              have hKj : (K0 : Int) + (j : Int) = (K : Int) := by rw [hK, hst]; omega
              have hKn : (K : Int) < 4096 ∧ f ≤ (K : Int) ∧ (K : Int) < f + l := by omega
              have hk0 : (0 : Int) ≤ (K : Int) ∧ (K : Int) < 4096 := by omega
              have hfree := hV.free hl1 (by omega) (by omega) hK (by omega)
              have huse := hV.use (by omega) hK
              rw [show S + (j : Int) + 1 = S + ((j + 1 : Nat) : Int) by omega] at huse
              have HBl : Hid (∀ w', Calls Try.prog 18 #[rgC f l, .int .i64 (S + (j : Int))] w' (Below0 w' (.int .i64 (K : Int)))) := by
                refine Lib.hid fun w' => ?_
                have := rgblock_any w' f l (S + (j : Int))
                rw [rgBlock_at HP.out ⟨by omega, by omega⟩, ← hK] at this
                exact this
              have HBk : Hid (∀ w', Calls Try.prog 18 #[rgC f l, .int .i64 S] w' (Below0 w' (.int .i64 (K0 : Int)))) := by
                refine Lib.hid fun w' => ?_
                have := rgblock_any w' f l S
                rw [rgBlock_at HP.out ⟨by omega, by omega⟩, ← hM, ← hK0] at this
                exact this
              unfold rgC at HBl HBk
              have wa : IntKind.i64.wrap (S + (j : Int)) = S + (j : Int) := IntWalk.i64_in _ (by omega)
              have wb : IntKind.i64.wrap (f + l) = f + l := IntWalk.i64_in _ (by omega)
              have wc : IntKind.i64.wrap ((K0 : Int) + (j : Int)) = (K : Int) := by rw [IntWalk.i64_in _ (by omega)]; exact hKj
              have d0 := hWx.ring.c0
              have d1 := hWx.ring.c1
              have HV := Lib.hid (And.intro huse (And.intro hWx hfree))
              clear hV hWx hst hM hK0 hK hKj hfree huse hms hlap hjn
              go_wp2_with (fail)
              refine (HBl.out wr).mono ?_
              clear d0 d1
              rintro e w6 ⟨rfl, hB6⟩
              have H6 := Lib.hid (HV.out.2.1.far hB6)
              clear hB6
              dsimp only
              have d0 := H6.out.ring.c0
              have d1 := H6.out.ring.c1
              have c1 := H6.out.cell HV.out.2.2
              have f1 := frozen_of_row w6 ub K _ _ H6.out.row
              by_cases hjz : j = 0
              · subst hjz
                have HE6 := Lib.hid (H6.out.set K)
                go_wp2_with (fail)
                exact ⟨⟨0 + 1, _, by omega, by go_num, HV.out.1, HE6.out⟩, by simp [intOf]; omega⟩
              · have hjp : 0 < (j : Int) := by omega
                go_wp2_with (fail)
                refine (HBk.out w6).mono ?_
                clear d0 d1 c1 f1
                rintro e w7 ⟨rfl, hB7⟩
                have H7 := Lib.hid (H6.out.far hB7)
                clear hB7
                dsimp only
                have d0 := H7.out.ring.c0
                have d1 := H7.out.ring.c1
                have c1 := H7.out.cell HV.out.2.2
                have f1 := frozen_of_row w7 ub K _ _ H7.out.row
                have HE7 := Lib.hid (H7.out.set K)
                go_wp2_with (fail)
                exact ⟨⟨j + 1, _, by omega, by go_num, HV.out.1, HE7.out⟩, by simp [intOf]; omega⟩
            · obtain rfl : j = n := by omega
              have HV := Lib.hid (And.intro hV hWx)
              have wa : IntKind.i64.wrap (S + (j : Int)) = S + (j : Int) := IntWalk.i64_in _ (by omega)
              clear hV hWx hjn
              go_wp2_with (fail)
              exact ⟨⟨i + 1, S + (j : Int), V, by omega, rfl, by go_num, by omega, hr2, HV.out.1, HV.out.2⟩, by simp [intOf]; omega⟩
      · obtain rfl : i = N := by omega
        have wb : IntKind.i64.wrap (low + l) = low + l := IntWalk.i64_in _ (by omega)
        have d1 := hW.ring.c1
        have HQ := Lib.hid (HE.out wr hW.below)
        clear hU hW hlt
        go_wp2_with (fail)
        exact HQ.out
end Go.Proofs.Ytdmnhgbdeifpbaa
