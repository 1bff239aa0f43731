/-
  The contract of the reference's Of: a time's windows; and of its Same: two lists of windows.
-/
import Derived.Test.YtkgmcjeficgciaaDoorRefW
namespace Go.Proofs.YtkgmcjeficgciaaDoor
open Go Go.RowKit

def OfRelR (w : World) (q : QueryL) (key : List (BitVec 8)) (K : Int) (m : Nat) (out kk : Value) (wr : World) : Prop :=
  ∃ j : Nat, j ≤ m ∧ kk = .int .i64 (K - (j : Int)) ∧ OwnW wr w.heap.size out (runW q key (K + 1 - (j : Int)) j) ∧ Below w.heap.size w wr
theorem one_of_run (q : QueryL) (key : List (BitVec 8)) (K : Int) (j : Nat) : [winAt q key (K - (j : Int))] ++ runW q key (K + 1 - (j : Int)) j = runW q key (K + 1 - ((j + 1 : Nat) : Int)) (j + 1) := by
  rw [runW_cons]
  have e1 : K + 1 - ((j + 1 : Nat) : Int) = K - (j : Int) := by omega
  have e2 : K - (j : Int) + 1 = K + 1 - (j : Int) := by omega
  rw [e1, e2]
  rfl
set_option maxRecDepth 100000 in
set_option maxHeartbeats 2000000 in
theorem rwOf_any (w : World) (q : QueryL) (key : List (BitVec 8)) (t : Int) (hl : key.length ≤ 1000000) :
    Calls Tryd.prog 11 #[.agg q.cells, Sv key, .int .i64 t] w (WinsEnd w (ofW q key t)) := by
  obtain ⟨w1, hw1⟩ : ∃ W, W = w.alloc (.cells q.cells 23) := ⟨_, rfl⟩
  obtain ⟨qb, hqb⟩ : ∃ b, b = w.heap.size := ⟨_, rfl⟩
  have H1 : Hid (Below w.heap.size w w1 ∧ RowQ w1 qb q) := by
    rw [hw1, hqb]
    exact Lib.hid ⟨(Below.refl _ w).alloc (Nat.le_refl _) _, heap_alloc_new w _⟩
  obtain ⟨P, hP⟩ : ∃ P, P = WinsEnd w (ofW q key t) := ⟨_, rfl⟩
  rw [← hP]
  have HP := Lib.hid hP
  obtain ⟨Q0, hQ0⟩ : ∃ X : QueryL, X = q := ⟨_, rfl⟩
  have HQ0 := Lib.hid hQ0
  obtain ⟨r, hr⟩ : ∃ r, r = q.rightB := ⟨_, rfl⟩
  obtain ⟨nb, hnb⟩ : ∃ r, r = nameB key := ⟨_, rfl⟩
  have HRt : Hid (∀ w', Calls Tryd.prog 24 #[.agg q.cells] w' (Below0 w' (.bool r))) := by
    rw [hr]
    exact Lib.hid (fun w' => rqRight_any w' q)
  have HNm : Hid (∀ w', Calls Tryd.prog 40 #[Sv key] w' fun e w'' => e = .returned (.bool nb) ∧ w'' = w') := by
    rw [hnb]
    exact Lib.hid (fun w' => erName_any w' key hl)
  have Hr := Lib.hid hr
  have Hnb := Lib.hid hnb
  rw [← hQ0] at H1
  clear hP hr hnb hl
  obtain ⟨kind, size, slide, late, agg, tk⟩ := q
  unfold QueryL.cells at hw1 HRt
  unfold QueryL.cells
  simp only at hw1 HRt ⊢
  have HNo : Hid (∀ wz, okAsk Q0 key t = false → Below w.heap.size w wz → P (.returned (.slice none 0 0)) wz) := by
    refine Lib.hid (fun wz h hB => ?_)
    rw [HP.out, ← HQ0.out, ofW, h, if_neg (by decide)]
    exact ⟨none, 0, rfl, Nat.le_refl _, .inl rfl, hB⟩
  have HD : Hid (∀ w', Below w1.heap.size w1 w' → D6 w' qb kind size slide late agg tk) := by
    refine Lib.hid (fun w' h => ?_)
    have h2 := (H1.out.2.below h).d6
    rw [HQ0.out] at h2
    exact h2
  obtain ⟨d0, d1, d2, d3, d4, d5⟩ := HD.out w1 (Below.refl _ _)
  clear hQ0
  go_enter Tryd.func11, Tryd.ntmps11
  go_upto_region 1 with (fail)
  rw [← hw1, ← hqb]
  clear hw1 hqb
  cases r with
  | false =>
    go_wp2_with (fail)
    refine (HRt.out w1).mono ?_
    rintro e w2 ⟨rfl, hB⟩
    have H2 := Lib.hid (H1.out.1.trans (hB.mono H1.out.1.size))
    clear hB d0 d1 d2 d3 d4 d5
    dsimp only
    go_wp2_with (fail)
    exact HNo.out _ (by rw [okAsk, HQ0.out, ← Hr.out]; rfl) H2.out
  | true =>
  cases nb with
  | false =>
    go_wp2_with (fail)
    refine (HRt.out w1).mono ?_
    rintro e w2 ⟨rfl, hB⟩
    have H2 := Lib.hid (H1.out.1.trans (hB.mono H1.out.1.size))
    clear hB d0 d1 d2 d3 d4 d5
    dsimp only
    go_wp2_with (fail)
    refine (HNm.out w2).mono ?_
    rintro e w3 ⟨rfl, hw3⟩
    subst w3
    dsimp only
    go_wp2_with (fail)
    exact HNo.out _ (by rw [okAsk, HQ0.out, ← Hr.out, ← Hnb.out]; rfl) H2.out
  | true =>
  by_cases t0 : t < 0
  · go_wp2_with (fail)
    refine (HRt.out w1).mono ?_
    rintro e w2 ⟨rfl, hB⟩
    have H2 := Lib.hid (H1.out.1.trans (hB.mono H1.out.1.size))
    clear hB d0 d1 d2 d3 d4 d5
    dsimp only
    go_wp2_with (fail)
    refine (HNm.out w2).mono ?_
    rintro e w3 ⟨rfl, hw3⟩
    subst w3
    dsimp only
    go_wp2_with (fail)
    exact HNo.out _ (by rw [okAsk, decide_eq_false (by omega), Bool.and_false]) H2.out
  by_cases t1 : 1099511627776 < t
  · go_wp2_with (fail)
    refine (HRt.out w1).mono ?_
    rintro e w2 ⟨rfl, hB⟩
    have H2 := Lib.hid (H1.out.1.trans (hB.mono H1.out.1.size))
    clear hB d0 d1 d2 d3 d4 d5
    dsimp only
    go_wp2_with (fail)
    refine (HNm.out w2).mono ?_
    rintro e w3 ⟨rfl, hw3⟩
    subst w3
    dsimp only
    go_wp2_with (fail)
    exact HNo.out _ (by rw [okAsk, decide_eq_false (by omega), Bool.and_false]) H2.out
  have hQr : Q0.rightB = true := by rw [HQ0.out]; exact Hr.out.symm
  have hok : okAsk Q0 key t = true := by
    rw [okAsk, hQr, ← Hnb.out, decide_eq_true (by omega)]
    rfl
  obtain ⟨c1, c2, c3, c4, c5, _⟩ := rightQ_cases hQr
  have HOk : Hid (Q0.rightB = true ∧ okAsk Q0 key t = true ∧ 0 ≤ t ∧ t ≤ 1099511627776 ∧ 1 ≤ size ∧ size ≤ 1073741824) := by
    rw [HQ0.out] at c1
    exact Lib.hid ⟨hQr, hok, by omega, by omega, c1.1, c1.2⟩
  have HKd : Hid (kind = 1 ∨ kind = 2 ∨ kind = 3) := by
    rw [HQ0.out] at c3
    exact Lib.hid c3
  clear c1 c2 c3 c4 c5 hok hQr
  by_cases k3 : kind = 3
  · have HW1 : Hid (ofW Q0 key t = [⟨key, t, t + size⟩]) := by
      have hk : Q0.kind = 3 := by rw [HQ0.out]; exact k3
      have hs : Q0.size = size := by rw [HQ0.out]
      rw [ofW, if_pos HOk.out.2.1, if_pos hk, hs]
      exact Lib.hid rfl
    have HYes : Hid (∀ wz c v, v = .slice (some ⟨c, 0, none⟩) 1 1 → OwnW wz w.heap.size v [⟨key, t, t + size⟩] → Below w.heap.size w wz → P (.returned v) wz) := by
      refine Lib.hid (fun wz c v hv ho hB => ?_)
      rw [HP.out, ← HQ0.out, HW1.out]
      obtain ⟨a, c', e1, e2, e3⟩ := ho.form
      exact ⟨a, c', by rw [e1], e2, e3, hB⟩
    subst k3
    have hts : -9223372036854775808 ≤ t + size ∧ t + size ≤ 9223372036854775807 := by have := HOk.out; omega
    obtain ⟨hts0, hts1⟩ := hts
    have hbuilt := built_window key t (t + size)
    go_wp2_with (fail)
    refine (HRt.out w1).mono ?_
    rintro e w2 ⟨rfl, hB⟩
    have H2 := Lib.hid (And.intro (H1.out.1.trans (hB.mono H1.out.1.size)) hB)
    clear hB d0 d1 d2 d3 d4 d5
    obtain ⟨d0, d1, d2, d3, d4, d5⟩ := HD.out w2 H2.out.2
    dsimp only
    go_wp2_with (fail)
    refine (HNm.out w2).mono ?_
    rintro e w3 ⟨rfl, hw3⟩
    subst w3
    dsimp only
    go_upto_region 4 with (fail)
    refine wp_region_lit ?_
    iterate 18 go_step
    refine wpList_build_on (by kernel_rfl) 31 _ rfl (WindowL.mk key t (t + size)).cells (by simp only [List.map_toArray, List.map_cons, List.map_nil]; exact hbuilt) ?_
    refine wpList_slice1_W rfl (.tmp 35) rfl (WindowL.mk key t (t + size)) rfl ?_
    have HO := Lib.hid (OwnW.new1 w2 w.heap.size H2.out.1.size (WindowL.mk key t (t + size)))
    have HB2 : Hid (Below w.heap.size w (w2.alloc (.cells (WindowL.mk key t (t + size)).cells 31))) := Lib.hid (H2.out.1.alloc H2.out.1.size _)
    obtain ⟨wz, hwz⟩ : ∃ W, W = w2.alloc (.cells (WindowL.mk key t (t + size)).cells 31) := ⟨_, rfl⟩
    rw [← hwz] at HO HB2 ⊢
    clear hwz hbuilt d0 d1 d2 d3 d4 d5
    go_wp2_with (fail)
    exact HYes.out _ _ _ rfl HO.out HB2.out
  have e3 : (kind == 3) = false := by simpa using k3
  obtain ⟨st, hst⟩ : ∃ s, s = stepQ Q0 := ⟨_, rfl⟩
  have HSt : Hid (st = stepQ Q0 ∧ 1 ≤ st ∧ st ≤ 1073741824) := by
    obtain ⟨s1, s2, s3, s4, s5⟩ := stepQ_pos HOk.out.1
    rw [hst]
    exact Lib.hid ⟨rfl, s1, by omega⟩
  have hst2 : st = if kind = 2 then slide else size := by rw [hst, stepQ, HQ0.out]
  clear hst
  obtain ⟨m, hm⟩ : ∃ m : Nat, (m : Int) = t / st + 1 - loK Q0 t := ⟨(t / st + 1 - loK Q0 t).toNat, by
    have := loK_bd HOk.out.1 HOk.out.2.2.1
    rw [HSt.out.1]
    omega⟩
  obtain ⟨K, hK⟩ : ∃ K, K = t / st := ⟨_, rfl⟩
  rw [← hK] at hm
  have HM : Hid ((m : Int) = K + 1 - loK Q0 t ∧ K = t / st ∧ 0 ≤ loK Q0 t ∧ loK Q0 t ≤ K ∧ m ≤ 16 ∧ K ≤ 1099511627776 ∧ ∀ k : Int, 0 ≤ k → (t < k * st + size ↔ loK Q0 t ≤ k)) := by
    have hb := loK_bd HOk.out.1 HOk.out.2.2.1
    rw [← HSt.out.1, ← hK] at hb
    have hs : Q0.size = size := by rw [HQ0.out]
    have hkt : K ≤ t := by
      rw [hK]
      exact Int.ediv_le_self _ HOk.out.2.2.1
    refine Lib.hid ⟨hm, hK, hb.1, hb.2.1, by omega, by have := HOk.out; omega, fun k hk => ?_⟩
    have := loK_spec HOk.out.1 (t := t) k hk
    rw [← HSt.out.1, hs] at this
    exact this
  have HYes : Hid (∀ wz B v, OwnW wz B v (runW Q0 key (loK Q0 t) m) → Below w.heap.size w wz → P (.returned v) wz) := by
    refine Lib.hid (fun wz B v ho hB => ?_)
    have hk : ¬ Q0.kind = 3 := by rw [HQ0.out]; exact k3
    have e : ofW Q0 key t = runW Q0 key (loK Q0 t) m := by
      rw [ofW, if_pos HOk.out.2.1, if_neg hk, ← HSt.out.1, ← HM.out.2.1, ← HM.out.1, Int.toNat_natCast]
    rw [HP.out, ← HQ0.out, e]
    obtain ⟨a, c', e1, e2, e3⟩ := ho.form
    exact ⟨a, c', by rw [e1], e2, e3, hB⟩
  obtain ⟨b2, hb2⟩ : ∃ b, b = (kind == 2) := ⟨_, rfl⟩
  have e2 : (kind == 2) = b2 := hb2.symm
  have hst3 : st = if b2 = true then slide else size := by
    rw [hst2, hb2]
    by_cases h : kind = 2 <;> simp [h]
  have HS3 := Lib.hid hst3
  have HSz : Hid (∀ k, winAt Q0 key k = ⟨key, k * st, k * st + size⟩) := by
    refine Lib.hid (fun k => ?_)
    have hs : Q0.size = size := by rw [HQ0.out]
    rw [winAt, ← HSt.out.1, hs]
  have hq0 : 0 ≤ t ∧ t ≤ 1099511627776 ∧ 1 ≤ st ∧ st ≤ 1073741824 := by
    have := HOk.out
    have := HSt.out
    omega
  obtain ⟨q0, q1, q2, q3⟩ := hq0
  have hKe : t / st = K := HM.out.2.1.symm
  have et0 : decide (t < 0) = false := decide_eq_false t0
  have et1 : decide (1099511627776 < t) = false := decide_eq_false t1
  clear hst2 hst3 hb2 hm hK k3 t0 t1
  go_wp2_with (fail)
  refine (HRt.out w1).mono ?_
  rintro e w2 ⟨rfl, hB⟩
  have H2 := Lib.hid (And.intro (H1.out.1.trans (hB.mono H1.out.1.size)) hB)
  clear hB d0 d1 d2 d3 d4 d5
  obtain ⟨d0, d1, d2, d3, d4, d5⟩ := HD.out w2 H2.out.2
  dsimp only
  go_wp2_with (fail)
  refine (HNm.out w2).mono ?_
  rintro e w3 ⟨rfl, hw3⟩
  subst w3
  dsimp only
  go_upto_if 41 with (fail)
  go_cut [7] from 42 to 43 (fun s7 wx => s7 = .int .i64 st ∧ wx = w2)
  case first =>
    cases b2 with
    | true =>
      obtain rfl : st = slide := by rw [HS3.out]; rfl
      go_wp2_with (fail)
      go_meet
      exact ⟨rfl, rfl⟩
    | false =>
      obtain rfl : st = size := by rw [HS3.out]; rfl
      go_wp2_with (fail)
      go_meet
      exact ⟨rfl, rfl⟩
  case rest =>
    obtain ⟨rfl, hwc⟩ := hcut
    subst wc
    clear e2
    have est : (st == 0) = false := by simp; omega
    go_wp2_with (fail)
    rw [hKe]
    go_loopw [8, 9] (OfRelR w2 Q0 key K m) (fun _ k _ => (intOf k + 1).toNat)
    case atStart => exact ⟨0, Nat.zero_le _, by simp, OwnW.nil _ _, Below.refl _ _⟩
    case round =>
      obtain ⟨j, hj, rfl, hO, hB⟩ := hrel
      obtain ⟨a, c, hu8, hcap, hWa⟩ := hO.form
      subst hu8
      rw [runW_length] at hcap ⊢
      have HO := Lib.hid (And.intro hO (And.intro hB hWa))
      obtain ⟨d0, d1, d2, d3, d4, d5⟩ := HD.out wr (H2.out.2.trans (hB.mono H2.out.2.size))
      clear hO hB hWa hcap
      obtain ⟨m0, mK, m1, m2, m3, m4, m5⟩ := HM.out
      clear mK
      obtain ⟨k, hk⟩ : ∃ k, k = K - (j : Int) := ⟨_, rfl⟩
      rw [← hk]
      have hKt : K * st ≤ t := by
        rw [← hKe]
        exact Int.ediv_mul_le _ (by omega)
      have HKb : Hid (K ≤ 1099511627776) := Lib.hid m4
      have hsz : 1 ≤ size ∧ size ≤ 1073741824 := HOk.out.2.2.2.2
      obtain ⟨hsz0, hsz1⟩ := hsz
      clear hKe est
      by_cases hlt : j < m
      · have hk0 : 0 ≤ k := by omega
        have hin : t < k * st + size := (m5 k hk0).2 (by omega)
        have hp0 : 0 ≤ k * st := Int.mul_nonneg hk0 (by omega)
        have hp1 : k * st ≤ 1099511627776 := by
          have : k * st ≤ K * st := Int.mul_le_mul_of_nonneg_right (by omega) (by omega)
          omega
        have HK := Lib.hid (And.intro hk hlt)
        obtain ⟨x, hx⟩ : ∃ x, x = WindowL.mk key (k * st) (k * st + size) := ⟨_, rfl⟩
        have hbuilt := built_window key (k * st) (k * st + size)
        have HX : Hid (x = winAt Q0 key (K - (j : Int))) := by
          rw [hx, HSz.out, hk]
          exact Lib.hid rfl
        rw [← hx] at hbuilt
        clear m0 m1 m2 m3 m4 m5 hKt hj hlt hk
        go_upto_region 12 with (fail)
        refine wp_region_lit ?_
        iterate 30 go_step
        refine wpList_build_on (by kernel_rfl) 31 _ rfl x.cells (by simp only [List.map_toArray, List.map_cons, List.map_nil]; exact hbuilt) ?_
        refine wpList_slice1_W rfl (.tmp 71) rfl x rfl ?_
        have HN1 : Hid (OwnW (wr.alloc (.cells x.cells 31)) w2.heap.size (.slice (some ⟨wr.heap.size, 0, none⟩) 1 1) [x] ∧ Below w2.heap.size w2 (wr.alloc (.cells x.cells 31)) ∧ WinsAt (wr.alloc (.cells x.cells 31)) a (runW Q0 key (K + 1 - (j : Int)) j)) := by
          obtain ⟨h1, h2, h3⟩ := HO.out
          exact Lib.hid ⟨OwnW.new1 wr _ h2.size x, h2.alloc h2.size _, h3.below ((Below.refl _ wr).alloc (Nat.le_refl _) _)⟩
        obtain ⟨gn, hgn⟩ : ∃ b, b = wr.heap.size := ⟨_, rfl⟩
        obtain ⟨wn, hwn⟩ : ∃ W, W = wr.alloc (.cells x.cells 31) := ⟨_, rfl⟩
        rw [← hwn, ← hgn] at HN1 ⊢
        clear hwn hgn
        clear hin hp0 hp1 hsz0 hsz1
        have hk1 : k ≤ 1099511627776 := by have := HK.out.1; have := HKb.out; omega
        iterate 3 go_step
        refine wpList_appendW rfl (.tmp 72) (.tmp 73) rfl w2.heap.size _ [x] (runW Q0 key (K + 1 - (j : Int)) j) rfl HN1.out.1 a c j (runW_length _ _ _ _).symm rfl HN1.out.2.2 (by rw [runW_length]; have := HK.out.2; have := HM.out.2.2.2.2.1; simp; omega) HN1.out.2.1.size ?_
        intro v' w3 g1 g2 g3
        have HR3 : Hid (OfRelR w2 Q0 key K m v' (.int .i64 (k - 1)) w3) := by
          obtain ⟨h1, h2, h3⟩ := HN1.out
          refine Lib.hid ⟨j + 1, HK.out.2, by rw [HK.out.1]; congr 1; omega, ?_, h2.trans (h1.below g2 h2.size)⟩
          rw [← one_of_run, ← HX.out]
          exact g1
        clear g1 g2 g3 hbuilt hx d0 d1 d2 d3 d4 d5
        go_wp2_with (fail)
        go_roundw
        case rel => exact HR3.out
        case measure => simp [intOf]; omega
      · obtain rfl : j = m := by omega
        have HZ : Hid (P (.returned (.slice a j c)) wr) := by
          obtain ⟨h1, h2, h3⟩ := HO.out
          refine Lib.hid (HYes.out wr w2.heap.size _ ?_ (H2.out.1.trans (h2.mono H2.out.1.size)))
          have e : K + 1 - (j : Int) = loK Q0 t := by omega
          rw [runW_length, e] at h1
          exact h1
        by_cases hk0 : 0 ≤ k
        · have hout : ¬ t < k * st + size := fun h => by
            have := (m5 k hk0).1 h
            omega
          have hp0 : 0 ≤ k * st := Int.mul_nonneg hk0 (by omega)
          have hp1 : k * st ≤ 1099511627776 := by omega
          clear m0 m1 m2 m3 m4 m5 hKt hj hlt hk
          go_wp2_with (fail)
          exact HZ.out
        · clear m0 m1 m2 m3 m4 m5 hKt hj hlt hk
          go_wp2_with (fail)
          exact HZ.out
end Go.Proofs.YtkgmcjeficgciaaDoor
