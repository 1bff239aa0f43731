/-
  Part 41 of 53 of what the proof leans on.
-/
import Derived.Test.YtjeeghafachebaaGreatG33
import Derived.Test.YtjeeghafachebaaGreatG21
namespace Go.Proofs.YtjeeghafachebaaGreat
open Go Go.RowKit
set_option maxRecDepth 100000 in
set_option maxHeartbeats 2000000 in
theorem ofN_any (w : World) (q : QueryL) (key : List (BitVec 8)) (t : Int) (hl : key.length ≤ 1000000) :
    Calls Tryz.prog 62 #[.agg q.cells, Sv key, .int .i64 t] w (WinsNew w (ofW q key t)) := by
  obtain ⟨w1, hw1⟩ : ∃ W, W = w.alloc (.cells q.cells 23) := ⟨_, rfl⟩; obtain ⟨qb, hqb⟩ : ∃ b, b = w.heap.size := ⟨_, rfl⟩
  have H1 : Hid (Below w.heap.size w w1 ∧ RowQ w1 qb q) := by
    rw [hw1, hqb]; exact Lib.hid ⟨(Below.refl _ w).alloc (Nat.le_refl _) _, heap_alloc_new w _⟩
  obtain ⟨P, hP⟩ : ∃ P, P = WinsNew w (ofW q key t) := ⟨_, rfl⟩; rw [← hP]; have HP := Lib.hid hP; obtain ⟨Q0, hQ0⟩ : ∃ X : QueryL, X = q := ⟨_, rfl⟩; have HQ0 := Lib.hid hQ0; obtain ⟨r, hr⟩ : ∃ r, r = q.rightB := ⟨_, rfl⟩; obtain ⟨nb, hnb⟩ : ∃ r, r = nameB key := ⟨_, rfl⟩; obtain ⟨tb, htb⟩ : ∃ r, r = decide (0 ≤ t ∧ t ≤ 1099511627776) := ⟨_, rfl⟩
  have HRt : Hid (∀ w', Calls Tryz.prog 28 #[.agg q.cells] w' (Below0 w' (.bool r))) := by
    rw [hr]; exact Lib.hid (fun w' => qright_any w' q)
  have HNm : Hid (∀ w', Calls Tryz.prog 61 #[Sv key] w' fun e w'' => e = .returned (.bool nb) ∧ w'' = w') := by
    rw [hnb]; exact Lib.hid (fun w' => ename_any w' key hl)
  have HTm : Hid (∀ w', Calls Tryz.prog 86 #[.int .i64 t] w' fun e w'' => e = .returned (.bool tb) ∧ w'' = w') := by
    rw [htb]; exact Lib.hid (fun w' => wtime_any w' t)
  have HOkE : Hid (okAsk Q0 key t = (r && nb && tb)) := by
    rw [hr, hnb, htb, hQ0]; exact Lib.hid rfl
  rw [← hQ0] at H1; clear hP hr hnb htb hl; obtain ⟨kind, size, slide, late, agg, tk⟩ := q; unfold QueryL.cells at hw1 HRt; unfold QueryL.cells; simp only at hw1 HRt ⊢
  have HNo : Hid (∀ wz, okAsk Q0 key t = false → Below w.heap.size w wz → P (.returned (.slice none 0 0)) wz) := by
    refine Lib.hid (fun wz h hB => ?_)
    rw [HP.out, ← HQ0.out, ofW, h, if_neg (by decide)]
    exact ⟨_, rfl, OwnW.nil _ _, hB⟩
  have HD : Hid (∀ w', Below w1.heap.size w1 w' → D6 w' qb kind size slide late agg tk) := by
    refine Lib.hid (fun w' h => ?_); have h2 := (H1.out.2.below h).d6; rw [HQ0.out] at h2; exact h2
  obtain ⟨d0, d1, d2, d3, d4, d5⟩ := HD.out w1 (Below.refl _ _); clear hQ0
  go_enter Tryz.func62, Tryz.ntmps62
  go_upto_region 1 with (fail)
  rw [← hw1, ← hqb]; clear hw1 hqb
  cases r with
  | false =>
    go_wp2_with (fail); refine (HRt.out w1).mono ?_; rintro e w2 ⟨rfl, hB⟩; have H2 := Lib.hid (H1.out.1.trans (hB.mono H1.out.1.size)); clear hB d0 d1 d2 d3 d4 d5; dsimp only; go_wp2_with (fail)
    exact HNo.out _ (by rw [HOkE.out]; rfl) H2.out
  | true =>
  cases nb with
  | false =>
    go_wp2_with (fail); refine (HRt.out w1).mono ?_; rintro e w2 ⟨rfl, hB⟩; have H2 := Lib.hid (H1.out.1.trans (hB.mono H1.out.1.size)); clear hB d0 d1 d2 d3 d4 d5; dsimp only; go_wp2_with (fail); refine (HNm.out w2).mono ?_; rintro e w3 ⟨rfl, hw3⟩; subst w3; dsimp only; go_wp2_with (fail)
    exact HNo.out _ (by rw [HOkE.out]; rfl) H2.out
  | true =>
  cases tb with
  | false =>
    go_wp2_with (fail); refine (HRt.out w1).mono ?_; rintro e w2 ⟨rfl, hB⟩; have H2 := Lib.hid (H1.out.1.trans (hB.mono H1.out.1.size)); clear hB d0 d1 d2 d3 d4 d5; dsimp only; go_wp2_with (fail); refine (HNm.out w2).mono ?_; rintro e w3 ⟨rfl, hw3⟩; subst w3; dsimp only; go_wp2_with (fail); refine (HTm.out w2).mono ?_; rintro e w3 ⟨rfl, hw3⟩; subst w3; dsimp only; go_wp2_with (fail)
    exact HNo.out _ (by rw [HOkE.out]; rfl) H2.out
  | true =>
  have hok : okAsk Q0 key t = true := by rw [HOkE.out]; rfl
  have hok2 := hok; simp only [okAsk, Bool.and_eq_true, decide_eq_true_eq] at hok2; obtain ⟨⟨hQr, _⟩, ht0, ht1⟩ := hok2; obtain ⟨s1, s2, s3, s4, s5⟩ := stepQ_pos hQr; obtain ⟨f0, f1⟩ := firstQ_bd hQr ht0
  have hsz : Q0.size = size := by rw [HQ0.out]
  obtain ⟨m, hm, hof, hcnt⟩ := ofW_gen hok; rw [hsz] at hof s2 s4 s5
  have HSt : Hid (∀ w', Calls Tryz.prog 94 #[.agg #[.int .i64 kind, .int .i64 size, .int .i64 slide, .int .i64 late, .int .i64 agg, .int .i64 tk], .int .i64 t] w' (Below0 w' (.tuple #[.int .i64 (firstQ Q0 t), .int .i64 (stepQ Q0)]))) := by
    refine Lib.hid (fun w' => ?_); have h := wstarts_any w' Q0 t hQr ht0 ht1; rw [HQ0.out] at h ⊢; exact h
  obtain ⟨F, hF⟩ : ∃ F, F = firstQ Q0 t := ⟨_, rfl⟩; obtain ⟨st, hst⟩ : ∃ s, s = stepQ Q0 := ⟨_, rfl⟩; rw [← hF, ← hst] at hof hcnt HSt; rw [← hF] at f0 f1; rw [← hst] at s1 s2
  have HYes : Hid (∀ wz B v, w.heap.size ≤ B → OwnW wz B v (genW key F st size m) → Below w.heap.size w wz → P (.returned v) wz) := by
    refine Lib.hid (fun wz B v hb ho hB => ?_); rw [HP.out, ← HQ0.out, hof]; exact ⟨v, rfl, ho.mono hb, hB⟩
  have HM := Lib.hid (And.intro hm (And.intro hcnt (And.intro f0 (And.intro f1 (And.intro s1 (And.intro s2 (And.intro s4 (And.intro s5 (And.intro ht0 ht1))))))))); clear hok hQr ht0 ht1 s1 s2 s3 s4 s5 f0 f1 hsz hm hof hcnt hF hst HP HQ0 HOkE HNo; go_wp2_with (fail); refine (HRt.out w1).mono ?_; rintro e w2 ⟨rfl, hB⟩; have H2 := Lib.hid hB; clear hB d0 d1 d2 d3 d4 d5; dsimp only; go_wp2_with (fail); refine (HNm.out w2).mono ?_; rintro e w3 ⟨rfl, hw3⟩; subst w3; dsimp only; go_wp2_with (fail); refine (HTm.out w2).mono ?_; rintro e w3 ⟨rfl, hw3⟩; subst w3; dsimp only; obtain ⟨d0, d1, d2, d3, d4, d5⟩ := HD.out w2 H2.out; go_wp2_with (fail); refine (HSt.out w2).mono ?_; rintro e ws ⟨rfl, hB⟩; have HS := Lib.hid (H2.out.trans (hB.mono H2.out.size)); clear hB d0 d1 d2 d3 d4 d5; dsimp only; go_wp2_with (fail); obtain ⟨Sr, hSr⟩ : ∃ S, S = OfRel w1 key F st size m := ⟨_, rfl⟩
  have HRel : Hid (∀ o f wr, Sr o f wr ↔ ∃ j : Nat, j ≤ m ∧ f = .int .i64 (F + (j : Int) * st) ∧ OwnW wr w1.heap.size o (genW key F st size j) ∧ Below w1.heap.size w1 wr) := by
    rw [hSr]; exact Lib.hid (fun _ _ _ => Iff.rfl)
  clear hSr
  go_loopw [7, 10] Sr (fun _ f _ => (t + 1 - intOf f).toNat)
  case atStart => exact (HRel.out _ _ _).2 ⟨0, Nat.zero_le _, by rw [Int.natCast_zero, Int.zero_mul, Int.add_zero], OwnW.nil _ _, HS.out⟩
  case round =>
    obtain ⟨j, hj, rfl, hO, hB⟩ := (HRel.out _ _ _).1 hrel; obtain ⟨a, c, hu, hcap, hWa⟩ := hO.form; subst hu; rw [genW_length] at hO ⊢; have HO := Lib.hid (And.intro hO hB); clear hcap hWa; obtain ⟨d0, d1, d2, d3, d4, d5⟩ := HD.out wr hB; obtain ⟨n1, n2, n3, n4, n5, n6, n7, n8, n9, n10⟩ := HM.out; obtain ⟨f, hf⟩ : ∃ f, f = F + (j : Int) * st := ⟨_, rfl⟩; rw [← hf]
    have hp0 : 0 ≤ (j : Int) * st := Int.mul_nonneg (by omega) (by omega)
    have hf0 : 0 ≤ f := by omega
    have hfj : f ≤ t ↔ j < m := by rw [hf]; exact n2 j
    by_cases hlt : j < m
    · have hft : f ≤ t := hfj.2 hlt
      have hnx : F + ((j + 1 : Nat) : Int) * st = f + st := by
        rw [hf, Int.natCast_add, Int.add_mul, Int.natCast_one, Int.one_mul]; omega
      obtain ⟨x, hx⟩ : ∃ x, x = WindowL.mk key f (f + size) := ⟨_, rfl⟩
      have hsn : genW key F st size (j + 1) = genW key F st size j ++ [x] := by rw [genW_snoc, ← hf, hx]
      have hbuilt := built_window key f (f + size); rw [← hx] at hbuilt; have HN := Lib.hid (And.intro hnx (And.intro hlt (And.intro hsn n1))); clear hO hB hlt n1 n2 n3 n4 hj hnx hsn hfj hf hp0
      go_upto_region 8 with (fail)
      refine wp_region_lit ?_
      iterate 21 go_step
      refine wpList_build_on (by kernel_rfl) 47 _ rfl x.cells (by simp only [List.map_toArray, List.map_cons, List.map_nil]; exact hbuilt) ?_
      clear hbuilt hx; refine wpList_slice1_W rfl (.tmp 44) rfl x rfl ?_
      have HW : Hid (OwnW (wr.alloc (.cells x.cells 47)) w1.heap.size (.slice a j c) (genW key F st size j) ∧ Below w1.heap.size w1 (wr.alloc (.cells x.cells 47))) := by
        obtain ⟨h1, h2⟩ := HO.out; have hn : Below wr.heap.size wr (wr.alloc (.cells x.cells 47)) := (Below.refl _ wr).alloc (Nat.le_refl _) _; exact Lib.hid ⟨h1.far hn, h2.trans (hn.mono h2.size)⟩
      have HU : Hid (∀ i z, x.cells[i]? = some z → (wr.alloc (.cells x.cells 47)).cell? ⟨wr.heap.size, i, none⟩ = some z) := by
        refine Lib.hid (fun i z hz => ?_); rw [cell_of_row _ _ _ _ _ _ (heap_alloc_new wr _)]; exact hz
      clear d0 d1 d2 d3 d4 d5; obtain ⟨gn, hgn⟩ : ∃ b, b = wr.heap.size := ⟨_, rfl⟩; obtain ⟨wn, hwn⟩ : ∃ W, W = wr.alloc (.cells x.cells 47) := ⟨_, rfl⟩; rw [← hwn, ← hgn] at HU ⊢; rw [← hwn] at HW; clear hwn hgn
      refine wpList_pushW rfl (.tmp 37) (.tmp 45) rfl w1.heap.size (.slice a j c) (genW key F st size j) rfl HW.out.1 x gn rfl HU.out (by rw [genW_length]; have := HN.out.2.1; have := HN.out.2.2.2; omega) HW.out.2.size ?_
      intro v' w3 g1 g2 g3
      have HR3 : Hid (Sr v' (.int .i64 (f + st)) w3) := by
        obtain ⟨h1, h2⟩ := HW.out
        refine Lib.hid ((HRel.out _ _ _).2 ⟨j + 1, HN.out.2.1, by rw [HN.out.1], ?_, h2.trans (h1.below g2 h2.size)⟩)
        rw [HN.out.2.2.1]; exact g1
      clear g1 g2 g3; go_wp2_with (fail); go_roundw
      case rel => exact HR3.out
      case measure => simp [intOf]; omega
    · obtain rfl : j = m := by omega
      have hft : ¬ f ≤ t := fun h => by
        have := hfj.1 h; omega
      have HZ : Hid (P (.returned (.slice a j c)) wr) := Lib.hid (HYes.out wr w1.heap.size _ H1.out.1.size HO.out.1 (H1.out.1.trans (HO.out.2.mono H1.out.1.size))); clear hO hB hlt n1 n2 n3 n4 n5 n6 n7 n8 n9 n10 hj hfj hf hp0 d0 d1 d2 d3 d4 d5; go_wp2_with (fail); exact HZ.out
end Go.Proofs.YtjeeghafachebaaGreat
