/-
  Part 34 of 53 of what the proof leans on.
-/
import Derived.Test.YtjeeghafachebaaGreatG28
import Derived.Test.YtjeeghafachebaaGreatG33
import Derived.Test.YtjeeghafachebaaGreatG22
import Derived.Test.YtjeeghafachebaaGreatG29
import Derived.Test.YtjeeghafachebaaGreatG32
import Derived.Test.YtjeeghafachebaaGreatG16
import Derived.Test.YtjeeghafachebaaGreatG20
namespace Go.Proofs.YtjeeghafachebaaGreat
open Go Go.RowKit
theorem ofW_ne {q : QueryL} {key : List (BitVec 8)} {t : Int} (hq : q.rightB = true) (hk : nameB key = true) (h0 : 0 ≤ t) (h1 : t ≤ 1099511627776) : ofW q key t ≠ [] := by
  have ho : okAsk q key t = true := by rw [okAsk, hq, hk, decide_eq_true ⟨h0, h1⟩]; rfl
  rw [ofW, if_pos ho]
  split
  · simp
  · intro h; have hb := loK_bd hq h0; have hl := congrArg List.length h; rw [runW_length, List.length_nil] at hl; omega
set_option maxRecDepth 100000 in
theorem omade_any (w : World) (q : QueryL) (x : WindowL) (hl : x.key.length ≤ 1000000) (hq : q.rightB = true) (hx : x.rightB = true) :
    Calls Tryz.prog 49 #[.agg q.cells, .agg x.cells] w (Below0 w (.bool (madeB q x))) := by
  have mixed : Tryz.prog.follows .mixedOrders = true := by kernel_rfl
  obtain ⟨r, hr⟩ : ∃ r, r = madeB q x := ⟨_, rfl⟩; rw [← hr]; obtain ⟨w1, hw1⟩ : ∃ W, W = (w.alloc (.cells q.cells 23)).alloc (.cells x.cells 47) := ⟨_, rfl⟩; obtain ⟨qb, hqb⟩ : ∃ b, b = w.heap.size := ⟨_, rfl⟩; obtain ⟨xb, hxb⟩ : ∃ b, b = w.heap.size + 1 := ⟨_, rfl⟩
  have H1 : Hid (RowQ w1 qb q ∧ RowW w1 xb x ∧ Below w.heap.size w w1) := by rw [hw1, hqb, hxb]; exact Lib.hid (box_qw w q x)
  obtain ⟨l, hL⟩ : ∃ l, l = ofW q x.key x.lo := ⟨_, rfl⟩; obtain ⟨c1, c2, c3, c4, c5, c6, c7⟩ := rightW_cases hx
  have hne : l ≠ [] := by rw [hL]; exact ofW_ne hq c1 (by omega) (by omega)
  have hlen : l.length ≤ 1000000 := by
    have := ofW_len q x.key x.lo; rw [hL]; omega
  obtain ⟨VQ, hVQ⟩ : ∃ V, V = Value.agg q.cells := ⟨_, rfl⟩; obtain ⟨VW, hVW⟩ : ∃ V, V = Value.agg x.cells := ⟨_, rfl⟩; obtain ⟨rc, hrc⟩ : ∃ r, r = decide (x ∈ l) := ⟨_, rfl⟩
  have HOf : Hid (∀ w', Calls Tryz.prog 62 #[VQ, Sv x.key, .int .i64 x.lo] w' (WinsEnd w' l)) := by
    rw [hL, hVQ]; exact Lib.hid (fun w' => wof_any w' q x.key x.lo hl)
  have HCo : Hid (∀ w' a c, WinsAt w' a l → Calls Tryz.prog 87 #[.slice a l.length c, VW] w' (Below0 w' (.bool rc))) := by
    rw [hrc, hVW]; exact Lib.hid (fun w' a c h => containsW_any w' a c l x h hne hlen)
  have HR : Hid (r = if q.kind = 3 then decide (q.size ≤ x.hi - x.lo) else rc) := by
    rw [hr, madeB, hrc, hL]; exact Lib.hid rfl
  have hsz := rightQ_bd hq; clear hr hrc hL hne hlen hl hq hx c1 c2 c3; obtain ⟨kind, size, slide, late, agg, kq⟩ := q; obtain ⟨xk, xl, xh⟩ := x; have HVQ : Hid (VQ = .agg #[.int .i64 kind, .int .i64 size, .int .i64 slide, .int .i64 late, .int .i64 agg, .int .i64 kq]) := Lib.hid hVQ; have HVW : Hid (VW = .agg #[Sv xk, .int .i64 xl, .int .i64 xh]) := Lib.hid hVW; clear hVQ hVW; have HQ : Hid (∀ w', Below w1.heap.size w1 w' → D6 w' qb kind size slide late agg kq) := Lib.hid (fun w' h => (H1.out.1.below h).d6); have HW : Hid (∀ w', Below w1.heap.size w1 w' → D3 w' xb xk xl xh) := Lib.hid (fun w' h => (H1.out.2.1.below h).d3); have HB1 := Lib.hid H1.out.2.2; have hs1 : (w.alloc (.cells #[.int .i64 kind, .int .i64 size, .int .i64 slide, .int .i64 late, .int .i64 agg, .int .i64 kq] 23)).heap.size = w.heap.size + 1 := heap_alloc_size w _; unfold QueryL.cells WindowL.cells at hw1 ⊢; simp only at hw1 HOf HR c4 c5 c6 c7 hsz; clear H1; obtain ⟨d0, d1, d2, d3, d4, d5⟩ := HQ.out w1 (Below.refl _ _); obtain ⟨e0, e1, e2⟩ := HW.out w1 (Below.refl _ _)
  by_cases hk : kind = 3
  · subst hk
    obtain rfl : r = decide (size ≤ xh - xl) := by rw [HR.out, if_pos rfl]
    go_enter Tryz.func49, Tryz.ntmps49
    go_upto_region 1 with (fail)
    rw [← hw1, ← hxb, ← hqb]; clear hw1 hxb hqb hs1; go_wp2_with (fail); go_ret; exact ⟨rfl, HB1.out⟩
  · have hk' : (kind == 3) = false := by simpa using hk
    obtain rfl : r = rc := by rw [HR.out, if_neg hk]
    clear hk HR
    go_enter Tryz.func49, Tryz.ntmps49
    go_upto_region 1 with (fail)
    rw [← hw1, ← hxb, ← hqb]; clear hw1 hxb hqb hs1
    go_upto_region 3 with (fail)
    clear d0 d1 d2 d3 d4 d5 e0 e1 e2 hk'; have HG0 : Hid (Below w1.heap.size w1 w1.drew) := Lib.hid (Below.refl _ w1).drew
    refine wp_region_skip_frame (fun i => ([] : List Nat).contains i) (by kernel_rfl) [none, none, none, none, none, none, none, none, none] [] (V4 (VQ :: (Value.pointer (some ⟨xb, 0, none⟩)) :: Sv xk :: (Value.pointer (some ⟨xb, 1, none⟩)) :: (Value.int .i64 xl) :: undef :: VW :: (Value.bool r) :: (Value.bool r) :: ([] : List Value)) 5 (fun _ w' v => ∃ sa sc, v = .slice sa l.length sc ∧ l.length ≤ sc ∧ WinsAt w' sa l) 99 (fun _ _ _ => True) 99 (fun _ _ _ => True) 99 (fun _ _ _ => True)) (fun _ w' => Below w1.heap.size w1 w') (fun w w' => Below w.heap.size w w') (V4_le _ (fun k w w' v h ha => by obtain ⟨sa, sc, h1, h2, h3⟩ := ha; exact ⟨sa, sc, h1, h2, h3.below h⟩) (fun _ _ _ _ _ h => h) (fun _ _ _ _ _ h => h) (fun _ _ _ _ _ h => h)) (by kernel_rfl) (by kernel_rfl) (by kernel_rfl) HG0.out (fun _ => ⟨rfl, rfl, rfl, rfl, rfl, rfl, rfl, rfl, rfl, trivial⟩) (fun _ h => by simp at h) ?_ ?_
    · refine ⟨?_, ?_, ?_, ?_, ?_, ?_, ?_, ?_, ?_, trivial⟩
      · intro _ _ a w' hG hout hpre K hK; have q2 := ev_of ((hout 2 rfl).trans (show _ = .pointer (some ⟨qb, 0, none⟩) from rfl)); obtain ⟨d0, d1, d2, d3, d4, d5⟩ := HQ.out _ hG; clear hout hpre; go_step; exact hK _ _ HVQ.out.symm hG (Below.refl _ _)
      · intro _ _ a w' hG hout hpre K hK; have q3 := ev_of ((hout 3 rfl).trans (show _ = .pointer (some ⟨xb, 0, none⟩) from rfl)); clear hout hpre; go_step; exact hK _ _ rfl hG (Below.refl _ _)
      · intro _ _ a w' hG hout hpre K hK; obtain ⟨p0, _⟩ := hpre; have q17 := ev_of (show a.eval (.tmp 17) = .pointer (some ⟨xb, 0, none⟩) from p0); obtain ⟨e0, e1, e2⟩ := HW.out _ hG; clear hout p0; go_step; exact hK _ _ rfl hG (Below.refl _ _)
      · intro _ _ a w' hG hout hpre K hK; have q3 := ev_of ((hout 3 rfl).trans (show _ = .pointer (some ⟨xb, 0, none⟩) from rfl)); clear hout hpre; go_step; exact hK _ _ rfl hG (Below.refl _ _)
      · intro _ _ a w' hG hout hpre K hK; obtain ⟨p0, _⟩ := hpre; have q19 := ev_of (show a.eval (.tmp 19) = .pointer (some ⟨xb, 1, none⟩) from p0); obtain ⟨e0, e1, e2⟩ := HW.out _ hG; clear hout p0; go_step; exact hK _ _ rfl hG (Below.refl _ _)
      · intro _ _ a w' hG hout hpre K hK; obtain ⟨p0, p1, p2, _⟩ := hpre; have q16 := ev_of (show a.eval (.tmp 16) = VQ from p0); have q18 := ev_of (show a.eval (.tmp 18) = Sv xk from p1); have q20 := ev_of (show a.eval (.tmp 20) = .int .i64 xl from p2); clear hout p0 p1 p2; go_step; refine (HOf.out w').mono ?_; rintro e w3 ⟨sa, sc, rfl, hc, hA, hB⟩; exact hK _ _ ⟨sa, sc, rfl, hc, hA⟩ (hG.trans (hB.mono hG.size)) hB
      · intro _ _ a w' hG hout hpre K hK; have q3 := ev_of ((hout 3 rfl).trans (show _ = .pointer (some ⟨xb, 0, none⟩) from rfl)); obtain ⟨e0, e1, e2⟩ := HW.out _ hG; clear hout hpre; go_step; exact hK _ _ HVW.out.symm hG (Below.refl _ _)
      · intro _ _ a w' hG hout hpre K hK; obtain ⟨p0, p1, _⟩ := hpre; obtain ⟨sa, sc, hv, hc, hA⟩ := (show ∃ sa sc, a.eval (.tmp 21) = .slice sa l.length sc ∧ l.length ≤ sc ∧ WinsAt w' sa l from p0); have q21 := ev_of hv; have q22 := ev_of (show a.eval (.tmp 22) = VW from p1); clear hout p1; have HS := HCo.out w' sa sc hA; clear hA hv hc; go_step; refine HS.mono ?_; rintro e w3 ⟨rfl, hB⟩; exact hK _ _ rfl (hG.trans (hB.mono hG.size)) hB
      · intro _ _ a w' hG hout hpre K hK; obtain ⟨p0, _⟩ := hpre; have q23 := ev_of (show a.eval (.tmp 23) = .bool r from p0); clear hout p0; go_step; exact hK _ _ rfl hG (Below.refl _ _)
    · intro vs w2 hG hlen hV
      match vs, hlen, hV with
      | [v0, v1, v2, v3, v4, v5, v6, v7, v8], _, hV =>
        obtain rfl : v8 = .bool r := (hV 8 4 v8 rfl rfl); clear hV; simp only [putsL, List.tail_cons, List.headD_cons]; simp only [Act.put, List.setIfInBounds_toArray, List.set_cons_succ, List.set_cons_zero]; have HZ := Lib.hid (HB1.out.trans (hG.mono HB1.out.size)); clear hG; go_wp2_with (fail); go_ret; exact ⟨rfl, HZ.out⟩
end Go.Proofs.YtjeeghafachebaaGreat
namespace Go.Proofs.YtjeeghafachebaaGreat
open Go Go.RowKit
set_option maxRecDepth 100000 in
set_option maxHeartbeats 1000000 in
theorem owhole_any (w : World) (q : QueryL) (x : PaneV) (hg : GoodP w x) (hl : x.p.w.key.length ≤ 1000000) (hn : x.p.a.top.length ≤ 1000000) (hq : q.rightB = true) :
    Calls Tryz.prog 29 #[.agg q.cells, .agg x.cells] w (Below0 w (.bool (wholeB q x.p))) := by
  obtain ⟨r, hr⟩ : ∃ r, r = wholeB q x.p := ⟨_, rfl⟩; rw [← hr]; obtain ⟨w1, hw1⟩ : ∃ W, W = (w.alloc (.cells q.cells 23)).alloc (.cells x.cells 55) := ⟨_, rfl⟩; obtain ⟨qb, hqb⟩ : ∃ b, b = w.heap.size := ⟨_, rfl⟩; obtain ⟨pb, hpb⟩ : ∃ b, b = w.heap.size + 1 := ⟨_, rfl⟩
  have H1 : Hid (RowQ w1 qb q ∧ RowP w1 pb x ∧ Below w.heap.size w w1) := by rw [hw1, hqb, hpb]; exact Lib.hid (box_qp w q x)
  have HB1 := Lib.hid H1.out.2.2; obtain ⟨ra, hra⟩ : ∃ r, r = x.p.w.rightB := ⟨_, rfl⟩; obtain ⟨rb, hrb⟩ : ∃ r, r = madeB q x.p.w := ⟨_, rfl⟩; obtain ⟨rc, hrc⟩ : ∃ r, r = x.p.a.rightB q := ⟨_, rfl⟩
  have HRa : Hid (∀ w', Below w1.heap.size w1 w' → Calls Tryz.prog 48 #[.agg x.p.w.cells] w' (Below0 w' (.bool ra))) := by
    rw [hra]; exact Lib.hid (fun w' _ => wright_any w' x.p.w hl)
  have HRb0 : Hid (ra = true → ∀ w', Below w1.heap.size w1 w' → Calls Tryz.prog 49 #[.agg q.cells, .agg x.p.w.cells] w' (Below0 w' (.bool rb))) := by
    rw [hra, hrb]; exact Lib.hid (fun h w' _ => omade_any w' q x.p.w hl hq h)
  have HRc : Hid (∀ w', Below w1.heap.size w1 w' → Calls Tryz.prog 32 #[.agg q.cells, .agg (aggC x.p.a.n x.p.a.a x.tv x.z)] w' (Below0 w' (.bool rc))) := by
    rw [hrc]; exact Lib.hid (fun w' hB => aright_any w' q x.p.a x.tv x.z ((hg.1.below H1.out.2.2).below (hB.mono (Nat.le_refl _))) hg.2 hn)
  have HR : Hid (r = (ra && (rb && (decide (0 < x.p.a.n) && rc)))) := by
    rw [hr, wholeB, hra, hrb, hrc]; exact Lib.hid rfl
  clear hr hra hrb hrc hg hl hn hq; obtain ⟨kind, size, slide, late, agg, kq⟩ := q; obtain ⟨⟨⟨xk, xl, xh⟩, ⟨n, a, top, u, v⟩, rd⟩, tv, z, ht, hz⟩ := x; have HQ : Hid (∀ w', Below w1.heap.size w1 w' → D6 w' qb kind size slide late agg kq) := Lib.hid (fun w' h => (H1.out.1.below h).d6); have HP : Hid (∀ w', Below w1.heap.size w1 w' → D8 w' pb ⟨⟨⟨xk, xl, xh⟩, ⟨n, a, top, u, v⟩, rd⟩, tv, z, ht, hz⟩) := Lib.hid (fun w' h => (H1.out.2.1.below h).d8); have hs1 : (w.alloc (.cells #[.int .i64 kind, .int .i64 size, .int .i64 slide, .int .i64 late, .int .i64 agg, .int .i64 kq] 23)).heap.size = w.heap.size + 1 := heap_alloc_size w _; unfold QueryL.cells PaneV.cells at hw1 ⊢; unfold QueryL.cells WindowL.cells at HRb0; unfold WindowL.cells at HRa; unfold QueryL.cells aggC at HRc; simp only at hw1 HRa HRb0 HRc HR; clear H1
  cases ra with
  | false =>
    obtain rfl : r = false := HR.out; clear HR HRb0 HRc
    go_enter Tryz.func29, Tryz.ntmps29
    go_upto_region 1 with (fail)
    rw [← hw1, ← hpb, ← hqb]; clear hw1 hpb hqb hs1; obtain ⟨d0, d1, d2, d3, d4, d5⟩ := HQ.out w1 (Below.refl _ _); obtain ⟨e0, e1, e2, e3, e4, e5, e6, e7⟩ := HP.out w1 (Below.refl _ _); go_wp2_with (fail); refine (HRa.out w1 (Below.refl _ _)).mono ?_; rintro e w2 ⟨rfl, hB⟩; have HC2 := Lib.hid hB; clear hB d0 d1 d2 d3 d4 d5 e0 e1 e2 e3 e4 e5 e6 e7; dsimp only; go_wp2_with (fail); go_ret; exact ⟨rfl, HB1.out.trans (HC2.out.mono HB1.out.size)⟩
  | true =>
  have HRb := Lib.hid (HRb0.out rfl); clear HRb0
  cases rb with
  | false =>
    obtain rfl : r = false := HR.out; clear HR HRc
    go_enter Tryz.func29, Tryz.ntmps29
    go_upto_region 1 with (fail)
    rw [← hw1, ← hpb, ← hqb]; clear hw1 hpb hqb hs1; obtain ⟨d0, d1, d2, d3, d4, d5⟩ := HQ.out w1 (Below.refl _ _); obtain ⟨e0, e1, e2, e3, e4, e5, e6, e7⟩ := HP.out w1 (Below.refl _ _); go_wp2_with (fail); refine (HRa.out w1 (Below.refl _ _)).mono ?_; rintro e w2 ⟨rfl, hB⟩; have HC2 := Lib.hid hB; clear hB d0 d1 d2 d3 d4 d5 e0 e1 e2 e3 e4 e5 e6 e7; obtain ⟨d0, d1, d2, d3, d4, d5⟩ := HQ.out w2 HC2.out; obtain ⟨e0, e1, e2, e3, e4, e5, e6, e7⟩ := HP.out w2 HC2.out; dsimp only; go_wp2_with (fail); refine (HRb.out w2 HC2.out).mono ?_; rintro e w3 ⟨rfl, hB⟩; have HC3 := Lib.hid (HC2.out.trans (hB.mono HC2.out.size)); clear hB d0 d1 d2 d3 d4 d5 e0 e1 e2 e3 e4 e5 e6 e7; dsimp only; go_wp2_with (fail); go_ret; exact ⟨rfl, HB1.out.trans (HC3.out.mono HB1.out.size)⟩
  | true =>
  by_cases h0 : 0 < n
  · obtain rfl : r = rc := by rw [HR.out, decide_eq_true h0]; rfl
    clear HR
    go_enter Tryz.func29, Tryz.ntmps29
    go_upto_region 1 with (fail)
    rw [← hw1, ← hpb, ← hqb]; clear hw1 hpb hqb hs1; obtain ⟨d0, d1, d2, d3, d4, d5⟩ := HQ.out w1 (Below.refl _ _); obtain ⟨e0, e1, e2, e3, e4, e5, e6, e7⟩ := HP.out w1 (Below.refl _ _); go_wp2_with (fail); refine (HRa.out w1 (Below.refl _ _)).mono ?_; rintro e w2 ⟨rfl, hB⟩; have HC2 := Lib.hid hB; clear hB d0 d1 d2 d3 d4 d5 e0 e1 e2 e3 e4 e5 e6 e7; obtain ⟨d0, d1, d2, d3, d4, d5⟩ := HQ.out w2 HC2.out; obtain ⟨e0, e1, e2, e3, e4, e5, e6, e7⟩ := HP.out w2 HC2.out; dsimp only; go_wp2_with (fail); refine (HRb.out w2 HC2.out).mono ?_; rintro e w3 ⟨rfl, hB⟩; have HC3 := Lib.hid (HC2.out.trans (hB.mono HC2.out.size)); clear hB d0 d1 d2 d3 d4 d5 e0 e1 e2 e3 e4 e5 e6 e7; obtain ⟨d0, d1, d2, d3, d4, d5⟩ := HQ.out w3 HC3.out; obtain ⟨e0, e1, e2, e3, e4, e5, e6, e7⟩ := HP.out w3 HC3.out; dsimp only; go_wp2_with (fail); refine (HRc.out w3 HC3.out).mono ?_; rintro e w4 ⟨rfl, hB⟩; have HC4 := Lib.hid (HC3.out.trans (hB.mono HC3.out.size)); clear hB d0 d1 d2 d3 d4 d5 e0 e1 e2 e3 e4 e5 e6 e7; dsimp only; go_wp2_with (fail); go_ret; exact ⟨rfl, HB1.out.trans (HC4.out.mono HB1.out.size)⟩
  · have h0' : decide (0 < n) = false := decide_eq_false h0
    obtain rfl : r = false := by rw [HR.out, h0']; rfl
    clear HR HRc h0
    go_enter Tryz.func29, Tryz.ntmps29
    go_upto_region 1 with (fail)
    rw [← hw1, ← hpb, ← hqb]; clear hw1 hpb hqb hs1; obtain ⟨d0, d1, d2, d3, d4, d5⟩ := HQ.out w1 (Below.refl _ _); obtain ⟨e0, e1, e2, e3, e4, e5, e6, e7⟩ := HP.out w1 (Below.refl _ _); go_wp2_with (fail); refine (HRa.out w1 (Below.refl _ _)).mono ?_; rintro e w2 ⟨rfl, hB⟩; have HC2 := Lib.hid hB; clear hB d0 d1 d2 d3 d4 d5 e0 e1 e2 e3 e4 e5 e6 e7; obtain ⟨d0, d1, d2, d3, d4, d5⟩ := HQ.out w2 HC2.out; obtain ⟨e0, e1, e2, e3, e4, e5, e6, e7⟩ := HP.out w2 HC2.out; dsimp only; go_wp2_with (fail); refine (HRb.out w2 HC2.out).mono ?_; rintro e w3 ⟨rfl, hB⟩; have HC3 := Lib.hid (HC2.out.trans (hB.mono HC2.out.size)); clear hB d0 d1 d2 d3 d4 d5 e0 e1 e2 e3 e4 e5 e6 e7; obtain ⟨d0, d1, d2, d3, d4, d5⟩ := HQ.out w3 HC3.out; obtain ⟨e0, e1, e2, e3, e4, e5, e6, e7⟩ := HP.out w3 HC3.out; dsimp only; go_wp2_with (fail); go_ret; exact ⟨rfl, HB1.out.trans (HC3.out.mono HB1.out.size)⟩
set_option maxRecDepth 100000 in
set_option maxHeartbeats 1000000 in
theorem oopen_any (w : World) (q : QueryL) (x : PaneV) (mark : Int) (hl : x.p.w.key.length ≤ 1000000) :
    Calls Tryz.prog 30 #[.agg q.cells, .agg x.cells, .int .i64 mark] w (Below0 w (.bool (openB q x.p mark))) := by
  have mixed : Tryz.prog.follows .mixedOrders = true := by kernel_rfl
  obtain ⟨r, hr⟩ : ∃ r, r = openB q x.p mark := ⟨_, rfl⟩; rw [← hr]; obtain ⟨w1, hw1⟩ : ∃ W, W = (w.alloc (.cells q.cells 23)).alloc (.cells x.cells 55) := ⟨_, rfl⟩; obtain ⟨qb, hqb⟩ : ∃ b, b = w.heap.size := ⟨_, rfl⟩; obtain ⟨pb, hpb⟩ : ∃ b, b = w.heap.size + 1 := ⟨_, rfl⟩
  have H1 : Hid (RowQ w1 qb q ∧ RowP w1 pb x ∧ Below w.heap.size w w1) := by rw [hw1, hqb, hpb]; exact Lib.hid (box_qp w q x)
  have HB1 := Lib.hid H1.out.2.2; obtain ⟨ra, hra⟩ : ∃ r, r = goneW q x.p.w mark := ⟨_, rfl⟩; obtain ⟨rb, hrb⟩ : ∃ r, r = ripeW x.p.w mark := ⟨_, rfl⟩
  have HRa : Hid (∀ w', Below w1.heap.size w1 w' → Calls Tryz.prog 50 #[.agg q.cells, .agg x.p.w.cells, .int .i64 mark] w' (Below0 w' (.bool ra))) := by
    rw [hra]; exact Lib.hid (fun w' _ => wgone_any w' q x.p.w mark hl)
  obtain ⟨VW, hVW⟩ : ∃ V, V = Value.agg x.p.w.cells := ⟨_, rfl⟩
  have HRb : Hid (∀ w', Below w1.heap.size w1 w' → Calls Tryz.prog 51 #[VW, .int .i64 mark] w' (Below0 w' (.bool rb))) := by
    rw [hrb, hVW]; exact Lib.hid (fun w' _ => wripe_any w' x.p.w mark hl)
  have HR : Hid (r = (!ra && (decide (0 ≤ x.p.r ∧ x.p.r ≤ 1073741824) && (rb == decide (0 < x.p.r))))) := by
    rw [hr, openB, hra, hrb]; exact Lib.hid rfl
  clear hr hra hrb hl; obtain ⟨kind, size, slide, late, agg, kq⟩ := q; obtain ⟨⟨⟨xk, xl, xh⟩, ⟨n, a, top, u, v⟩, rd⟩, tv, z, ht, hz⟩ := x; have HQ : Hid (∀ w', Below w1.heap.size w1 w' → D6 w' qb kind size slide late agg kq) := Lib.hid (fun w' h => (H1.out.1.below h).d6); have HP : Hid (∀ w', Below w1.heap.size w1 w' → D8 w' pb ⟨⟨⟨xk, xl, xh⟩, ⟨n, a, top, u, v⟩, rd⟩, tv, z, ht, hz⟩) := Lib.hid (fun w' h => (H1.out.2.1.below h).d8); have hs1 : (w.alloc (.cells #[.int .i64 kind, .int .i64 size, .int .i64 slide, .int .i64 late, .int .i64 agg, .int .i64 kq] 23)).heap.size = w.heap.size + 1 := heap_alloc_size w _; unfold QueryL.cells PaneV.cells at hw1 ⊢; unfold QueryL.cells WindowL.cells at HRa; have HVW : Hid (VW = .agg #[Sv xk, .int .i64 xl, .int .i64 xh]) := Lib.hid hVW; clear hVW; simp only at hw1 HRa HR; clear H1
  cases ra with
  | true =>
    obtain rfl : r = false := HR.out; clear HR HRb
    go_enter Tryz.func30, Tryz.ntmps30
    go_upto_region 1 with (fail)
    rw [← hw1, ← hpb, ← hqb]; clear hw1 hpb hqb hs1; obtain ⟨d0, d1, d2, d3, d4, d5⟩ := HQ.out w1 (Below.refl _ _); obtain ⟨e0, e1, e2, e3, e4, e5, e6, e7⟩ := HP.out w1 (Below.refl _ _); go_wp2_with (fail); refine (HRa.out w1 (Below.refl _ _)).mono ?_; rintro e w2 ⟨rfl, hB⟩; have HC2 := Lib.hid hB; clear hB d0 d1 d2 d3 d4 d5 e0 e1 e2 e3 e4 e5 e6 e7; dsimp only; go_wp2_with (fail); go_ret; exact ⟨rfl, HB1.out.trans (HC2.out.mono HB1.out.size)⟩
  | false =>
  by_cases h0 : rd < 0
  · obtain rfl : r = false := by rw [HR.out, decide_eq_false (by omega)]; rfl
    clear HR HRb
    go_enter Tryz.func30, Tryz.ntmps30
    go_upto_region 1 with (fail)
    rw [← hw1, ← hpb, ← hqb]; clear hw1 hpb hqb hs1; obtain ⟨d0, d1, d2, d3, d4, d5⟩ := HQ.out w1 (Below.refl _ _); obtain ⟨e0, e1, e2, e3, e4, e5, e6, e7⟩ := HP.out w1 (Below.refl _ _); go_wp2_with (fail); refine (HRa.out w1 (Below.refl _ _)).mono ?_; rintro e w2 ⟨rfl, hB⟩; have HC2 := Lib.hid hB; clear hB d0 d1 d2 d3 d4 d5 e0 e1 e2 e3 e4 e5 e6 e7; obtain ⟨d0, d1, d2, d3, d4, d5⟩ := HQ.out w2 HC2.out; obtain ⟨e0, e1, e2, e3, e4, e5, e6, e7⟩ := HP.out w2 HC2.out; dsimp only; go_wp2_with (fail); go_ret; exact ⟨rfl, HB1.out.trans (HC2.out.mono HB1.out.size)⟩
  have h0' : decide (rd < 0) = false := decide_eq_false h0
  by_cases h1 : 1073741824 < rd
  · obtain rfl : r = false := by rw [HR.out, decide_eq_false (by omega)]; rfl
    clear HR HRb h0
    go_enter Tryz.func30, Tryz.ntmps30
    go_upto_region 1 with (fail)
    rw [← hw1, ← hpb, ← hqb]; clear hw1 hpb hqb hs1; obtain ⟨d0, d1, d2, d3, d4, d5⟩ := HQ.out w1 (Below.refl _ _); obtain ⟨e0, e1, e2, e3, e4, e5, e6, e7⟩ := HP.out w1 (Below.refl _ _); go_wp2_with (fail); refine (HRa.out w1 (Below.refl _ _)).mono ?_; rintro e w2 ⟨rfl, hB⟩; have HC2 := Lib.hid hB; clear hB d0 d1 d2 d3 d4 d5 e0 e1 e2 e3 e4 e5 e6 e7; obtain ⟨d0, d1, d2, d3, d4, d5⟩ := HQ.out w2 HC2.out; obtain ⟨e0, e1, e2, e3, e4, e5, e6, e7⟩ := HP.out w2 HC2.out; dsimp only; go_wp2_with (fail); go_ret; exact ⟨rfl, HB1.out.trans (HC2.out.mono HB1.out.size)⟩
  have h1' : decide (1073741824 < rd) = false := decide_eq_false h1; obtain ⟨rp, hrp⟩ : ∃ r, r = decide (0 < rd) := ⟨_, rfl⟩; have HRp := Lib.hid hrp
  have hbr : ∀ w', Sem.run Tryz.prog (binOp .eql 4 (.bool rb) (.bool rp)) w' = .ok (.bool (rb == rp)) w' := fun w' => by cases rb <;> cases rp <;> simp [go_sem]
  have HR : Hid (r = (rb == rp)) := by
    rw [HR.out, decide_eq_true (show 0 ≤ rd ∧ rd ≤ 1073741824 by omega), ← hrp]
    exact Lib.hid (Bool.true_and _)
  clear h0 h1 hrp
  go_enter Tryz.func30, Tryz.ntmps30
  go_upto_region 1 with (fail)
  rw [← hw1, ← hpb, ← hqb]; clear hw1 hpb hqb hs1; obtain ⟨d0, d1, d2, d3, d4, d5⟩ := HQ.out w1 (Below.refl _ _); obtain ⟨e0, e1, e2, e3, e4, e5, e6, e7⟩ := HP.out w1 (Below.refl _ _); go_wp2_with (fail); refine (HRa.out w1 (Below.refl _ _)).mono ?_; rintro e w2 ⟨rfl, hB⟩; have HC2 := Lib.hid hB; clear hB d0 d1 d2 d3 d4 d5 e0 e1 e2 e3 e4 e5 e6 e7; obtain ⟨d0, d1, d2, d3, d4, d5⟩ := HQ.out w2 HC2.out; obtain ⟨e0, e1, e2, e3, e4, e5, e6, e7⟩ := HP.out w2 HC2.out; dsimp only
  go_upto_region 3 with (fail)
  clear d0 d1 d2 d3 d4 d5 e0 e1 e2 e3 e4 e5 e6 e7 h0' h1'; have HG0 : Hid (Below w1.heap.size w1 w2.drew) := Lib.hid HC2.out.drew
  refine wp_region_skip_frame (fun i => ([] : List Nat).contains i) (by kernel_rfl) [none, none, none, none, none, none, none, none, none] [] (fun i_ _ _ v_ => v_ = (((Value.pointer (some ⟨pb, 0, none⟩)) :: VW :: (Value.int .i64 mark) :: (Value.bool rb) :: (Value.pointer (some ⟨pb, 7, none⟩)) :: (Value.int .i64 rd) :: (Value.bool rp) :: (Value.bool (rb == rp)) :: (Value.bool (rb == rp)) :: ([] : List Value))).getD i_ undef) (fun _ w' => Below w1.heap.size w1 w') (fun w w' => Below w.heap.size w w') (fun _ _ _ _ _ _ h => h) (by kernel_rfl) (by kernel_rfl) (by kernel_rfl) HG0.out (fun _ => ⟨rfl, rfl, rfl, rfl, rfl, rfl, rfl, rfl, rfl, trivial⟩) (fun _ h => by simp at h) ?_ ?_
  · refine ⟨?_, ?_, ?_, ?_, ?_, ?_, ?_, ?_, ?_, trivial⟩
    · intro _ _ a w' hG hout hpre K hK; have q4 := ev_of ((hout 4 rfl).trans (show _ = .pointer (some ⟨pb, 0, none⟩) from rfl)); clear hout hpre; go_step; exact hK _ _ rfl hG (Below.refl _ _)
    · intro _ _ a w' hG hout hpre K hK; obtain ⟨p0, _⟩ := hpre; have q22 := ev_of (show a.eval (.tmp 22) = .pointer (some ⟨pb, 0, none⟩) from p0); obtain ⟨e0, e1, e2, e3, e4, e5, e6, e7⟩ := HP.out _ hG; clear hout p0; go_step; exact hK _ _ HVW.out.symm hG (Below.refl _ _)
    · intro _ _ a w' hG hout hpre K hK; have q2 := ev_of ((hout 2 rfl).trans (show _ = .int .i64 mark from rfl)); clear hout hpre; go_step; exact hK _ _ rfl hG (Below.refl _ _)
    · intro _ _ a w' hG hout hpre K hK; obtain ⟨p0, p1, _⟩ := hpre; have q23 := ev_of (show a.eval (.tmp 23) = VW from p0); have q24 := ev_of (show a.eval (.tmp 24) = .int .i64 mark from p1); have HS := Lib.hid (HRb.out w' hG); clear hout p0 p1; go_step; refine HS.out.mono ?_; rintro e w3 ⟨rfl, hB⟩; exact hK _ _ rfl (hG.trans (hB.mono hG.size)) hB
    · intro _ _ a w' hG hout hpre K hK; have q4 := ev_of ((hout 4 rfl).trans (show _ = .pointer (some ⟨pb, 0, none⟩) from rfl)); clear hout hpre; go_step; exact hK _ _ rfl hG (Below.refl _ _)
    · intro _ _ a w' hG hout hpre K hK; obtain ⟨p0, _⟩ := hpre; have q26 := ev_of (show a.eval (.tmp 26) = .pointer (some ⟨pb, 7, none⟩) from p0); obtain ⟨e0, e1, e2, e3, e4, e5, e6, e7⟩ := HP.out _ hG; clear hout p0; go_step; exact hK _ _ rfl hG (Below.refl _ _)
    · intro _ _ a w' hG hout hpre K hK; obtain ⟨p0, _⟩ := hpre; have q27 := ev_of (show a.eval (.tmp 27) = .int .i64 rd from p0); have hrp := HRp.out; clear hout p0; go_step; subst hrp; exact hK _ _ rfl hG (Below.refl _ _)
    · intro _ _ a w' hG hout hpre K hK; obtain ⟨p0, p1, _⟩ := hpre; have q25 := ev_of (show a.eval (.tmp 25) = .bool rb from p0); have q28 := ev_of (show a.eval (.tmp 28) = .bool rp from p1); clear hout p0 p1; go_step; exact hK _ _ rfl hG (Below.refl _ _)
    · intro _ _ a w' hG hout hpre K hK; obtain ⟨p0, _⟩ := hpre; have q29 := ev_of (show a.eval (.tmp 29) = .bool (rb == rp) from p0); clear hout p0; go_step; exact hK _ _ rfl hG (Below.refl _ _)
  · intro vs w2 hG hlen hV
    match vs, hlen, hV with
    | [v0, v1, v2, v3, v4, v5, v6, v7, v8], _, hV =>
      obtain rfl : v8 = .bool (rb == rp) := (hV 8 6 v8 rfl rfl); clear hV; simp only [putsL, List.tail_cons, List.headD_cons]; simp only [Act.put, List.setIfInBounds_toArray, List.set_cons_succ, List.set_cons_zero]; have HZ := Lib.hid (HB1.out.trans (hG.mono HB1.out.size)); clear hG; go_wp2_with (fail); go_ret
      exact ⟨by rw [HR.out]; rfl, HZ.out⟩
end Go.Proofs.YtjeeghafachebaaGreat
namespace Go.Proofs.YtjeeghafachebaaGreat
open Go Go.RowKit
def RowS (w : World) (b : Nat) (m : Int) (pv : Value) : Prop := w.heap[b]? = some (.cells #[.int .i64 m, pv] 29 (0, 0))
theorem RowS.lt {w : World} {b : Nat} {m : Int} {pv : Value} (h : RowS w b m pv) : b < w.heap.size := (Array.getElem?_eq_some_iff.1 h).1
theorem RowS.below {w w' : World} {b : Nat} {m : Int} {pv : Value} (h : RowS w b m pv) (hB : Below w.heap.size w w') : RowS w' b m pv := (hB.block b h.lt).trans h
theorem RowS.grown {w w' : World} {b : Nat} {m : Int} {pv : Value} {row : Option Nat} (h : RowS w b m pv) (hg : w.grownBy w' row) (hne : some b ≠ row) : RowS w' b m pv := (hg.block b h.lt hne).trans h
theorem RowS.fro {w : World} {b : Nat} {m : Int} {pv : Value} (h : RowS w b m pv) (i : Nat) : w.frozen? ⟨b, i, none⟩ = false := by
  unfold RowS at h; simp [World.frozen?, h]
def D2 (w : World) (b : Nat) (m : Int) (pv : Value) : Prop := w.cell? ⟨b, 0, none⟩ = some (.int .i64 m) ∧ w.cell? ⟨b, 1, none⟩ = some pv
theorem RowS.d2 {w : World} {b : Nat} {m : Int} {pv : Value} (h : RowS w b m pv) : D2 w b m pv := by
  refine ⟨?_, ?_⟩ <;> (rw [cell_of_row _ _ _ _ _ _ h]; rfl)
theorem RowS.set1 {w : World} {b : Nat} {m : Int} {pv : Value} (h : RowS w b m pv) (x : Value) : RowS (w.setCell ⟨b, 1, none⟩ x) b m x := by
  unfold RowS at *; rw [setCell_eq_setRow w b 1 _ _ (0, 0) _ h]; exact setRow_heap w b _ _ _ _ h
theorem RowS.reset {w : World} {b : Nat} {m : Int} {pv : Value} (h : RowS w b m pv) (m' : Int) (pv' : Value) : RowS (w.setRow b #[.int .i64 m', pv']) b m' pv' := setRow_heap w b _ _ _ _ h
theorem state_size : (Tryz.prog.info? 29).map (·.size) = some 2 := by kernel_rfl
theorem state_one {m : Int} {pv : Value} (h : pv.oneCell' = true) : (#[Value.int .i64 m, pv] : Array Value).all (·.oneCell') = true := by
  rw [Array.all_eq_true']; intro v hv; simp only [List.mem_toArray, List.mem_cons, List.not_mem_nil, or_false] at hv
  rcases hv with rfl | rfl
  · rfl
  · exact h
theorem box_qs (w : World) (q : QueryL) (m : Int) (pv : Value) :
    RowQ ((w.alloc (.cells q.cells 23)).alloc (.cells #[.int .i64 m, pv] 29)) w.heap.size q ∧
      RowS ((w.alloc (.cells q.cells 23)).alloc (.cells #[.int .i64 m, pv] 29)) (w.heap.size + 1) m pv ∧
      Below w.heap.size w ((w.alloc (.cells q.cells 23)).alloc (.cells #[.int .i64 m, pv] 29)) := by
  have k1 := (Below.refl _ w).alloc (Nat.le_refl _) (.cells q.cells 23); have k2 := (Below.refl _ (w.alloc (.cells q.cells 23))).alloc (Nat.le_refl _) (.cells #[.int .i64 m, pv] 29); have hs : (w.alloc (.cells q.cells 23)).heap.size = w.heap.size + 1 := heap_alloc_size w _; refine ⟨RowQ.below (heap_alloc_new w _) k2, ?_, k1.trans (k2.mono k1.size)⟩; rw [← hs]; exact heap_alloc_new _ _
def FitP (l : List PaneV) : Prop := (∀ x ∈ l, x.p.w.key.length ≤ 1000000 ∧ x.p.a.top.length ≤ 1000000) ∧ l.length ≤ 1000000
def okS (q : QueryL) (m : Int) (l : List PaneV) (j : Nat) : Prop := ∀ x, l[j]? = some x → wholeB q x.p = true ∧ openB q x.p m = true
def RRel (w : World) (q : QueryL) (m : Int) (l : List PaneV) (v : Value) (wr : World) : Prop := ∃ i : Nat, i ≤ l.length ∧ v = .int .i64 (i : Int) ∧ (∀ j < i, okS q m l j) ∧ Below w.heap.size w wr
theorem okS_all {q : QueryL} {m : Int} {l : List PaneV} : (l.map PaneV.p).all (fun p => wholeB q p && openB q p m) = true ↔ ∀ j < l.length, okS q m l j := by
  rw [List.all_eq_true]
  constructor
  · intro h j hj x hx; have := h x.p (List.mem_map.2 ⟨x, List.mem_of_getElem? hx, rfl⟩)
    simpa using this
  · intro h p hp; obtain ⟨x, hx, rfl⟩ := List.mem_map.1 hp; obtain ⟨j, hj, rfl⟩ := List.getElem_of_mem hx; have := h j hj _ (List.getElem?_eq_getElem hj); simp [this.1, this.2]
set_option maxRecDepth 100000 in
set_option maxHeartbeats 4000000 in
theorem oright_any (w : World) (q : QueryL) (m : Int) (pv : Value) (l : List PaneV) (hA : PanesIn w pv l) (hG : ∀ x ∈ l, GoodP w x) (hF : FitP l) :
    Calls Tryz.prog 17 #[.agg q.cells, .agg #[.int .i64 m, pv]] w (Below0 w (.bool (rightS q ⟨m, l.map PaneV.p⟩))) := by
  obtain ⟨sa, sc, hpv, hcap, hAt⟩ := hA.form; obtain ⟨n, hN⟩ : ∃ n, n = l.length := ⟨_, rfl⟩; obtain ⟨P, hP⟩ : ∃ P, P = Below0 w (.bool (rightS q ⟨m, l.map PaneV.p⟩)) := ⟨_, rfl⟩; rw [← hP]
  have HNo : Hid (∀ wz, rightS q ⟨m, l.map PaneV.p⟩ = false → Below w.heap.size w wz → P (.returned (.bool false)) wz) := Lib.hid (fun wz h hB => by rw [hP, h]; exact ⟨rfl, hB⟩)
  obtain ⟨rp, hrp⟩ : ∃ r, r = placedB q (l.map PaneV.p) := ⟨_, rfl⟩
  have HYes : Hid (∀ wz, q.rightB = true → ¬ m < -1 → ¬ 1099511627776 < m → ¬ 256 < n → (∀ j < n, okS q m l j) → Below w.heap.size w wz → P (.returned (.bool rp)) wz) := Lib.hid (fun wz h1 h2 h3 h4 h5 hB => by
    have hr : rightS q ⟨m, l.map PaneV.p⟩ = rp := by
      have ha := okS_all.2 (by rw [hN] at h5; exact h5)
      rw [rightS, h1, ha, ← hrp, decide_eq_true (show -1 ≤ m ∧ m ≤ 1099511627776 by omega), decide_eq_true (show (StateL.mk m (l.map PaneV.p)).panes.length ≤ 256 by simp only [List.length_map]; omega)]
      rfl
    rw [hP, hr]
    exact ⟨rfl, hB⟩)
  have HN1 : Hid (q.rightB = false → rightS q ⟨m, l.map PaneV.p⟩ = false) := Lib.hid (fun h => by rw [rightS, h]; rfl)
  have HN2 : Hid (m < -1 ∨ 1099511627776 < m → rightS q ⟨m, l.map PaneV.p⟩ = false) := Lib.hid (fun h => by rw [rightS, decide_eq_false (show ¬ (-1 ≤ m ∧ m ≤ 1099511627776) by omega), Bool.false_and, Bool.and_false])
  have HN3 : Hid (256 < n → rightS q ⟨m, l.map PaneV.p⟩ = false) := Lib.hid (fun h => by
    rw [rightS, decide_eq_false (show ¬ (StateL.mk m (l.map PaneV.p)).panes.length ≤ 256 by simp only [List.length_map]; omega), Bool.false_and, Bool.and_false, Bool.and_false])
  have HN4 : Hid (∀ (j : Nat) (x : PaneV), l[j]? = some x → (wholeB q x.p = false ∨ openB q x.p m = false) → rightS q ⟨m, l.map PaneV.p⟩ = false) := Lib.hid (fun j x hx h => by
    have ha : (l.map PaneV.p).all (fun p => wholeB q p && openB q p m) = false := by
      rw [Bool.eq_false_iff]; intro h'; have := okS_all.1 h' j (List.getElem?_eq_some_iff.1 hx).1 x hx
      rcases h with h | h <;> simp [h] at this
    rw [rightS, ha, Bool.false_and, Bool.and_false, Bool.and_false, Bool.and_false])
  obtain ⟨w1, hw1⟩ : ∃ W, W = (w.alloc (.cells q.cells 23)).alloc (.cells #[.int .i64 m, pv] 29) := ⟨_, rfl⟩; obtain ⟨qb, hqb⟩ : ∃ b, b = w.heap.size := ⟨_, rfl⟩; obtain ⟨sb, hsb⟩ : ∃ b, b = w.heap.size + 1 := ⟨_, rfl⟩
  have H1 : Hid (RowQ w1 qb q ∧ RowS w1 sb m pv ∧ Below w.heap.size w w1) := by rw [hw1, hqb, hsb]; exact Lib.hid (box_qs w q m pv)
  have HB1 := Lib.hid H1.out.2.2; have HA : Hid (PanesAt w1 sa l) := Lib.hid (hAt.below HB1.out); have HGd : Hid (∀ x ∈ l, GoodP w1 x) := Lib.hid (fun x hx => (hG x hx).below HB1.out); have HF := Lib.hid hF
  have hn6 : n ≤ 1000000 := by have := hF.2; omega
  have HN : Hid (n = l.length) := Lib.hid hN; obtain ⟨rq, hrq⟩ : ∃ r, r = q.rightB := ⟨_, rfl⟩
  have HQr : Hid (∀ w', Below w1.heap.size w1 w' → Calls Tryz.prog 28 #[.agg q.cells] w' (Below0 w' (.bool rq))) := by rw [hrq]; exact Lib.hid (fun w' _ => qright_any w' q)
  have HPl : Hid (∀ w', Below w1.heap.size w1 w' → Calls Tryz.prog 31 #[.agg q.cells, .slice sa n sc] w' (Below0 w' (.bool rp))) := by
    rw [hrp, hN]; exact Lib.hid (fun w' h => oplaced_any w' q sa sc l (HA.out.below h) (fun x hx => (HF.out.1 x hx).1) HF.out.2)
  have HWh : Hid (rq = true → ∀ w' x, x ∈ l → Below w1.heap.size w1 w' → Calls Tryz.prog 29 #[.agg q.cells, .agg x.cells] w' (Below0 w' (.bool (wholeB q x.p)))) := by
    rw [hrq]; exact Lib.hid (fun h w' x hx hB => owhole_any w' q x ((HGd.out x hx).below hB) (HF.out.1 x hx).1 (HF.out.1 x hx).2 h)
  have HOp : Hid (∀ w' x, x ∈ l → Calls Tryz.prog 30 #[.agg q.cells, .agg x.cells, .int .i64 m] w' (Below0 w' (.bool (openB q x.p m)))) := Lib.hid (fun w' x hx => oopen_any w' q x m (HF.out.1 x hx).1); rw [← hrq] at HYes HN1; clear hA hG hF hN hrq hrp hP hcap hAt; subst hpv; rw [← HN.out] at hw1 H1 ⊢; obtain ⟨Q, hQ⟩ : ∃ Q, Q = q := ⟨_, rfl⟩; rw [← hQ] at HWh HOp HNo HN1 HN2 HN3 HN4 HYes; obtain ⟨kind, size, slide, late, agg, kq⟩ := q
  have HQv : Hid (Q.cells = #[.int .i64 kind, .int .i64 size, .int .i64 slide, .int .i64 late, .int .i64 agg, .int .i64 kq]) := by rw [hQ]; exact Lib.hid rfl
  clear hQ; have hs1 : (w.alloc (.cells #[.int .i64 kind, .int .i64 size, .int .i64 slide, .int .i64 late, .int .i64 agg, .int .i64 kq] 23)).heap.size = w.heap.size + 1 := heap_alloc_size w _; unfold QueryL.cells at hw1 HQr HPl ⊢; have HQ : Hid (∀ w', Below w1.heap.size w1 w' → D6 w' qb kind size slide late agg kq) := Lib.hid (fun w' h => (H1.out.1.below h).d6); have HS : Hid (∀ w', Below w1.heap.size w1 w' → D2 w' sb m (.slice sa n sc)) := Lib.hid (fun w' h => (H1.out.2.1.below h).d2); simp only at hw1 HQr HPl; clear H1; obtain ⟨d0, d1, d2, d3, d4, d5⟩ := HQ.out w1 (Below.refl _ _); obtain ⟨e0, e1⟩ := HS.out w1 (Below.refl _ _)
  cases rq with
  | false =>
    go_enter Tryz.func17, Tryz.ntmps17
    go_upto_region 1 with (fail)
    rw [← hw1, ← hsb, ← hqb]; clear hw1 hsb hqb hs1; go_wp2_with (fail); refine (HQr.out w1 (Below.refl _ _)).mono ?_; rintro e w2 ⟨rfl, hB⟩; have HC2 := Lib.hid hB; clear hB d0 d1 d2 d3 d4 d5 e0 e1; obtain ⟨e0, e1⟩ := HS.out w2 HC2.out; dsimp only; go_wp2_with (fail)
    exact HNo.out _ (HN1.out (by simp)) (HB1.out.trans (HC2.out.mono HB1.out.size))
  | true =>
  by_cases hm1 : m < -1
  · have HM := Lib.hid hm1; have hm1' : decide (m < -1) = true := decide_eq_true hm1; clear hm1
    go_enter Tryz.func17, Tryz.ntmps17
    go_upto_region 1 with (fail)
    rw [← hw1, ← hsb, ← hqb]; clear hw1 hsb hqb hs1; go_wp2_with (fail); refine (HQr.out w1 (Below.refl _ _)).mono ?_; rintro e w2 ⟨rfl, hB⟩; have HC2 := Lib.hid hB; clear hB d0 d1 d2 d3 d4 d5 e0 e1; obtain ⟨e0, e1⟩ := HS.out w2 HC2.out; dsimp only; go_wp2_with (fail); exact HNo.out _ (HN2.out (.inl HM.out)) (HB1.out.trans (HC2.out.mono HB1.out.size))
  have hm1' : decide (m < -1) = false := decide_eq_false hm1
  by_cases hm2 : 1099511627776 < m
  · have HM := Lib.hid hm2; have hm2' : decide (1099511627776 < m) = true := decide_eq_true hm2; clear hm1 hm2
    go_enter Tryz.func17, Tryz.ntmps17
    go_upto_region 1 with (fail)
    rw [← hw1, ← hsb, ← hqb]; clear hw1 hsb hqb hs1; go_wp2_with (fail); refine (HQr.out w1 (Below.refl _ _)).mono ?_; rintro e w2 ⟨rfl, hB⟩; have HC2 := Lib.hid hB; clear hB d0 d1 d2 d3 d4 d5 e0 e1; obtain ⟨e0, e1⟩ := HS.out w2 HC2.out; dsimp only; go_wp2_with (fail); exact HNo.out _ (HN2.out (.inr HM.out)) (HB1.out.trans (HC2.out.mono HB1.out.size))
  have hm2' : decide (1099511627776 < m) = false := decide_eq_false hm2
  by_cases hm3 : 256 < n
  · have HM := Lib.hid hm3
    have hm3' : decide ((256 : Int) < (n : Int)) = true := decide_eq_true (by omega)
    clear hm1 hm2 hm3
    go_enter Tryz.func17, Tryz.ntmps17
    go_upto_region 1 with (fail)
    rw [← hw1, ← hsb, ← hqb]; clear hw1 hsb hqb hs1; go_wp2_with (fail); refine (HQr.out w1 (Below.refl _ _)).mono ?_; rintro e w2 ⟨rfl, hB⟩; have HC2 := Lib.hid hB; clear hB d0 d1 d2 d3 d4 d5 e0 e1; obtain ⟨e0, e1⟩ := HS.out w2 HC2.out; dsimp only; go_wp2_with (fail); exact HNo.out _ (HN3.out HM.out) (HB1.out.trans (HC2.out.mono HB1.out.size))
  have hm3' : decide ((256 : Int) < (n : Int)) = false := decide_eq_false (by omega)
  have HM := Lib.hid (And.intro hm1 (And.intro hm2 hm3)); clear hm1 hm2 hm3 HN1 HN2 HN3
  go_enter Tryz.func17, Tryz.ntmps17
  go_upto_region 1 with (fail)
  rw [← hw1, ← hsb, ← hqb]; clear hw1 hsb hqb hs1; go_wp2_with (fail); refine (HQr.out w1 (Below.refl _ _)).mono ?_; rintro e w2 ⟨rfl, hB⟩; have HC2 := Lib.hid hB; clear hB d0 d1 d2 d3 d4 d5 e0 e1; obtain ⟨e0, e1⟩ := HS.out w2 HC2.out; dsimp only; go_wp2_with (fail); clear e0 e1 hm1' hm2' hm3'
  go_loopw [29] (RRel w1 Q m l) (fun v _ => n - (intOf v).toNat)
  case atStart => exact ⟨0, Nat.zero_le _, rfl, fun j h => absurd h (Nat.not_lt_zero _), HC2.out⟩
  case round =>
    obtain ⟨i, hi, rfl, hok, hB⟩ := hrel; rw [← HN.out] at hi; have HO := Lib.hid (And.intro hok hB); clear hok hB
    by_cases hlt : i < n
    · have hi0 : (0 : Int) ≤ (i : Int) ∧ (i : Int) < (n : Int) := by omega
      obtain ⟨x, pa, oa, hx, hsa, c0, c1, c2, c3, c4, c5, c6, c7⟩ := (HA.out.below HO.out.2).get (t := i) (by rw [← HN.out]; exact hlt)
      subst hsa; have HX := Lib.hid hx; have HI := Lib.hid (And.intro hlt hi); clear hx hi hlt; obtain ⟨⟨⟨xk, xl, xh⟩, ⟨xn, xa, xt, xu, xv⟩, xr⟩, xtv, xz, xht, xhz⟩ := x; simp only at c0 c1 c2 c3 c4 c5 c6 c7
      go_upto_region 5 with (fail)
      refine wp_region_lit ?_
      iterate 9 go_step
      refine wpList_store_row rfl _ _ _ rfl wr.heap.size (PaneV.mk ⟨⟨xk, xl, xh⟩, ⟨xn, xa, xt, xu, xv⟩, xr⟩ xtv xz xht xhz).cells rfl rfl 55 zeroPV.cells (heap_alloc_new wr _) pane_size rfl (pane_one _) ?_; obtain ⟨wx, hwx⟩ : ∃ W, W = (wr.alloc (Obj.cells #[.string ⟨#[]⟩, .int .i64 0, .int .i64 0, .int .i64 0, .int .i64 0, .slice none 0 0, .complex .f64 0 0, .int .i64 0] 55)).setRow wr.heap.size (PaneV.mk ⟨⟨xk, xl, xh⟩, ⟨xn, xa, xt, xu, xv⟩, xr⟩ xtv xz xht xhz).cells := ⟨_, rfl⟩; obtain ⟨xb, hxb⟩ : ∃ b, b = wr.heap.size := ⟨_, rfl⟩
      have Hwx : Hid (RowP wx xb (PaneV.mk ⟨⟨xk, xl, xh⟩, ⟨xn, xa, xt, xu, xv⟩, xr⟩ xtv xz xht xhz) ∧ Below w1.heap.size w1 wx) := by
        obtain ⟨k1, k2⟩ := stored_pane wr (PaneV.mk ⟨⟨xk, xl, xh⟩, ⟨xn, xa, xt, xu, xv⟩, xr⟩ xtv xz xht xhz); rw [hwx, hxb]; exact Lib.hid ⟨k1, HO.out.2.trans (k2.mono HO.out.2.size)⟩
      rw [← hwx, ← hxb]; clear hwx hxb c0 c1 c2 c3 c4 c5 c6 c7; obtain ⟨X, hX⟩ : ∃ X, X = (PaneV.mk ⟨⟨xk, xl, xh⟩, ⟨xn, xa, xt, xu, xv⟩, xr⟩ xtv xz xht xhz) := ⟨_, rfl⟩; obtain ⟨ra, hra⟩ : ∃ r, r = wholeB Q X.p := ⟨_, rfl⟩; obtain ⟨rb, hrb⟩ : ∃ r, r = openB Q X.p m := ⟨_, rfl⟩
      have HWx : Hid (∀ w', Below w1.heap.size w1 w' → Calls Tryz.prog 29 #[.agg #[.int .i64 kind, .int .i64 size, .int .i64 slide, .int .i64 late, .int .i64 agg, .int .i64 kq], .agg (PaneV.mk ⟨⟨xk, xl, xh⟩, ⟨xn, xa, xt, xu, xv⟩, xr⟩ xtv xz xht xhz).cells] w' (Below0 w' (.bool ra))) := Lib.hid (fun w' h => by
        have := HWh.out (by simp) w' (PaneV.mk ⟨⟨xk, xl, xh⟩, ⟨xn, xa, xt, xu, xv⟩, xr⟩ xtv xz xht xhz) (List.mem_of_getElem? HX.out) h
        rw [hra, hX, ← HQv.out]
        exact this)
      have HOx : Hid (∀ w', Calls Tryz.prog 30 #[.agg #[.int .i64 kind, .int .i64 size, .int .i64 slide, .int .i64 late, .int .i64 agg, .int .i64 kq], .agg (PaneV.mk ⟨⟨xk, xl, xh⟩, ⟨xn, xa, xt, xu, xv⟩, xr⟩ xtv xz xht xhz).cells, .int .i64 m] w' (Below0 w' (.bool rb))) := Lib.hid (fun w' => by
        have := HOp.out w' (PaneV.mk ⟨⟨xk, xl, xh⟩, ⟨xn, xa, xt, xu, xv⟩, xr⟩ xtv xz xht xhz) (List.mem_of_getElem? HX.out); rw [hrb, hX, ← HQv.out]
        exact this)
      have HXe : Hid (l[i]? = some X) := by rw [hX]; exact Lib.hid HX.out
      have HRa := Lib.hid hra; have HRb := Lib.hid hrb; clear hra hrb hX HX; unfold PaneV.cells at HWx HOx; simp only at HWx HOx; obtain ⟨d0, d1, d2, d3, d4, d5⟩ := HQ.out wx Hwx.out.2; obtain ⟨f0, f1, f2, f3, f4, f5, f6, f7⟩ := Hwx.out.1.d8
      cases ra with
      | false =>
        go_wp2_with (fail); refine (HWx.out wx Hwx.out.2).mono ?_; rintro e w3 ⟨rfl, hB⟩; have HZ := Lib.hid (Hwx.out.2.trans (hB.mono Hwx.out.2.size)); clear hB d0 d1 d2 d3 d4 d5 f0 f1 f2 f3 f4 f5 f6 f7; dsimp only; go_wp2_with (fail); exact HNo.out _ (HN4.out i X HXe.out (.inl HRa.out.symm)) (HB1.out.trans (HZ.out.mono HB1.out.size))
      | true =>
      cases rb with
      | false =>
        go_wp2_with (fail); refine (HWx.out wx Hwx.out.2).mono ?_; rintro e w3 ⟨rfl, hB⟩; have HZ : Hid (RowP w3 xb (PaneV.mk ⟨⟨xk, xl, xh⟩, ⟨xn, xa, xt, xu, xv⟩, xr⟩ xtv xz xht xhz) ∧ Below w1.heap.size w1 w3) := Lib.hid ⟨Hwx.out.1.below hB, Hwx.out.2.trans (hB.mono Hwx.out.2.size)⟩; clear hB d0 d1 d2 d3 d4 d5 f0 f1 f2 f3 f4 f5 f6 f7; obtain ⟨d0, d1, d2, d3, d4, d5⟩ := HQ.out w3 HZ.out.2; obtain ⟨f0, f1, f2, f3, f4, f5, f6, f7⟩ := HZ.out.1.d8; obtain ⟨e0, e1⟩ := HS.out w3 HZ.out.2; dsimp only; go_wp2_with (fail); refine (HOx.out w3).mono ?_; rintro e w4 ⟨rfl, hB⟩; have HZ4 := Lib.hid (HZ.out.2.trans (hB.mono HZ.out.2.size)); clear hB d0 d1 d2 d3 d4 d5 f0 f1 f2 f3 f4 f5 f6 f7 e0 e1; dsimp only; go_wp2_with (fail); exact HNo.out _ (HN4.out i X HXe.out (.inr HRb.out.symm)) (HB1.out.trans (HZ4.out.mono HB1.out.size))
      | true =>
        go_wp2_with (fail); refine (HWx.out wx Hwx.out.2).mono ?_; rintro e w3 ⟨rfl, hB⟩; have HZ : Hid (RowP w3 xb (PaneV.mk ⟨⟨xk, xl, xh⟩, ⟨xn, xa, xt, xu, xv⟩, xr⟩ xtv xz xht xhz) ∧ Below w1.heap.size w1 w3) := Lib.hid ⟨Hwx.out.1.below hB, Hwx.out.2.trans (hB.mono Hwx.out.2.size)⟩; clear hB d0 d1 d2 d3 d4 d5 f0 f1 f2 f3 f4 f5 f6 f7; obtain ⟨d0, d1, d2, d3, d4, d5⟩ := HQ.out w3 HZ.out.2; obtain ⟨f0, f1, f2, f3, f4, f5, f6, f7⟩ := HZ.out.1.d8; obtain ⟨e0, e1⟩ := HS.out w3 HZ.out.2; dsimp only; go_wp2_with (fail); refine (HOx.out w3).mono ?_; rintro e w4 ⟨rfl, hB⟩; have HZ4 := Lib.hid (HZ.out.2.trans (hB.mono HZ.out.2.size)); clear hB d0 d1 d2 d3 d4 d5 f0 f1 f2 f3 f4 f5 f6 f7 e0 e1; dsimp only; go_wp2_with (fail)
        refine ⟨⟨i + 1, by rw [← HN.out]; exact HI.out.1, rfl, fun j hj y hy => ?_, HZ4.out⟩, by rw [intOf_i, intOf_i]; have := HI.out.1; omega⟩
        rcases Nat.lt_or_ge j i with hji | hji
        · exact HO.out.1 j hji y hy
        · obtain rfl : j = i := by omega
          have e1 := hy.symm.trans HXe.out
          cases e1
          exact ⟨HRa.out.symm, HRb.out.symm⟩
    · obtain rfl : i = n := by omega
      clear hlt; obtain ⟨d0, d1, d2, d3, d4, d5⟩ := HQ.out wr HO.out.2; obtain ⟨e0, e1⟩ := HS.out wr HO.out.2; go_wp2_with (fail); refine (HPl.out wr HO.out.2).mono ?_; rintro e w3 ⟨rfl, hB⟩; have HZ := Lib.hid (HO.out.2.trans (hB.mono HO.out.2.size)); clear hB d0 d1 d2 d3 d4 d5 e0 e1; dsimp only; go_wp2_with (fail)
      exact HYes.out _ (by simp) HM.out.1 HM.out.2.1 HM.out.2.2 HO.out.1 (HB1.out.trans (HZ.out.mono HB1.out.size))
end Go.Proofs.YtjeeghafachebaaGreat
namespace Go.Proofs.YtjeeghafachebaaGreat
open Go Go.RowKit
theorem cellsLP_cons (y : PaneV) (l : List PaneV) : cellsLP (y :: l) = y.cells.toList ++ cellsLP l := rfl
theorem cellsLP_setTv : ∀ (l : List PaneV) (i : Nat) (x : PaneV) (tv : Value) (ht : tv.oneCell' = true), l[i]? = some x → (cellsLP l).set (i * 8 + 5) tv = cellsLP (l.set i ⟨x.p, tv, x.z, ht, x.hz⟩)
  | [], _, _, _, _, h => by simp at h
  | y :: l, 0, x, tv, ht, h => by
    simp only [List.getElem?_cons_zero, Option.some.injEq] at h; subst h; rfl
  | y :: l, i + 1, x, tv, ht, h => by
    have ih := cellsLP_setTv l i x tv ht (by simpa using h)
    have hy : y.cells.toList.length = 8 := rfl
    rw [cellsLP_cons, List.set_cons_succ, cellsLP_cons, List.set_append_right _ _ (by omega), hy, show (i + 1) * 8 + 5 - 8 = i * 8 + 5 by omega, ih]
theorem OwnP.setTv {w : World} {base g c n : Nat} {l : List PaneV} (h : OwnP w base (.slice (some ⟨g, 0, none⟩) n c) l) (hn : n = l.length) {i : Nat} {x : PaneV} (hx : l[i]? = some x) (tv : Value) (ht : tv.oneCell' = true) :
    OwnP (w.setCell ⟨g, i * 8 + 5, none⟩ tv) base (.slice (some ⟨g, 0, none⟩) n c) (l.set i ⟨x.p, tv, x.z, ht, x.hz⟩) := by
  subst hn; unfold OwnP; rw [List.length_set, ← cellsLP_setTv l i x tv ht hx]; exact (World.ownsRow.stored h _ _).1
theorem OwnP.cell {w : World} {base g c n : Nat} {l : List PaneV} (h : OwnP w base (.slice (some ⟨g, 0, none⟩) n c) l) (hn : n = l.length) {i : Nat} {x : PaneV} (hx : l[i]? = some x) {j : Nat} {u : Value} (hj : x.cells[j]? = some u) : w.cell? ⟨g, i * 8 + j, none⟩ = some u := by
  subst hn; unfold OwnP at h; have hi : i < l.length := (List.getElem?_eq_some_iff.1 hx).1; have hj8 : j < 8 := cellsP_lt hj
  rw [World.ownsRow.cellAt h _ (by omega)]
  exact cellsLP_at l i x j u hx hj
theorem OwnP.shape {w : World} {base : Nat} {v : Value} {l : List PaneV} (h : OwnP w base v l) : (v = nilV ∧ l = []) ∨ ∃ g c, v = .slice (some ⟨g, 0, none⟩) l.length c ∧ l.length ≤ c := by
  rcases h.2 with ⟨h1, h2⟩ | ⟨g, cap, cur, h1, _, _, hle, _⟩
  · exact .inl ⟨h1, List.eq_nil_of_length_eq_zero h2⟩
  · exact .inr ⟨g, cap, h1, hle⟩
def Off (v : Value) (sb rb : Nat) (tv : Value) (l : List Int) : Prop := ∀ a n c, tv = .slice (some a) n c → l ≠ [] → v.ownBlock ≠ some a.block ∧ a.block ≠ sb ∧ a.block ≠ rb
def CpI (w : World) (sb rb : Nat) (m : Int) (v : Value) (L : List PaneV) (wr : World) : Prop := RowS wr sb m v ∧ RowS wr rb 0 nilV ∧ OwnP wr (rb + 1) v L ∧ Below w.heap.size w wr ∧ ∀ x ∈ L, GoodP wr x ∧ Off v sb rb x.tv x.p.a.top
theorem CpI.below {w : World} {sb rb : Nat} {m : Int} {v : Value} {L : List PaneV} {wr wz : World} (h : CpI w sb rb m v L wr) (hB : Below wr.heap.size wr wz) : CpI w sb rb m v L wz :=
  ⟨h.1.below hB, h.2.1.below hB, h.2.2.1.far hB, h.2.2.2.1.trans (hB.mono h.2.2.2.1.size), fun x hx => ⟨(h.2.2.2.2 x hx).1.below hB, (h.2.2.2.2 x hx).2⟩⟩
theorem set_same {L : List PaneV} {i : Nat} {x y : PaneV} (h : L[i]? = some x) (e : y.p = x.p) : (L.set i y).map PaneV.p = L.map PaneV.p := by
  apply List.ext_getElem?
  intro j; rw [List.getElem?_map, List.getElem?_map, List.getElem?_set]
  by_cases hj : i = j
  · subst hj; have hi := (List.getElem?_eq_some_iff.1 h).1; rw [if_pos rfl, if_pos hi, h]; simp [e]
  · rw [if_neg hj]
def CpRel (w : World) (sb rb : Nat) (m : Int) (v : Value) (ps : List PaneL) (i : Value) (wr : World) : Prop := ∃ k : Nat, k ≤ ps.length ∧ i = .int .i64 (k : Int) ∧ ∃ L, L.map PaneV.p = ps ∧ CpI w sb rb m v L wr
def StateEnd (w : World) (s : StateL) (e : Ending) (w' : World) : Prop := ∃ v, e = .returned v ∧ HasS w' v s ∧ Below w.heap.size w w'
def CpG (w : World) (sb rb g : Nat) (m : Int) (n c i : Nat) (L : List PaneV) (x : PaneV) : Nat → World → Prop
  | 0, w' => CpI w sb rb m (.slice (some ⟨g, 0, none⟩) n c) L w'
  | 1, w' => CpI w sb rb m (.slice (some ⟨g, 0, none⟩) n c) L w'
  | 2, w' => CpI w sb rb m (.slice (some ⟨g, 0, none⟩) n c) L w'
  | _ + 3, w' => ∃ tv ht, CpI w sb rb m (.slice (some ⟨g, 0, none⟩) n c) (L.set i ⟨x.p, tv, x.z, ht, x.hz⟩) w'
theorem box_s2 (w : World) (m : Int) (pv : Value) :
    RowS ((w.alloc (.cells #[.int .i64 m, pv] 29)).alloc (.cells #[.int .i64 0, nilV] 29)) w.heap.size m pv ∧ RowS ((w.alloc (.cells #[.int .i64 m, pv] 29)).alloc (.cells #[.int .i64 0, nilV] 29)) (w.heap.size + 1) 0 nilV ∧
      Below w.heap.size w ((w.alloc (.cells #[.int .i64 m, pv] 29)).alloc (.cells #[.int .i64 0, nilV] 29)) ∧ ((w.alloc (.cells #[.int .i64 m, pv] 29)).alloc (.cells #[.int .i64 0, nilV] 29)).heap.size = w.heap.size + 2 := by
  have k1 := (Below.refl _ w).alloc (Nat.le_refl _) (.cells #[.int .i64 m, pv] 29); have k2 := (Below.refl _ (w.alloc (.cells #[.int .i64 m, pv] 29))).alloc (Nat.le_refl _) (.cells #[.int .i64 0, nilV] 29); have hs : (w.alloc (.cells #[.int .i64 m, pv] 29)).heap.size = w.heap.size + 1 := heap_alloc_size w _
  refine ⟨RowS.below (heap_alloc_new w _) k2, ?_, k1.trans (k2.mono k1.size), by rw [heap_alloc_size, hs]⟩
  rw [← hs]; exact heap_alloc_new _ _
set_option maxRecDepth 100000 in
set_option maxHeartbeats 4000000 in
theorem ocopied_any (w : World) (m : Int) (pv : Value) (l : List PaneV) (hA : PanesIn w pv l) (hG : ∀ x ∈ l, GoodP w x) (hF : FitP l) :
    Calls Tryz.prog 20 #[.agg #[.int .i64 m, pv]] w (StateEnd w ⟨m, l.map PaneV.p⟩) := by
  have mixed : Tryz.prog.follows .mixedOrders = true := by kernel_rfl
  obtain ⟨P, hP⟩ : ∃ P, P = StateEnd w ⟨m, l.map PaneV.p⟩ := ⟨_, rfl⟩; rw [← hP]; obtain ⟨ps, hps⟩ : ∃ ps, ps = l.map PaneV.p := ⟨_, rfl⟩; obtain ⟨n, hN⟩ : ∃ n, n = ps.length := ⟨_, rfl⟩
  have hn6 : n ≤ 1000000 := by rw [hN, hps, List.length_map]; exact hF.2
  have HP : Hid (∀ wz v L, PanesIn wz v L → (∀ x ∈ L, GoodP wz x) → L.map PaneV.p = ps → Below w.heap.size w wz → P (.returned (.agg #[.int .i64 m, v])) wz) := by
    rw [hP, ← hps]; exact Lib.hid (fun wz v L h1 h2 h3 hB => ⟨_, rfl, ⟨v, L, rfl, h1, h2, h3.symm⟩, hB⟩)
  obtain ⟨w1, hw1⟩ : ∃ W, W = (w.alloc (.cells #[.int .i64 m, pv] 29)).alloc (.cells #[.int .i64 0, .slice none 0 0] 29) := ⟨_, rfl⟩; obtain ⟨sb, hsb⟩ : ∃ b, b = w.heap.size := ⟨_, rfl⟩; obtain ⟨rb, hrb⟩ : ∃ b, b = w.heap.size + 1 := ⟨_, rfl⟩
  have H1 : Hid (RowS w1 sb m pv ∧ RowS w1 rb 0 nilV ∧ Below w.heap.size w w1 ∧ w1.heap.size = rb + 1) := by rw [hw1, hsb, hrb]; exact Lib.hid (box_s2 w m pv)
  have HL : Hid (∀ x ∈ l, GoodP w1 x ∧ ∀ a n c, x.tv = .slice (some a) n c → x.p.a.top ≠ [] → a.block < w.heap.size) := Lib.hid (fun x hx => by
    have h := hG x hx; refine ⟨h.below H1.out.2.2.1, fun a n c e hne => ?_⟩; obtain ⟨a', c', e', _, h'⟩ := h.1
    rcases h' with ⟨_, h'⟩ | ⟨b, o, ha, _, h'⟩
    · exact absurd h' hne
    · rw [e'] at e
      cases e
      cases ha
      cases ht : x.p.a.top with
      | nil => exact absurd ht hne
      | cons y t => exact block_lt_of_cell (h' 0 y (by rw [ht]; rfl)))
  have HCl : Hid (Calls Tryz.prog 36 #[pv] w1 (fun e w' => ∃ v', e = .returned v' ∧ OwnP w' w1.heap.size v' l ∧ Below w1.heap.size w1 w')) := Lib.hid (clonePs_any w1 pv l (hA.below H1.out.2.2.1) hF.2)
  have HT : Hid (∀ x : PaneV, x.p ∈ ps → x.p.a.top.length ≤ 1000000) := Lib.hid (fun x hx => by
    rw [hps] at hx; obtain ⟨y, hy, e⟩ := List.mem_map.1 hx; rw [← e]
    exact (hF.1 y hy).2)
  have HN : Hid (n = ps.length ∧ l.map PaneV.p = ps ∧ l.length = n) := Lib.hid ⟨hN, hps.symm, by rw [hN, hps, List.length_map]⟩
  have HB0 : Hid (w.heap.size ≤ sb ∧ sb < rb ∧ rb + 1 = w1.heap.size) := Lib.hid ⟨by omega, by omega, H1.out.2.2.2.symm⟩
  clear hN hps hG hF hP
  obtain ⟨sa, sn, sc, hpv⟩ : ∃ a n c, pv = .slice a n c := by
    obtain ⟨a, c, h, _⟩ := hA; exact ⟨_, _, _, h⟩
  clear hA; subst hpv; obtain ⟨e0, e1⟩ := H1.out.1.d2; have hs1 : (w.alloc (.cells #[.int .i64 m, .slice sa sn sc] 29)).heap.size = w.heap.size + 1 := heap_alloc_size w _
  go_enter Tryz.func20, Tryz.ntmps20
  go_upto_region 1 with (fail)
  rw [← hw1, ← hrb, ← hsb]; clear hw1 hrb hsb hs1; refine wp_region_lit ?_
  iterate 6 go_step
  refine wpList_plain rfl fun K hK => ?_; go_step; refine HCl.out.mono ?_; rintro e w2 ⟨v2, rfl, hO, hB⟩; refine hK _ _ ?_; clear hK
  have H2 : Hid (RowS w2 sb m (.slice sa sn sc) ∧ RowS w2 rb 0 nilV ∧ OwnP w2 (rb + 1) v2 l ∧ Below w.heap.size w w2 ∧ ∀ x ∈ l, GoodP w2 x ∧ Off v2 sb rb x.tv x.p.a.top) := by
    obtain ⟨j1, j2, j3, j4⟩ := H1.out; rw [← j4]; refine Lib.hid ⟨j1.below hB, j2.below hB, hO, j3.trans (hB.mono j3.size), fun x hx => ⟨(HL.out x hx).1.below hB, fun a n c e hne => ?_⟩⟩; have h1 := (HL.out x hx).2 a n c e hne; have hb := HB0.out
    refine ⟨fun he => ?_, by omega, by omega⟩
    have h2 := (hO.lt he).1; omega
  have hsh := hO.shape; rw [HN.out.2.2] at hsh; clear hO hB H1 HCl HL e0 e1
  have hv2 : v2.oneCell' = true ∧ v2.cells = #[v2] := by
    rcases hsh with ⟨rfl, _⟩ | ⟨g, c, rfl, _⟩ <;> exact ⟨rfl, rfl⟩
  obtain ⟨e0, e1⟩ := H2.out.1.d2
  iterate 3 go_step
  refine wpList_store1 rfl _ (.tmp 7) (.tmp 6) rfl ⟨sb, 1, none⟩ v2 (.slice sa sn sc) rfl rfl hv2.2 hv2.1 Tryz.sizeOf27 e1 (RowS.fro H2.out.1 1) ?_; obtain ⟨w3, hw3⟩ : ∃ W, W = w2.setCell ⟨sb, 1, none⟩ v2 := ⟨_, rfl⟩
  have H3 : Hid (CpI w sb rb m v2 l w3) := by
    have hg : w2.grownBy w3 (some sb) := by rw [hw3]; exact grown_setCell _ _ _ _
    obtain ⟨j1, j2, j3, j4, j5⟩ := H2.out; have hb := HB0.out
    refine Lib.hid ⟨by rw [hw3]; exact j1.set1 v2, j2.grown hg (by simp; omega), j3.kept hg (.inr (fun e => by have := j3.lt e; omega)), j4.trans (below_set hg hb.1 j4.size), fun x hx => ⟨⟨(j5 x hx).1.1.grown hg (fun a n' c e hne => ?_), (j5 x hx).1.2⟩, (j5 x hx).2⟩⟩
    exact ((j5 x hx).2 a n' c e hne).2.1
  rw [← hw3]; clear hw3 e0 e1 H2
  rcases hsh with ⟨rfl, hl⟩ | ⟨g, c, rfl, hc⟩
  · have h0 : n = 0 := by rw [← HN.out.2.2, hl]; rfl
    subst h0; obtain ⟨e0, e1⟩ := H3.out.1.d2; unfold nilV at e1; go_wp2_with (fail)
    go_loopg [11] 0 (fun _ s11 wr => s11 = .int .i64 0 ∧ wr = w3)
    case atStart => exact ⟨rfl, rfl⟩
    case round =>
      obtain ⟨rfl, hw⟩ := hrel; subst hw
      go_upto_region 7 with (fail)
      refine wp_region_lit ?_
      iterate 3 go_step
      refine wpList_store_row rfl _ _ _ rfl rb #[.int .i64 m, (.slice none 0 0)] rfl rfl 29 #[.int .i64 0, nilV] H3.out.2.1 state_size rfl (state_one (by rfl)) ?_
      obtain ⟨w9, hw9⟩ : ∃ W, W = wr.setRow rb #[.int .i64 m, (.slice none 0 0)] := ⟨_, rfl⟩
      have H9 : Hid (RowS w9 rb m (.slice none 0 0) ∧ P (.returned (.agg #[.int .i64 m, (.slice none 0 0)])) w9) := by
        have hg : wr.grownBy w9 (some rb) := by rw [hw9]; exact grown_setRow _ _ _
        obtain ⟨j1, j2, j3, j4, j5⟩ := H3.out; have hb := HB0.out
        have hO := j3.kept hg (.inr (fun e => by have := j3.lt e; omega))
        refine Lib.hid ⟨by rw [hw9]; exact j2.reset m (.slice none 0 0), HP.out w9 (.slice none 0 0) l hO.ins (fun x hx => ⟨(j5 x hx).1.1.grown hg (fun a n' c e hne => ?_), (j5 x hx).1.2⟩) HN.out.2.1 (j4.trans (below_set hg (by omega) j4.size))⟩
        exact ((j5 x hx).2 a n' c e hne).2.2
      rw [← hw9]; clear hw9; go_wp2_with (fail); exact bodyPost_ret (v := .agg #[.int .i64 m, (.slice none 0 0)]) (results_cell_row (p := 2) (ty := 29) rfl _ _ rb 29 #[.int .i64 m, (.slice none 0 0)] (0, 0) _ rfl H9.out.1 Tryz.underlying29 rfl state_size) rfl H9.out.2
  · obtain ⟨e0, e1⟩ := H3.out.1.d2; have HNl := Lib.hid HN.out.2.2; go_wp2_with (fail); clear hc e0 e1
    go_loopw [11] (CpRel w sb rb m (.slice (some ⟨g, 0, none⟩) n c) ps) (fun v _ => n - (intOf v).toNat)
    case atStart => exact ⟨0, Nat.zero_le _, rfl, l, HN.out.2.1, H3.out⟩
    case round =>
      obtain ⟨i, hi, rfl, L, hLp, hI⟩ := hrel; rw [← HN.out.1] at hi; have HO := Lib.hid hI
      have hLn : L.length = n := by rw [HN.out.1, ← hLp, List.length_map]
      have HLn : Hid (L.length = n ∧ L.map PaneV.p = ps) := Lib.hid ⟨hLn, hLp⟩; clear hI
      by_cases hlt : i < n
      · have hi0 : (0 : Int) ≤ (i : Int) ∧ (i : Int) < (n : Int) := by omega
        obtain ⟨x, hx⟩ : ∃ x, L[i]? = some x := ⟨_, List.getElem?_eq_getElem (by omega)⟩
        have HX : Hid (L[i]? = some x ∧ i < n ∧ x ∈ L) := Lib.hid ⟨hx, hlt, List.mem_of_getElem? hx⟩; obtain ⟨tv, htv⟩ : ∃ tv, tv = x.tv := ⟨_, rfl⟩
        have HTI : Hid (∀ w', CpI w sb rb m (.slice (some ⟨g, 0, none⟩) n c) L w' → Calls Tryz.prog 34 #[tv] w' (fun e w'' => ∃ v', e = .returned v' ∧ IntsAt w'' v' x.p.a.top ∧ Below w'.heap.size w' w'' ∧ ∀ a n c, v' = .slice (some a) n c → w'.heap.size ≤ a.block)) := by
          rw [htv]
          exact Lib.hid (fun w' h => cloneI_any w' x.tv x.p.a.top (h.2.2.2.2 x HX.out.2.2).1.1 (HT.out x (by rw [← HLn.out.2]; exact List.mem_map.2 ⟨x, HX.out.2.2, rfl⟩)))
        have HCe : Hid (∀ w', CpI w sb rb m (.slice (some ⟨g, 0, none⟩) n c) L w' → w'.cell? ⟨g, i * 8 + 5, none⟩ = some tv) := by
          rw [htv]; exact Lib.hid (fun w' h => h.2.2.1.cell HLn.out.1.symm HX.out.1 (j := 5) rfl)
        have HI0 := Lib.hid hi0; clear hx htv hi hlt hLn hLp; go_wp2_with (fail)
        go_upto_region 5 with (fail)
        have HG0 : Hid (CpG w sb rb g m n c i L x 0 wr.drew) := Lib.hid (HO.out.below (Below.refl wr.heap.size wr).drew)
        have HGS : Hid (∀ k w', CpG w sb rb g m n c i L x k w' → RowS w' sb m (.slice (some ⟨g, 0, none⟩) n c)) := Lib.hid (fun k w' h => match k, h with
          | 0, h => h.1
          | 1, h => h.1
          | 2, h => h.1
          | _ + 3, ⟨_, _, h⟩ => h.1)
        refine wp_region_skip_frame (fun i => ([] : List Nat).contains i) (by kernel_rfl) [none, none, none, none, none, none, none, none, none, some 0, some 1, none, none, none, some 2] [9, 10, 14] (V4 ((Value.pointer (some ⟨sb, 1, none⟩)) :: (Value.slice (some ⟨g, 0, none⟩) n c) :: (Value.int .i64 (i : Int)) :: (Value.pointer (some ⟨sb, 1, none⟩)) :: (Value.slice (some ⟨g, 0, none⟩) n c) :: (Value.int .i64 (i : Int)) :: (Value.pointer (some ⟨g, i * 8, none⟩)) :: (Value.pointer (some ⟨g, i * 8 + 3, none⟩)) :: (Value.pointer (some ⟨g, i * 8 + 3 + 2, none⟩)) :: tv :: undef :: (Value.pointer (some ⟨g, i * 8, none⟩)) :: (Value.pointer (some ⟨g, i * 8 + 3, none⟩)) :: (Value.pointer (some ⟨g, i * 8 + 3 + 2, none⟩)) :: undef :: ([] : List Value)) 10 (fun k w' v => k = 2 → ∃ a_ n_ c_, v = .slice a_ n_ c_ ∧ IntsAt w' (.slice a_ n_ c_) x.p.a.top ∧ ∀ ad, a_ = some ad → ad.block ≠ g ∧ ad.block ≠ sb ∧ ad.block ≠ rb) 99 (fun _ _ _ => True) 99 (fun _ _ _ => True) 99 (fun _ _ _ => True)) (CpG w sb rb g m n c i L x) (fun w w' => Below w.heap.size w w') (V4_le _ (fun k w_ w' v h ha hk => by obtain ⟨a, n, c, h1, h2, h3⟩ := ha hk; exact ⟨a, n, c, h1, h2.below h, h3⟩) (fun _ _ _ _ _ h => h) (fun _ _ _ _ _ h => h) (fun _ _ _ _ _ h => h)) (by kernel_rfl) (by kernel_rfl) (by kernel_rfl) HG0.out (fun _ => ⟨rfl, rfl, rfl, rfl, rfl, rfl, rfl, rfl, rfl, rfl, rfl, rfl, rfl, rfl, rfl, trivial⟩) (fun _ h => by simp at h) ?_ ?_
        · refine ⟨?_, ?_, ?_, ?_, ?_, ?_, ?_, ?_, ?_, ?_, ?_, ?_, ?_, ?_, ?_, trivial⟩
          · intro _ _ a w' hG hout hpre K hK; have q1 := ev_of ((hout 1 rfl).trans (show _ = .pointer (some ⟨sb, 0, none⟩) from rfl)); clear hout hpre; go_step; exact hK _ _ rfl hG (Below.refl _ _)
          · intro _ _ a w' hG hout hpre K hK; obtain ⟨p0, _⟩ := hpre; have q14 := ev_of (show a.eval (.tmp 14) = .pointer (some ⟨sb, 1, none⟩) from p0); obtain ⟨e0, e1⟩ := (HGS.out _ _ hG).d2; clear hout p0; go_step; exact hK _ _ rfl hG (Below.refl _ _)
          · intro _ _ a w' hG hout hpre K hK; have q3 := ev_of ((hout 3 rfl).trans (show _ = .int .i64 (i : Int) from rfl)); clear hout hpre; go_step; exact hK _ _ rfl hG (Below.refl _ _)
          · intro _ _ a w' hG hout hpre K hK; have q1 := ev_of ((hout 1 rfl).trans (show _ = .pointer (some ⟨sb, 0, none⟩) from rfl)); clear hout hpre; go_step; exact hK _ _ rfl hG (Below.refl _ _)
          · intro _ _ a w' hG hout hpre K hK; obtain ⟨p0, _⟩ := hpre; have q17 := ev_of (show a.eval (.tmp 17) = .pointer (some ⟨sb, 1, none⟩) from p0); obtain ⟨e0, e1⟩ := (HGS.out _ _ hG).d2; clear hout p0; go_step; exact hK _ _ rfl hG (Below.refl _ _)
          · intro _ _ a w' hG hout hpre K hK; have q3 := ev_of ((hout 3 rfl).trans (show _ = .int .i64 (i : Int) from rfl)); clear hout hpre; go_step; exact hK _ _ rfl hG (Below.refl _ _)
          · intro _ _ a w' hG hout hpre K hK; obtain ⟨p0, p1, _⟩ := hpre; have q18 := ev_of (show a.eval (.tmp 18) = .slice (some ⟨g, 0, none⟩) n c from p0); have q19 := ev_of (show a.eval (.tmp 19) = .int .i64 (i : Int) from p1); have hi0 := HI0.out; clear hout p0 p1; go_step; exact hK _ _ rfl hG (Below.refl _ _)
          · intro _ _ a w' hG hout hpre K hK; obtain ⟨p0, _⟩ := hpre; have q20 := ev_of (show a.eval (.tmp 20) = .pointer (some ⟨g, i * 8, none⟩) from p0); clear hout p0; go_step; exact hK _ _ rfl hG (Below.refl _ _)
          · intro _ _ a w' hG hout hpre K hK; obtain ⟨p0, _⟩ := hpre; have q21 := ev_of (show a.eval (.tmp 21) = .pointer (some ⟨g, i * 8 + 3, none⟩) from p0); clear hout p0; go_step; exact hK _ _ rfl hG (Below.refl _ _)
          · intro _ a w' hG hout hpre K hK; obtain ⟨p0, _⟩ := hpre; have q22 := ev_of (show a.eval (.tmp 22) = .pointer (some ⟨g, i * 8 + 3 + 2, none⟩) from p0); clear hout p0; have hG1 : CpI w sb rb m (.slice (some ⟨g, 0, none⟩) n c) L w' := hG; have hc := HCe.out w' hG1; go_step
            exact hK _ _ rfl hG1 (V4_keep (.inr fun u h e => absurd e (by decide)) (.inr fun _ h => h) (.inr fun _ h => h) (.inr fun _ h => h))
          · intro _ a w' hG hout hpre K hK; obtain ⟨p0, _⟩ := hpre; have q23 := ev_of (show a.eval (.tmp 23) = tv from p0); clear hout p0; have hG1 : CpI w sb rb m (.slice (some ⟨g, 0, none⟩) n c) L w' := hG; have HG1 := Lib.hid hG1; clear hG hG1; go_step; refine (HTI.out w' HG1.out).mono ?_; rintro e w3 ⟨v', rfl, hI, hB, hN⟩; obtain ⟨sa', sc', rfl, _⟩ := id hI
            exact hK _ _ (fun _ => ⟨sa', _, sc', rfl, hI, fun ad h => by have h1 := hN ad _ _ (by rw [h]); have h2 := HG1.out.2.1.lt; have h3 := HG1.out.1.lt; have h4 := (HG1.out.2.2.1.lt (k := g) rfl).2; omega⟩) (HG1.out.below hB) (V4_keep (.inl rfl) (.inr fun _ h => h) (.inr fun _ h => h) (.inr fun _ h => h))
          · intro _ _ a w' hG hout hpre K hK; obtain ⟨p0, p1, _⟩ := hpre; have q15 := ev_of (show a.eval (.tmp 15) = .slice (some ⟨g, 0, none⟩) n c from p0); have q16 := ev_of (show a.eval (.tmp 16) = .int .i64 (i : Int) from p1); have hi0 := HI0.out; clear hout p0 p1; go_step; exact hK _ _ rfl hG (Below.refl _ _)
          · intro _ _ a w' hG hout hpre K hK; obtain ⟨p0, _⟩ := hpre; have q25 := ev_of (show a.eval (.tmp 25) = .pointer (some ⟨g, i * 8, none⟩) from p0); clear hout p0; go_step; exact hK _ _ rfl hG (Below.refl _ _)
          · intro _ _ a w' hG hout hpre K hK; obtain ⟨p0, _⟩ := hpre; have q26 := ev_of (show a.eval (.tmp 26) = .pointer (some ⟨g, i * 8 + 3, none⟩) from p0); clear hout p0; go_step; exact hK _ _ rfl hG (Below.refl _ _)
          · intro _ a w' hG hout hpre K hK; obtain ⟨p0, p1, _⟩ := hpre; have r27 := (show a.eval (.tmp 27) = .pointer (some ⟨g, i * 8 + 3 + 2, none⟩) from p0); obtain hp := (show 2 = 2 → ∃ a_ n_ c_, a.eval (.tmp 24) = .slice a_ n_ c_ ∧ IntsAt w' (.slice a_ n_ c_) x.p.a.top ∧ ∀ ad, a_ = some ad → ad.block ≠ g ∧ ad.block ≠ sb ∧ ad.block ≠ rb from p1); obtain ⟨sa', sn', sc', hv, hI, hN⟩ := hp rfl; have hG1 : CpI w sb rb m (.slice (some ⟨g, 0, none⟩) n c) L w' := hG; refine wp_store1 (.tmp 27) (.tmp 24) rfl ⟨g, i * 8 + 3 + 2, none⟩ (.slice sa' sn' sc') tv r27 hv rfl rfl Tryz.sizeOf48 (HCe.out w' hG1) (hG1.2.2.1.fro HLn.out.1.symm _) ?_; obtain ⟨w4, hw4⟩ : ∃ W, W = w'.setCell ⟨g, i * 8 + 3 + 2, none⟩ (.slice sa' sn' sc') := ⟨_, rfl⟩; rw [← hw4]
            have hg : w'.grownBy w4 (some g) := by rw [hw4]; exact grown_setCell _ _ _ _
            obtain ⟨j1, j2, j3, j4, j5⟩ := hG1; have hbg := j3.lt (k := g) rfl; have hb := HB0.out; have hlb := j2.lt
            have hO : OwnP w4 (rb + 1) (.slice (some ⟨g, 0, none⟩) n c) (L.set i ⟨x.p, .slice sa' sn' sc', x.z, rfl, x.hz⟩) := by rw [hw4]; exact j3.setTv HLn.out.1.symm HX.out.1 _ rfl
            have hx5 := j5 x HX.out.2.2
            exact hK _ _ rfl ⟨.slice sa' sn' sc', rfl, j1.grown hg (by simp; omega), j2.grown hg (by simp; omega), hO, j4.trans (below_set hg (by omega) j4.size), fun y hy => by
              rcases List.mem_or_eq_of_mem_set hy with hy | rfl
              · exact ⟨⟨(j5 y hy).1.1.grown hg (fun a n' c' e hne he => (((j5 y hy).2 a n' c' e hne).1 (by simp [Value.ownBlock, he]))), (j5 y hy).1.2⟩, (j5 y hy).2⟩
              · exact ⟨⟨hI.grown hg (fun a n' c' e _ => by cases e; exact (hN _ rfl).1), hx5.1.2⟩, fun a n' c' e _ => by cases e; have := hN _ rfl; exact ⟨by simp [Value.ownBlock]; omega, this.2⟩⟩⟩ (V4_keep (.inr fun u h e => absurd e (by decide)) (.inr fun _ h => h) (.inr fun _ h => h) (.inr fun _ h => h))
        · intro vs w2_ hG hlen hV
          match vs, hlen, hV with
          | [v0, v1, v2, v3, v4, v5, v6, v7, v8, v9, v10, v11, v12, v13, v14], _, hV =>
            clear hV; have hG1 : ∃ tv ht, CpI w sb rb m (.slice (some ⟨g, 0, none⟩) n c) (L.set i ⟨x.p, tv, x.z, ht, x.hz⟩) w2_ := hG; obtain ⟨tv', ht', hI⟩ := hG1; have HZ := Lib.hid hI; clear hI hG; simp only [putsL, List.tail_cons, List.headD_cons]; simp only [Act.put, List.setIfInBounds_toArray, List.set_cons_succ, List.set_cons_zero]; go_wp2_with (fail)
            refine ⟨⟨i + 1, by rw [← HN.out.1]; exact HX.out.2.1, rfl, _, ?_, HZ.out⟩, by rw [intOf_i, intOf_i]; have := HX.out.2.1; omega⟩
            rw [← HLn.out.2]; exact set_same HX.out.1 rfl
      · obtain rfl : i = n := by omega
        clear hlt; obtain ⟨e0, e1⟩ := HO.out.1.d2
        go_upto_region 7 with (fail)
        refine wp_region_lit ?_
        iterate 3 go_step
        refine wpList_store_row rfl _ _ _ rfl rb #[.int .i64 m, (.slice (some ⟨g, 0, none⟩) i c)] rfl rfl 29 #[.int .i64 0, nilV] HO.out.2.1 state_size rfl (state_one (by rfl)) ?_
        obtain ⟨w9, hw9⟩ : ∃ W, W = wr.setRow rb #[.int .i64 m, (.slice (some ⟨g, 0, none⟩) i c)] := ⟨_, rfl⟩
        have H9 : Hid (RowS w9 rb m (.slice (some ⟨g, 0, none⟩) i c) ∧ P (.returned (.agg #[.int .i64 m, (.slice (some ⟨g, 0, none⟩) i c)])) w9) := by
          have hg : wr.grownBy w9 (some rb) := by rw [hw9]; exact grown_setRow _ _ _
          obtain ⟨j1, j2, j3, j4, j5⟩ := HO.out; have hb := HB0.out
          have hO := j3.kept hg (.inr (fun e => by have := j3.lt e; omega))
          refine Lib.hid ⟨by rw [hw9]; exact j2.reset m (.slice (some ⟨g, 0, none⟩) i c), HP.out w9 (.slice (some ⟨g, 0, none⟩) i c) L hO.ins (fun x hx => ⟨(j5 x hx).1.1.grown hg (fun a n' c e hne => ?_), (j5 x hx).1.2⟩) HLn.out.2 (j4.trans (below_set hg (by omega) j4.size))⟩
          exact ((j5 x hx).2 a n' c e hne).2.2
        rw [← hw9]; clear hw9; go_wp2_with (fail); exact bodyPost_ret (v := .agg #[.int .i64 m, (.slice (some ⟨g, 0, none⟩) i c)]) (results_cell_row (p := 2) (ty := 29) rfl _ _ rb 29 #[.int .i64 m, (.slice (some ⟨g, 0, none⟩) i c)] (0, 0) _ rfl H9.out.1 Tryz.underlying29 rfl state_size) rfl H9.out.2
set_option maxRecDepth 100000 in
theorem onew_any (w : World) : Calls Tryz.prog 9 #[] w (fun e w' => e = .returned (.agg #[.int .i64 (-1), nilV]) ∧ Below w.heap.size w w') := by
  obtain ⟨w1, hw1⟩ : ∃ W, W = w.alloc (.cells #[.int .i64 0, .slice none 0 0] 29) := ⟨_, rfl⟩; obtain ⟨rb, hrb⟩ : ∃ b, b = w.heap.size := ⟨_, rfl⟩
  have H1 : Hid (RowS w1 rb 0 nilV ∧ Below w.heap.size w w1) := by
    rw [hw1, hrb]; exact Lib.hid ⟨heap_alloc_new w _, (Below.refl _ w).alloc (Nat.le_refl _) _⟩
  have HB : Hid (w.heap.size ≤ rb) := Lib.hid (by omega)
  go_enter Tryz.func9, Tryz.ntmps9
  go_upto_region 1 with (fail)
  rw [← hw1, ← hrb]; clear hw1 hrb; refine wp_region_lit ?_
  iterate 3 go_step
  refine wpList_store_row rfl _ _ _ rfl rb #[.int .i64 (-1), nilV] rfl rfl 29 #[.int .i64 0, nilV] H1.out.1 state_size rfl (state_one rfl) ?_; obtain ⟨w9, hw9⟩ : ∃ W, W = w1.setRow rb #[.int .i64 (-1), nilV] := ⟨_, rfl⟩
  have H9 : Hid (RowS w9 rb (-1) nilV ∧ Below w.heap.size w w9) := by
    have hg : w1.grownBy w9 (some rb) := by rw [hw9]; exact grown_setRow _ _ _
    exact Lib.hid ⟨by rw [hw9]; exact H1.out.1.reset _ _, H1.out.2.trans (below_set hg HB.out H1.out.2.size)⟩
  rw [← hw9]; clear hw9; go_wp2_with (fail); exact bodyPost_ret (v := .agg #[.int .i64 (-1), nilV]) (results_cell_row (p := 0) (ty := 29) rfl _ _ rb 29 #[.int .i64 (-1), nilV] (0, 0) _ rfl H9.out.1 Tryz.underlying29 rfl state_size) rfl ⟨rfl, H9.out.2⟩
end Go.Proofs.YtjeeghafachebaaGreat
namespace Go.Proofs.YtjeeghafachebaaGreat
open Go Go.RowKit
theorem built_out (k : List (BitVec 8)) (a b r : Int) (s : Option Addr) (n c : Nat) : Tryz.prog.built 50 [(2, .agg #[Sv k, .int .i64 a, .int .i64 b]), (3, .int .i64 r), (4, .slice s n c)] = some #[.bool false, .int .i64 0, .string ⟨#[]⟩, .int .i64 0, .int .i64 0, Sv k, .int .i64 a, .int .i64 b, .int .i64 r, .slice s n c] := by kernel_rfl
def OutEnd (w : World) (o : OutE) (e : Ending) (w' : World) : Prop := ∃ tv ht, e = .returned (.agg (OutV.mk o tv ht).cells) ∧ IntsAt w' tv o.v ∧ Below w.heap.size w w' ∧ ∀ a n c, tv = .slice (some a) n c → w.heap.size ≤ a.block
theorem RowQ.below' {w w' : World} {b r : Nat} {q : QueryL} (h : RowQ w b q) (hg : w.grownBy w' (some r)) (hne : b ≠ r) : RowQ w' b q := (hg.block b h.lt (by simpa using hne)).trans h
def TdB (w w1 : World) (qb pb : Nat) (Q : QueryL) (X : PaneV) (w' : World) : Prop := RowQ w' qb Q ∧ RowP w' pb X ∧ Below w.heap.size w w' ∧ w1.heap.size ≤ w'.heap.size
def TdR (ob : Nat) (xk : List (BitVec 8)) (xl xh rd : Int) (lv : List Int) : Nat → World → Prop
  | 0, w' => RowO w' ob zeroOV
  | _ + 1, w' => ∃ a n c, w'.heap[ob]? = some (.cells #[.bool false, .int .i64 0, .string ⟨#[]⟩, .int .i64 0, .int .i64 0, Sv xk, .int .i64 xl, .int .i64 xh, .int .i64 rd, .slice a n c] 50 (0, 0)) ∧ IntsAt w' (.slice a n c) lv ∧ ∀ ad, a = some ad → ob < ad.block
def TdG (w w1 : World) (qb pb ob : Nat) (Q : QueryL) (X : PaneV) (xk : List (BitVec 8)) (xl xh rd : Int) (lv : List Int) (k : Nat) (w' : World) : Prop := TdB w w1 qb pb Q X w' ∧ TdR ob xk xl xh rd lv k w'
theorem TdB.below {w w1 : World} {qb pb : Nat} {Q : QueryL} {X : PaneV} {w' w'' : World} (h : TdB w w1 qb pb Q X w') (hB : Below w'.heap.size w' w'') : TdB w w1 qb pb Q X w'' := ⟨h.1.below hB, h.2.1.below hB, h.2.2.1.trans (hB.mono h.2.2.1.size), Nat.le_trans h.2.2.2 hB.size⟩
theorem TdR.below {ob : Nat} {xk : List (BitVec 8)} {xl xh rd : Int} {lv : List Int} {k : Nat} {w' w'' : World} (h : TdR ob xk xl xh rd lv k w') (hB : Below w'.heap.size w' w'') : TdR ob xk xl xh rd lv k w'' := match k, h with
  | 0, h => RowO.below h hB
  | _ + 1, ⟨a, n, c, h, hI, hN⟩ => ⟨a, n, c, (hB.block ob (Array.getElem?_eq_some_iff.1 h).1).trans h, hI.below hB, hN⟩
set_option maxRecDepth 100000 in
set_option maxHeartbeats 2000000 in
theorem otold_any (w : World) (q : QueryL) (x : PaneV) (hg : GoodP w x) (hn : x.p.a.top.length ≤ 1000000) :
    Calls Tryz.prog 65 #[.agg q.cells, .agg x.cells] w (OutEnd w (toldQ q x.p)) := by
  have mixed : Tryz.prog.follows .mixedOrders = true := by kernel_rfl
  obtain ⟨P, hP⟩ : ∃ P, P = OutEnd w (toldQ q x.p) := ⟨_, rfl⟩; rw [← hP]; obtain ⟨lv, hlv⟩ : ∃ l, l = valueQ q x.p.a := ⟨_, rfl⟩
  have HP : Hid (∀ wz a n c, IntsAt wz (.slice a n c) lv → Below w.heap.size w wz → (∀ ad, a = some ad → w.heap.size ≤ ad.block) → P (.returned (.agg #[.bool false, .int .i64 0, .string ⟨#[]⟩, .int .i64 0, .int .i64 0, Sv x.p.w.key, .int .i64 x.p.w.lo, .int .i64 x.p.w.hi, .int .i64 x.p.r, .slice a n c])) wz) := by
    rw [hP, hlv]
    exact Lib.hid (fun wz a n c h hB hN => ⟨.slice a n c, rfl, rfl, h, hB, fun a' n' c' e => by cases e; exact hN _ rfl⟩)
  obtain ⟨w1, hw1⟩ : ∃ W, W = ((w.alloc (.cells q.cells 23)).alloc (.cells x.cells 55)).alloc (.cells #[.bool false, .int .i64 0, .string ⟨#[]⟩, .int .i64 0, .int .i64 0, .string ⟨#[]⟩, .int .i64 0, .int .i64 0, .int .i64 0, .slice none 0 0] 50) := ⟨_, rfl⟩; obtain ⟨qb, hqb⟩ : ∃ b, b = w.heap.size := ⟨_, rfl⟩; obtain ⟨pb, hpb⟩ : ∃ b, b = w.heap.size + 1 := ⟨_, rfl⟩; obtain ⟨ob, hob⟩ : ∃ b, b = w.heap.size + 2 := ⟨_, rfl⟩; have hs1 : (w.alloc (.cells q.cells 23)).heap.size = w.heap.size + 1 := heap_alloc_size w _
  have hs2 : ((w.alloc (.cells q.cells 23)).alloc (.cells x.cells 55)).heap.size = w.heap.size + 2 := by rw [heap_alloc_size, heap_alloc_size]
  have H1 : Hid (RowQ w1 qb q ∧ RowP w1 pb x ∧ RowO w1 ob zeroOV ∧ Below w.heap.size w w1) := by
    have h := box_qp w q x; have hB := (Below.refl _ ((w.alloc (.cells q.cells 23)).alloc (.cells x.cells 55))).alloc (Nat.le_refl _) (.cells #[.bool false, .int .i64 0, .string ⟨#[]⟩, .int .i64 0, .int .i64 0, .string ⟨#[]⟩, .int .i64 0, .int .i64 0, .int .i64 0, .slice none 0 0] 50); have hz := heap_alloc_new ((w.alloc (.cells q.cells 23)).alloc (.cells x.cells 55)) (.cells #[.bool false, .int .i64 0, .string ⟨#[]⟩, .int .i64 0, .int .i64 0, .string ⟨#[]⟩, .int .i64 0, .int .i64 0, .int .i64 0, .slice none 0 0] 50); rw [hs2, ← hob] at hz; rw [← hw1] at hB hz; rw [hqb, hpb]; exact Lib.hid ⟨h.1.below hB, h.2.1.below hB, hz, h.2.2.trans (hB.mono h.2.2.size)⟩
  have HGb : Hid (w.heap.size ≤ ob ∧ pb < ob ∧ qb < ob ∧ ob < w1.heap.size) := Lib.hid ⟨by omega, by omega, by omega, H1.out.2.2.1.lt⟩
  obtain ⟨VQ, hVQ⟩ : ∃ V, V = Value.agg q.cells := ⟨_, rfl⟩; obtain ⟨VA, hVA⟩ : ∃ V, V = Value.agg (aggC x.p.a.n x.p.a.a x.tv x.z) := ⟨_, rfl⟩; obtain ⟨VW, hVW⟩ : ∃ V, V = Value.agg x.p.w.cells := ⟨_, rfl⟩
  have HC : Hid (∀ w', Below w.heap.size w w' → Calls Tryz.prog 19 #[VQ, VA] w' (IntsEnd w' lv)) := by
    rw [hVQ, hVA, hlv]; exact Lib.hid (fun w' hB => avalue_any w' q x.p.a x.tv x.z (hg.1.below hB) hg.2 hn)
  clear hlv hg hn hP; obtain ⟨kind, size, slide, late, agg, kq⟩ := q; obtain ⟨⟨⟨xk, xl, xh⟩, ⟨n, a, top, u, v⟩, rd⟩, tv, z, ht, hz⟩ := x; have HVQ : Hid (VQ = .agg #[.int .i64 kind, .int .i64 size, .int .i64 slide, .int .i64 late, .int .i64 agg, .int .i64 kq]) := Lib.hid hVQ; have HVA : Hid (VA = .agg #[.int .i64 n, .int .i64 a, tv, z]) := Lib.hid hVA; have HVW : Hid (VW = .agg #[Sv xk, .int .i64 xl, .int .i64 xh]) := Lib.hid hVW; clear hVQ hVA hVW; have HQ : Hid (∀ w', RowQ w' qb ⟨kind, size, slide, late, agg, kq⟩ → D6 w' qb kind size slide late agg kq) := Lib.hid (fun w' h => h.d6); unfold QueryL.cells at hw1 hs1 hs2 ⊢; unfold PaneV.cells at hw1 hs2 ⊢; simp only at hw1 hs1 hs2 HP
  go_enter Tryz.func65, Tryz.ntmps65
  go_upto_region 1 with (fail)
  rw [← hw1, ← hob, ← hpb, ← hqb]; clear hw1 hob hpb hqb hs1 hs2; obtain ⟨X, hX⟩ : ∃ X, X = PaneV.mk ⟨⟨xk, xl, xh⟩, ⟨n, a, top, u, v⟩, rd⟩ tv z ht hz := ⟨_, rfl⟩
  have HD : Hid (∀ w', RowP w' pb X → D8 w' pb ⟨⟨⟨xk, xl, xh⟩, ⟨n, a, top, u, v⟩, rd⟩, tv, z, ht, hz⟩) := by rw [hX]; exact Lib.hid (fun w' h => h.d8)
  obtain ⟨Q, hQ⟩ : ∃ Q, Q = QueryL.mk kind size slide late agg kq := ⟨_, rfl⟩; rw [← hX, ← hQ] at H1; rw [← hQ] at HQ; clear hX hQ
  have HG0 : Hid (TdG w w1 qb pb ob Q X xk xl xh rd lv 0 w1.drew) := by
    have hd := (Below.refl w1.heap.size w1).drew; exact Lib.hid ⟨⟨H1.out.1.below hd, H1.out.2.1.below hd, H1.out.2.2.2.trans (hd.mono H1.out.2.2.2.size), hd.size⟩, RowO.below H1.out.2.2.1 hd⟩
  refine wp_region_skip_frame (fun i => ([] : List Nat).contains i) (by kernel_rfl) [none, none, none, none, none, none, none, none, none, some 0] [9] (V4 ((Value.pointer (some ⟨pb, 0, none⟩)) :: VW :: (Value.pointer (some ⟨pb, 7, none⟩)) :: (Value.int .i64 rd) :: VQ :: (Value.pointer (some ⟨pb, 3, none⟩)) :: VA :: undef :: undef :: undef :: ([] : List Value)) 7 (fun k w' v => ∃ a_ n_ c_, v = .slice a_ n_ c_ ∧ (k = 0 → IntsAt w' (.slice a_ n_ c_) lv ∧ ∀ ad, a_ = some ad → ob < ad.block)) 8 (fun k w' v => ∃ a_ n_ c_, v = .agg #[.bool false, .int .i64 0, .string ⟨#[]⟩, .int .i64 0, .int .i64 0, Sv xk, .int .i64 xl, .int .i64 xh, .int .i64 rd, .slice a_ n_ c_] ∧ (k = 0 → IntsAt w' (.slice a_ n_ c_) lv ∧ ∀ ad, a_ = some ad → ob < ad.block)) 99 (fun _ _ _ => True) 99 (fun _ _ _ => True)) (TdG w w1 qb pb ob Q X xk xl xh rd lv) (fun w w' => Below w.heap.size w w') (V4_le _ (fun k w w' v h ha => by obtain ⟨a, n, c, h1, h2⟩ := ha; exact ⟨a, n, c, h1, fun e => ⟨(h2 e).1.below h, (h2 e).2⟩⟩) (fun k w w' v h ha => by obtain ⟨a, n, c, h1, h2⟩ := ha; exact ⟨a, n, c, h1, fun e => ⟨(h2 e).1.below h, (h2 e).2⟩⟩) (fun _ _ _ _ _ h => h) (fun _ _ _ _ _ h => h)) (by kernel_rfl) (by kernel_rfl) (by kernel_rfl) HG0.out (fun _ => ⟨rfl, rfl, rfl, rfl, rfl, rfl, rfl, rfl, rfl, rfl, trivial⟩) (fun _ h => by simp at h) ?_ ?_
  · refine ⟨?_, ?_, ?_, ?_, ?_, ?_, ?_, ?_, ?_, ?_, trivial⟩
    · intro _ kk a w' hG hout hpre K hK; have q3 := ev_of ((hout 3 rfl).trans (show _ = .pointer (some ⟨pb, 0, none⟩) from rfl)); clear hout hpre; go_step; exact hK _ _ rfl hG (Below.refl _ _)
    · intro _ kk a w' hG hout hpre K hK; obtain ⟨p0, _⟩ := hpre; have q5 := ev_of (show a.eval (.tmp 5) = .pointer (some ⟨pb, 0, none⟩) from p0); obtain ⟨e0, e1, e2, e3, e4, e5, e6, e7⟩ := HD.out _ hG.1.2.1; clear hout p0; go_step; exact hK _ _ HVW.out.symm hG (Below.refl _ _)
    · intro _ kk a w' hG hout hpre K hK; have q3 := ev_of ((hout 3 rfl).trans (show _ = .pointer (some ⟨pb, 0, none⟩) from rfl)); clear hout hpre; go_step; exact hK _ _ rfl hG (Below.refl _ _)
    · intro _ kk a w' hG hout hpre K hK; obtain ⟨p0, _⟩ := hpre; have q7 := ev_of (show a.eval (.tmp 7) = .pointer (some ⟨pb, 7, none⟩) from p0); obtain ⟨e0, e1, e2, e3, e4, e5, e6, e7⟩ := HD.out _ hG.1.2.1; clear hout p0; go_step; exact hK _ _ rfl hG (Below.refl _ _)
    · intro _ kk a w' hG hout hpre K hK; have q2 := ev_of ((hout 2 rfl).trans (show _ = .pointer (some ⟨qb, 0, none⟩) from rfl)); obtain ⟨d0, d1, d2, d3, d4, d5⟩ := HQ.out _ hG.1.1; clear hout hpre; go_step; exact hK _ _ HVQ.out.symm hG (Below.refl _ _)
    · intro _ kk a w' hG hout hpre K hK; have q3 := ev_of ((hout 3 rfl).trans (show _ = .pointer (some ⟨pb, 0, none⟩) from rfl)); clear hout hpre; go_step; exact hK _ _ rfl hG (Below.refl _ _)
    · intro _ kk a w' hG hout hpre K hK; obtain ⟨p0, _⟩ := hpre; have q10 := ev_of (show a.eval (.tmp 10) = .pointer (some ⟨pb, 3, none⟩) from p0); obtain ⟨e0, e1, e2, e3, e4, e5, e6, e7⟩ := HD.out _ hG.1.2.1; clear hout p0; go_step; exact hK _ _ HVA.out.symm hG (Below.refl _ _)
    · intro _ kk a w' hG hout hpre K hK; obtain ⟨p0, p1, _⟩ := hpre; have q9 := ev_of (show a.eval (.tmp 9) = VQ from p0); have q11 := ev_of (show a.eval (.tmp 11) = VA from p1); clear hout p0 p1; have HG := Lib.hid hG; clear hG; go_step; refine (HC.out w' HG.out.1.2.2.1).mono ?_; rintro e w3 ⟨tv, rfl, hI, hB, hN⟩; obtain ⟨sa, sc, rfl, _⟩ := id hI
      exact hK _ _ ⟨sa, _, sc, rfl, fun e => ⟨hI, fun ad h => by have := hN ad _ _ (by rw [h]); have := HG.out.1.2.2.2; have := HGb.out; omega⟩⟩ ⟨HG.out.1.below hB, HG.out.2.below hB⟩ hB
    · intro _ kk a w' hG hout hpre K hK; obtain ⟨p0, p1, p2, _⟩ := hpre; have r6 := (show a.eval (.tmp 6) = VW from p0); have r8 := (show a.eval (.tmp 8) = .int .i64 rd from p1); obtain ⟨sa, sn, sc, hv, hh⟩ := (show ∃ a_ n_ c_, a.eval (.tmp 12) = .slice a_ n_ c_ ∧ (kk = 0 → IntsAt w' (.slice a_ n_ c_) lv ∧ ∀ ad, a_ = some ad → ob < ad.block) from p2); rw [HVW.out] at r6; have hb := built_out xk xl xh rd sa sn sc
      have hpt : (#[(2, Operand.tmp 6), (3, Operand.tmp 8), (4, Operand.tmp 12)].map fun (i, x) => (i, a.eval x)).toList = [(2, .agg #[Sv xk, .int .i64 xl, .int .i64 xh]), (3, .int .i64 rd), (4, .slice sa sn sc)] := by simp only [List.map_toArray, List.map_cons, List.map_nil, r6, r8, hv]
      refine wp_build 50 #[(2, .tmp 6), (3, .tmp 8), (4, .tmp 12)] rfl (by rw [hpt, hb]; rfl) ?_
      rw [hpt, hb]; exact hK _ _ ⟨sa, sn, sc, rfl, hh⟩ hG (Below.refl _ _)
    · intro _ a w' hG hout hpre K hK; obtain ⟨p0, _⟩ := hpre; obtain ⟨sa, sn, sc, hv, hh⟩ := (show ∃ a_ n_ c_, a.eval (.tmp 13) = .agg #[.bool false, .int .i64 0, .string ⟨#[]⟩, .int .i64 0, .int .i64 0, Sv xk, .int .i64 xl, .int .i64 xh, .int .i64 rd, .slice a_ n_ c_] ∧ (0 = 0 → IntsAt w' (.slice a_ n_ c_) lv ∧ ∀ ad, a_ = some ad → ob < ad.block) from p0); obtain ⟨j1, j2⟩ := hh rfl; have q4 := ((hout 4 rfl).trans (show _ = Value.pointer (some ⟨ob, 0, none⟩) from rfl)); obtain ⟨⟨g0, g1, g2, g3⟩, g4⟩ := hG; clear hout p0 hh; refine wp_store_row _ (.tmp 4) (.tmp 13) rfl ob #[.bool false, .int .i64 0, .string ⟨#[]⟩, .int .i64 0, .int .i64 0, Sv xk, .int .i64 xl, .int .i64 xh, .int .i64 rd, .slice sa sn sc] q4 hv _ zeroOV.cells g4 out_size rfl (out_one (⟨⟨false, zeroI, ⟨xk, xl, xh⟩, rd, []⟩, .slice sa sn sc, rfl⟩ : OutV)) ?_; have hg := grown_setRow w' ob #[.bool false, .int .i64 0, .string ⟨#[]⟩, .int .i64 0, .int .i64 0, Sv xk, .int .i64 xl, .int .i64 xh, .int .i64 rd, .slice sa sn sc]; have hb := HGb.out
      exact hK _ _ rfl ⟨⟨RowQ.below' g0 hg (by omega), g1.grown hg (by simp; omega), g2.trans (below_set hg hb.1 g2.size), Nat.le_trans g3 hg.size⟩, sa, sn, sc, setRow_heap _ _ _ _ _ _ g4, j1.grown hg (fun a' n' c' e _ => by cases e; have := j2 _ rfl; omega), j2⟩ (V4_keep (.inr fun u h => h.imp fun a h => h.imp fun n h => h.imp fun c h => ⟨h.1, fun e => absurd e (by decide)⟩) (.inr fun u h => h.imp fun a h => h.imp fun n h => h.imp fun c h => ⟨h.1, fun e => absurd e (by decide)⟩) (.inr fun _ h => h) (.inr fun _ h => h))
  · intro vs w2_ hG hlen hV
    match vs, hlen, hV with
    | [v0, v1, v2, v3, v4, v5, v6, v7, v8, v9], _, hV =>
      clear hV; obtain ⟨⟨_, _, hB9, _⟩, sa, sn, sc, hr, hI, hN⟩ := hG
      have HZ := Lib.hid (And.intro hr (HP.out w2_ sa sn sc hI hB9 (fun ad h => by have := hN ad h; have := HGb.out; omega)))
      clear hr hI hB9 hN; simp only [putsL, List.tail_cons, List.headD_cons]; simp only [Act.put, List.setIfInBounds_toArray, List.set_cons_succ, List.set_cons_zero]; go_wp2_with (fail); exact bodyPost_ret (v := .agg #[.bool false, .int .i64 0, .string ⟨#[]⟩, .int .i64 0, .int .i64 0, Sv xk, .int .i64 xl, .int .i64 xh, .int .i64 rd, .slice sa sn sc]) (results_cell_row (p := 4) (ty := 50) rfl _ _ ob 50 _ (0, 0) _ rfl HZ.out.1 Tryz.underlying50 rfl out_size) rfl HZ.out.2
end Go.Proofs.YtjeeghafachebaaGreat
