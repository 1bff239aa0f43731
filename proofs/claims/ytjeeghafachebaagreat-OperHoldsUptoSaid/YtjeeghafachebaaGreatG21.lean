/-
  Part 21 of 53 of what the proof leans on.
-/
import Derived.Test.YtjeeghafachebaaGreatG19
import Derived.Test.YtjeeghafachebaaGreatG14
import Derived.Test.YtjeeghafachebaaGreatG3
import Derived.Test.YtjeeghafachebaaGreatG16
namespace Go.Proofs.YtjeeghafachebaaGreat
open Go Go.RowKit
def stI3 (B0 : Nat) (a b c : Int) : StT (fun w w' => Below w.heap.size w w') :=
  ⟨fun w v => ∃ g, v = .slice (some ⟨g, 0, none⟩) 3 3 ∧ B0 ≤ g ∧ w.heap[g]? = some (.cells #[.int .i64 a, .int .i64 b, .int .i64 c] 3 (0, 0)), fun _ _ _ h ⟨g, h1, h2, h3⟩ => ⟨g, h1, h2, (h.block _ (Array.getElem?_eq_some_iff.1 h3).1).trans h3⟩⟩
end Go.Proofs.YtjeeghafachebaaGreat
namespace Go.Proofs.YtjeeghafachebaaGreat
open Go Go.RowKit
theorem WinsAt.get {w : World} {a : Option Addr} {l : List WindowL} (h : WinsAt w a l) {t : Nat} (ht : t < l.length) : ∃ x b o, l[t]? = some x ∧ a = some ⟨b, o, none⟩ ∧ w.cell? ⟨b, o + t * 3, none⟩ = some (Sv x.key) ∧ w.cell? ⟨b, o + t * 3 + 1, none⟩ = some (.int .i64 x.lo) ∧
    w.cell? ⟨b, o + t * 3 + 2, none⟩ = some (.int .i64 x.hi) := by
  rcases h with h | ⟨b, o, h, h'⟩
  · rw [h] at ht; simp at ht
  · exact ⟨l[t], b, o, List.getElem?_eq_getElem ht, h, h' t _ (List.getElem?_eq_getElem ht) 0 _ rfl, h' t _ (List.getElem?_eq_getElem ht) 1 _ rfl, h' t _ (List.getElem?_eq_getElem ht) 2 _ rfl⟩
end Go.Proofs.YtjeeghafachebaaGreat
namespace Go.Proofs.YtjeeghafachebaaGreat
open Go Go.RowKit
set_option maxRecDepth 100000 in
set_option maxHeartbeats 1000000 in
theorem wplace_any (w : World) (x y : WindowL) : Calls Tryz.prog 54 #[.agg x.cells, .agg y.cells] w (Below0 w (.int .i64 (placeW x y))) := by
  obtain ⟨r, hr⟩ : ∃ r, r = placeW x y := ⟨_, rfl⟩; rw [← hr]; obtain ⟨wa, hwa⟩ : ∃ W, W = w.alloc (.cells x.cells 47) := ⟨_, rfl⟩; obtain ⟨xb, hxb⟩ : ∃ b, b = w.heap.size := ⟨_, rfl⟩; obtain ⟨wb, hwb⟩ : ∃ W, W = wa.alloc (.cells y.cells 47) := ⟨_, rfl⟩; obtain ⟨yb, hyb⟩ : ∃ b, b = w.heap.size + 1 := ⟨_, rfl⟩
  have hws : wa.heap.size = w.heap.size + 1 := by rw [hwa]; exact heap_alloc_size w _
  have HWb : Hid (Below w.heap.size w wb) := by
    have h1 := (Below.refl _ w).alloc (Nat.le_refl _) (.cells x.cells 47); rw [← hwa] at h1; rw [hwb]; exact Lib.hid (h1.alloc h1.size _)
  have HD : Hid (∀ w', Below wb.heap.size wb w' → D3 w' xb x.key x.lo x.hi ∧ D3 w' yb y.key y.lo y.hi) := by
    have h1 : RowW wa xb x := by rw [hwa, hxb]; exact heap_alloc_new w _
    have h2 : RowW wb yb y := by rw [hwb, hyb, ← hws]; exact heap_alloc_new wa _
    have h3 : Below wa.heap.size wa wb := by rw [hwb]; exact (Below.refl _ wa).alloc (Nat.le_refl _) _
    exact Lib.hid (fun w' h => ⟨((h1.below h3).below h).d3, (h2.below h).d3⟩)
  have HG0 : Hid (Below wb.heap.size wb wb.drew) := (Below.refl _ wb).drew; obtain ⟨xk, xl, xh⟩ := x; obtain ⟨yk, yl, yh⟩ := y; simp only at HD; obtain ⟨ka, hka⟩ : ∃ k, k = ordS xk yk := ⟨_, rfl⟩; obtain ⟨kb, hkb⟩ : ∃ k, k = ordI xl yl := ⟨_, rfl⟩; obtain ⟨kc, hkc⟩ : ∃ k, k = ordI xh yh := ⟨_, rfl⟩
  have HR : Hid (r = firstI ka kb kc) := by rw [hr, hka, hkb, hkc]; exact Lib.hid rfl
  have HCL : Hid ((∀ w', Calls Tryz.prog 90 #[Sv xk, Sv yk] w' fun e w2 => e = .returned (.int .i64 ka) ∧ w2 = w') ∧ (∀ w', Calls Tryz.prog 91 #[.int .i64 xl, .int .i64 yl] w' fun e w2 => e = .returned (.int .i64 kb) ∧ w2 = w') ∧ (∀ w', Calls Tryz.prog 91 #[.int .i64 xh, .int .i64 yh] w' fun e w2 => e = .returned (.int .i64 kc) ∧ w2 = w')) := by
    rw [hka, hkb, hkc]; exact Lib.hid ⟨fun w' => cmpS_any w' _ _, fun w' => cmpI_any w' _ _, fun w' => cmpI_any w' _ _⟩
  unfold WindowL.cells at hwa hwb ⊢; clear hr hka hkb hkc
  go_enter Tryz.func54, Tryz.ntmps54
  go_upto_region 1 with (fail)
  rw [← hwa, ← hwb, ← hyb, ← hxb]; clear hwa hwb hxb hyb hws
  refine wp_region_seq_frame (by kernel_rfl) [none, none, none, none, none, none, none, none, none, none, none, none, none, none, none, none, none, none] [] (vOfT (stE (.pointer (some ⟨xb, 0, none⟩)) :: stE (Sv xk) :: stE (.pointer (some ⟨yb, 0, none⟩)) :: stE (Sv yk) :: stE (.int .i64 ka) :: stE (.pointer (some ⟨xb, 1, none⟩)) :: stE (.int .i64 xl) :: stE (.pointer (some ⟨yb, 1, none⟩)) :: stE (.int .i64 yl) :: stE (.int .i64 kb) :: stE (.pointer (some ⟨xb, 2, none⟩)) :: stE (.int .i64 xh) :: stE (.pointer (some ⟨yb, 2, none⟩)) :: stE (.int .i64 yh) :: stE (.int .i64 kc) :: stI3 wb.heap.size ka kb kc :: stE (.int .i64 r) :: stE (.int .i64 r) :: ([] : List _))) (fun _ w' => Below wb.heap.size wb w') (fun w w' => Below w.heap.size w w') (vOfT_st _) (by kernel_rfl) (by kernel_rfl) (by kernel_rfl) HG0.out ⟨trivial, trivial, trivial, trivial, trivial, trivial, trivial, trivial, trivial, trivial, trivial, trivial, trivial, trivial, trivial, trivial, trivial, trivial, trivial⟩ ?_ ?_
  · refine ⟨?_, ?_, ?_, ?_, ?_, ?_, ?_, ?_, ?_, ?_, ?_, ?_, ?_, ?_, ?_, ?_, ?_, ?_, trivial⟩
    · intro k a w' hG hout hpre K hK; have q2 := ev_of ((hout 2 rfl).trans (show _ = .pointer (some ⟨xb, 0, none⟩) from rfl)); clear hout hpre; go_step; exact hK _ _ rfl hG (Below.refl _ _)
    · intro k a w' hG hout hpre K hK; obtain ⟨p0, _⟩ := hpre; have q5 := ev_of (show a.eval (.tmp 5) = .pointer (some ⟨xb, 0, none⟩) from p0); obtain ⟨d0, d1, d2⟩ := (HD.out w' hG).1; clear hout p0; go_step; exact hK _ _ rfl hG (Below.refl _ _)
    · intro k a w' hG hout hpre K hK; have q3 := ev_of ((hout 3 rfl).trans (show _ = .pointer (some ⟨yb, 0, none⟩) from rfl)); clear hout hpre; go_step; exact hK _ _ rfl hG (Below.refl _ _)
    · intro k a w' hG hout hpre K hK; obtain ⟨p0, _⟩ := hpre; have q7 := ev_of (show a.eval (.tmp 7) = .pointer (some ⟨yb, 0, none⟩) from p0); obtain ⟨d0, d1, d2⟩ := (HD.out w' hG).2; clear hout p0; go_step; exact hK _ _ rfl hG (Below.refl _ _)
    · intro k a w' hG hout hpre K hK; obtain ⟨p0, p1, _⟩ := hpre; have q6 := ev_of (show a.eval (.tmp 6) = Sv xk from p0); have q8 := ev_of (show a.eval (.tmp 8) = Sv yk from p1); have HS := Lib.hid (HCL.out.1 w'); clear hout p0 p1; go_step; refine HS.out.mono ?_; rintro e w3 ⟨rfl, hw3⟩; subst w3; exact hK _ _ rfl hG (Below.refl _ _)
    · intro k a w' hG hout hpre K hK; have q2 := ev_of ((hout 2 rfl).trans (show _ = .pointer (some ⟨xb, 0, none⟩) from rfl)); clear hout hpre; go_step; exact hK _ _ rfl hG (Below.refl _ _)
    · intro k a w' hG hout hpre K hK; obtain ⟨p0, _⟩ := hpre; have q10 := ev_of (show a.eval (.tmp 10) = .pointer (some ⟨xb, 1, none⟩) from p0); obtain ⟨d0, d1, d2⟩ := (HD.out w' hG).1; clear hout p0; go_step; exact hK _ _ rfl hG (Below.refl _ _)
    · intro k a w' hG hout hpre K hK; have q3 := ev_of ((hout 3 rfl).trans (show _ = .pointer (some ⟨yb, 0, none⟩) from rfl)); clear hout hpre; go_step; exact hK _ _ rfl hG (Below.refl _ _)
    · intro k a w' hG hout hpre K hK; obtain ⟨p0, _⟩ := hpre; have q12 := ev_of (show a.eval (.tmp 12) = .pointer (some ⟨yb, 1, none⟩) from p0); obtain ⟨d0, d1, d2⟩ := (HD.out w' hG).2; clear hout p0; go_step; exact hK _ _ rfl hG (Below.refl _ _)
    · intro k a w' hG hout hpre K hK; obtain ⟨p0, p1, _⟩ := hpre; have q11 := ev_of (show a.eval (.tmp 11) = .int .i64 xl from p0); have q13 := ev_of (show a.eval (.tmp 13) = .int .i64 yl from p1); have HS := Lib.hid (HCL.out.2.1 w'); clear hout p0 p1; go_step; refine HS.out.mono ?_; rintro e w3 ⟨rfl, hw3⟩; subst w3; exact hK _ _ rfl hG (Below.refl _ _)
    · intro k a w' hG hout hpre K hK; have q2 := ev_of ((hout 2 rfl).trans (show _ = .pointer (some ⟨xb, 0, none⟩) from rfl)); clear hout hpre; go_step; exact hK _ _ rfl hG (Below.refl _ _)
    · intro k a w' hG hout hpre K hK; obtain ⟨p0, _⟩ := hpre; have q15 := ev_of (show a.eval (.tmp 15) = .pointer (some ⟨xb, 2, none⟩) from p0); obtain ⟨d0, d1, d2⟩ := (HD.out w' hG).1; clear hout p0; go_step; exact hK _ _ rfl hG (Below.refl _ _)
    · intro k a w' hG hout hpre K hK; have q3 := ev_of ((hout 3 rfl).trans (show _ = .pointer (some ⟨yb, 0, none⟩) from rfl)); clear hout hpre; go_step; exact hK _ _ rfl hG (Below.refl _ _)
    · intro k a w' hG hout hpre K hK; obtain ⟨p0, _⟩ := hpre; have q17 := ev_of (show a.eval (.tmp 17) = .pointer (some ⟨yb, 2, none⟩) from p0); obtain ⟨d0, d1, d2⟩ := (HD.out w' hG).2; clear hout p0; go_step; exact hK _ _ rfl hG (Below.refl _ _)
    · intro k a w' hG hout hpre K hK; obtain ⟨p0, p1, _⟩ := hpre; have q16 := ev_of (show a.eval (.tmp 16) = .int .i64 xh from p0); have q18 := ev_of (show a.eval (.tmp 18) = .int .i64 yh from p1); have HS := Lib.hid (HCL.out.2.2 w'); clear hout p0 p1; go_step; refine HS.out.mono ?_; rintro e w3 ⟨rfl, hw3⟩; subst w3; exact hK _ _ rfl hG (Below.refl _ _)
    · intro k a w' hG hout hpre K hK; obtain ⟨p0, p1, p2, _⟩ := hpre; have q9 := ev_of (show a.eval (.tmp 9) = .int .i64 ka from p0); have q14 := ev_of (show a.eval (.tmp 14) = .int .i64 kb from p1); have q19 := ev_of (show a.eval (.tmp 19) = .int .i64 kc from p2); clear hout p0 p1 p2; go_step; exact hK _ _ ⟨w'.heap.size, rfl, hG.size, heap_alloc_new w' _⟩ (hG.alloc hG.size _) ((Below.refl _ w').alloc (Nat.le_refl _) _)
    · intro k a w' hG hout hpre K hK; obtain ⟨p0, _⟩ := hpre; obtain ⟨gg, hg0, _, hgr⟩ := p0; have q0 := ev_of (show a.eval (.tmp 20) = .slice (some ⟨gg, 0, none⟩) 3 3 from hg0); have hor := or3_any w' gg ka kb kc hgr; rw [← HR.out] at hor; have HS := Lib.hid hor; clear hout hor hgr hg0; go_step; refine HS.out.mono ?_; rintro e w3 ⟨rfl, hw3⟩; subst w3; exact hK _ _ rfl hG (Below.refl _ _)
    · intro k a w' hG hout hpre K hK; obtain ⟨p0, _⟩ := hpre; have q21 := ev_of (show a.eval (.tmp 21) = .int .i64 r from p0); clear hout p0; go_step; exact hK _ _ rfl hG (Below.refl _ _)
  · intro vs w2 hG hlen hV
    match vs, hlen, hV with
    | [v0, v1, v2, v3, v4, v5, v6, v7, v8, v9, v10, v11, v12, v13, v14, v15, v16, v17], _, hV =>
      obtain rfl : v17 = .int .i64 r := hV 17 4 v17 rfl rfl; clear hV; simp only [putsL, List.tail_cons, List.headD_cons]; simp only [Act.put, List.setIfInBounds_toArray, List.set_cons_succ, List.set_cons_zero]; have HZ : Hid (Below w.heap.size w w2) := HWb.out.trans (hG.mono HWb.out.size); clear hG; go_wp2_with (fail); go_ret; exact ⟨rfl, HZ.out⟩
end Go.Proofs.YtjeeghafachebaaGreat
namespace Go.Proofs.YtjeeghafachebaaGreat
open Go Go.RowKit
set_option maxRecDepth 100000 in
theorem wtime_any (w : World) (t : Int) : Calls Tryz.prog 86 #[.int .i64 t] w (fun e w' => e = .returned (.bool (decide (0 ≤ t ∧ t ≤ 1099511627776))) ∧ w' = w) := by
  by_cases h0 : 0 ≤ t
  · by_cases h1 : t ≤ 1099511627776
    · rw [decide_eq_true ⟨h0, h1⟩]
      go_enter Tryz.func86, Tryz.ntmps86
      go_wp2_with (fail); go_ret; exact ⟨rfl, rfl⟩
    · rw [decide_eq_false (fun h => h1 h.2)]; have d1 : decide (t ≤ 1099511627776) = false := decide_eq_false h1
      go_enter Tryz.func86, Tryz.ntmps86
      go_wp2_with (fail); go_ret; exact ⟨rfl, rfl⟩
  · rw [decide_eq_false (fun h => h0 h.1)]; have d0 : decide (0 ≤ t) = false := decide_eq_false h0
    go_enter Tryz.func86, Tryz.ntmps86
    go_wp2_with (fail); go_ret; exact ⟨rfl, rfl⟩
set_option maxRecDepth 100000 in
theorem wright_any (w : World) (x : WindowL) (hl : x.key.length ≤ 1000000) :
    Calls Tryz.prog 48 #[.agg x.cells] w (Below0 w (.bool x.rightB)) := by
  obtain ⟨key, lo, hi⟩ := x; obtain ⟨r, hr⟩ : ∃ r, r = (WindowL.mk key lo hi).rightB := ⟨_, rfl⟩; rw [← hr]; have hN := fun w => ename_any w key hl; obtain ⟨nb, hnb⟩ : ∃ b, b = nameB key := ⟨_, rfl⟩; rw [← hnb] at hN; simp only [WindowL.rightB] at hr; rw [← hnb] at hr; have HNm := Lib.hid hN; obtain ⟨tb, htb⟩ : ∃ b, b = decide (0 ≤ lo ∧ lo ≤ 1099511627776) := ⟨_, rfl⟩
  have HTm : Hid (∀ w', Calls Tryz.prog 86 #[.int .i64 lo] w' (fun e w'' => e = .returned (.bool tb) ∧ w'' = w')) := by
    rw [htb]; exact Lib.hid (fun w' => wtime_any w' lo)
  clear hnb hN hl; unfold WindowL.cells
  cases nb with
  | false =>
    obtain rfl : r = false := by rw [hr]; rfl
    clear hr htb
    go_enter Tryz.func48, Tryz.ntmps48
    go_wp2_with (fail); refine (HNm.out _).mono ?_; rintro e w3 ⟨rfl, rfl⟩; dsimp only; go_wp2_with (fail); go_ret; exact ⟨rfl, (Below.refl _ w).alloc (Nat.le_refl _) _⟩
  | true =>
    rw [Bool.true_and] at hr
    cases tb with
    | false =>
      have h0 := of_decide_eq_false htb.symm
      obtain rfl : r = false := by rw [hr, decide_eq_false (by omega)]
      clear hr htb h0
      go_enter Tryz.func48, Tryz.ntmps48
      go_wp2_with (fail); refine (HNm.out _).mono ?_; rintro e w3 ⟨rfl, rfl⟩; dsimp only; go_wp2_with (fail); refine (HTm.out _).mono ?_; rintro e w3 ⟨rfl, rfl⟩; dsimp only; go_wp2_with (fail); go_ret; exact ⟨rfl, (Below.refl _ w).alloc (Nat.le_refl _) _⟩
    | true =>
    have h0 := of_decide_eq_true htb.symm
    by_cases h2 : lo < hi
    case neg =>
      obtain rfl : r = false := by rw [hr, decide_eq_false (by omega)]
      have d2 : decide (lo < hi) = false := decide_eq_false h2; clear hr htb h0
      go_enter Tryz.func48, Tryz.ntmps48
      go_wp2_with (fail); refine (HNm.out _).mono ?_; rintro e w3 ⟨rfl, rfl⟩; dsimp only; go_wp2_with (fail); refine (HTm.out _).mono ?_; rintro e w3 ⟨rfl, rfl⟩; dsimp only; go_wp2_with (fail); go_ret; exact ⟨rfl, (Below.refl _ w).alloc (Nat.le_refl _) _⟩
    by_cases h3 : hi ≤ 4398046511104
    case neg =>
      obtain rfl : r = false := by rw [hr, decide_eq_false (by omega)]
      have d3 : decide (hi ≤ 4398046511104) = false := decide_eq_false h3; clear hr htb h0
      go_enter Tryz.func48, Tryz.ntmps48
      go_wp2_with (fail); refine (HNm.out _).mono ?_; rintro e w3 ⟨rfl, rfl⟩; dsimp only; go_wp2_with (fail); refine (HTm.out _).mono ?_; rintro e w3 ⟨rfl, rfl⟩; dsimp only; go_wp2_with (fail); go_ret; exact ⟨rfl, (Below.refl _ w).alloc (Nat.le_refl _) _⟩
    obtain rfl : r = true := by rw [hr, decide_eq_true (by omega)]
    clear hr htb h0
    go_enter Tryz.func48, Tryz.ntmps48
    go_wp2_with (fail); refine (HNm.out _).mono ?_; rintro e w3 ⟨rfl, rfl⟩; dsimp only; go_wp2_with (fail); refine (HTm.out _).mono ?_; rintro e w3 ⟨rfl, rfl⟩; dsimp only; go_wp2_with (fail); go_ret; exact ⟨rfl, (Below.refl _ w).alloc (Nat.le_refl _) _⟩
set_option maxRecDepth 100000 in
theorem wripe_any (w : World) (x : WindowL) (mark : Int) (hl : x.key.length ≤ 1000000) : Calls Tryz.prog 51 #[.agg x.cells, .int .i64 mark] w (Below0 w (.bool (ripeW x mark))) := by
  obtain ⟨b, hb⟩ : ∃ b, b = ripeW x mark := ⟨_, rfl⟩; rw [← hb]; obtain ⟨w1, hw1⟩ : ∃ W, W = w.alloc (.cells x.cells 47) := ⟨_, rfl⟩; obtain ⟨xb, hxb⟩ : ∃ b, b = w.heap.size := ⟨_, rfl⟩
  have H1 : Hid (Below w.heap.size w w1) := by rw [hw1]; exact Lib.hid ((Below.refl _ w).alloc (Nat.le_refl _) _)
  have HD : Hid (∀ w', Below w1.heap.size w1 w' → D3 w' xb x.key x.lo x.hi) := by
    have h1 : RowW w1 xb x := by rw [hw1, hxb]; exact heap_alloc_new w _
    exact Lib.hid (fun w' h => (h1.below h).d3)
  obtain ⟨r, hr⟩ : ∃ r, r = x.rightB := ⟨_, rfl⟩
  have HRt : Hid (∀ w', Calls Tryz.prog 48 #[.agg x.cells] w' (Below0 w' (.bool r))) := by
    rw [hr]; exact Lib.hid (fun w' => wright_any w' x hl)
  unfold ripeW at hb; rw [← hr] at hb; obtain ⟨key, lo, hi⟩ := x; simp only at hb; unfold WindowL.cells at hw1 HRt ⊢; simp only at HD; obtain ⟨d0, d1, d2⟩ := HD.out w1 (Below.refl _ _); clear hr hl
  cases r with
  | false =>
    obtain rfl : b = false := by rw [hb]; rfl
    clear hb
    go_enter Tryz.func51, Tryz.ntmps51
    go_upto_region 1 with (fail)
    rw [← hw1, ← hxb]; clear hw1 hxb; go_wp2_with (fail); refine (HRt.out _).mono ?_; rintro e w3 ⟨rfl, hB⟩; have H3 := Lib.hid (H1.out.trans (hB.mono H1.out.size)); have HB3 := Lib.hid hB; clear hB d0 d1 d2; obtain ⟨d0, d1, d2⟩ := HD.out w3 HB3.out; dsimp only; go_wp2_with (fail); go_ret; exact ⟨rfl, H3.out⟩
  | true =>
    rw [Bool.true_and] at hb
    by_cases h0 : hi ≤ mark
    case neg =>
      obtain rfl : b = false := by rw [hb, decide_eq_false (by omega)]
      have e0 : decide (hi ≤ mark) = false := decide_eq_false h0; clear hb
      go_enter Tryz.func51, Tryz.ntmps51
      go_upto_region 1 with (fail)
      rw [← hw1, ← hxb]; clear hw1 hxb; go_wp2_with (fail); refine (HRt.out _).mono ?_; rintro e w3 ⟨rfl, hB⟩; have H3 := Lib.hid (H1.out.trans (hB.mono H1.out.size)); have HB3 := Lib.hid hB; clear hB d0 d1 d2; obtain ⟨d0, d1, d2⟩ := HD.out w3 HB3.out; dsimp only; go_wp2_with (fail); go_ret; exact ⟨rfl, H3.out⟩
    obtain rfl : b = true := by rw [hb, decide_eq_true (by omega)]
    clear hb
    go_enter Tryz.func51, Tryz.ntmps51
    go_upto_region 1 with (fail)
    rw [← hw1, ← hxb]; clear hw1 hxb; go_wp2_with (fail); refine (HRt.out _).mono ?_; rintro e w3 ⟨rfl, hB⟩; have H3 := Lib.hid (H1.out.trans (hB.mono H1.out.size)); have HB3 := Lib.hid hB; clear hB d0 d1 d2; obtain ⟨d0, d1, d2⟩ := HD.out w3 HB3.out; dsimp only; go_wp2_with (fail); go_ret; exact ⟨rfl, H3.out⟩
set_option maxRecDepth 100000 in
theorem wgone_any (w : World) (q : QueryL) (x : WindowL) (mark : Int) (hl : x.key.length ≤ 1000000) : Calls Tryz.prog 50 #[.agg q.cells, .agg x.cells, .int .i64 mark] w (Below0 w (.bool (goneW q x mark))) := by
  obtain ⟨b, hb⟩ : ∃ b, b = goneW q x mark := ⟨_, rfl⟩; rw [← hb]; obtain ⟨w1, hw1⟩ : ∃ W, W = (w.alloc (.cells q.cells 23)).alloc (.cells x.cells 47) := ⟨_, rfl⟩; obtain ⟨qb, hxb⟩ : ∃ b, b = w.heap.size := ⟨_, rfl⟩; obtain ⟨xb, hxb2⟩ : ∃ b, b = w.heap.size + 1 := ⟨_, rfl⟩
  have H1 : Hid (Below w.heap.size w w1) := by
    have h1 := (Below.refl _ w).alloc (Nat.le_refl _) (.cells q.cells 23); rw [hw1]; exact Lib.hid (h1.alloc h1.size _)
  have HD : Hid (∀ w', Below w1.heap.size w1 w' → D3 w' xb x.key x.lo x.hi ∧ D6 w' qb q.kind q.size q.slide q.late q.agg q.k) := by
    have h1 : RowW w1 xb x := by rw [hw1, hxb2, ← heap_alloc_size w (.cells q.cells 23)]; exact heap_alloc_new _ _
    have h2 : RowQ w1 qb q := by
      have h3 : RowQ (w.alloc (.cells q.cells 23)) qb q := by rw [hxb]; exact heap_alloc_new w _
      rw [hw1]; exact h3.below ((Below.refl _ _).alloc (Nat.le_refl _) _)
    exact Lib.hid (fun w' h => ⟨(h1.below h).d3, (h2.below h).d6⟩)
  obtain ⟨r, hr⟩ : ∃ r, r = x.rightB := ⟨_, rfl⟩; obtain ⟨s, hs⟩ : ∃ r, r = q.rightB := ⟨_, rfl⟩
  have HRt : Hid (∀ w', Calls Tryz.prog 48 #[.agg x.cells] w' (Below0 w' (.bool r))) := by
    rw [hr]; exact Lib.hid (fun w' => wright_any w' x hl)
  have HQt : Hid (∀ w', Calls Tryz.prog 28 #[.agg q.cells] w' (Below0 w' (.bool s))) := by
    rw [hs]; exact Lib.hid (fun w' => qright_any w' q)
  have HBd : Hid (r = true → s = true → (0 ≤ x.hi ∧ x.hi ≤ 4398046511104) ∧ 0 ≤ q.late ∧ q.late ≤ 1073741824) := by
    refine Lib.hid (fun h1 h2 => ?_)
    have g1 := rightW_cases (x := x) (by rw [← hr]; exact h1)
    have g2 := rightQ_bd (q := q) (by rw [← hs]; exact h2)
    omega
  unfold goneW at hb; rw [← hr, ← hs] at hb; obtain ⟨key, lo, hi⟩ := x; obtain ⟨kind, size, slide, late, agg, tk⟩ := q; unfold WindowL.cells at hw1 HRt ⊢; unfold QueryL.cells at hw1 HQt ⊢; simp only at HD HBd hb; obtain ⟨⟨d0, d1, d2⟩, f0, f1, f2, f3, f4, f5⟩ := HD.out w1 (Below.refl _ _); clear hr hs hl
  cases s with
  | false =>
    obtain rfl : b = false := by rw [hb]; rfl
    clear hb
    go_enter Tryz.func50, Tryz.ntmps50
    go_upto_region 1 with (fail)
    rw [← hw1, ← hxb2, ← hxb]; clear hw1 hxb hxb2; go_wp2_with (fail); refine (HQt.out _).mono ?_; rintro e w2 ⟨rfl, hB⟩; have H2 := Lib.hid (H1.out.trans (hB.mono H1.out.size)); have HB2 := Lib.hid hB; clear hB d0 d1 d2 f0 f1 f2 f3 f4 f5; dsimp only; go_wp2_with (fail); go_ret; exact ⟨rfl, H2.out⟩
  | true =>
    cases r with
    | false =>
      obtain rfl : b = false := by rw [hb]; rfl
      clear hb
      go_enter Tryz.func50, Tryz.ntmps50
      go_upto_region 1 with (fail)
      rw [← hw1, ← hxb2, ← hxb]; clear hw1 hxb hxb2; go_wp2_with (fail); refine (HQt.out _).mono ?_; rintro e w2 ⟨rfl, hB⟩; have H2 := Lib.hid (H1.out.trans (hB.mono H1.out.size)); have HB2 := Lib.hid hB; clear hB d0 d1 d2 f0 f1 f2 f3 f4 f5; obtain ⟨d0, d1, d2⟩ := (HD.out w2 HB2.out).1; obtain ⟨f0, f1, f2, f3, f4, f5⟩ := (HD.out w2 HB2.out).2; dsimp only; go_wp2_with (fail); refine (HRt.out _).mono ?_; rintro e w3 ⟨rfl, hB⟩; have H3 := Lib.hid (H2.out.trans (hB.mono H2.out.size)); have HB3 := Lib.hid (HB2.out.trans (hB.mono HB2.out.size)); clear hB d0 d1 d2 f0 f1 f2 f3 f4 f5; obtain ⟨d0, d1, d2⟩ := (HD.out w3 HB3.out).1; obtain ⟨f0, f1, f2, f3, f4, f5⟩ := (HD.out w3 HB3.out).2; dsimp only; go_wp2_with (fail); go_ret; exact ⟨rfl, H3.out⟩
    | true =>
      obtain ⟨⟨g1, g2⟩, g3, g4⟩ := HBd.out rfl rfl
      obtain rfl : b = decide (hi + late ≤ mark) := by rw [hb]; rfl
      clear hb
      go_enter Tryz.func50, Tryz.ntmps50
      go_upto_region 1 with (fail)
      rw [← hw1, ← hxb2, ← hxb]; clear hw1 hxb hxb2; go_wp2_with (fail); refine (HQt.out _).mono ?_; rintro e w2 ⟨rfl, hB⟩; have H2 := Lib.hid (H1.out.trans (hB.mono H1.out.size)); have HB2 := Lib.hid hB; clear hB d0 d1 d2 f0 f1 f2 f3 f4 f5; obtain ⟨d0, d1, d2⟩ := (HD.out w2 HB2.out).1; obtain ⟨f0, f1, f2, f3, f4, f5⟩ := (HD.out w2 HB2.out).2; dsimp only; go_wp2_with (fail); refine (HRt.out _).mono ?_; rintro e w3 ⟨rfl, hB⟩; have H3 := Lib.hid (H2.out.trans (hB.mono H2.out.size)); have HB3 := Lib.hid (HB2.out.trans (hB.mono HB2.out.size)); clear hB d0 d1 d2 f0 f1 f2 f3 f4 f5; obtain ⟨d0, d1, d2⟩ := (HD.out w3 HB3.out).1; obtain ⟨f0, f1, f2, f3, f4, f5⟩ := (HD.out w3 HB3.out).2; dsimp only; go_wp2_with (fail); go_ret; exact ⟨rfl, H3.out⟩
end Go.Proofs.YtjeeghafachebaaGreat
namespace Go.Proofs.YtjeeghafachebaaGreat
open Go Go.RowKit
theorem two_boxes (w : World) (x y : WindowL) :
    Below w.heap.size w ((w.alloc (.cells x.cells 47)).alloc (.cells y.cells 47)) ∧
    ∀ w', Below ((w.alloc (.cells x.cells 47)).alloc (.cells y.cells 47)).heap.size ((w.alloc (.cells x.cells 47)).alloc (.cells y.cells 47)) w' →
      D3 w' w.heap.size x.key x.lo x.hi ∧ D3 w' (w.heap.size + 1) y.key y.lo y.hi := by
  have hs := heap_alloc_size w (.cells x.cells 47); have h1 : RowW (w.alloc (.cells x.cells 47)) w.heap.size x := heap_alloc_new w _; have h2 := heap_alloc_new (w.alloc (.cells x.cells 47)) (.cells y.cells 47); rw [hs] at h2; have b1 : Below w.heap.size w (w.alloc (.cells x.cells 47)) := (Below.refl _ w).alloc (Nat.le_refl _) _; have b2 : Below (w.alloc (.cells x.cells 47)).heap.size (w.alloc (.cells x.cells 47)) ((w.alloc (.cells x.cells 47)).alloc (.cells y.cells 47)) := (Below.refl _ _).alloc (Nat.le_refl _) _; exact ⟨b1.trans (b2.mono b1.size), fun w' h => ⟨((h1.below b2).below h).d3, (RowW.below (x := y) h2 h).d3⟩⟩
end Go.Proofs.YtjeeghafachebaaGreat
namespace Go.Proofs.YtjeeghafachebaaGreat
open Go Go.RowKit
def atW (l : List WindowL) (i : Nat) : WindowL := l.getD i zeroW
theorem atW_some {l : List WindowL} {i : Nat} {x : WindowL} (h : l[i]? = some x) : atW l i = x := by
  rw [atW, List.getD_eq_getElem?_getD, h, Option.getD_some]
end Go.Proofs.YtjeeghafachebaaGreat
namespace Go.Proofs.YtjeeghafachebaaGreat
open Go Go.RowKit
theorem addr_add0 (p : Addr) : p.add 0 = p := rfl
theorem run_sliceW_h (w : World) (a : Option Addr) (n c i : Nat) (h : i ≤ c) :
    (Instr.slice 84 (.slice a n c) none (some (.int .i64 (i : Int))) none).run Tryz.prog w = .ok (.slice a i c) w := by
  have hz : ∀ w, (sizeOf 47).run Tryz.prog w = .ok 3 w := Tryz.sizeOf47
  cases a <;> simp [Instr.slice, run_underlying Tryz.underlying84, Instr.sliceBounds, run_sliceBound, hz, h, addr_add0]
theorem OwnW.mono {w : World} {base base' : Nat} {v : Value} {l : List WindowL} (h : OwnW w base v l) (hb : base' ≤ base) : OwnW w base' v l := by
  refine ⟨h.1, ?_⟩
  rcases h.2 with h | ⟨g, c, cur, h1, h2, r⟩
  · exact .inl h
  · exact .inr ⟨g, c, cur, h1, Nat.le_trans hb h2, r⟩
def WinsNew (w : World) (l : List WindowL) (e : Ending) (w' : World) : Prop := ∃ v, e = .returned v ∧ OwnW w' w.heap.size v l ∧ Below w.heap.size w w'
theorem RowW.grown {w w' : World} {b : Nat} {x : WindowL} {row : Option Nat} (h : RowW w b x) (hg : w.grownBy w' row) (hne : some b ≠ row) : RowW w' b x := (hg.block b h.lt hne).trans h
theorem RowW.reset {w : World} {b : Nat} {x : WindowL} (h : RowW w b x) (y : WindowL) : RowW (w.setRow b y.cells) b y := setRow_heap w b _ _ _ _ h
theorem grown_setRow (w : World) (b : Nat) (c : Array Value) : w.grownBy (w.setRow b c) (some b) := ⟨rfl, rfl, rfl, by simp [World.setRow], fun k _ hne => setRow_other _ _ _ _ (fun e => hne (by rw [e]))⟩
def natsV (l : List Nat) : List Value := l.map fun (n : Nat) => Value.int .i64 (n : Int)
def OwnN (w : World) (base : Nat) (v : Value) (l : List Nat) : Prop := Own w base 3 v (natsV l)
theorem infoI : (Tryz.prog.info? 3).map (fun i => (i.zero, i.size, i.bytes)) = some (some (.int .i64 0), 1, 8) := by kernel_rfl
theorem rows_apart {w : World} {B B' : Nat} {v g : Value} {l : List WindowL} {n : List Nat} (h : OwnW w B v l) (h' : OwnN w B' g n) : g.ownBlock = none ∨ g.ownBlock ≠ v.ownBlock := by
  rcases h.2 with ⟨h1, _⟩ | ⟨a, c, cur, h1, _, h2, _⟩ <;> rcases h'.2 with ⟨k1, _⟩ | ⟨b, d, cur', k1, _, k2, _⟩
  · exact .inl (by rw [k1]; rfl)
  · right
    rw [h1, k1]; simp [Value.ownBlock]
  · exact .inl (by rw [k1]; rfl)
  · right
    rw [h1, k1]; intro e; simp only [Value.ownBlock, Option.some.injEq] at e; rw [e, h2] at k2; simp only [Option.some.injEq, Obj.cells.injEq] at k2
    exact absurd k2.2.1 (by decide)
theorem rows_apart' {w : World} {B B' : Nat} {v g : Value} {l : List WindowL} {n : List Nat} (h : OwnW w B v l) (h' : OwnN w B' g n) : v.ownBlock = none ∨ v.ownBlock ≠ g.ownBlock := by
  cases hv : v.ownBlock with
  | none => exact .inl rfl
  | some k =>
    right
    rcases rows_apart h h' with e | e
    · rw [e]; simp
    · rw [← hv]; exact fun x => e x.symm
theorem owns_ne {base : Nat} {w : World} {v : Value} (hl : ∀ k, v.ownBlock = some k → base ≤ k ∧ k < w.heap.size) {b : Nat} (hb : b < base) : some b ≠ v.ownBlock := fun e => by
  have := hl b e.symm; omega
def V4 (Vs : List Value) (i1 : Nat) (A1 : Nat → World → Value → Prop) (i2 : Nat) (A2 : Nat → World → Value → Prop) (i3 : Nat) (A3 : Nat → World → Value → Prop) (i4 : Nat) (A4 : Nat → World → Value → Prop) (i k : Nat) (w : World) (v : Value) : Prop :=
  cond (Nat.beq i i1) (A1 k w v) (cond (Nat.beq i i2) (A2 k w v) (cond (Nat.beq i i3) (A3 k w v) (cond (Nat.beq i i4) (A4 k w v) (v = Vs.getD i undef))))
theorem V4_le {Vs : List Value} {i1 i2 i3 i4 : Nat} {A1 A2 A3 A4 : Nat → World → Value → Prop} (le : World → World → Prop) (h1 : ∀ k w w' v, le w w' → A1 k w v → A1 k w' v) (h2 : ∀ k w w' v, le w w' → A2 k w v → A2 k w' v)
    (h3 : ∀ k w w' v, le w w' → A3 k w v → A3 k w' v) (h4 : ∀ k w w' v, le w w' → A4 k w v → A4 k w' v) : ∀ i k w w' v, le w w' → V4 Vs i1 A1 i2 A2 i3 A3 i4 A4 i k w v → V4 Vs i1 A1 i2 A2 i3 A3 i4 A4 i k w' v := by
  intro i k w w' v hl; unfold V4
  cases Nat.beq i i1
  · cases Nat.beq i i2
    · cases Nat.beq i i3
      · cases Nat.beq i i4
        · exact id
        · exact h4 _ _ _ _ hl
      · exact h3 _ _ _ _ hl
    · exact h2 _ _ _ _ hl
  · exact h1 _ _ _ _ hl
theorem V4_keep {Vs : List Value} {i1 i2 i3 i4 : Nat} {A1 A2 A3 A4 : Nat → World → Value → Prop} {i k k' : Nat} {w w' : World} (h1 : i = i1 ∨ ∀ u, A1 k w u → A1 k' w' u) (h2 : i = i2 ∨ ∀ u, A2 k w u → A2 k' w' u)
    (h3 : i = i3 ∨ ∀ u, A3 k w u → A3 k' w' u) (h4 : i = i4 ∨ ∀ u, A4 k w u → A4 k' w' u) : ∀ j u, j ≠ i → V4 Vs i1 A1 i2 A2 i3 A3 i4 A4 j k w u → V4 Vs i1 A1 i2 A2 i3 A3 i4 A4 j k' w' u := by
  intro j u hj
  have key : ∀ (q : Nat) (A : Nat → World → Value → Prop), (i = q ∨ ∀ u, A k w u → A k' w' u) → Nat.beq j q = true → A k w u → A k' w' u := fun q A h hb ha => by
    rcases h with h | h
    · exact absurd ((Nat.eq_of_beq_eq_true hb).trans h.symm) hj
    · exact h u ha
  unfold V4
  cases e1 : Nat.beq j i1
  · cases e2 : Nat.beq j i2
    · cases e3 : Nat.beq j i3
      · cases e4 : Nat.beq j i4
        · exact id
        · exact key i4 A4 h4 e4
      · exact key i3 A3 h3 e3
    · exact key i2 A2 h2 e2
  · exact key i1 A1 h1 e1
theorem RowW.fro {w : World} {b : Nat} {x : WindowL} (h : RowW w b x) (i : Nat) : w.frozen? ⟨b, i, none⟩ = false := by
  unfold RowW at h; simp [World.frozen?, h]
theorem wp_slice1_W {o : Oper} {a : Act} {w : World} {K : Act → World → Prop} {Q : Exit → Act → World → Prop} (y : Operand) (ho : o.op = .buildSlice 84 1 #[(0, y)]) (x : WindowL) (hy : a.eval y = .agg x.cells)
    (h : K (a.put o.dst (.slice (some ⟨w.heap.size, 0, none⟩) 1 1)) (w.alloc (.cells x.cells 47))) : o.wp Tryz.prog a w K Q := by
  have hF : Instr.fill (fun i => some (i * 3, 3)) ((Array.range (1 * 3)).map ((Value.agg #[.string ⟨#[]⟩, .int .i64 0, .int .i64 0]).cells[· % (Value.agg #[.string ⟨#[]⟩, .int .i64 0, .int .i64 0]).cells.size]!)) [(0, .agg x.cells)] = some x.cells := by kernel_rfl
  obtain ⟨i, hi, hz0, hz1, hz2⟩ := info_parts window_parts
  refine wp_buildSlice 84 47 1 _ ho x.cells i _ Tryz.underlying84 hi hz0 (by rw [hz1]; decide) (by rw [hz1]; decide) ?_ h
  rw [hz1]; simp only [List.map_toArray, List.map_cons, List.map_nil, hy]; exact hF
theorem wp_storeW {o : Oper} {a : Act} {w : World} {K : Act → World → Prop} {Q : Exit → Act → World → Prop} (x y : Operand) (ho : o.op = .store 47 x y) (g : Nat) (u old : WindowL)
    (hx : a.eval x = .pointer (some ⟨g, 0, none⟩)) (hy : a.eval y = .agg u.cells) (hg : RowW w g old) (h : K (a.put o.dst undef) (w.setRow g u.cells)) : o.wp Tryz.prog a w K Q :=
  wp_store_row _ x y ho g u.cells hx hy _ old.cells hg window_size rfl (window_one u) h
theorem results_tmp_cell_tmp {P : Program} {fn : Func} {s p u : Tmp} {ty : TypeId} (h : fn.results = #[.tmp s, .cell p ty, .tmp u]) (tmps : Array Value) (w : World) (g : Nat) (t : TypeId) (cs : Array Value) (fr : Nat × Nat) (d : TypeDesc)
    (hp : tmps.getD p undef = .pointer (some ⟨g, 0, none⟩)) (hg : w.heap[g]? = some (.cells cs t fr))
    (hu : P.underlying ty = some d) (hd : (match d with | .struct _ | .array _ _ => true | _ => false) = true) (hi : (P.info? ty).map (·.size) = some cs.size) :
    (results fn tmps).run P w = .ok (.tuple #[tmps.getD s undef, .agg cs, tmps.getD u undef]) w := by
  have hp' : tmps[p]?.getD undef = .pointer (some ⟨g, 0, none⟩) := by simpa using hp
  simp [results, h, hp', asAddr, run_loadVar_row w g t ty cs fr d hg hu hd hi]
end Go.Proofs.YtjeeghafachebaaGreat
namespace Go.Proofs.YtjeeghafachebaaGreat
open Go Go.RowKit
def meetB (a b : WindowL) : Bool := decide (a.key = b.key ∧ a.lo ≤ b.hi ∧ b.lo ≤ a.hi)
theorem joinsB_meet (a b : WindowL) : joinsB a b = (a.rightB && b.rightB && meetB a b) := rfl
def apartB (a b : WindowL) : Bool := decide (placeW a b < 0) && !meetB a b
def wholeW (a b : WindowL) : WindowL := ⟨a.key, min a.lo b.lo, max a.hi b.hi⟩
set_option maxRecDepth 100000 in
theorem smeet_any (w : World) (x y : WindowL) :
    Calls Tryz.prog 114 #[.agg x.cells, .agg y.cells] w (Below0 w (.bool (meetB x y))) := by
  obtain ⟨r, hr⟩ : ∃ r, r = meetB x y := ⟨_, rfl⟩; rw [← hr]; obtain ⟨w1, hw1⟩ : ∃ W, W = (w.alloc (.cells x.cells 47)).alloc (.cells y.cells 47) := ⟨_, rfl⟩; obtain ⟨xb, hxb⟩ : ∃ b, b = w.heap.size := ⟨_, rfl⟩; obtain ⟨yb, hyb⟩ : ∃ b, b = w.heap.size + 1 := ⟨_, rfl⟩
  have H1 : Hid (Below w.heap.size w w1) := by rw [hw1]; exact Lib.hid (two_boxes w x y).1
  have HD : Hid (∀ w', Below w1.heap.size w1 w' → D3 w' xb x.key x.lo x.hi ∧ D3 w' yb y.key y.lo y.hi) := by
    rw [hw1, hxb, hyb]; exact Lib.hid (two_boxes w x y).2
  unfold meetB at hr; obtain ⟨xk, xl, xh⟩ := x; obtain ⟨yk, yl, yh⟩ := y; unfold WindowL.cells at hw1 ⊢; simp only at HD hr; have hsz : (w.alloc (.cells #[Sv xk, .int .i64 xl, .int .i64 xh] 47)).heap.size = w.heap.size + 1 := heap_alloc_size w _; obtain ⟨⟨c0, c1, c2⟩, d0, d1, d2⟩ := HD.out w1 (Below.refl _ _); obtain ⟨ke, hke⟩ : ∃ b, b = decide (xk = yk) := ⟨_, rfl⟩
  have hkeq : ∀ w, (binOp .eql 9 (Sv xk) (Sv yk)).run Tryz.prog w = .ok (.bool ke) w := fun w => by rw [hke]; exact run_eql_Sv w xk yk
  have Hr := Lib.hid (And.intro hr hke); clear hr hke
  cases ke with
  | false =>
    obtain rfl : r = false := by
      rw [Hr.out.1]; refine decide_eq_false fun h => ?_; have := of_decide_eq_false Hr.out.2.symm; exact this h.1
    go_enter Tryz.func114, Tryz.ntmps114
    go_upto_region 1 with (fail)
    rw [← hw1, ← hyb, ← hxb]; clear hw1 hxb hyb; go_wp2_with (fail); go_ret; exact ⟨rfl, H1.out⟩
  | true =>
    have hk : xk = yk := of_decide_eq_true Hr.out.2.symm
    have hr' : r = decide (xl ≤ yh ∧ yl ≤ xh) := by
      rw [Hr.out.1]; exact decide_eq_decide.2 ⟨fun h => h.2, fun h => ⟨hk, h⟩⟩
    clear hk
    by_cases h1 : xl ≤ yh
    · by_cases h2 : yl ≤ xh
      · obtain rfl : r = true := by rw [hr']; exact decide_eq_true ⟨h1, h2⟩
        clear hr'
        go_enter Tryz.func114, Tryz.ntmps114
        go_upto_region 1 with (fail)
        rw [← hw1, ← hyb, ← hxb]; clear hw1 hxb hyb; go_wp2_with (fail); go_ret; exact ⟨rfl, H1.out⟩
      · have e2 : decide (yl ≤ xh) = false := decide_eq_false h2
        obtain rfl : r = false := by rw [hr']; exact decide_eq_false (fun h => h2 h.2)
        clear hr' h2
        go_enter Tryz.func114, Tryz.ntmps114
        go_upto_region 1 with (fail)
        rw [← hw1, ← hyb, ← hxb]; clear hw1 hxb hyb; go_wp2_with (fail); go_ret; exact ⟨rfl, H1.out⟩
    · have e1 : decide (xl ≤ yh) = false := decide_eq_false h1
      obtain rfl : r = false := by rw [hr']; exact decide_eq_false (fun h => h1 h.1)
      clear hr' h1
      go_enter Tryz.func114, Tryz.ntmps114
      go_upto_region 1 with (fail)
      rw [← hw1, ← hyb, ← hxb]; clear hw1 hxb hyb; go_wp2_with (fail); go_ret; exact ⟨rfl, H1.out⟩
set_option maxRecDepth 100000 in
theorem sapart_any (w : World) (x y : WindowL) :
    Calls Tryz.prog 88 #[.agg x.cells, .agg y.cells] w (Below0 w (.bool (apartB x y))) := by
  obtain ⟨r, hr⟩ : ∃ r, r = apartB x y := ⟨_, rfl⟩; rw [← hr]; obtain ⟨w1, hw1⟩ : ∃ W, W = (w.alloc (.cells x.cells 47)).alloc (.cells y.cells 47) := ⟨_, rfl⟩; obtain ⟨xb, hxb⟩ : ∃ b, b = w.heap.size := ⟨_, rfl⟩; obtain ⟨yb, hyb⟩ : ∃ b, b = w.heap.size + 1 := ⟨_, rfl⟩
  have H1 : Hid (Below w.heap.size w w1) := by rw [hw1]; exact Lib.hid (two_boxes w x y).1
  have HD : Hid (∀ w', Below w1.heap.size w1 w' → D3 w' xb x.key x.lo x.hi ∧ D3 w' yb y.key y.lo y.hi) := by
    rw [hw1, hxb, hyb]; exact Lib.hid (two_boxes w x y).2
  obtain ⟨p, hp⟩ : ∃ r, r = placeW x y := ⟨_, rfl⟩; obtain ⟨m, hm⟩ : ∃ r, r = meetB x y := ⟨_, rfl⟩
  have HP : Hid (∀ w', Calls Tryz.prog 54 #[.agg x.cells, .agg y.cells] w' (Below0 w' (.int .i64 p))) := by
    rw [hp]; exact Lib.hid (fun w' => wplace_any w' x y)
  have HM : Hid (∀ w', Calls Tryz.prog 114 #[.agg x.cells, .agg y.cells] w' (Below0 w' (.bool m))) := by
    rw [hm]; exact Lib.hid (fun w' => smeet_any w' x y)
  unfold apartB at hr; rw [← hp, ← hm] at hr; clear hp hm; obtain ⟨xk, xl, xh⟩ := x; obtain ⟨yk, yl, yh⟩ := y; unfold WindowL.cells at hw1 HP HM ⊢; simp only at HD; have hsz : (w.alloc (.cells #[Sv xk, .int .i64 xl, .int .i64 xh] 47)).heap.size = w.heap.size + 1 := heap_alloc_size w _; obtain ⟨⟨c0, c1, c2⟩, d0, d1, d2⟩ := HD.out w1 (Below.refl _ _)
  by_cases h : p < 0
  · obtain rfl : r = !m := by rw [hr, decide_eq_true h]; rfl
    clear hr
    go_enter Tryz.func88, Tryz.ntmps88
    go_upto_region 1 with (fail)
    rw [← hw1, ← hyb, ← hxb]; clear hw1 hxb hyb; go_wp2_with (fail); refine (HP.out w1).mono ?_; rintro e w3 ⟨rfl, hB⟩; have HB := Lib.hid hB; clear hB c0 c1 c2 d0 d1 d2; obtain ⟨⟨c0, c1, c2⟩, d0, d1, d2⟩ := HD.out w3 HB.out; dsimp only; go_wp2_with (fail); refine (HM.out w3).mono ?_; rintro e w4 ⟨rfl, hB⟩; have HB4 := Lib.hid (H1.out.trans ((HB.out.trans (hB.mono HB.out.size)).mono H1.out.size)); clear hB c0 c1 c2 d0 d1 d2; dsimp only; go_wp2_with (fail); go_ret; exact ⟨rfl, HB4.out⟩
  · have h' : decide (p < 0) = false := decide_eq_false h
    obtain rfl : r = false := by rw [hr, h']; rfl
    clear hr h
    go_enter Tryz.func88, Tryz.ntmps88
    go_upto_region 1 with (fail)
    rw [← hw1, ← hyb, ← hxb]; clear hw1 hxb hyb; go_wp2_with (fail); refine (HP.out w1).mono ?_; rintro e w3 ⟨rfl, hB⟩; have HB := Lib.hid (H1.out.trans (hB.mono H1.out.size)); clear hB c0 c1 c2 d0 d1 d2; dsimp only; go_wp2_with (fail); go_ret; exact ⟨rfl, HB.out⟩
theorem wholeW_lo (a b : WindowL) : (wholeW a b).lo = if b.lo < a.lo then b.lo else a.lo := by
  simp only [wholeW]
  split <;> omega
theorem wholeW_hi (a b : WindowL) : (wholeW a b).hi = if a.hi < b.hi then b.hi else a.hi := by
  simp only [wholeW]
  split <;> omega
set_option maxRecDepth 100000 in
theorem swhole_any (w : World) (x y : WindowL) :
    Calls Tryz.prog 119 #[.agg x.cells, .agg y.cells] w (Below0 w (.agg (wholeW x y).cells)) := by
  obtain ⟨r, hr⟩ : ∃ r, r = wholeW x y := ⟨_, rfl⟩
  have h1 : r.lo = if y.lo < x.lo then y.lo else x.lo := by rw [hr, wholeW_lo]
  have h2 : r.hi = if x.hi < y.hi then y.hi else x.hi := by rw [hr, wholeW_hi]
  have h0 : r.key = x.key := by rw [hr]; rfl
  rw [← hr]; clear hr; obtain ⟨w1, hw1⟩ : ∃ W, W = (w.alloc (.cells x.cells 47)).alloc (.cells y.cells 47) := ⟨_, rfl⟩; obtain ⟨xb, hxb⟩ : ∃ b, b = w.heap.size := ⟨_, rfl⟩; obtain ⟨yb, hyb⟩ : ∃ b, b = w.heap.size + 1 := ⟨_, rfl⟩
  have H1 : Hid (Below w.heap.size w w1) := by rw [hw1]; exact Lib.hid (two_boxes w x y).1
  have HD : Hid (∀ w', Below w1.heap.size w1 w' → D3 w' xb x.key x.lo x.hi ∧ D3 w' yb y.key y.lo y.hi) := by
    rw [hw1, hxb, hyb]; exact Lib.hid (two_boxes w x y).2
  obtain ⟨w2, hw2⟩ : ∃ W, W = w1.alloc (.cells #[.string ⟨#[]⟩, .int .i64 0, .int .i64 0] 47) := ⟨_, rfl⟩; obtain ⟨rb, hrb⟩ : ∃ b, b = w.heap.size + 1 + 1 := ⟨_, rfl⟩
  have hs1 : w1.heap.size = w.heap.size + 1 + 1 := by rw [hw1, heap_alloc_size, heap_alloc_size]
  have H2 : Hid (RowW w2 rb zeroW ∧ Below w1.heap.size w1 w2 ∧ w.heap.size ≤ rb ∧ w1.heap.size ≤ rb) := by
    rw [hw2, hrb, ← hs1]
    exact Lib.hid ⟨heap_alloc_new w1 _, (Below.refl _ w1).alloc (Nat.le_refl _) _, by omega, Nat.le_refl _⟩
  obtain ⟨xk, xl, xh⟩ := x; obtain ⟨yk, yl, yh⟩ := y; obtain ⟨rk, rl, rh⟩ := r; simp only at HD h0 h1 h2; subst h0; have Hr := Lib.hid (And.intro h1 h2)
  have HS : Hid (RowW (w2.setRow rb (WindowL.mk rk rl rh).cells) rb ⟨rk, rl, rh⟩ ∧ Below w.heap.size w (w2.setRow rb (WindowL.mk rk rl rh).cells)) := by
    obtain ⟨k1, k2, k3, k4⟩ := H2.out
    have hz : Below w.heap.size w2 (w2.setRow rb (WindowL.mk rk rl rh).cells) := ⟨rfl, rfl, rfl, by simp [World.setRow], fun k hk => setRow_other _ _ _ _ (by omega)⟩
    exact Lib.hid ⟨setRow_heap _ _ _ _ _ _ k1, (H1.out.trans (k2.mono H1.out.size)).trans hz⟩
  unfold WindowL.cells at hw1 ⊢; have hsz : (w.alloc (.cells #[Sv rk, .int .i64 xl, .int .i64 xh] 47)).heap.size = w.heap.size + 1 := heap_alloc_size w _; obtain ⟨⟨c0, c1, c2⟩, d0, d1, d2⟩ := HD.out w2 H2.out.2.1; clear h1 h2
  have hs1' : ((w.alloc (.cells #[Sv rk, .int .i64 xl, .int .i64 xh] 47)).alloc (.cells #[Sv yk, .int .i64 yl, .int .i64 yh] 47)).heap.size = w.heap.size + 1 + 1 := by rw [← hw1]; exact hs1
  clear hs1
  go_enter Tryz.func119, Tryz.ntmps119
  go_upto_region 1 with (fail)
  rw [← hw1, ← hw2, ← hrb, ← hyb, ← hxb]; clear hw1 hw2 hrb hxb hyb; refine wp_region_lit ?_
  iterate 36 go_step
  rw [← Hr.out.1, ← Hr.out.2]
  refine wpList_build_on (by kernel_rfl) 47 _ rfl (WindowL.mk rk rl rh).cells (by simp only [List.map_toArray, List.map_cons, List.map_nil]; exact built_window rk rl rh) ?_
  refine wpList_store_row rfl _ _ _ rfl rb (WindowL.mk rk rl rh).cells rfl rfl 47 zeroW.cells H2.out.1 window_size rfl (window_one _) ?_; obtain ⟨w3, hw3⟩ : ∃ W, W = w2.setRow rb (WindowL.mk rk rl rh).cells := ⟨_, rfl⟩; rw [← hw3] at HS ⊢; clear hw3 c0 c1 c2 d0 d1 d2; go_wp2_with (fail); exact bodyPost_ret (v := .agg #[Sv rk, .int .i64 rl, .int .i64 rh]) (results_cell_row (p := 4) (ty := 47) rfl _ _ rb 47 #[Sv rk, .int .i64 rl, .int .i64 rh] (0, 0) _ rfl HS.out.1 Tryz.underlying47 rfl window_size) rfl ⟨rfl, HS.out.2⟩
end Go.Proofs.YtjeeghafachebaaGreat
namespace Go.Proofs.YtjeeghafachebaaGreat
open Go Go.RowKit
theorem cellsLW_cons (x : WindowL) (l : List WindowL) : cellsLW (x :: l) = Sv x.key :: .int .i64 x.lo :: .int .i64 x.hi :: cellsLW l := rfl
theorem cellsLW_put : ∀ (l : List WindowL) (i : Nat) (x : WindowL), i < l.length → (cellsLW l).take (i * 3) ++ x.cells.toList ++ (cellsLW l).drop (i * 3 + 3) = cellsLW (l.set i x)
  | [], _, _, h => by simp at h
  | y :: l, 0, x, _ => by
    rw [cellsLW_cons]; rfl
  | y :: l, i + 1, x, h => by
    have ih := cellsLW_put l i x (by simpa using h)
    rw [cellsLW_cons, show (i + 1) * 3 = i * 3 + 1 + 1 + 1 by omega, List.set_cons_succ, cellsLW_cons, ← ih]
    simp [List.append_assoc]
theorem wp_putW {o : Oper} {a : Act} {w : World} {K : Act → World → Prop} {Q : Exit → Act → World → Prop} (x y : Operand) (ho : o.op = .store 47 x y) {base g c n i : Nat} {l : List WindowL} (u : WindowL)
    (hown : OwnW w base (.slice (some ⟨g, 0, none⟩) n c) l) (hn : n = l.length) (hi : i < n) (hx : a.eval x = .pointer (some ⟨g, i * 3, none⟩)) (hy : a.eval y = .agg u.cells)
    (h : ∀ w', OwnW w' base (.slice (some ⟨g, 0, none⟩) n c) (l.set i u) → w.grownBy w' (some g) → K (a.put o.dst undef) w') : o.wp Tryz.prog a w K Q := by
  subst hn
  rcases hown.2 with ⟨h', _⟩ | ⟨g', cap', cur, h', hb, hg, hnc, hcm, hcs, htake⟩
  · simp at h'
  · simp only [Value.slice.injEq, Option.some.injEq, Addr.mk.injEq, and_true, true_and] at h'; obtain ⟨rfl, rfl⟩ := h'
    have hfit : i * 3 + u.cells.toList.length ≤ cur.size := by
      have : u.cells.toList.length = 3 := rfl; omega
    have hst := run_storeCells_at Tryz.prog g (i * 3) 47 u.cells.toList 0 cur w hg (by simpa using hfit) (fun v hv => Array.all_eq_true'.1 (window_one u) v (by simpa using hv))
    have hrun : (storeVar 47 ⟨g, i * 3, none⟩ (.agg u.cells)).run Tryz.prog w = .ok () (w.setRow g (cur.toList.take (i * 3) ++ u.cells.toList ++ cur.toList.drop (i * 3 + u.cells.toList.length)).toArray) := by
      have hs : ∀ w, (sizeOf 47).run Tryz.prog w = .ok 3 w := Tryz.sizeOf47; have h3 : u.cells.size = 3 := rfl
      simpa [storeVar, hs, Value.cells, h3] using hst
    unfold Oper.wp execOp; simp only [ho, hx, hy, Instr.storeAt, Instr.sureAddr, Sem.run_bind, Sem.run_pure, Result.andThen_ok, hrun]
    refine h _ ⟨?_, .inr ⟨g, c, _, by rw [List.length_set], hb, setRow_heap w g _ _ _ _ hg, by rw [List.length_set]; exact hnc, hcm, ?_, ?_⟩⟩ (grown_setRow _ _ _)
    · rw [cellsLW_length]
    · have h3 : u.cells.size = 3 := rfl; simp only [List.size_toArray, List.length_append, List.length_take, List.length_drop, Array.length_toList]; omega
    · have h3 : u.cells.toList.length = 3 := rfl; have hL : (cellsLW l).length = l.length * 3 := cellsLW_length l; rw [List.length_set, ← cellsLW_put l i u hi, h3, List.take_append]
      have e1 : (cur.toList.take (i * 3) ++ u.cells.toList).length = i * 3 + 3 := by
        rw [List.length_append, List.length_take, h3, Array.length_toList]; omega
      rw [e1, List.take_of_length_le (by omega), ← htake, List.take_take, Nat.min_eq_left (by omega), List.drop_take]
theorem wp_store1 {P : Program} {o : Oper} {a : Act} {w : World} {K : Act → World → Prop} {Q : Exit → Act → World → Prop} {ty : TypeId} (x y : Operand) (ho : o.op = .store ty x y)
    (A : Addr) (v u : Value) (hx : a.eval x = .pointer (some A)) (hy : a.eval y = v) (hv : v.cells = #[v]) (h1 : v.oneCell' = true) (hs : ∀ w, (sizeOf ty).run P w = .ok 1 w)
    (hc : w.cell? A = some u) (hf : w.frozen? A = false) (h : K (a.put o.dst undef) (w.setCell A v)) : o.wp P a w K Q := by
  unfold Oper.wp execOp; simp only [ho, hx, hy, Sem.run_bind, Sem.run_pure, Result.andThen_ok, run_storeAt_one hv h1 hs hc hf]; exact h
end Go.Proofs.YtjeeghafachebaaGreat
