/-
  WinsCover, whatever slide, times and time it is called with.
-/
import Derived.Test.YtkgmcjeficgciaaDoorWinsFirst
import Derived.Test.YtkgmcjeficgciaaDoorWinsMore
import Derived.Test.YtkgmcjeficgciaaDoorRefWSame
import Derived.Test.YtkgmcjeficgciaaDoorQueryPut
import Derived.Test.YtkgmcjeficgciaaDoorSkip
namespace Go.Proofs.YtkgmcjeficgciaaDoor
open Go Go.RowKit

def CovRel (w0 : World) (n : Nat) (v : Value) (wr : World) : Prop := ∃ j : Nat, j ≤ n ∧ v = .int .i64 (j : Int) ∧ Below w0.heap.size w0 wr
def covQ (P slide : Int) : QueryL := ⟨2, P, slide, 0, 1, 0⟩
theorem covP_right {P slide : Int} (h : 1 ≤ slide ∧ slide ≤ P ∧ P ≤ 16 * slide ∧ P ≤ 1073741824) : (covQ P slide).rightB = true := by
  have a1 : 1 ≤ P ∧ P ≤ 1073741824 := by omega
  have a2 : 1 ≤ slide ∧ slide ≤ P ∧ P ≤ 16 * slide := by omega
  simp [covQ, QueryL.rightB, QueryL.winB, QueryL.aggB, a1, a2]
theorem cov_right {slide times : Int} (h1 : 1 ≤ slide) (h2 : slide ≤ 67108864) (h3 : 1 ≤ times) (h4 : times ≤ 16) : (covQ (slide * times) slide).rightB = true ∧ slide ≤ slide * times ∧ slide * times ≤ 1073741824 := by
  have p1 : slide * 1 ≤ slide * times := Int.mul_le_mul_of_nonneg_left h3 (by omega)
  have p2 : slide * times ≤ slide * 16 := Int.mul_le_mul_of_nonneg_left h4 (by omega)
  exact ⟨covP_right (by omega), by omega, by omega⟩
theorem cov_slides {slide times : Int} (h1 : 1 ≤ slide) (h2 : slide ≤ 67108864) (h3 : 1 ≤ times) (h4 : times ≤ 16) : (covQ (slide * times) slide).slides = times := by
  rw [QueryL.slides, (cov_right h1 h2 h3 h4).1, if_pos rfl]
  show (if (2 : Int) = 2 then _ else _) = _
  rw [if_pos rfl]
  show (slide * times + slide - 1) / slide = times
  have e : slide * times + slide - 1 = (slide - 1) + times * slide := by rw [Int.mul_comm]; omega
  rw [e, Int.add_mul_ediv_right _ _ (by omega), Int.ediv_eq_zero_of_lt (by omega) (by omega)]
  omega
/-- How many windows slide over a time, and which. -/
theorem cov_of {slide times t : Int} (h1 : 1 ≤ slide) (h2 : slide ≤ 67108864) (h3 : 1 ≤ times) (h4 : times ≤ 16) (h5 : 0 ≤ t) (h6 : t ≤ 1099511627776) :
    (t < slide * times - slide → 0 < (ofW (covQ (slide * times) slide) kAnn t).length ∧ ((ofW (covQ (slide * times) slide) kAnn t).length : Int) < times ∧ ∀ x, (ofW (covQ (slide * times) slide) kAnn t)[0]? = some x → x.lo = 0) ∧
    (¬ t < slide * times - slide → ((ofW (covQ (slide * times) slide) kAnn t).length : Int) = times) ∧
    ∀ (i : Nat) (x : WindowL), (ofW (covQ (slide * times) slide) kAnn t)[i]? = some x → x.lo % slide = 0 ∧ x.hi - x.lo = slide * times ∧ 0 ≤ x.lo ∧ x.lo ≤ 1099511627776 := by
  obtain ⟨hr, p1, p2⟩ := cov_right h1 h2 h3 h4
  have hok : okAsk (covQ (slide * times) slide) kAnn t = true := by
    rw [okAsk, hr, decide_eq_true ⟨h5, h6⟩]
    rfl
  have hst : stepQ (covQ (slide * times) slide) = slide := rfl
  have he : ofW (covQ (slide * times) slide) kAnn t = runW (covQ (slide * times) slide) kAnn (loK (covQ (slide * times) slide) t) (t / slide + 1 - loK (covQ (slide * times) slide) t).toNat := by
    rw [ofW, if_pos hok, if_neg (show ¬ (covQ (slide * times) slide).kind = 3 by show ¬ (2 : Int) = 3; decide), hst]
  obtain ⟨b1, b2, b3⟩ := loK_bd hr h5
  rw [hst] at b2 b3
  have hl : loK (covQ (slide * times) slide) t = if t < slide * times then 0 else (t - slide * times) / slide + 1 := rfl
  have hK0 : 0 ≤ t / slide := Int.ediv_nonneg h5 (by omega)
  have hlt : ∀ m : Int, t / slide < m ↔ t < m * slide := fun m => Int.ediv_lt_iff_lt_mul (by omega)
  have em : times * slide = slide * times := Int.mul_comm _ _
  have em1 : (times - 1) * slide = slide * times - slide := by rw [Int.sub_mul, Int.one_mul, em]
  rw [he, runW_length]
  refine ⟨fun hs => ?_, fun hs => ?_, fun i x hx => ?_⟩
  · have hl0 : loK (covQ (slide * times) slide) t = 0 := by rw [hl, if_pos (by omega)]
    have := (hlt (times - 1)).2 (by rw [em1]; exact hs)
    rw [hl0]
    refine ⟨by omega, by omega, fun x hx => ?_⟩
    rw [runW_at _ _ _ _ _ (by omega)] at hx
    cases hx
    show (0 + ((0 : Nat) : Int)) * stepQ _ = 0
    simp
  · have hge : ¬ t / slide < times - 1 := fun h => by
      have := (hlt (times - 1)).1 h
      omega
    by_cases hp : t < slide * times
    · have hl0 : loK (covQ (slide * times) slide) t = 0 := by rw [hl, if_pos hp]
      have := (hlt times).2 (by rw [em]; exact hp)
      rw [hl0]
      omega
    · have hl1 : loK (covQ (slide * times) slide) t = (t - slide * times) / slide + 1 := by rw [hl, if_neg hp]
      have e2 : t - slide * times = t + (-times) * slide := by rw [Int.neg_mul, em]; omega
      rw [e2, Int.add_mul_ediv_right _ _ (by omega)] at hl1
      rw [hl1]
      omega
  · have hi := (List.getElem?_eq_some_iff.1 hx).1
    rw [runW_length] at hi
    rw [runW_at _ _ _ _ _ hi] at hx
    cases hx
    have hk1 : loK (covQ (slide * times) slide) t + (i : Int) ≤ t / slide := by omega
    have hq0 : 0 ≤ (loK (covQ (slide * times) slide) t + (i : Int)) * slide := Int.mul_nonneg (by omega) (by omega)
    have hq1 : (loK (covQ (slide * times) slide) t + (i : Int)) * slide ≤ t / slide * slide := Int.mul_le_mul_of_nonneg_right hk1 (by omega)
    have hq2 : t / slide * slide ≤ t := Int.ediv_mul_le _ (by omega)
    refine ⟨Int.mul_emod_left _ _, ?_, hq0, ?_⟩
    · show (loK (covQ (slide * times) slide) t + (i : Int)) * slide + slide * times - (loK (covQ (slide * times) slide) t + (i : Int)) * slide = slide * times
      omega
    · show (loK (covQ (slide * times) slide) t + (i : Int)) * slide ≤ 1099511627776
      omega
set_option maxRecDepth 100000 in
set_option maxHeartbeats 4000000 in
theorem winsCover_any (w : World) (slide times t : Int) (hI : WinsIn w) :
    Calls Tryd.prog 7 #[.int .i64 slide, .int .i64 times, .int .i64 t] w (Below0 w (.bool true)) := by
  have HF := Lib.hid (wfirst_any w hI)
  clear hI
  go_enter Tryd.func7, Tryd.ntmps7
  go_wp2_with (fail)
  refine HF.out.mono ?_
  rintro e w2 ⟨rfl, hB⟩
  have HB2 := Lib.hid hB
  clear hB
  dsimp only
  by_cases c1 : slide < 1
  · go_wp2_with (fail)
    go_ret
    exact ⟨rfl, HB2.out⟩
  by_cases c2 : 67108864 < slide
  · go_wp2_with (fail)
    go_ret
    exact ⟨rfl, HB2.out⟩
  by_cases c3 : times < 1
  · go_wp2_with (fail)
    go_ret
    exact ⟨rfl, HB2.out⟩
  by_cases c4 : 16 < times
  · go_wp2_with (fail)
    go_ret
    exact ⟨rfl, HB2.out⟩
  by_cases c5 : t < 0
  · go_wp2_with (fail)
    go_ret
    exact ⟨rfl, HB2.out⟩
  by_cases c6 : 1099511627776 < t
  · go_wp2_with (fail)
    go_ret
    exact ⟨rfl, HB2.out⟩
  have h1 : 1 ≤ slide := by omega
  have h2 : slide ≤ 67108864 := by omega
  have h3 : 1 ≤ times := by omega
  have h4 : times ≤ 16 := by omega
  have h5 : 0 ≤ t := by omega
  have h6 : t ≤ 1099511627776 := by omega
  obtain ⟨q1, q2, q3⟩ := cov_right h1 h2 h3 h4
  have hslides := cov_slides h1 h2 h3 h4
  have hof := cov_of h1 h2 h3 h4 h5 h6
  obtain ⟨P, hP⟩ : ∃ P, P = slide * times := ⟨_, rfl⟩
  rw [← hP] at q1 q2 q3 hslides hof
  have hwr : wrap64 (slide * times) = P := by rw [← hP, IntWalk.wrap64_in _ (by omega)]
  have HQr := Lib.hid q1
  have HSl := Lib.hid hslides
  obtain ⟨L, hL0⟩ : ∃ l, l = ofW (covQ P slide) kAnn t := ⟨_, rfl⟩
  rw [← hL0] at hof
  have HOf := Lib.hid hof
  have HLe := Lib.hid hL0
  have HP := Lib.hid hP
  clear q1 hslides hof hL0 hP
  go_upto_region 5 with (fail)
  refine wp_region_lit ?_
  first
    | (iterate 10 go_step
       refine wpList_store_row rfl _ _ _ rfl w2.heap.size (covQ P slide).cells rfl rfl 23 zeroQ.cells (heap_alloc_new w2 _) query_size rfl (query_one _) ?_)
    | (iterate 11 go_step
       refine wpList_store_row rfl _ _ _ rfl w2.heap.size (covQ P slide).cells rfl rfl 23 zeroQ.cells (heap_alloc_new w2 _) query_size rfl (query_one _) ?_)
    | (iterate 12 go_step
       refine wpList_store_row rfl _ _ _ rfl w2.heap.size (covQ P slide).cells rfl rfl 23 zeroQ.cells (heap_alloc_new w2 _) query_size rfl (query_one _) ?_)
    | (iterate 13 go_step
       refine wpList_store_row rfl _ _ _ rfl w2.heap.size (covQ P slide).cells rfl rfl 23 zeroQ.cells (heap_alloc_new w2 _) query_size rfl (query_one _) ?_)
    | (iterate 14 go_step
       refine wpList_store_row rfl _ _ _ rfl w2.heap.size (covQ P slide).cells rfl rfl 23 zeroQ.cells (heap_alloc_new w2 _) query_size rfl (query_one _) ?_)
    | (iterate 15 go_step
       refine wpList_store_row rfl _ _ _ rfl w2.heap.size (covQ P slide).cells rfl rfl 23 zeroQ.cells (heap_alloc_new w2 _) query_size rfl (query_one _) ?_)
    | (iterate 16 go_step
       refine wpList_store_row rfl _ _ _ rfl w2.heap.size (covQ P slide).cells rfl rfl 23 zeroQ.cells (heap_alloc_new w2 _) query_size rfl (query_one _) ?_)
    | (iterate 17 go_step
       refine wpList_store_row rfl _ _ _ rfl w2.heap.size (covQ P slide).cells rfl rfl 23 zeroQ.cells (heap_alloc_new w2 _) query_size rfl (query_one _) ?_)
    | (iterate 18 go_step
       refine wpList_store_row rfl _ _ _ rfl w2.heap.size (covQ P slide).cells rfl rfl 23 zeroQ.cells (heap_alloc_new w2 _) query_size rfl (query_one _) ?_)
    | (iterate 19 go_step
       refine wpList_store_row rfl _ _ _ rfl w2.heap.size (covQ P slide).cells rfl rfl 23 zeroQ.cells (heap_alloc_new w2 _) query_size rfl (query_one _) ?_)
  obtain ⟨w3, hw3⟩ : ∃ W, W = (w2.alloc (Obj.cells #[.int .i64 0, .int .i64 0, .int .i64 0, .int .i64 0, .int .i64 0, .int .i64 0] 23)).setRow w2.heap.size (covQ P slide).cells := ⟨_, rfl⟩
  obtain ⟨qb, hqb⟩ : ∃ b, b = w2.heap.size := ⟨_, rfl⟩
  have H3 : Hid (RowQ w3 qb (covQ P slide) ∧ Below w.heap.size w w3) := by
    obtain ⟨k1, k2⟩ := stored_query w2 (covQ P slide)
    rw [hw3, hqb]
    exact Lib.hid ⟨k1, HB2.out.trans (k2.mono HB2.out.size)⟩
  rw [← hw3, ← hqb]
  clear hw3 hqb hwr
  have HCO : Hid (∀ w', Calls Tryd.prog 9 #[.agg #[.int .i64 2, .int .i64 P, .int .i64 slide, .int .i64 0, .int .i64 1, .int .i64 0], .string ⟨#[97, 110, 110]⟩, .int .i64 t] w' (WinsEnd w' L)) := by
    rw [HLe.out]
    exact Lib.hid (fun w' => wof_any w' (covQ P slide) kAnn t (by decide))
  obtain ⟨d0, d1, d2, d3, d4, d5⟩ : D6 w3 qb 2 P slide 0 1 0 := H3.out.1.d6
  go_wp2_with (fail)
  refine (HCO.out w3).mono ?_
  rintro e w6 ⟨la, lc, rfl, hcap, hL, hB⟩
  have H6 : Hid (WinsAt w6 la L ∧ RowQ w6 qb (covQ P slide) ∧ Below w.heap.size w w6) := Lib.hid ⟨hL, H3.out.1.below hB, H3.out.2.trans (hB.mono H3.out.2.size)⟩
  clear hcap hL hB d0 d1 d2 d3 d4 d5
  obtain ⟨d0, d1, d2, d3, d4, d5⟩ : D6 w6 qb 2 P slide 0 1 0 := H6.out.2.1.d6
  obtain ⟨N, hN⟩ : ∃ N, N = L.length := ⟨_, rfl⟩
  have HN : Hid (N = L.length ∧ N ≤ 16) := Lib.hid ⟨hN, by rw [hN, HLe.out]; exact ofW_len _ _ _⟩
  have hN16 : N ≤ 16 := HN.out.2
  rw [← hN]
  clear hN
  dsimp only
  by_cases hs : t < P - slide
  · have ho := HOf.out.1 hs
    rw [← HN.out.1] at ho
    obtain ⟨o1, o2, o3⟩ := ho
    obtain ⟨x, pa, oa, hx, rfl, e0, e1, e2⟩ := H6.out.1.get (t := 0) (by rw [← HN.out.1]; exact o1)
    rw [o3 x hx] at e1
    have o1' : (0 : Int) < (N : Int) := by omega
    have hi0 : (0 : Int) ≤ 0 ∧ (0 : Int) < (N : Int) := by omega
    have HO := Lib.hid (And.intro o1 o2)
    rw [Nat.zero_mul, Nat.add_zero] at e0 e1 e2
    clear o3 hx o1
    go_wp2_with (fail)
    go_ret
    exact ⟨rfl, H6.out.2.2⟩
  have ho := HOf.out.2.1 (by omega)
  rw [← HN.out.1] at ho
  have hNt : ((N : Int) == times) = true := by rw [ho]; simp
  have HNt := Lib.hid hNt
  clear ho hNt
  go_wp2_with (fail)
  clear d0 d1 d2 d3 d4 d5
  go_loopw [67] (CovRel w6 N) (fun i _ => N - (intOf i).toNat)
  case atStart => exact ⟨0, Nat.zero_le _, rfl, Below.refl _ _⟩
  case round =>
    obtain ⟨j, hj, rfl, hBw⟩ := hrel
    by_cases hlt : j < N
    · have hi0 : (0 : Int) ≤ (j : Int) ∧ (j : Int) < (N : Int) := by omega
      obtain ⟨x, pa, oa, hx, rfl, e0, e1, e2⟩ := (H6.out.1.below hBw).get (t := j) (by rw [← HN.out.1]; exact hlt)
      obtain ⟨a1, a2, a3, a4⟩ := HOf.out.2.2 j x hx
      have HXj := Lib.hid hx
      have HBw := Lib.hid hBw
      have HJ : Hid (j + 1 ≤ N) := Lib.hid hlt
      obtain ⟨xk, xl, xh⟩ := x
      simp only at e0 e1 e2 a1 a2 a3 a4
      have HAr : Hid (xl % slide = 0 ∧ xh - xl = P ∧ 1 ≤ slide ∧ 0 ≤ xl ∧ xl ≤ 1099511627776 ∧ 0 ≤ P ∧ P ≤ 1073741824) := Lib.hid ⟨a1, a2, by omega, a3, a4, by omega, by omega⟩
      clear hx hBw hj hlt a1 a2 a3 a4
      go_upto_region 11 with (fail)
      refine wp_region_lit ?_
      first
        | (iterate 6 go_step
           refine wpList_store_row rfl _ _ _ rfl wr.heap.size (WindowL.mk xk xl xh).cells rfl rfl 31 zeroW.cells (heap_alloc_new wr _) window_size rfl (window_one _) ?_)
        | (iterate 7 go_step
           refine wpList_store_row rfl _ _ _ rfl wr.heap.size (WindowL.mk xk xl xh).cells rfl rfl 31 zeroW.cells (heap_alloc_new wr _) window_size rfl (window_one _) ?_)
        | (iterate 8 go_step
           refine wpList_store_row rfl _ _ _ rfl wr.heap.size (WindowL.mk xk xl xh).cells rfl rfl 31 zeroW.cells (heap_alloc_new wr _) window_size rfl (window_one _) ?_)
        | (iterate 9 go_step
           refine wpList_store_row rfl _ _ _ rfl wr.heap.size (WindowL.mk xk xl xh).cells rfl rfl 31 zeroW.cells (heap_alloc_new wr _) window_size rfl (window_one _) ?_)
        | (iterate 10 go_step
           refine wpList_store_row rfl _ _ _ rfl wr.heap.size (WindowL.mk xk xl xh).cells rfl rfl 31 zeroW.cells (heap_alloc_new wr _) window_size rfl (window_one _) ?_)
        | (iterate 11 go_step
           refine wpList_store_row rfl _ _ _ rfl wr.heap.size (WindowL.mk xk xl xh).cells rfl rfl 31 zeroW.cells (heap_alloc_new wr _) window_size rfl (window_one _) ?_)
        | (iterate 12 go_step
           refine wpList_store_row rfl _ _ _ rfl wr.heap.size (WindowL.mk xk xl xh).cells rfl rfl 31 zeroW.cells (heap_alloc_new wr _) window_size rfl (window_one _) ?_)
        | (iterate 13 go_step
           refine wpList_store_row rfl _ _ _ rfl wr.heap.size (WindowL.mk xk xl xh).cells rfl rfl 31 zeroW.cells (heap_alloc_new wr _) window_size rfl (window_one _) ?_)
        | (iterate 14 go_step
           refine wpList_store_row rfl _ _ _ rfl wr.heap.size (WindowL.mk xk xl xh).cells rfl rfl 31 zeroW.cells (heap_alloc_new wr _) window_size rfl (window_one _) ?_)
        | (iterate 15 go_step
           refine wpList_store_row rfl _ _ _ rfl wr.heap.size (WindowL.mk xk xl xh).cells rfl rfl 31 zeroW.cells (heap_alloc_new wr _) window_size rfl (window_one _) ?_)
        | (iterate 16 go_step
           refine wpList_store_row rfl _ _ _ rfl wr.heap.size (WindowL.mk xk xl xh).cells rfl rfl 31 zeroW.cells (heap_alloc_new wr _) window_size rfl (window_one _) ?_)
        | (iterate 17 go_step
           refine wpList_store_row rfl _ _ _ rfl wr.heap.size (WindowL.mk xk xl xh).cells rfl rfl 31 zeroW.cells (heap_alloc_new wr _) window_size rfl (window_one _) ?_)
        | (iterate 18 go_step
           refine wpList_store_row rfl _ _ _ rfl wr.heap.size (WindowL.mk xk xl xh).cells rfl rfl 31 zeroW.cells (heap_alloc_new wr _) window_size rfl (window_one _) ?_)
        | (iterate 19 go_step
           refine wpList_store_row rfl _ _ _ rfl wr.heap.size (WindowL.mk xk xl xh).cells rfl rfl 31 zeroW.cells (heap_alloc_new wr _) window_size rfl (window_one _) ?_)
      obtain ⟨wx, hwx⟩ : ∃ W, W = (wr.alloc (Obj.cells #[.string ⟨#[]⟩, .int .i64 0, .int .i64 0] 31)).setRow wr.heap.size (WindowL.mk xk xl xh).cells := ⟨_, rfl⟩
      obtain ⟨wb, hwb⟩ : ∃ b, b = wr.heap.size := ⟨_, rfl⟩
      have HX2 : Hid (RowW wx wb ⟨xk, xl, xh⟩ ∧ Below w6.heap.size w6 wx) := by
        obtain ⟨k1, k2⟩ := stored_window wr ⟨xk, xl, xh⟩
        rw [hwx, hwb]
        exact Lib.hid ⟨k1, HBw.out.trans (k2.mono HBw.out.size)⟩
      rw [← hwx, ← hwb]
      clear hwx hwb e0 e1 e2
      have HG0 : Hid (Below wx.heap.size wx wx.drew) := (Below.refl _ wx).drew
      have HD0 : Hid (∀ w', Below wx.heap.size wx w' → D3 w' wb xk xl xh ∧ D6 w' qb 2 P slide 0 1 0 ∧ WinsAt w' (some ⟨pa, oa, none⟩) L) := by
        refine Lib.hid (fun w' h => ?_)
        have h2 := HX2.out.2.trans (h.mono HX2.out.2.size)
        exact ⟨(HX2.out.1.below h).d3, (H6.out.2.1.below h2).d6, H6.out.1.below h2⟩
      by_cases hj0 : j = 0
      · subst hj0
        have HD : Hid (∀ w', Below wx.heap.size wx w' → D3 w' wb xk xl xh ∧ D6 w' qb 2 P slide 0 1 0 ∧ True) := Lib.hid (fun w' h => ⟨(HD0.out w' h).1, (HD0.out w' h).2.1, trivial⟩)
        have HGt : Hid ((0 : Int) < (0 : Int) ↔ False) := Lib.hid (by simp)
        rw [show ((0 : Nat) : Int) = 0 from rfl] at hi0 ⊢
        go_upto_region 12 with (fail)
        refine wp_region_skip_frame (fun i => ([19, 20, 21, 22, 23, 24, 25, 26, 27, 28, 29] : List Nat).contains i) (by kernel_rfl) [none, none, none, none, none, none, none, none, none, none, none, none, none, none, none, none, none, none, none, none, none, none, none, none, none, none, none, none, none, none, none, none] [] (fun i_ _ _ v_ => v_ = (((Value.pointer (some ⟨wb, 1, none⟩)) :: (Value.int .i64 xl) :: (Value.int .i64 slide) :: (Value.int .i64 0) :: (Value.bool false) :: (Value.bool false) :: (Value.pointer (some ⟨wb, 2, none⟩)) :: (Value.int .i64 xh) :: (Value.pointer (some ⟨wb, 1, none⟩)) :: (Value.int .i64 xl) :: (Value.int .i64 P) :: (Value.pointer (some ⟨qb, 1, none⟩)) :: (Value.int .i64 P) :: (Value.bool false) :: (Value.bool false) :: (Value.bool false) :: (Value.int .i64 (0 : Int)) :: (Value.bool false) :: (Value.bool false) :: undef :: undef :: undef :: undef :: undef :: undef :: undef :: undef :: undef :: undef :: undef :: (Value.bool false) :: (Value.bool false) :: ([] : List Value))).getD i_ undef) (fun _ w' => Below wx.heap.size wx w') (fun w w' => Below w.heap.size w w') (fun _ _ _ _ _ _ h => h) (by kernel_rfl) (by kernel_rfl) (by kernel_rfl) HG0.out (fun _ => ⟨rfl, rfl, rfl, rfl, rfl, rfl, fun _ _ h => h, fun _ _ h => h, fun _ _ h => h, fun _ _ h => h, fun _ _ h => h, fun _ _ h => h, fun _ _ h => h, fun _ _ h => h, rfl, rfl, fun _ _ h => h, fun _ _ h => h, fun _ _ h => h, fun _ _ h => h, fun _ _ h => h, fun _ _ h => h, fun _ _ h => h, fun _ _ h => h, fun _ _ h => h, fun _ _ h => h, fun _ _ h => h, fun _ _ h => h, fun _ _ h => h, fun _ _ h => h, fun _ _ h => h, rfl, trivial⟩) (fun i hi => by have hm := List.contains_iff_mem.1 hi; simp only [List.mem_cons, List.not_mem_nil, or_false] at hm; rcases hm with rfl | rfl | rfl | rfl | rfl | rfl | rfl | rfl | rfl | rfl | rfl <;> exact ⟨rfl, fun _ _ => rfl⟩) ?_ ?_
        · refine ⟨?_, ?_, ?_, ?_, ?_, ?_, ?_, ?_, ?_, ?_, ?_, ?_, ?_, ?_, ?_, ?_, ?_, ?_, ?_, ?_, ?_, ?_, ?_, ?_, ?_, ?_, ?_, ?_, ?_, ?_, ?_, ?_, trivial⟩
          · intro _ k a w' hG hout hpre K hK
            have q10 := ev_of ((hout 10 rfl).trans (show _ = .pointer (some ⟨wb, 0, none⟩) from rfl))
            clear hout hpre
            go_step
            exact hK _ _ rfl hG (Below.refl _ _)
          · intro _ k a w' hG hout hpre K hK
            obtain ⟨p0, _⟩ := hpre
            have q72 := ev_of (show a.eval (.tmp 72) = .pointer (some ⟨wb, 1, none⟩) from p0)
            obtain ⟨d0, d1, d2⟩ := (HD.out w' hG).1
            clear hout p0
            go_step
            exact hK _ _ rfl hG (Below.refl _ _)
          · intro _ k a w' hG hout hpre K hK
            have q0 := ev_of ((hout 0 rfl).trans (show _ = .int .i64 slide from rfl))
            clear hout hpre
            go_step
            exact hK _ _ rfl hG (Below.refl _ _)
          · intro _ k a w' hG hout hpre K hK
            obtain ⟨p0, p1, _⟩ := hpre
            have q73 := ev_of (show a.eval (.tmp 73) = .int .i64 xl from p0)
            have q74 := ev_of (show a.eval (.tmp 74) = .int .i64 slide from p1)
            have hz : ¬ slide = 0 := by have := HAr.out.2.2; omega
            clear hout p0 p1
            go_step
            exact hK _ _ (congrArg (Value.int .i64) ((IntWalk.rem_in xl slide HAr.out.2.2.2.1).trans HAr.out.1)) hG (Below.refl _ _)
          · intro _ k a w' hG hout hpre K hK
            obtain ⟨p0, _⟩ := hpre
            have q75 := ev_of (show a.eval (.tmp 75) = .int .i64 0 from p0)
            clear hout p0
            go_step
            exact hK _ _ rfl hG (Below.refl _ _)
          · intro _ k a w' hG hout hpre K hK
            obtain ⟨p0, _⟩ := hpre
            have q76 := ev_of (show a.eval (.tmp 76) = .bool false from p0)
            clear hout p0
            go_step
            exact hK _ _ rfl hG (Below.refl _ _)
          · intro _ k a w' hG hout hpre K hK
            have q10 := ev_of ((hout 10 rfl).trans (show _ = .pointer (some ⟨wb, 0, none⟩) from rfl))
            clear hout hpre
            go_step
            exact hK _ _ rfl hG (Below.refl _ _)
          · intro _ k a w' hG hout hpre K hK
            obtain ⟨p0, _⟩ := hpre
            have q78 := ev_of (show a.eval (.tmp 78) = .pointer (some ⟨wb, 2, none⟩) from p0)
            obtain ⟨d0, d1, d2⟩ := (HD.out w' hG).1
            clear hout p0
            go_step
            exact hK _ _ rfl hG (Below.refl _ _)
          · intro _ k a w' hG hout hpre K hK
            have q10 := ev_of ((hout 10 rfl).trans (show _ = .pointer (some ⟨wb, 0, none⟩) from rfl))
            clear hout hpre
            go_step
            exact hK _ _ rfl hG (Below.refl _ _)
          · intro _ k a w' hG hout hpre K hK
            obtain ⟨p0, _⟩ := hpre
            have q80 := ev_of (show a.eval (.tmp 80) = .pointer (some ⟨wb, 1, none⟩) from p0)
            obtain ⟨d0, d1, d2⟩ := (HD.out w' hG).1
            clear hout p0
            go_step
            exact hK _ _ rfl hG (Below.refl _ _)
          · intro _ k a w' hG hout hpre K hK
            obtain ⟨p0, p1, _⟩ := hpre
            have q79 := ev_of (show a.eval (.tmp 79) = .int .i64 xh from p0)
            have q81 := ev_of (show a.eval (.tmp 81) = .int .i64 xl from p1)
            have hs := HAr.out.2.1
            clear hout p0 p1
            go_step
            exact hK _ _ rfl hG (Below.refl _ _)
          · intro _ k a w' hG hout hpre K hK
            have q7 := ev_of ((hout 7 rfl).trans (show _ = .pointer (some ⟨qb, 0, none⟩) from rfl))
            clear hout hpre
            go_step
            exact hK _ _ rfl hG (Below.refl _ _)
          · intro _ k a w' hG hout hpre K hK
            obtain ⟨p0, _⟩ := hpre
            have q83 := ev_of (show a.eval (.tmp 83) = .pointer (some ⟨qb, 1, none⟩) from p0)
            obtain ⟨d0, d1, d2, d3, d4, d5⟩ := (HD.out w' hG).2.1
            clear hout p0
            go_step
            exact hK _ _ rfl hG (Below.refl _ _)
          · intro _ k a w' hG hout hpre K hK
            obtain ⟨p0, p1, _⟩ := hpre
            have q82 := ev_of (show a.eval (.tmp 82) = .int .i64 P from p0)
            have q84 := ev_of (show a.eval (.tmp 84) = .int .i64 P from p1)
            have he : (P != P) = false := by simp
            clear hout p0 p1
            go_step
            exact hK _ _ rfl hG (Below.refl _ _)
          · intro _ k a w' hG hout hpre K hK
            obtain ⟨p0, p1, _⟩ := hpre
            have q77 := ev_of (show a.eval (.tmp 77) = .bool false from p0)
            have q85 := ev_of (show a.eval (.tmp 85) = .bool false from p1)
            clear hout p0 p1
            go_step
            exact hK _ _ rfl hG (Below.refl _ _)
          · intro _ k a w' hG hout hpre K hK
            obtain ⟨p0, _⟩ := hpre
            have q86 := ev_of (show a.eval (.tmp 86) = .bool false from p0)
            clear hout p0
            go_step
            exact hK _ _ rfl hG (Below.refl _ _)
          · intro _ k a w' hG hout hpre K hK
            have q9 := ev_of ((hout 9 rfl).trans (show _ = .int .i64 (0 : Int) from rfl))
            clear hout hpre
            go_step
            exact hK _ _ rfl hG (Below.refl _ _)
          · intro _ k a w' hG hout hpre K hK
            obtain ⟨p0, _⟩ := hpre
            have q88 := ev_of (show a.eval (.tmp 88) = .int .i64 (0 : Int) from p0)
            have hgt := HGt.out
            clear hout p0
            go_step
            exact hK _ _ rfl hG (Below.refl _ _)
          · intro _ k a w' hG hout hpre K hK
            obtain ⟨p0, _⟩ := hpre
            have q89 := ev_of (show a.eval (.tmp 89) = .bool false from p0)
            clear hout p0
            go_step
            exact hK _ _ rfl hG (Below.refl _ _)
          · exact fun h => absurd h (by decide)
          · exact fun h => absurd h (by decide)
          · exact fun h => absurd h (by decide)
          · exact fun h => absurd h (by decide)
          · exact fun h => absurd h (by decide)
          · exact fun h => absurd h (by decide)
          · exact fun h => absurd h (by decide)
          · exact fun h => absurd h (by decide)
          · exact fun h => absurd h (by decide)
          · exact fun h => absurd h (by decide)
          · exact fun h => absurd h (by decide)
          · intro _ k a w' hG hout hpre K hK
            obtain ⟨p0, p1, _⟩ := hpre
            have q90 := ev_of (show a.eval (.tmp 90) = .bool false from p0)
            have q101 := ev_of (show a.eval (.tmp 101) = undef from p1)
            clear hout p0 p1
            go_step
            exact hK _ _ rfl hG (Below.refl _ _)
          · intro _ k a w' hG hout hpre K hK
            obtain ⟨p0, p1, _⟩ := hpre
            have q87 := ev_of (show a.eval (.tmp 87) = .bool false from p0)
            have q102 := ev_of (show a.eval (.tmp 102) = .bool false from p1)
            clear hout p0 p1
            go_step
            exact hK _ _ rfl hG (Below.refl _ _)
        · intro vs w2 hG hlen hV
          match vs, hlen, hV with
          | v0 :: v1 :: v2 :: v3 :: v4 :: v5 :: v6 :: v7 :: v8 :: v9 :: v10 :: v11 :: v12 :: v13 :: v14 :: v15 :: v16 :: v17 :: v18 :: v19 :: v20 :: v21 :: v22 :: v23 :: v24 :: v25 :: v26 :: v27 :: v28 :: v29 :: v30 :: v31 :: [], _, hV =>
            obtain rfl : v31 = .bool false := (hV 31 103 v31 rfl rfl)
            clear hV
            simp only [putsL, List.tail_cons, List.headD_cons]
            simp only [Act.put, List.setIfInBounds_toArray, List.set_cons_succ, List.set_cons_zero]
            have HZ : Hid (CovRel w6 N (.int .i64 ((0 : Int) + 1)) w2) := by
              refine Lib.hid ⟨0 + 1, by have := HJ.out; omega, by go_num, HX2.out.2.trans (hG.mono HX2.out.2.size)⟩
            clear hG
            go_wp2_with (fail)
            go_roundw
            case rel => exact HZ.out
            case measure => have := HJ.out; simp [intOf]; omega
      · obtain ⟨i, rfl⟩ : ∃ i, j = i + 1 := ⟨j - 1, by omega⟩
        obtain ⟨y, pb, ob, hy, hpb, _⟩ := H6.out.1.get (t := i) (by have := HJ.out; rw [← HN.out.1]; omega)
        cases hpb
        obtain ⟨yk, yl, yh⟩ := y
        have hstep := ofW_step (q := covQ P slide) (key := kAnn) (t := t) (i := i) (by rw [← HLe.out]; exact hy) (by rw [← HLe.out]; exact HXj.out)
        have HPl : Hid (yl + slide = xl ∧ 0 ≤ yl ∧ yl ≤ 1099511627776) := by
          have h2 := HOf.out.2.2 i _ hy
          have h3 : xl = yl + stepQ (covQ P slide) := hstep.2.1
          have h4 : stepQ (covQ P slide) = slide := rfl
          simp only at h2
          exact Lib.hid (by omega)
        have HD : Hid (∀ w', Below wx.heap.size wx w' → D3 w' wb xk xl xh ∧ D6 w' qb 2 P slide 0 1 0 ∧ w'.cell? ⟨pa, oa + i * 3 + 1, none⟩ = some (.int .i64 yl)) := by
          refine Lib.hid (fun w' h => ?_)
          obtain ⟨k1, k2, k3⟩ := HD0.out w' h
          refine ⟨k1, k2, ?_⟩
          rcases k3 with k3 | ⟨b', o', e', k3⟩
          · rw [k3] at hy
            cases hy
          · cases e'
            exact k3 i _ hy 1 _ rfl
        have HGt : Hid ((0 : Int) < ((i + 1 : Nat) : Int)) := Lib.hid (by omega)
        have HIm : Hid (((i + 1 : Nat) : Int) - 1 = (i : Int) ∧ (0 : Int) ≤ ((i + 1 : Nat) : Int) ∧ ((i + 1 : Nat) : Int) ≤ 16) := Lib.hid (by have := HJ.out; omega)
        have HI0 : Hid ((0 : Int) ≤ (i : Int) ∧ (i : Int) < (N : Int)) := Lib.hid (by have := HJ.out; omega)
        clear hy hstep hj0
        go_upto_region 12 with (fail)
        refine wp_region_skip_frame (fun i => ([] : List Nat).contains i) (by kernel_rfl) [none, none, none, none, none, none, none, none, none, none, none, none, none, none, none, none, none, none, none, none, none, none, none, none, none, none, none, none, none, none, none, none] [] (fun i_ _ _ v_ => v_ = (((Value.pointer (some ⟨wb, 1, none⟩)) :: (Value.int .i64 xl) :: (Value.int .i64 slide) :: (Value.int .i64 0) :: (Value.bool false) :: (Value.bool false) :: (Value.pointer (some ⟨wb, 2, none⟩)) :: (Value.int .i64 xh) :: (Value.pointer (some ⟨wb, 1, none⟩)) :: (Value.int .i64 xl) :: (Value.int .i64 P) :: (Value.pointer (some ⟨qb, 1, none⟩)) :: (Value.int .i64 P) :: (Value.bool false) :: (Value.bool false) :: (Value.bool false) :: (Value.int .i64 (((i + 1 : Nat)) : Int)) :: (Value.bool true) :: (Value.bool true) :: (Value.pointer (some ⟨wb, 1, none⟩)) :: (Value.int .i64 xl) :: (Value.slice (some ⟨pa, oa, none⟩) N lc) :: (Value.int .i64 (((i + 1 : Nat)) : Int)) :: (Value.int .i64 (i : Int)) :: (Value.pointer (some ⟨pa, oa + i * 3, none⟩)) :: (Value.pointer (some ⟨pa, oa + i * 3 + 1, none⟩)) :: (Value.int .i64 yl) :: (Value.int .i64 slide) :: (Value.int .i64 xl) :: (Value.bool false) :: (Value.bool false) :: (Value.bool false) :: ([] : List Value))).getD i_ undef) (fun _ w' => Below wx.heap.size wx w') (fun w w' => Below w.heap.size w w') (fun _ _ _ _ _ _ h => h) (by kernel_rfl) (by kernel_rfl) (by kernel_rfl) HG0.out (fun _ => ⟨rfl, rfl, rfl, rfl, rfl, rfl, fun _ _ h => h, fun _ _ h => h, fun _ _ h => h, fun _ _ h => h, fun _ _ h => h, fun _ _ h => h, fun _ _ h => h, fun _ _ h => h, rfl, rfl, fun _ _ h => h, fun _ _ h => h, fun _ _ h => h, fun _ _ h => h, fun _ _ h => h, fun _ _ h => h, fun _ _ h => h, fun _ _ h => h, fun _ _ h => h, fun _ _ h => h, fun _ _ h => h, fun _ _ h => h, fun _ _ h => h, fun _ _ h => h, fun _ _ h => h, rfl, trivial⟩) (fun _ h => by simp at h) ?_ ?_
        · refine ⟨?_, ?_, ?_, ?_, ?_, ?_, ?_, ?_, ?_, ?_, ?_, ?_, ?_, ?_, ?_, ?_, ?_, ?_, ?_, ?_, ?_, ?_, ?_, ?_, ?_, ?_, ?_, ?_, ?_, ?_, ?_, ?_, trivial⟩
          · intro _ k a w' hG hout hpre K hK
            have q10 := ev_of ((hout 10 rfl).trans (show _ = .pointer (some ⟨wb, 0, none⟩) from rfl))
            clear hout hpre
            go_step
            exact hK _ _ rfl hG (Below.refl _ _)
          · intro _ k a w' hG hout hpre K hK
            obtain ⟨p0, _⟩ := hpre
            have q72 := ev_of (show a.eval (.tmp 72) = .pointer (some ⟨wb, 1, none⟩) from p0)
            obtain ⟨d0, d1, d2⟩ := (HD.out w' hG).1
            clear hout p0
            go_step
            exact hK _ _ rfl hG (Below.refl _ _)
          · intro _ k a w' hG hout hpre K hK
            have q0 := ev_of ((hout 0 rfl).trans (show _ = .int .i64 slide from rfl))
            clear hout hpre
            go_step
            exact hK _ _ rfl hG (Below.refl _ _)
          · intro _ k a w' hG hout hpre K hK
            obtain ⟨p0, p1, _⟩ := hpre
            have q73 := ev_of (show a.eval (.tmp 73) = .int .i64 xl from p0)
            have q74 := ev_of (show a.eval (.tmp 74) = .int .i64 slide from p1)
            have hz : ¬ slide = 0 := by have := HAr.out.2.2; omega
            clear hout p0 p1
            go_step
            exact hK _ _ (congrArg (Value.int .i64) ((IntWalk.rem_in xl slide HAr.out.2.2.2.1).trans HAr.out.1)) hG (Below.refl _ _)
          · intro _ k a w' hG hout hpre K hK
            obtain ⟨p0, _⟩ := hpre
            have q75 := ev_of (show a.eval (.tmp 75) = .int .i64 0 from p0)
            clear hout p0
            go_step
            exact hK _ _ rfl hG (Below.refl _ _)
          · intro _ k a w' hG hout hpre K hK
            obtain ⟨p0, _⟩ := hpre
            have q76 := ev_of (show a.eval (.tmp 76) = .bool false from p0)
            clear hout p0
            go_step
            exact hK _ _ rfl hG (Below.refl _ _)
          · intro _ k a w' hG hout hpre K hK
            have q10 := ev_of ((hout 10 rfl).trans (show _ = .pointer (some ⟨wb, 0, none⟩) from rfl))
            clear hout hpre
            go_step
            exact hK _ _ rfl hG (Below.refl _ _)
          · intro _ k a w' hG hout hpre K hK
            obtain ⟨p0, _⟩ := hpre
            have q78 := ev_of (show a.eval (.tmp 78) = .pointer (some ⟨wb, 2, none⟩) from p0)
            obtain ⟨d0, d1, d2⟩ := (HD.out w' hG).1
            clear hout p0
            go_step
            exact hK _ _ rfl hG (Below.refl _ _)
          · intro _ k a w' hG hout hpre K hK
            have q10 := ev_of ((hout 10 rfl).trans (show _ = .pointer (some ⟨wb, 0, none⟩) from rfl))
            clear hout hpre
            go_step
            exact hK _ _ rfl hG (Below.refl _ _)
          · intro _ k a w' hG hout hpre K hK
            obtain ⟨p0, _⟩ := hpre
            have q80 := ev_of (show a.eval (.tmp 80) = .pointer (some ⟨wb, 1, none⟩) from p0)
            obtain ⟨d0, d1, d2⟩ := (HD.out w' hG).1
            clear hout p0
            go_step
            exact hK _ _ rfl hG (Below.refl _ _)
          · intro _ k a w' hG hout hpre K hK
            obtain ⟨p0, p1, _⟩ := hpre
            have q79 := ev_of (show a.eval (.tmp 79) = .int .i64 xh from p0)
            have q81 := ev_of (show a.eval (.tmp 81) = .int .i64 xl from p1)
            have hs := HAr.out.2.1
            clear hout p0 p1
            go_step
            exact hK _ _ rfl hG (Below.refl _ _)
          · intro _ k a w' hG hout hpre K hK
            have q7 := ev_of ((hout 7 rfl).trans (show _ = .pointer (some ⟨qb, 0, none⟩) from rfl))
            clear hout hpre
            go_step
            exact hK _ _ rfl hG (Below.refl _ _)
          · intro _ k a w' hG hout hpre K hK
            obtain ⟨p0, _⟩ := hpre
            have q83 := ev_of (show a.eval (.tmp 83) = .pointer (some ⟨qb, 1, none⟩) from p0)
            obtain ⟨d0, d1, d2, d3, d4, d5⟩ := (HD.out w' hG).2.1
            clear hout p0
            go_step
            exact hK _ _ rfl hG (Below.refl _ _)
          · intro _ k a w' hG hout hpre K hK
            obtain ⟨p0, p1, _⟩ := hpre
            have q82 := ev_of (show a.eval (.tmp 82) = .int .i64 P from p0)
            have q84 := ev_of (show a.eval (.tmp 84) = .int .i64 P from p1)
            have he : (P != P) = false := by simp
            clear hout p0 p1
            go_step
            exact hK _ _ rfl hG (Below.refl _ _)
          · intro _ k a w' hG hout hpre K hK
            obtain ⟨p0, p1, _⟩ := hpre
            have q77 := ev_of (show a.eval (.tmp 77) = .bool false from p0)
            have q85 := ev_of (show a.eval (.tmp 85) = .bool false from p1)
            clear hout p0 p1
            go_step
            exact hK _ _ rfl hG (Below.refl _ _)
          · intro _ k a w' hG hout hpre K hK
            obtain ⟨p0, _⟩ := hpre
            have q86 := ev_of (show a.eval (.tmp 86) = .bool false from p0)
            clear hout p0
            go_step
            exact hK _ _ rfl hG (Below.refl _ _)
          · intro _ k a w' hG hout hpre K hK
            have q9 := ev_of ((hout 9 rfl).trans (show _ = .int .i64 (((i + 1 : Nat)) : Int) from rfl))
            clear hout hpre
            go_step
            exact hK _ _ rfl hG (Below.refl _ _)
          · intro _ k a w' hG hout hpre K hK
            obtain ⟨p0, _⟩ := hpre
            have q88 := ev_of (show a.eval (.tmp 88) = .int .i64 (((i + 1 : Nat)) : Int) from p0)
            have hgt := HGt.out
            clear hout p0
            go_step
            exact hK _ _ rfl hG (Below.refl _ _)
          · intro _ k a w' hG hout hpre K hK
            obtain ⟨p0, _⟩ := hpre
            have q89 := ev_of (show a.eval (.tmp 89) = .bool true from p0)
            clear hout p0
            go_step
            exact hK _ _ rfl hG (Below.refl _ _)
          · intro _ k a w' hG hout hpre K hK
            have q10 := ev_of ((hout 10 rfl).trans (show _ = .pointer (some ⟨wb, 0, none⟩) from rfl))
            clear hout hpre
            go_step
            exact hK _ _ rfl hG (Below.refl _ _)
          · intro _ k a w' hG hout hpre K hK
            obtain ⟨p0, _⟩ := hpre
            have q91 := ev_of (show a.eval (.tmp 91) = .pointer (some ⟨wb, 1, none⟩) from p0)
            obtain ⟨d0, d1, d2⟩ := (HD.out w' hG).1
            clear hout p0
            go_step
            exact hK _ _ rfl hG (Below.refl _ _)
          · intro _ k a w' hG hout hpre K hK
            have q8 := ev_of ((hout 8 rfl).trans (show _ = .slice (some ⟨pa, oa, none⟩) N lc from rfl))
            clear hout hpre
            go_step
            exact hK _ _ rfl hG (Below.refl _ _)
          · intro _ k a w' hG hout hpre K hK
            have q9 := ev_of ((hout 9 rfl).trans (show _ = .int .i64 (((i + 1 : Nat)) : Int) from rfl))
            clear hout hpre
            go_step
            exact hK _ _ rfl hG (Below.refl _ _)
          · intro _ k a w' hG hout hpre K hK
            obtain ⟨p0, _⟩ := hpre
            have q94 := ev_of (show a.eval (.tmp 94) = .int .i64 (((i + 1 : Nat)) : Int) from p0)
            have him := HIm.out
            clear hout p0
            go_step
            exact hK _ _ rfl hG (Below.refl _ _)
          · intro _ k a w' hG hout hpre K hK
            obtain ⟨p0, p1, _⟩ := hpre
            have q93 := ev_of (show a.eval (.tmp 93) = .slice (some ⟨pa, oa, none⟩) N lc from p0)
            have q95 := ev_of (show a.eval (.tmp 95) = .int .i64 (i : Int) from p1)
            have hi0 := HI0.out
            clear hout p0 p1
            go_step
            exact hK _ _ rfl hG (Below.refl _ _)
          · intro _ k a w' hG hout hpre K hK
            obtain ⟨p0, _⟩ := hpre
            have q96 := ev_of (show a.eval (.tmp 96) = .pointer (some ⟨pa, oa + i * 3, none⟩) from p0)
            clear hout p0
            go_step
            exact hK _ _ rfl hG (Below.refl _ _)
          · intro _ k a w' hG hout hpre K hK
            obtain ⟨p0, _⟩ := hpre
            have q97 := ev_of (show a.eval (.tmp 97) = .pointer (some ⟨pa, oa + i * 3 + 1, none⟩) from p0)
            have hy := (HD.out w' hG).2.2
            clear hout p0
            go_step
            exact hK _ _ rfl hG (Below.refl _ _)
          · intro _ k a w' hG hout hpre K hK
            have q0 := ev_of ((hout 0 rfl).trans (show _ = .int .i64 slide from rfl))
            clear hout hpre
            go_step
            exact hK _ _ rfl hG (Below.refl _ _)
          · intro _ k a w' hG hout hpre K hK
            obtain ⟨p0, p1, _⟩ := hpre
            have q98 := ev_of (show a.eval (.tmp 98) = .int .i64 yl from p0)
            have q99 := ev_of (show a.eval (.tmp 99) = .int .i64 slide from p1)
            have hpl := HPl.out
            clear hout p0 p1
            go_step
            exact hK _ _ rfl hG (Below.refl _ _)
          · intro _ k a w' hG hout hpre K hK
            obtain ⟨p0, p1, _⟩ := hpre
            have q92 := ev_of (show a.eval (.tmp 92) = .int .i64 xl from p0)
            have q100 := ev_of (show a.eval (.tmp 100) = .int .i64 xl from p1)
            have he : (xl != xl) = false := by simp
            clear hout p0 p1
            go_step
            exact hK _ _ rfl hG (Below.refl _ _)
          · intro _ k a w' hG hout hpre K hK
            obtain ⟨p0, p1, _⟩ := hpre
            have q90 := ev_of (show a.eval (.tmp 90) = .bool true from p0)
            have q101 := ev_of (show a.eval (.tmp 101) = .bool false from p1)
            clear hout p0 p1
            go_step
            exact hK _ _ rfl hG (Below.refl _ _)
          · intro _ k a w' hG hout hpre K hK
            obtain ⟨p0, p1, _⟩ := hpre
            have q87 := ev_of (show a.eval (.tmp 87) = .bool false from p0)
            have q102 := ev_of (show a.eval (.tmp 102) = .bool false from p1)
            clear hout p0 p1
            go_step
            exact hK _ _ rfl hG (Below.refl _ _)
        · intro vs w2 hG hlen hV
          match vs, hlen, hV with
          | v0 :: v1 :: v2 :: v3 :: v4 :: v5 :: v6 :: v7 :: v8 :: v9 :: v10 :: v11 :: v12 :: v13 :: v14 :: v15 :: v16 :: v17 :: v18 :: v19 :: v20 :: v21 :: v22 :: v23 :: v24 :: v25 :: v26 :: v27 :: v28 :: v29 :: v30 :: v31 :: [], _, hV =>
            obtain rfl : v31 = .bool false := (hV 31 103 v31 rfl rfl)
            clear hV
            simp only [putsL, List.tail_cons, List.headD_cons]
            simp only [Act.put, List.setIfInBounds_toArray, List.set_cons_succ, List.set_cons_zero]
            have HZ : Hid (CovRel w6 N (.int .i64 ((((i + 1 : Nat)) : Int) + 1)) w2) := by
              refine Lib.hid ⟨i + 1 + 1, by have := HJ.out; omega, by go_num, HX2.out.2.trans (hG.mono HX2.out.2.size)⟩
            clear hG
            go_wp2_with (fail)
            go_roundw
            case rel => exact HZ.out
            case measure => have := HJ.out; simp [intOf]; omega
    · obtain rfl : j = N := by omega
      have HZ : Hid (Below w.heap.size w wr) := Lib.hid (H6.out.2.2.trans (hBw.mono H6.out.2.2.size))
      obtain ⟨d0, d1, d2, d3, d4, d5⟩ : D6 wr qb 2 P slide 0 1 0 := (H6.out.2.1.below hBw).d6
      have HSc : Hid (Calls Tryd.prog 35 #[.agg #[.int .i64 2, .int .i64 P, .int .i64 slide, .int .i64 0, .int .i64 1, .int .i64 0]] wr (Below0 wr (.int .i64 times))) := by
        have h := qslides_any wr (covQ P slide)
        rw [HSl.out] at h
        exact Lib.hid h
      have hNt := HNt.out
      have htt : (times == times) = true := by simp
      clear hBw hj hlt
      go_wp2_with (fail)
      refine HSc.out.mono ?_
      rintro e w7 ⟨rfl, hB⟩
      have HZ2 : Hid (Below w.heap.size w w7) := Lib.hid (HZ.out.trans (hB.mono HZ.out.size))
      clear hB d0 d1 d2 d3 d4 d5
      dsimp only
      go_wp2_with (fail)
      go_ret
      exact ⟨rfl, HZ2.out⟩
end Go.Proofs.YtkgmcjeficgciaaDoor
