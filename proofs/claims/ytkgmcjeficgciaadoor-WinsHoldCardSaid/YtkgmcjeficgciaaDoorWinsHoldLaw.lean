/-
  WinsHold, whatever query, key and time it is called with.
-/
import Derived.Test.YtkgmcjeficgciaaDoorWinsFirst
import Derived.Test.YtkgmcjeficgciaaDoorWinsMore
import Derived.Test.YtkgmcjeficgciaaDoorRefWSame
import Derived.Test.YtkgmcjeficgciaaDoorQueryPut
import Derived.Test.YtkgmcjeficgciaaDoorSkip
namespace Go.Proofs.YtkgmcjeficgciaaDoor
open Go Go.RowKit

def HoldRel (w0 : World) (n : Nat) (v : Value) (wr : World) : Prop := ∃ j : Nat, j ≤ n ∧ v = .int .i64 (j : Int) ∧ Below w0.heap.size w0 wr
set_option maxRecDepth 100000 in
set_option maxHeartbeats 4000000 in
theorem winsHold_any (w : World) (x : QueryL) (key : List (BitVec 8)) (t : Int) (hI : WinsIn w) :
    Calls Tryd.prog 6 #[.agg x.cells, Sv key, .int .i64 t] w (Below0 w (.bool true)) := by
  obtain ⟨w0, hw0⟩ : ∃ W, W = w.alloc (.cells x.cells 23) := ⟨_, rfl⟩
  obtain ⟨qb, hqb⟩ : ∃ b, b = w.heap.size := ⟨_, rfl⟩
  have H0 : Hid (RowQ w0 qb x ∧ Below w.heap.size w w0) := by
    rw [hw0, hqb]
    exact Lib.hid ⟨heap_alloc_new w _, (Below.refl _ w).alloc (Nat.le_refl _) _⟩
  have HF := Lib.hid (wfirst_any w0 (hI.below H0.out.2))
  have HIw : Hid (∀ w', Below w.heap.size w w' → WinsIn w') := Lib.hid (fun w' h => hI.below h)
  obtain ⟨M, hM⟩ : ∃ m, m = key.length := ⟨_, rfl⟩
  have HM := Lib.hid hM
  have hlen : ∀ w ty, (Builtin.len_ #[9] ty #[Sv key]).run Tryd.prog w = .ok (.int .i64 (M : Int)) w := by
    rw [hM]
    exact fun w ty => run_len_Sv w ty key
  obtain ⟨X, hX⟩ : ∃ X : QueryL, X = x := ⟨_, rfl⟩
  have HX := Lib.hid hX
  rw [← hX] at H0
  obtain ⟨kind, size, slide, late, agg, tk⟩ := x
  have HXe : Hid (Value.agg #[.int .i64 kind, .int .i64 size, .int .i64 slide, .int .i64 late, .int .i64 agg, .int .i64 tk] = Value.agg X.cells) := by rw [HX.out]; exact Lib.hid rfl
  unfold QueryL.cells at hw0
  unfold QueryL.cells
  simp only at hw0 ⊢
  clear hM hI hX
  go_enter Tryd.func6, Tryd.ntmps6
  go_upto_region 1 with (fail)
  rw [← hw0, ← hqb]
  clear hw0 hqb
  go_wp2_with (fail)
  refine HF.out.mono ?_
  rintro e w1 ⟨rfl, hB⟩
  have H1 : Hid (RowQ w1 qb X ∧ Below w.heap.size w w1) := Lib.hid ⟨H0.out.1.below hB, H0.out.2.trans (hB.mono H0.out.2.size)⟩
  clear hB
  dsimp only
  by_cases hm : 60 < M
  · have hm' : (60 : Int) < (M : Int) := by omega
    clear hm
    go_wp2_with (fail)
    go_ret
    exact ⟨rfl, H1.out.2⟩
  have hm' : ¬ (60 : Int) < (M : Int) := by omega
  have HK : Hid (key.length ≤ 60) := Lib.hid (by have := HM.out; omega)
  clear hm
  obtain ⟨L, hL0⟩ : ∃ l, l = ofW X key t := ⟨_, rfl⟩
  have HLe := Lib.hid hL0
  have HCO : Hid (∀ w', Calls Tryd.prog 9 #[.agg #[.int .i64 kind, .int .i64 size, .int .i64 slide, .int .i64 late, .int .i64 agg, .int .i64 tk], Sv key, .int .i64 t] w' (WinsEnd w' L)) := by
    rw [HXe.out, hL0]
    exact Lib.hid (fun w' => wof_any w' X key t (by have := HK.out; omega))
  obtain ⟨sl, hsl⟩ : ∃ n, n = X.slides := ⟨_, rfl⟩
  have HSc : Hid (∀ w', Calls Tryd.prog 35 #[.agg #[.int .i64 kind, .int .i64 size, .int .i64 slide, .int .i64 late, .int .i64 agg, .int .i64 tk]] w' (Below0 w' (.int .i64 sl))) := by
    rw [HXe.out, hsl]
    exact Lib.hid (fun w' => qslides_any w' X)
  have hsv := ofW_slides X key t
  rw [← hL0, ← hsl] at hsv
  have hkx : X.kind = kind := by rw [HX.out]
  rw [hkx] at hsv
  have HSv := Lib.hid hsv
  clear hL0 hsl hsv hkx
  obtain ⟨d0, d1, d2, d3, d4, d5⟩ : D6 w1 qb kind size slide late agg tk := by
    have h := H1.out.1.d6
    rw [HX.out] at h
    exact h
  go_wp2_with (fail)
  refine (HCO.out w1).mono ?_
  rintro e w4 ⟨la, lc, rfl, hcap, hL, hB⟩
  have H4 : Hid (WinsAt w4 la L ∧ RowQ w4 qb X ∧ Below w.heap.size w w4) := Lib.hid ⟨hL, H1.out.1.below hB, H1.out.2.trans (hB.mono H1.out.2.size)⟩
  clear hcap hL hB d0 d1 d2 d3 d4 d5
  obtain ⟨d0, d1, d2, d3, d4, d5⟩ : D6 w4 qb kind size slide late agg tk := by
    have h := H4.out.2.1.d6
    rw [HX.out] at h
    exact h
  obtain ⟨N, hN⟩ : ∃ N, N = L.length := ⟨_, rfl⟩
  have HN : Hid (N = L.length ∧ N ≤ 16) := Lib.hid ⟨hN, by rw [hN, HLe.out]; exact ofW_len _ _ _⟩
  have hN16 : N ≤ 16 := HN.out.2
  have hs1 := HSv.out.1
  have hs2 := HSv.out.2
  rw [← hN] at hs1 hs2 ⊢
  clear hN
  have hs1' : decide (sl < (N : Int)) = false := decide_eq_false (by omega)
  dsimp only
  go_upto_region 6 with (fail)
  go_cut [37] from 23 to 37 (fun s37 wx => s37 = .bool false ∧ Below w4.heap.size w4 wx)
  case first =>
    by_cases k2 : kind = 2
    · have e2 : (kind != 2) = false := by simp [k2]
      have HK2 := Lib.hid k2
      clear k2
      go_wp2_with (fail)
      refine (HSc.out w4).mono ?_
      rintro e w6 ⟨rfl, hB⟩
      obtain ⟨f0, f1, f2, f3, f4, f5⟩ : D6 w6 qb kind size slide late agg tk := by
        have h := (H4.out.2.1.below hB).d6
        rw [HX.out] at h
        exact h
      have HB := Lib.hid hB
      clear hB d0 d1 d2 d3 d4 d5
      dsimp only
      go_wp2_with (fail)
      go_meet
      exact ⟨rfl, HB.out⟩
    · have e2 : (kind != 2) = true := by simpa using k2
      have hs3 : decide ((1 : Int) < (N : Int)) = false := decide_eq_false (by have := hs2 k2; omega)
      clear k2
      go_wp2_with (fail)
      refine (HSc.out w4).mono ?_
      rintro e w6 ⟨rfl, hB⟩
      obtain ⟨f0, f1, f2, f3, f4, f5⟩ : D6 w6 qb kind size slide late agg tk := by
        have h := (H4.out.2.1.below hB).d6
        rw [HX.out] at h
        exact h
      have HB := Lib.hid hB
      clear hB d0 d1 d2 d3 d4 d5
      dsimp only
      go_wp2_with (fail)
      go_meet
      exact ⟨rfl, HB.out⟩
  case rest =>
  obtain ⟨rfl, hBc⟩ := hcut
  obtain ⟨w6, hw6⟩ : ∃ W, W = wc := ⟨_, rfl⟩
  subst wc
  have H6 : Hid (WinsAt w6 la L ∧ Below w.heap.size w w6) := Lib.hid ⟨H4.out.1.below hBc, H4.out.2.2.trans (hBc.mono H4.out.2.2.size)⟩
  clear hs1 hs2 hs1' hBc d0 d1 d2 d3 d4 d5
  go_wp2_with (fail)
  go_loopw [40] (HoldRel w6 N) (fun i _ => N - (intOf i).toNat)
  case atStart => exact ⟨0, Nat.zero_le _, rfl, Below.refl _ _⟩
  case round =>
    obtain ⟨j, hj, rfl, hBw⟩ := hrel
    by_cases hlt : j < N
    · have hi0 : (0 : Int) ≤ (j : Int) ∧ (j : Int) < (N : Int) := by omega
      obtain ⟨x, pa, oa, hx, rfl, e0, e1, e2⟩ := (H6.out.1.below hBw).get (t := j) (by rw [← HN.out.1]; exact hlt)
      have hgd := ofW_good (q := X) (key := key) (t := t) (x := x) (by rw [← HLe.out]; exact List.mem_of_getElem? hx)
      have HGd := Lib.hid hgd
      have HXj := Lib.hid hx
      have HBw := Lib.hid hBw
      have HJ : Hid (j + 1 ≤ N) := Lib.hid hlt
      obtain ⟨xk, xl, xh⟩ := x
      simp only at e0 e1 e2
      clear hx hBw hj hlt hgd
      go_upto_region 10 with (fail)
      refine wp_region_lit ?_
      first
        | (iterate 8 go_step
           refine wpList_store_row rfl _ _ _ rfl wr.heap.size (WindowL.mk xk xl xh).cells rfl rfl 31 zeroW.cells (heap_alloc_new wr _) window_size rfl (window_one _) ?_)
        | (iterate 9 go_step
           refine wpList_store_row rfl _ _ _ rfl wr.heap.size (WindowL.mk xk xl xh).cells rfl rfl 31 zeroW.cells (heap_alloc_new wr _) window_size rfl (window_one _) ?_)
        | (iterate 10 go_step
           refine wpList_store_row rfl _ _ _ rfl wr.heap.size (WindowL.mk xk xl xh).cells rfl rfl 31 zeroW.cells (heap_alloc_new wr _) window_size rfl (window_one _) ?_)
        | (iterate 11 go_step
           refine wpList_store_row rfl _ _ _ rfl wr.heap.size (WindowL.mk xk xl xh).cells rfl rfl 31 zeroW.cells (heap_alloc_new wr _) window_size rfl (window_one _) ?_)
        | (iterate 12 go_step
           refine wpList_store_row rfl _ _ _ rfl wr.heap.size (WindowL.mk xk xl xh).cells rfl rfl 31 zeroW.cells (heap_alloc_new wr _) window_size rfl (window_one _) ?_)
        | (iterate 13 go_step
           refine wpList_store_row rfl _ _ _ rfl wr.heap.size (WindowL.mk xk xl xh).cells rfl rfl 31 zeroW.cells (heap_alloc_new wr _) window_size rfl (window_one _) ?_)
        | (iterate 14 go_step
           refine wpList_store_row rfl _ _ _ rfl wr.heap.size (WindowL.mk xk xl xh).cells rfl rfl 31 zeroW.cells (heap_alloc_new wr _) window_size rfl (window_one _) ?_)
        | (iterate 15 go_step
           refine wpList_store_row rfl _ _ _ rfl wr.heap.size (WindowL.mk xk xl xh).cells rfl rfl 31 zeroW.cells (heap_alloc_new wr _) window_size rfl (window_one _) ?_)
        | (iterate 16 go_step
           refine wpList_store_row rfl _ _ _ rfl wr.heap.size (WindowL.mk xk xl xh).cells rfl rfl 31 zeroW.cells (heap_alloc_new wr _) window_size rfl (window_one _) ?_)
        | (iterate 17 go_step
           refine wpList_store_row rfl _ _ _ rfl wr.heap.size (WindowL.mk xk xl xh).cells rfl rfl 31 zeroW.cells (heap_alloc_new wr _) window_size rfl (window_one _) ?_)
        | (iterate 18 go_step
           refine wpList_store_row rfl _ _ _ rfl wr.heap.size (WindowL.mk xk xl xh).cells rfl rfl 31 zeroW.cells (heap_alloc_new wr _) window_size rfl (window_one _) ?_)
        | (iterate 19 go_step
           refine wpList_store_row rfl _ _ _ rfl wr.heap.size (WindowL.mk xk xl xh).cells rfl rfl 31 zeroW.cells (heap_alloc_new wr _) window_size rfl (window_one _) ?_)
      obtain ⟨wx, hwx⟩ : ∃ W, W = (wr.alloc (Obj.cells #[.string ⟨#[]⟩, .int .i64 0, .int .i64 0] 31)).setRow wr.heap.size (WindowL.mk xk xl xh).cells := ⟨_, rfl⟩
      obtain ⟨wb, hwb⟩ : ∃ b, b = wr.heap.size := ⟨_, rfl⟩
      have HX2 : Hid (RowW wx wb ⟨xk, xl, xh⟩ ∧ Below w6.heap.size w6 wx) := by
        obtain ⟨k1, k2⟩ := stored_window wr ⟨xk, xl, xh⟩
        rw [hwx, hwb]
        exact Lib.hid ⟨k1, HBw.out.trans (k2.mono HBw.out.size)⟩
      rw [← hwx, ← hwb]
      clear hwx hwb e0 e1 e2
      go_upto_region 12 with (fail)
      obtain ⟨wp, hwp⟩ : ∃ W, W = wx.alloc (.cells #[.slice none 0 0] 45) := ⟨_, rfl⟩
      obtain ⟨pb, hpb⟩ : ∃ b, b = wx.heap.size := ⟨_, rfl⟩
      have HP1 : Hid ((RowW wp wb ⟨xk, xl, xh⟩ ∧ wb < pb) ∧ PenAt (fun k => k < pb) wp pb [] ∧ pb < wp.heap.size ∧ wx.heap.size ≤ pb ∧ Below wx.heap.size wx wp) := by
        have hB : Below wx.heap.size wx wp := by rw [hwp]; exact (Below.refl _ wx).alloc (Nat.le_refl _) _
        refine Lib.hid ⟨⟨HX2.out.1.below hB, by rw [hpb]; exact HX2.out.1.lt⟩, by rw [hwp, hpb]; exact PenAt.new _ wx, by rw [hwp, hpb, heap_alloc_size]; omega, by rw [hpb]; exact Nat.le_refl _, hB⟩
      rw [← hwp, ← hpb]
      clear hwp hpb
      obtain ⟨bX, hbX⟩ : ∃ b, b = (WindowL.mk xk xl xh).bytes := ⟨_, rfl⟩
      have HbX := Lib.hid hbX
      have HbL : Hid (bX.length ≤ 1073741824) := by
        rw [hbX]
        exact Lib.hid (Nat.le_trans (bytesW_len HGd.out.2.1) (by decide))
      have HGt : Hid ((TapeL.mk bX 0).window = (⟨xk, xl, xh⟩, ⟨[], 0⟩)) := by
        have h := window_back HGd.out.2.1 []
        rw [List.append_nil, ← hbX] at h
        exact Lib.hid h
      have HPut : Hid (Calls Tryd.prog 29 #[.pointer (some ⟨pb, 0, none⟩), .agg #[Sv xk, .int .i64 xl, .int .i64 xh]] wp (fun e w' => e = .returned (.bool true) ∧ RowW w' wb ⟨xk, xl, xh⟩ ∧ PenAt (fun k => k < pb) w' pb bX ∧ Below wx.heap.size wx w')) := by
        obtain ⟨⟨k1, k0⟩, k2, k4, k5, k6⟩ := HP1.out
        have h := wput_yes wp (fun k => k < pb) pb [] ⟨xk, xl, xh⟩ HGd.out.2.1 k2 (fun k hk => Nat.lt_trans hk k4) (by decide)
        rw [List.nil_append, ← hbX] at h
        refine Lib.hid (h.mono ?_)
        rintro e w' ⟨rfl, hp, hk⟩
        exact ⟨rfl, hk.row k1 (by decide) (by omega), hp, k6.trans (hk.below (B := wx.heap.size) (fun k hk => by omega) k5 k6.size)⟩
      clear hbX
      obtain ⟨d0, d1, d2⟩ : D3 wp wb xk xl xh := HP1.out.1.1.d3
      go_wp2_with (fail)
      refine HPut.out.mono ?_
      rintro e W0 ⟨rfl, h1, h2, h3⟩
      have HP2 := Lib.hid (And.intro h1 (And.intro h2 h3))
      clear h1 h2 h3 d0 d1 d2 HPut
      obtain ⟨tt, htt⟩ : ∃ t, t = (WindowL.mk xk xl xh).text := ⟨_, rfl⟩
      have hB60 : Below w.heap.size w W0 := by
        have h1 := HX2.out.2.trans (HP2.out.2.2.mono HX2.out.2.size)
        exact H6.out.2.trans (h1.mono H6.out.2.size)
      have HB60 := Lib.hid hB60
      have HTx : Hid (Calls Tryd.prog 18 #[.agg #[Sv xk, .int .i64 xl, .int .i64 xh]] W0 (Below0 W0 (Sv tt))) := by
        have h := wtext_any W0 ⟨xk, xl, xh⟩ (by show xk.length ≤ 1000000; rw [show xk = key from HGd.out.2.2.2.2.2]; have := HK.out; omega) (HIw.out W0 hB60)
        rw [WindowL.told, HGd.out.2.1, if_pos rfl, ← htt] at h
        exact Lib.hid h
      have HPs : Hid (∀ w', Below W0.heap.size W0 w' → Calls Tryd.prog 27 #[Sv tt] w' (Below0 w' (.tuple #[.agg (WindowL.mk xk xl xh).cells, .bool true]))) := by
        refine Lib.hid (fun w' h => ?_)
        have h2 := wparse_any w' tt (by rw [htt]; exact Nat.le_trans (textW_short HGd.out.2.1) (by decide)) (HIw.out w' (hB60.trans (h.mono hB60.size)))
        rw [htt, parseW_text HGd.out.2.1, ← htt] at h2
        exact h2
      obtain ⟨d0, d1, d2⟩ : D3 W0 wb xk xl xh := HP2.out.1.d3
      clear htt hB60
      dsimp only
      go_wp2_with (fail)
      refine HTx.out.mono ?_
      rintro e v4 ⟨rfl, hB⟩
      have HV4 := Lib.hid hB
      clear hB d0 d1 d2
      dsimp only
      go_wp2_with (fail)
      refine (HPs.out v4 HV4.out).mono ?_
      rintro e v5 ⟨rfl, hB⟩
      have HV5 : Hid (Below W0.heap.size W0 v5) := Lib.hid (HV4.out.trans (hB.mono HV4.out.size))
      clear hB
      dsimp only
      first
        | (refine wpList_store_row rfl _ _ _ rfl v5.heap.size (WindowL.mk xk xl xh).cells rfl rfl 31 zeroW.cells (heap_alloc_new v5 _) window_size rfl (window_one _) ?_)
        | (iterate 1 go_step
           refine wpList_store_row rfl _ _ _ rfl v5.heap.size (WindowL.mk xk xl xh).cells rfl rfl 31 zeroW.cells (heap_alloc_new v5 _) window_size rfl (window_one _) ?_)
        | (iterate 2 go_step
           refine wpList_store_row rfl _ _ _ rfl v5.heap.size (WindowL.mk xk xl xh).cells rfl rfl 31 zeroW.cells (heap_alloc_new v5 _) window_size rfl (window_one _) ?_)
        | (iterate 3 go_step
           refine wpList_store_row rfl _ _ _ rfl v5.heap.size (WindowL.mk xk xl xh).cells rfl rfl 31 zeroW.cells (heap_alloc_new v5 _) window_size rfl (window_one _) ?_)
        | (iterate 4 go_step
           refine wpList_store_row rfl _ _ _ rfl v5.heap.size (WindowL.mk xk xl xh).cells rfl rfl 31 zeroW.cells (heap_alloc_new v5 _) window_size rfl (window_one _) ?_)
        | (iterate 5 go_step
           refine wpList_store_row rfl _ _ _ rfl v5.heap.size (WindowL.mk xk xl xh).cells rfl rfl 31 zeroW.cells (heap_alloc_new v5 _) window_size rfl (window_one _) ?_)
        | (iterate 6 go_step
           refine wpList_store_row rfl _ _ _ rfl v5.heap.size (WindowL.mk xk xl xh).cells rfl rfl 31 zeroW.cells (heap_alloc_new v5 _) window_size rfl (window_one _) ?_)
        | (iterate 7 go_step
           refine wpList_store_row rfl _ _ _ rfl v5.heap.size (WindowL.mk xk xl xh).cells rfl rfl 31 zeroW.cells (heap_alloc_new v5 _) window_size rfl (window_one _) ?_)
        | (iterate 8 go_step
           refine wpList_store_row rfl _ _ _ rfl v5.heap.size (WindowL.mk xk xl xh).cells rfl rfl 31 zeroW.cells (heap_alloc_new v5 _) window_size rfl (window_one _) ?_)
        | (iterate 9 go_step
           refine wpList_store_row rfl _ _ _ rfl v5.heap.size (WindowL.mk xk xl xh).cells rfl rfl 31 zeroW.cells (heap_alloc_new v5 _) window_size rfl (window_one _) ?_)
        | (iterate 10 go_step
           refine wpList_store_row rfl _ _ _ rfl v5.heap.size (WindowL.mk xk xl xh).cells rfl rfl 31 zeroW.cells (heap_alloc_new v5 _) window_size rfl (window_one _) ?_)
        | (iterate 11 go_step
           refine wpList_store_row rfl _ _ _ rfl v5.heap.size (WindowL.mk xk xl xh).cells rfl rfl 31 zeroW.cells (heap_alloc_new v5 _) window_size rfl (window_one _) ?_)
        | (iterate 12 go_step
           refine wpList_store_row rfl _ _ _ rfl v5.heap.size (WindowL.mk xk xl xh).cells rfl rfl 31 zeroW.cells (heap_alloc_new v5 _) window_size rfl (window_one _) ?_)
        | (iterate 13 go_step
           refine wpList_store_row rfl _ _ _ rfl v5.heap.size (WindowL.mk xk xl xh).cells rfl rfl 31 zeroW.cells (heap_alloc_new v5 _) window_size rfl (window_one _) ?_)
        | (iterate 14 go_step
           refine wpList_store_row rfl _ _ _ rfl v5.heap.size (WindowL.mk xk xl xh).cells rfl rfl 31 zeroW.cells (heap_alloc_new v5 _) window_size rfl (window_one _) ?_)
        | (iterate 15 go_step
           refine wpList_store_row rfl _ _ _ rfl v5.heap.size (WindowL.mk xk xl xh).cells rfl rfl 31 zeroW.cells (heap_alloc_new v5 _) window_size rfl (window_one _) ?_)
        | (iterate 16 go_step
           refine wpList_store_row rfl _ _ _ rfl v5.heap.size (WindowL.mk xk xl xh).cells rfl rfl 31 zeroW.cells (heap_alloc_new v5 _) window_size rfl (window_one _) ?_)
        | (iterate 17 go_step
           refine wpList_store_row rfl _ _ _ rfl v5.heap.size (WindowL.mk xk xl xh).cells rfl rfl 31 zeroW.cells (heap_alloc_new v5 _) window_size rfl (window_one _) ?_)
        | (iterate 18 go_step
           refine wpList_store_row rfl _ _ _ rfl v5.heap.size (WindowL.mk xk xl xh).cells rfl rfl 31 zeroW.cells (heap_alloc_new v5 _) window_size rfl (window_one _) ?_)
        | (iterate 19 go_step
           refine wpList_store_row rfl _ _ _ rfl v5.heap.size (WindowL.mk xk xl xh).cells rfl rfl 31 zeroW.cells (heap_alloc_new v5 _) window_size rfl (window_one _) ?_)
        | (iterate 20 go_step
           refine wpList_store_row rfl _ _ _ rfl v5.heap.size (WindowL.mk xk xl xh).cells rfl rfl 31 zeroW.cells (heap_alloc_new v5 _) window_size rfl (window_one _) ?_)
        | (iterate 21 go_step
           refine wpList_store_row rfl _ _ _ rfl v5.heap.size (WindowL.mk xk xl xh).cells rfl rfl 31 zeroW.cells (heap_alloc_new v5 _) window_size rfl (window_one _) ?_)
      obtain ⟨W1, hW1⟩ : ∃ W, W = (v5.alloc (Obj.cells #[.string ⟨#[]⟩, .int .i64 0, .int .i64 0] 31)).setRow v5.heap.size (WindowL.mk xk xl xh).cells := ⟨_, rfl⟩
      obtain ⟨xb, hxb⟩ : ∃ b, b = v5.heap.size := ⟨_, rfl⟩
      have HX3 : Hid (RowW W1 xb ⟨xk, xl, xh⟩ ∧ Below W0.heap.size W0 W1) := by
        obtain ⟨k1, k2⟩ := stored_window v5 ⟨xk, xl, xh⟩
        rw [hW1, hxb]
        exact Lib.hid ⟨k1, HV5.out.trans (k2.mono HV5.out.size)⟩
      rw [← hW1, ← hxb]
      clear hW1 hxb
      have HW1 : Hid (Below w6.heap.size w6 W1) := by
        have h1 := HX2.out.2.trans (HP2.out.2.2.mono HX2.out.2.size)
        exact Lib.hid (h1.trans (HX3.out.2.mono h1.size))
      have HG0 : Hid (Below W1.heap.size W1 W1.drew) := (Below.refl _ W1).drew
      obtain ⟨VW, hVW⟩ : ∃ V, V = Value.agg (WindowL.mk xk xl xh).cells := ⟨_, rfl⟩
      have HVn : Hid ((∀ w, (binOp .neq 31 VW VW).run Tryd.prog w = .ok (.bool false) w) ∧ ∀ w op o1 o2, (eqGuard op 31 o1 o2 VW VW).run Tryd.prog w = .ok () w) := by
        refine Lib.hid ⟨?_, ?_⟩
        · intro w; rw [hVW, run_neq_window, (sameW_iff _ _).2 rfl]; rfl
        · intro w op o1 o2; rw [hVW]; exact run_guard_window w op o1 o2 _ _
      have HHas : Hid (∀ w', Calls Tryd.prog 23 #[VW, .int .i64 t] w' (Below0 w' (.bool true))) := by
        refine Lib.hid (fun w' => ?_)
        have h := whas_any w' ⟨xk, xl, xh⟩ t (by show xk.length ≤ 1000000; rw [show xk = key from HGd.out.2.2.2.2.2]; have := HK.out; omega)
        rw [hasW, HGd.out.2.1, Bool.true_and, decide_eq_true ⟨HGd.out.2.2.1, HGd.out.2.2.2.1⟩, ← hVW] at h
        exact h
      have HR0 : Hid (∀ w', Below W1.heap.size W1 w' → RowW w' wb ⟨xk, xl, xh⟩ ∧ RowW w' xb ⟨xk, xl, xh⟩ ∧ PenAt (fun k => k < pb) w' pb bX ∧ WinsAt w' (some ⟨pa, oa, none⟩) L) := by
        refine Lib.hid (fun w' h => ?_)
        have h2 := HX3.out.2.trans (h.mono HX3.out.2.size)
        exact ⟨HP2.out.1.below h2, HX3.out.1.below h, HP2.out.2.1.below h2, H6.out.1.below (HW1.out.trans (h.mono HW1.out.size))⟩
      by_cases hj0 : j = 0
      · subst hj0
        have HR : Hid (∀ w', Below W1.heap.size W1 w' → RowW w' wb ⟨xk, xl, xh⟩ ∧ RowW w' xb ⟨xk, xl, xh⟩ ∧ PenAt (fun k => k < pb) w' pb bX ∧ True) := Lib.hid (fun w' h => ⟨(HR0.out w' h).1, (HR0.out w' h).2.1, (HR0.out w' h).2.2.1, trivial⟩)
        have HV : Hid (VW = Value.agg (WindowL.mk xk xl xh).cells ∧ True ∧ (∀ w, (binOp .neq 31 VW VW).run Tryd.prog w = .ok (.bool false) w) ∧ ∀ w op o1 o2, (eqGuard op 31 o1 o2 VW VW).run Tryd.prog w = .ok () w) := Lib.hid ⟨hVW, trivial, HVn.out.1, HVn.out.2⟩
        have HCl : Hid ((∀ w', Calls Tryd.prog 23 #[VW, .int .i64 t] w' (Below0 w' (.bool true))) ∧ True) := Lib.hid ⟨HHas.out, trivial⟩
        have HGt0 : Hid ((0 : Int) < (0 : Int) ↔ False) := Lib.hid (by simp)
        clear hVW
        rw [show ((0 : Nat) : Int) = 0 from rfl] at hi0 ⊢
        go_upto_region 14 with (fail)
        refine wp_region_skip_frame (fun i => ([29, 30, 31, 32, 33, 34, 35, 36] : List Nat).contains i) (by kernel_rfl) [none, none, none, none, none, none, none, none, none, none, some 0, some 1, some 2, none, none, none, none, none, none, none, none, none, none, none, none, none, none, none, none, none, none, none, none, none, none, none, none, none, none] [10, 11, 12] (VY (VW :: (Value.int .i64 t) :: (Value.bool true) :: (Value.bool false) :: (Value.bool false) :: (Value.bool true) :: (Value.bool false) :: (Value.bool false) :: (Value.bool false) :: (Value.pointer (some ⟨pb, 0, none⟩)) :: undef :: undef :: VW :: VW :: (Value.bool false) :: (Value.bool false) :: (Value.bool false) :: (Value.bool true) :: (Value.bool false) :: (Value.bool false) :: (Value.bool false) :: VW :: VW :: (Value.bool false) :: (Value.bool false) :: (Value.bool false) :: (Value.int .i64 (0 : Int)) :: (Value.bool false) :: (Value.bool false) :: undef :: undef :: undef :: undef :: undef :: undef :: undef :: undef :: (Value.bool false) :: (Value.bool false) :: ([] : List Value)) 10 1 (fun w v => ∃ sa sc, v = .slice sa bX.length sc ∧ (sa = none → sc = 0) ∧ SrcP w sa bX.length bX) 11 2 (fun w v => ∃ rb base, v = .pointer (some ⟨rb, 0, none⟩) ∧ W1.heap.size ≤ rb ∧ base ≤ w.heap.size ∧ RdAt base w rb ⟨bX, 0⟩)) (fun _ w' => Below W1.heap.size W1 w') (fun w w' => Below w.heap.size w w') (VY_st _ _ _ _ _ _ _ _ (fun w w' v h ⟨sa, sc, h1, h2, h3⟩ => ⟨sa, sc, h1, h2, h3.below h⟩) (fun w w' v h ⟨rb, base, h1, h2, h3, h4⟩ => ⟨rb, base, h1, h2, Nat.le_trans h3 h.size, h4.below h⟩)) (by kernel_rfl) (by kernel_rfl) (by kernel_rfl) HG0.out (fun _ => ⟨rfl, rfl, rfl, rfl, rfl, fun _ _ h => h, fun _ _ h => h, rfl, rfl, fun _ _ h => h, fun _ _ h => h, fun _ _ h => h, fun _ _ h => h, fun _ _ h => h, fun _ _ h => h, rfl, rfl, fun _ _ h => h, fun _ _ h => h, rfl, rfl, fun _ _ h => h, fun _ _ h => h, fun _ _ h => h, rfl, rfl, fun _ _ h => h, fun _ _ h => h, fun _ _ h => h, fun _ _ h => h, fun _ _ h => h, fun _ _ h => h, fun _ _ h => h, fun _ _ h => h, fun _ _ h => h, fun _ _ h => h, fun _ _ h => h, fun _ _ h => h, rfl, trivial⟩) (fun i hi => by have hm := List.contains_iff_mem.1 hi; simp only [List.mem_cons, List.not_mem_nil, or_false] at hm; rcases hm with rfl | rfl | rfl | rfl | rfl | rfl | rfl | rfl <;> exact ⟨rfl, fun _ _ => rfl⟩) ?_ ?_
        · refine ⟨?_, ?_, ?_, ?_, ?_, ?_, ?_, ?_, ?_, ?_, ?_, ?_, ?_, ?_, ?_, ?_, ?_, ?_, ?_, ?_, ?_, ?_, ?_, ?_, ?_, ?_, ?_, ?_, ?_, ?_, ?_, ?_, ?_, ?_, ?_, ?_, ?_, ?_, ?_, trivial⟩
          · intro _ k a w' hG hout hpre K hK
            have q9 := ev_of ((hout 9 rfl).trans (show _ = .pointer (some ⟨wb, 0, none⟩) from rfl))
            obtain ⟨d0, d1, d2⟩ := (HR.out w' hG).1.d3
            clear hout hpre
            go_step
            exact hK _ _ HV.out.1.symm hG (Below.refl _ _)
          · intro _ k a w' hG hout hpre K hK
            have q2 := ev_of ((hout 2 rfl).trans (show _ = .int .i64 t from rfl))
            clear hout hpre
            go_step
            exact hK _ _ rfl hG (Below.refl _ _)
          · intro _ k a w' hG hout hpre K hK
            obtain ⟨p0, p1, _⟩ := hpre
            have q56 := ev_of (show a.eval (.tmp 56) = VW from p0)
            have q57 := ev_of (show a.eval (.tmp 57) = .int .i64 t from p1)
            have HS := Lib.hid (HCl.out.1 w')
            clear hout p0 p1
            go_step
            refine HS.out.mono ?_
            rintro e w3 ⟨rfl, hB⟩
            exact hK _ _ rfl (hG.trans (hB.mono hG.size)) hB
          · intro _ k a w' hG hout hpre K hK
            obtain ⟨p0, _⟩ := hpre
            have q58 := ev_of (show a.eval (.tmp 58) = .bool true from p0)
            clear hout p0
            go_step
            exact hK _ _ rfl hG (Below.refl _ _)
          · intro _ k a w' hG hout hpre K hK
            obtain ⟨p0, _⟩ := hpre
            have q59 := ev_of (show a.eval (.tmp 59) = .bool false from p0)
            clear hout p0
            go_step
            exact hK _ _ rfl hG (Below.refl _ _)
          · intro _ k a w' hG hout hpre K hK
            have q11 := ev_of ((hout 11 rfl).trans (show _ = .bool true from rfl))
            clear hout hpre
            go_step
            exact hK _ _ rfl hG (Below.refl _ _)
          · intro _ k a w' hG hout hpre K hK
            obtain ⟨p0, _⟩ := hpre
            have q61 := ev_of (show a.eval (.tmp 61) = .bool true from p0)
            clear hout p0
            go_step
            exact hK _ _ rfl hG (Below.refl _ _)
          · intro _ k a w' hG hout hpre K hK
            obtain ⟨p0, p1, _⟩ := hpre
            have q60 := ev_of (show a.eval (.tmp 60) = .bool false from p0)
            have q62 := ev_of (show a.eval (.tmp 62) = .bool false from p1)
            clear hout p0 p1
            go_step
            exact hK _ _ rfl hG (Below.refl _ _)
          · intro _ k a w' hG hout hpre K hK
            obtain ⟨p0, _⟩ := hpre
            have q63 := ev_of (show a.eval (.tmp 63) = .bool false from p0)
            clear hout p0
            go_step
            exact hK _ _ rfl hG (Below.refl _ _)
          · intro _ k a w' hG hout hpre K hK
            have q10 := ev_of ((hout 10 rfl).trans (show _ = .pointer (some ⟨pb, 0, none⟩) from rfl))
            clear hout hpre
            go_step
            exact hK _ _ rfl hG (Below.refl _ _)
          · intro _ a w' hG hout hpre K hK
            obtain ⟨p0, _⟩ := hpre
            have q65 := ev_of (show a.eval (.tmp 65) = .pointer (some ⟨pb, 0, none⟩) from p0)
            have HS := Lib.hid (pbytes_any w' (fun k => k < pb) pb bX (HR.out w' hG).2.2.1 HbL.out)
            clear hout p0
            go_step
            refine HS.out.mono ?_
            rintro e w3 ⟨sa, sc, rfl, k1, k2, k3, k4, k5⟩
            exact hK _ _ (fun _ => ⟨sa, sc, rfl, k3, k4.srcP⟩) (hG.trans (k5.mono hG.size)) (VY_next (by decide) (by decide))
          · intro _ a w' hG hout hpre K hK
            obtain ⟨p0, _⟩ := hpre
            obtain ⟨sa, sc, hv, k3, k4⟩ := (show (1 = 1) → (∃ sa sc, a.eval (.tmp 66) = .slice sa bX.length sc ∧ (sa = none → sc = 0) ∧ SrcP w' sa bX.length bX) from p0) rfl
            have q := ev_of hv
            have HS := Lib.hid (rread_any w' sa sc bX.length bX rfl k4 k3 HbL.out)
            clear hout p0 hv k3 k4
            go_step
            refine HS.out.mono ?_
            rintro e w3 ⟨rb, rfl, k1, k2, k3⟩
            exact hK _ _ (fun _ => ⟨rb, w3.heap.size, rfl, Nat.le_trans hG.size k2, Nat.le_refl _, k1⟩) (hG.trans (k3.mono hG.size)) (VY_next (by decide) (by decide))
          · intro _ a w' hG hout hpre K hK
            obtain ⟨p0, _⟩ := hpre
            obtain ⟨rb, base, hv, k1, k2, k3⟩ := (show (2 = 2) → (∃ rb base, a.eval (.tmp 67) = .pointer (some ⟨rb, 0, none⟩) ∧ W1.heap.size ≤ rb ∧ base ≤ w'.heap.size ∧ RdAt base w' rb ⟨bX, 0⟩) from p0) rfl
            have q := ev_of hv
            have HS : Hid (Calls Tryd.prog 31 #[.pointer (some ⟨rb, 0, none⟩)] w' (RdEnd base w' rb ⟨[], 0⟩ VW)) := by
              have h := wget_any w' base rb ⟨bX, 0⟩ k3 k2
              rw [HGt.out] at h
              rw [HV.out.1]
              exact Lib.hid h
            have k4 := Lib.hid k1
            clear hout p0 hv k1 k2 k3
            go_step
            refine HS.out.mono ?_
            rintro e w3 ⟨rfl, _, k5⟩
            exact hK _ _ rfl (hG.trans ⟨k5.os, k5.tape, k5.output, k5.size, fun j hj => k5.block j (by have := hG.size; omega) (by have := k4.out; simp; omega)⟩) (VY_next (by decide) (by decide))
          · intro _ k a w' hG hout hpre K hK
            have q9 := ev_of ((hout 9 rfl).trans (show _ = .pointer (some ⟨wb, 0, none⟩) from rfl))
            obtain ⟨d0, d1, d2⟩ := (HR.out w' hG).1.d3
            clear hout hpre
            go_step
            exact hK _ _ HV.out.1.symm hG (Below.refl _ _)
          · intro _ k a w' hG hout hpre K hK
            obtain ⟨p0, p1, _⟩ := hpre
            have q68 := ev_of (show a.eval (.tmp 68) = VW from p0)
            have q69 := ev_of (show a.eval (.tmp 69) = VW from p1)
            have he := HV.out.2.2.1
            have hgd := HV.out.2.2.2
            clear hout p0 p1
            go_step
            exact hK _ _ rfl hG (Below.refl _ _)
          · intro _ k a w' hG hout hpre K hK
            obtain ⟨p0, p1, _⟩ := hpre
            have q64 := ev_of (show a.eval (.tmp 64) = .bool false from p0)
            have q70 := ev_of (show a.eval (.tmp 70) = .bool false from p1)
            clear hout p0 p1
            go_step
            exact hK _ _ rfl hG (Below.refl _ _)
          · intro _ k a w' hG hout hpre K hK
            obtain ⟨p0, _⟩ := hpre
            have q71 := ev_of (show a.eval (.tmp 71) = .bool false from p0)
            clear hout p0
            go_step
            exact hK _ _ rfl hG (Below.refl _ _)
          · intro _ k a w' hG hout hpre K hK
            have q13 := ev_of ((hout 13 rfl).trans (show _ = .bool true from rfl))
            clear hout hpre
            go_step
            exact hK _ _ rfl hG (Below.refl _ _)
          · intro _ k a w' hG hout hpre K hK
            obtain ⟨p0, _⟩ := hpre
            have q73 := ev_of (show a.eval (.tmp 73) = .bool true from p0)
            clear hout p0
            go_step
            exact hK _ _ rfl hG (Below.refl _ _)
          · intro _ k a w' hG hout hpre K hK
            obtain ⟨p0, p1, _⟩ := hpre
            have q72 := ev_of (show a.eval (.tmp 72) = .bool false from p0)
            have q74 := ev_of (show a.eval (.tmp 74) = .bool false from p1)
            clear hout p0 p1
            go_step
            exact hK _ _ rfl hG (Below.refl _ _)
          · intro _ k a w' hG hout hpre K hK
            obtain ⟨p0, _⟩ := hpre
            have q75 := ev_of (show a.eval (.tmp 75) = .bool false from p0)
            clear hout p0
            go_step
            exact hK _ _ rfl hG (Below.refl _ _)
          · intro _ k a w' hG hout hpre K hK
            have q12 := ev_of ((hout 12 rfl).trans (show _ = .pointer (some ⟨xb, 0, none⟩) from rfl))
            obtain ⟨d0, d1, d2⟩ := (HR.out w' hG).2.1.d3
            clear hout hpre
            go_step
            exact hK _ _ HV.out.1.symm hG (Below.refl _ _)
          · intro _ k a w' hG hout hpre K hK
            have q9 := ev_of ((hout 9 rfl).trans (show _ = .pointer (some ⟨wb, 0, none⟩) from rfl))
            obtain ⟨d0, d1, d2⟩ := (HR.out w' hG).1.d3
            clear hout hpre
            go_step
            exact hK _ _ HV.out.1.symm hG (Below.refl _ _)
          · intro _ k a w' hG hout hpre K hK
            obtain ⟨p0, p1, _⟩ := hpre
            have q77 := ev_of (show a.eval (.tmp 77) = VW from p0)
            have q78 := ev_of (show a.eval (.tmp 78) = VW from p1)
            have he := HV.out.2.2.1
            have hgd := HV.out.2.2.2
            clear hout p0 p1
            go_step
            exact hK _ _ rfl hG (Below.refl _ _)
          · intro _ k a w' hG hout hpre K hK
            obtain ⟨p0, p1, _⟩ := hpre
            have q76 := ev_of (show a.eval (.tmp 76) = .bool false from p0)
            have q79 := ev_of (show a.eval (.tmp 79) = .bool false from p1)
            clear hout p0 p1
            go_step
            exact hK _ _ rfl hG (Below.refl _ _)
          · intro _ k a w' hG hout hpre K hK
            obtain ⟨p0, _⟩ := hpre
            have q80 := ev_of (show a.eval (.tmp 80) = .bool false from p0)
            clear hout p0
            go_step
            exact hK _ _ rfl hG (Below.refl _ _)
          · intro _ k a w' hG hout hpre K hK
            have q8 := ev_of ((hout 8 rfl).trans (show _ = .int .i64 (0 : Int) from rfl))
            clear hout hpre
            go_step
            exact hK _ _ rfl hG (Below.refl _ _)
          · intro _ k a w' hG hout hpre K hK
            obtain ⟨p0, _⟩ := hpre
            have q82 := ev_of (show a.eval (.tmp 82) = .int .i64 (0 : Int) from p0)
            have hgt := HGt0.out
            clear hout p0
            go_step
            exact hK _ _ rfl hG (Below.refl _ _)
          · intro _ k a w' hG hout hpre K hK
            obtain ⟨p0, _⟩ := hpre
            have q83 := ev_of (show a.eval (.tmp 83) = .bool false from p0)
            clear hout p0
            go_step
            exact hK _ _ rfl hG (Below.refl _ _)
          · exact fun h => absurd h (by decide)
          · exact fun h => absurd h (by decide)
          · exact fun h => absurd h (by decide)
          · exact fun h => absurd h (by decide)
          · exact fun h => absurd h (by decide)
          · exact fun h => absurd h (by decide)
          · exact fun h => absurd h (by decide)
          · exact fun h => absurd h (by decide)
          · intro _ k a w' hG hout hpre K hK
            obtain ⟨p0, p1, _⟩ := hpre
            have q84 := ev_of (show a.eval (.tmp 84) = .bool false from p0)
            have q92 := ev_of (show a.eval (.tmp 92) = undef from p1)
            clear hout p0 p1
            go_step
            exact hK _ _ rfl hG (Below.refl _ _)
          · intro _ k a w' hG hout hpre K hK
            obtain ⟨p0, p1, _⟩ := hpre
            have q81 := ev_of (show a.eval (.tmp 81) = .bool false from p0)
            have q93 := ev_of (show a.eval (.tmp 93) = .bool false from p1)
            clear hout p0 p1
            go_step
            exact hK _ _ rfl hG (Below.refl _ _)
        · intro vs w2 hG hlen hV
          match vs, hlen, hV with
          | v0 :: v1 :: v2 :: v3 :: v4 :: v5 :: v6 :: v7 :: v8 :: v9 :: v10 :: v11 :: v12 :: v13 :: v14 :: v15 :: v16 :: v17 :: v18 :: v19 :: v20 :: v21 :: v22 :: v23 :: v24 :: v25 :: v26 :: v27 :: v28 :: v29 :: v30 :: v31 :: v32 :: v33 :: v34 :: v35 :: v36 :: v37 :: v38 :: [], _, hV =>
            obtain rfl : v38 = .bool false := (hV 38 94 v38 rfl rfl)
            clear hV
            simp only [putsL, List.tail_cons, List.headD_cons]
            simp only [Act.put, List.setIfInBounds_toArray, List.set_cons_succ, List.set_cons_zero]
            have HZ : Hid (HoldRel w6 N (.int .i64 ((0 : Int) + 1)) w2) := by
              refine Lib.hid ⟨0 + 1, by have := HJ.out; omega, by go_num, HW1.out.trans (hG.mono HW1.out.size)⟩
            clear hG
            go_wp2_with (fail)
            go_roundw
            case rel => exact HZ.out
            case measure => have := HJ.out; simp [intOf]; omega
      · obtain ⟨i, rfl⟩ : ∃ i, j = i + 1 := ⟨j - 1, by omega⟩
        obtain ⟨y, pc, oc, hy, hpc, _⟩ := H6.out.1.get (t := i) (by have := HJ.out; rw [← HN.out.1]; omega)
        cases hpc
        have hstep := ofW_step (q := X) (key := key) (t := t) (i := i) (by rw [← HLe.out]; exact hy) (by rw [← HLe.out]; exact HXj.out)
        obtain ⟨VP, hVY⟩ : ∃ V, V = Value.agg y.cells := ⟨_, rfl⟩
        have HCl : Hid ((∀ w', Calls Tryd.prog 23 #[VW, .int .i64 t] w' (Below0 w' (.bool true))) ∧ ∀ w', Calls Tryd.prog 19 #[VP, VW] w' (Below0 w' (.int .i64 (-1)))) := by
          refine Lib.hid ⟨HHas.out, fun w' => ?_⟩
          have h := wcompare_any w' y ⟨xk, xl, xh⟩
          rw [cmpW_lt hstep.1, ← hVW, ← hVY] at h
          exact h
        obtain ⟨yk, yl, yh⟩ := y
        have HV : Hid (VW = Value.agg (WindowL.mk xk xl xh).cells ∧ VP = Value.agg (WindowL.mk yk yl yh).cells ∧ (∀ w, (binOp .neq 31 VW VW).run Tryd.prog w = .ok (.bool false) w) ∧ ∀ w op o1 o2, (eqGuard op 31 o1 o2 VW VW).run Tryd.prog w = .ok () w) := Lib.hid ⟨hVW, hVY, HVn.out.1, HVn.out.2⟩
        have HR : Hid (∀ w', Below W1.heap.size W1 w' → RowW w' wb ⟨xk, xl, xh⟩ ∧ RowW w' xb ⟨xk, xl, xh⟩ ∧ PenAt (fun k => k < pb) w' pb bX ∧ (w'.cell? ⟨pa, oa + i * 3, none⟩ = some (Sv yk) ∧ w'.cell? ⟨pa, oa + i * 3 + 1, none⟩ = some (.int .i64 yl) ∧ w'.cell? ⟨pa, oa + i * 3 + 2, none⟩ = some (.int .i64 yh))) := by
          refine Lib.hid (fun w' h => ?_)
          obtain ⟨k1, k2, k3, k4⟩ := HR0.out w' h
          refine ⟨k1, k2, k3, ?_⟩
          rcases k4 with k4 | ⟨b', o', e', k4⟩
          · rw [k4] at hy
            cases hy
          · cases e'
            exact ⟨k4 i _ hy 0 _ rfl, k4 i _ hy 1 _ rfl, k4 i _ hy 2 _ rfl⟩
        have HGt0 : Hid ((0 : Int) < ((i + 1 : Nat) : Int)) := Lib.hid (by omega)
        have HIm : Hid (((i + 1 : Nat) : Int) - 1 = (i : Int) ∧ (0 : Int) ≤ ((i + 1 : Nat) : Int) ∧ ((i + 1 : Nat) : Int) ≤ 16) := Lib.hid (by have := HJ.out; omega)
        have HI0 : Hid ((0 : Int) ≤ (i : Int) ∧ (i : Int) < (N : Int)) := Lib.hid (by have := HJ.out; omega)
        clear hy hstep hj0 hVY hVW
        go_upto_region 14 with (fail)
        refine wp_region_skip_frame (fun i => ([] : List Nat).contains i) (by kernel_rfl) [none, none, none, none, none, none, none, none, none, none, some 0, some 1, some 2, none, none, none, none, none, none, none, none, none, none, none, none, none, none, none, none, none, none, none, none, none, none, none, none, none, none] [10, 11, 12] (VY (VW :: (Value.int .i64 t) :: (Value.bool true) :: (Value.bool false) :: (Value.bool false) :: (Value.bool true) :: (Value.bool false) :: (Value.bool false) :: (Value.bool false) :: (Value.pointer (some ⟨pb, 0, none⟩)) :: undef :: undef :: VW :: VW :: (Value.bool false) :: (Value.bool false) :: (Value.bool false) :: (Value.bool true) :: (Value.bool false) :: (Value.bool false) :: (Value.bool false) :: VW :: VW :: (Value.bool false) :: (Value.bool false) :: (Value.bool false) :: (Value.int .i64 (((i + 1 : Nat)) : Int)) :: (Value.bool true) :: (Value.bool true) :: (Value.slice (some ⟨pa, oa, none⟩) N lc) :: (Value.int .i64 (((i + 1 : Nat)) : Int)) :: (Value.int .i64 (i : Int)) :: (Value.pointer (some ⟨pa, oa + i * 3, none⟩)) :: VP :: VW :: (Value.int .i64 (-1)) :: (Value.bool false) :: (Value.bool false) :: (Value.bool false) :: ([] : List Value)) 10 1 (fun w v => ∃ sa sc, v = .slice sa bX.length sc ∧ (sa = none → sc = 0) ∧ SrcP w sa bX.length bX) 11 2 (fun w v => ∃ rb base, v = .pointer (some ⟨rb, 0, none⟩) ∧ W1.heap.size ≤ rb ∧ base ≤ w.heap.size ∧ RdAt base w rb ⟨bX, 0⟩)) (fun _ w' => Below W1.heap.size W1 w') (fun w w' => Below w.heap.size w w') (VY_st _ _ _ _ _ _ _ _ (fun w w' v h ⟨sa, sc, h1, h2, h3⟩ => ⟨sa, sc, h1, h2, h3.below h⟩) (fun w w' v h ⟨rb, base, h1, h2, h3, h4⟩ => ⟨rb, base, h1, h2, Nat.le_trans h3 h.size, h4.below h⟩)) (by kernel_rfl) (by kernel_rfl) (by kernel_rfl) HG0.out (fun _ => ⟨rfl, rfl, rfl, rfl, rfl, fun _ _ h => h, fun _ _ h => h, rfl, rfl, fun _ _ h => h, fun _ _ h => h, fun _ _ h => h, fun _ _ h => h, fun _ _ h => h, fun _ _ h => h, rfl, rfl, fun _ _ h => h, fun _ _ h => h, rfl, rfl, fun _ _ h => h, fun _ _ h => h, fun _ _ h => h, rfl, rfl, fun _ _ h => h, fun _ _ h => h, fun _ _ h => h, fun _ _ h => h, fun _ _ h => h, fun _ _ h => h, fun _ _ h => h, fun _ _ h => h, fun _ _ h => h, fun _ _ h => h, fun _ _ h => h, fun _ _ h => h, rfl, trivial⟩) (fun _ h => by simp at h) ?_ ?_
        · refine ⟨?_, ?_, ?_, ?_, ?_, ?_, ?_, ?_, ?_, ?_, ?_, ?_, ?_, ?_, ?_, ?_, ?_, ?_, ?_, ?_, ?_, ?_, ?_, ?_, ?_, ?_, ?_, ?_, ?_, ?_, ?_, ?_, ?_, ?_, ?_, ?_, ?_, ?_, ?_, trivial⟩
          · intro _ k a w' hG hout hpre K hK
            have q9 := ev_of ((hout 9 rfl).trans (show _ = .pointer (some ⟨wb, 0, none⟩) from rfl))
            obtain ⟨d0, d1, d2⟩ := (HR.out w' hG).1.d3
            clear hout hpre
            go_step
            exact hK _ _ HV.out.1.symm hG (Below.refl _ _)
          · intro _ k a w' hG hout hpre K hK
            have q2 := ev_of ((hout 2 rfl).trans (show _ = .int .i64 t from rfl))
            clear hout hpre
            go_step
            exact hK _ _ rfl hG (Below.refl _ _)
          · intro _ k a w' hG hout hpre K hK
            obtain ⟨p0, p1, _⟩ := hpre
            have q56 := ev_of (show a.eval (.tmp 56) = VW from p0)
            have q57 := ev_of (show a.eval (.tmp 57) = .int .i64 t from p1)
            have HS := Lib.hid (HCl.out.1 w')
            clear hout p0 p1
            go_step
            refine HS.out.mono ?_
            rintro e w3 ⟨rfl, hB⟩
            exact hK _ _ rfl (hG.trans (hB.mono hG.size)) hB
          · intro _ k a w' hG hout hpre K hK
            obtain ⟨p0, _⟩ := hpre
            have q58 := ev_of (show a.eval (.tmp 58) = .bool true from p0)
            clear hout p0
            go_step
            exact hK _ _ rfl hG (Below.refl _ _)
          · intro _ k a w' hG hout hpre K hK
            obtain ⟨p0, _⟩ := hpre
            have q59 := ev_of (show a.eval (.tmp 59) = .bool false from p0)
            clear hout p0
            go_step
            exact hK _ _ rfl hG (Below.refl _ _)
          · intro _ k a w' hG hout hpre K hK
            have q11 := ev_of ((hout 11 rfl).trans (show _ = .bool true from rfl))
            clear hout hpre
            go_step
            exact hK _ _ rfl hG (Below.refl _ _)
          · intro _ k a w' hG hout hpre K hK
            obtain ⟨p0, _⟩ := hpre
            have q61 := ev_of (show a.eval (.tmp 61) = .bool true from p0)
            clear hout p0
            go_step
            exact hK _ _ rfl hG (Below.refl _ _)
          · intro _ k a w' hG hout hpre K hK
            obtain ⟨p0, p1, _⟩ := hpre
            have q60 := ev_of (show a.eval (.tmp 60) = .bool false from p0)
            have q62 := ev_of (show a.eval (.tmp 62) = .bool false from p1)
            clear hout p0 p1
            go_step
            exact hK _ _ rfl hG (Below.refl _ _)
          · intro _ k a w' hG hout hpre K hK
            obtain ⟨p0, _⟩ := hpre
            have q63 := ev_of (show a.eval (.tmp 63) = .bool false from p0)
            clear hout p0
            go_step
            exact hK _ _ rfl hG (Below.refl _ _)
          · intro _ k a w' hG hout hpre K hK
            have q10 := ev_of ((hout 10 rfl).trans (show _ = .pointer (some ⟨pb, 0, none⟩) from rfl))
            clear hout hpre
            go_step
            exact hK _ _ rfl hG (Below.refl _ _)
          · intro _ a w' hG hout hpre K hK
            obtain ⟨p0, _⟩ := hpre
            have q65 := ev_of (show a.eval (.tmp 65) = .pointer (some ⟨pb, 0, none⟩) from p0)
            have HS := Lib.hid (pbytes_any w' (fun k => k < pb) pb bX (HR.out w' hG).2.2.1 HbL.out)
            clear hout p0
            go_step
            refine HS.out.mono ?_
            rintro e w3 ⟨sa, sc, rfl, k1, k2, k3, k4, k5⟩
            exact hK _ _ (fun _ => ⟨sa, sc, rfl, k3, k4.srcP⟩) (hG.trans (k5.mono hG.size)) (VY_next (by decide) (by decide))
          · intro _ a w' hG hout hpre K hK
            obtain ⟨p0, _⟩ := hpre
            obtain ⟨sa, sc, hv, k3, k4⟩ := (show (1 = 1) → (∃ sa sc, a.eval (.tmp 66) = .slice sa bX.length sc ∧ (sa = none → sc = 0) ∧ SrcP w' sa bX.length bX) from p0) rfl
            have q := ev_of hv
            have HS := Lib.hid (rread_any w' sa sc bX.length bX rfl k4 k3 HbL.out)
            clear hout p0 hv k3 k4
            go_step
            refine HS.out.mono ?_
            rintro e w3 ⟨rb, rfl, k1, k2, k3⟩
            exact hK _ _ (fun _ => ⟨rb, w3.heap.size, rfl, Nat.le_trans hG.size k2, Nat.le_refl _, k1⟩) (hG.trans (k3.mono hG.size)) (VY_next (by decide) (by decide))
          · intro _ a w' hG hout hpre K hK
            obtain ⟨p0, _⟩ := hpre
            obtain ⟨rb, base, hv, k1, k2, k3⟩ := (show (2 = 2) → (∃ rb base, a.eval (.tmp 67) = .pointer (some ⟨rb, 0, none⟩) ∧ W1.heap.size ≤ rb ∧ base ≤ w'.heap.size ∧ RdAt base w' rb ⟨bX, 0⟩) from p0) rfl
            have q := ev_of hv
            have HS : Hid (Calls Tryd.prog 31 #[.pointer (some ⟨rb, 0, none⟩)] w' (RdEnd base w' rb ⟨[], 0⟩ VW)) := by
              have h := wget_any w' base rb ⟨bX, 0⟩ k3 k2
              rw [HGt.out] at h
              rw [HV.out.1]
              exact Lib.hid h
            have k4 := Lib.hid k1
            clear hout p0 hv k1 k2 k3
            go_step
            refine HS.out.mono ?_
            rintro e w3 ⟨rfl, _, k5⟩
            exact hK _ _ rfl (hG.trans ⟨k5.os, k5.tape, k5.output, k5.size, fun j hj => k5.block j (by have := hG.size; omega) (by have := k4.out; simp; omega)⟩) (VY_next (by decide) (by decide))
          · intro _ k a w' hG hout hpre K hK
            have q9 := ev_of ((hout 9 rfl).trans (show _ = .pointer (some ⟨wb, 0, none⟩) from rfl))
            obtain ⟨d0, d1, d2⟩ := (HR.out w' hG).1.d3
            clear hout hpre
            go_step
            exact hK _ _ HV.out.1.symm hG (Below.refl _ _)
          · intro _ k a w' hG hout hpre K hK
            obtain ⟨p0, p1, _⟩ := hpre
            have q68 := ev_of (show a.eval (.tmp 68) = VW from p0)
            have q69 := ev_of (show a.eval (.tmp 69) = VW from p1)
            have he := HV.out.2.2.1
            have hgd := HV.out.2.2.2
            clear hout p0 p1
            go_step
            exact hK _ _ rfl hG (Below.refl _ _)
          · intro _ k a w' hG hout hpre K hK
            obtain ⟨p0, p1, _⟩ := hpre
            have q64 := ev_of (show a.eval (.tmp 64) = .bool false from p0)
            have q70 := ev_of (show a.eval (.tmp 70) = .bool false from p1)
            clear hout p0 p1
            go_step
            exact hK _ _ rfl hG (Below.refl _ _)
          · intro _ k a w' hG hout hpre K hK
            obtain ⟨p0, _⟩ := hpre
            have q71 := ev_of (show a.eval (.tmp 71) = .bool false from p0)
            clear hout p0
            go_step
            exact hK _ _ rfl hG (Below.refl _ _)
          · intro _ k a w' hG hout hpre K hK
            have q13 := ev_of ((hout 13 rfl).trans (show _ = .bool true from rfl))
            clear hout hpre
            go_step
            exact hK _ _ rfl hG (Below.refl _ _)
          · intro _ k a w' hG hout hpre K hK
            obtain ⟨p0, _⟩ := hpre
            have q73 := ev_of (show a.eval (.tmp 73) = .bool true from p0)
            clear hout p0
            go_step
            exact hK _ _ rfl hG (Below.refl _ _)
          · intro _ k a w' hG hout hpre K hK
            obtain ⟨p0, p1, _⟩ := hpre
            have q72 := ev_of (show a.eval (.tmp 72) = .bool false from p0)
            have q74 := ev_of (show a.eval (.tmp 74) = .bool false from p1)
            clear hout p0 p1
            go_step
            exact hK _ _ rfl hG (Below.refl _ _)
          · intro _ k a w' hG hout hpre K hK
            obtain ⟨p0, _⟩ := hpre
            have q75 := ev_of (show a.eval (.tmp 75) = .bool false from p0)
            clear hout p0
            go_step
            exact hK _ _ rfl hG (Below.refl _ _)
          · intro _ k a w' hG hout hpre K hK
            have q12 := ev_of ((hout 12 rfl).trans (show _ = .pointer (some ⟨xb, 0, none⟩) from rfl))
            obtain ⟨d0, d1, d2⟩ := (HR.out w' hG).2.1.d3
            clear hout hpre
            go_step
            exact hK _ _ HV.out.1.symm hG (Below.refl _ _)
          · intro _ k a w' hG hout hpre K hK
            have q9 := ev_of ((hout 9 rfl).trans (show _ = .pointer (some ⟨wb, 0, none⟩) from rfl))
            obtain ⟨d0, d1, d2⟩ := (HR.out w' hG).1.d3
            clear hout hpre
            go_step
            exact hK _ _ HV.out.1.symm hG (Below.refl _ _)
          · intro _ k a w' hG hout hpre K hK
            obtain ⟨p0, p1, _⟩ := hpre
            have q77 := ev_of (show a.eval (.tmp 77) = VW from p0)
            have q78 := ev_of (show a.eval (.tmp 78) = VW from p1)
            have he := HV.out.2.2.1
            have hgd := HV.out.2.2.2
            clear hout p0 p1
            go_step
            exact hK _ _ rfl hG (Below.refl _ _)
          · intro _ k a w' hG hout hpre K hK
            obtain ⟨p0, p1, _⟩ := hpre
            have q76 := ev_of (show a.eval (.tmp 76) = .bool false from p0)
            have q79 := ev_of (show a.eval (.tmp 79) = .bool false from p1)
            clear hout p0 p1
            go_step
            exact hK _ _ rfl hG (Below.refl _ _)
          · intro _ k a w' hG hout hpre K hK
            obtain ⟨p0, _⟩ := hpre
            have q80 := ev_of (show a.eval (.tmp 80) = .bool false from p0)
            clear hout p0
            go_step
            exact hK _ _ rfl hG (Below.refl _ _)
          · intro _ k a w' hG hout hpre K hK
            have q8 := ev_of ((hout 8 rfl).trans (show _ = .int .i64 (((i + 1 : Nat)) : Int) from rfl))
            clear hout hpre
            go_step
            exact hK _ _ rfl hG (Below.refl _ _)
          · intro _ k a w' hG hout hpre K hK
            obtain ⟨p0, _⟩ := hpre
            have q82 := ev_of (show a.eval (.tmp 82) = .int .i64 (((i + 1 : Nat)) : Int) from p0)
            have hgt := HGt0.out
            clear hout p0
            go_step
            exact hK _ _ rfl hG (Below.refl _ _)
          · intro _ k a w' hG hout hpre K hK
            obtain ⟨p0, _⟩ := hpre
            have q83 := ev_of (show a.eval (.tmp 83) = .bool true from p0)
            clear hout p0
            go_step
            exact hK _ _ rfl hG (Below.refl _ _)
          · intro _ k a w' hG hout hpre K hK
            have q7 := ev_of ((hout 7 rfl).trans (show _ = .slice (some ⟨pa, oa, none⟩) N lc from rfl))
            clear hout hpre
            go_step
            exact hK _ _ rfl hG (Below.refl _ _)
          · intro _ k a w' hG hout hpre K hK
            have q8 := ev_of ((hout 8 rfl).trans (show _ = .int .i64 (((i + 1 : Nat)) : Int) from rfl))
            clear hout hpre
            go_step
            exact hK _ _ rfl hG (Below.refl _ _)
          · intro _ k a w' hG hout hpre K hK
            obtain ⟨p0, _⟩ := hpre
            have q86 := ev_of (show a.eval (.tmp 86) = .int .i64 (((i + 1 : Nat)) : Int) from p0)
            have him := HIm.out
            clear hout p0
            go_step
            exact hK _ _ rfl hG (Below.refl _ _)
          · intro _ k a w' hG hout hpre K hK
            obtain ⟨p0, p1, _⟩ := hpre
            have q85 := ev_of (show a.eval (.tmp 85) = .slice (some ⟨pa, oa, none⟩) N lc from p0)
            have q87 := ev_of (show a.eval (.tmp 87) = .int .i64 (i : Int) from p1)
            have hi0 := HI0.out
            clear hout p0 p1
            go_step
            exact hK _ _ rfl hG (Below.refl _ _)
          · intro _ k a w' hG hout hpre K hK
            obtain ⟨p0, _⟩ := hpre
            have q88 := ev_of (show a.eval (.tmp 88) = .pointer (some ⟨pa, oa + i * 3, none⟩) from p0)
            obtain ⟨d0, d1, d2⟩ := (HR.out w' hG).2.2.2
            clear hout p0
            go_step
            exact hK _ _ HV.out.2.1.symm hG (Below.refl _ _)
          · intro _ k a w' hG hout hpre K hK
            have q9 := ev_of ((hout 9 rfl).trans (show _ = .pointer (some ⟨wb, 0, none⟩) from rfl))
            obtain ⟨d0, d1, d2⟩ := (HR.out w' hG).1.d3
            clear hout hpre
            go_step
            exact hK _ _ HV.out.1.symm hG (Below.refl _ _)
          · intro _ k a w' hG hout hpre K hK
            obtain ⟨p0, p1, _⟩ := hpre
            have q89 := ev_of (show a.eval (.tmp 89) = VP from p0)
            have q90 := ev_of (show a.eval (.tmp 90) = VW from p1)
            have HS := Lib.hid (HCl.out.2 w')
            clear hout p0 p1
            go_step
            refine HS.out.mono ?_
            rintro e w3 ⟨rfl, hB⟩
            exact hK _ _ rfl (hG.trans (hB.mono hG.size)) hB
          · intro _ k a w' hG hout hpre K hK
            obtain ⟨p0, _⟩ := hpre
            have q91 := ev_of (show a.eval (.tmp 91) = .int .i64 (-1) from p0)
            clear hout p0
            go_step
            exact hK _ _ rfl hG (Below.refl _ _)
          · intro _ k a w' hG hout hpre K hK
            obtain ⟨p0, p1, _⟩ := hpre
            have q84 := ev_of (show a.eval (.tmp 84) = .bool true from p0)
            have q92 := ev_of (show a.eval (.tmp 92) = .bool false from p1)
            clear hout p0 p1
            go_step
            exact hK _ _ rfl hG (Below.refl _ _)
          · intro _ k a w' hG hout hpre K hK
            obtain ⟨p0, p1, _⟩ := hpre
            have q81 := ev_of (show a.eval (.tmp 81) = .bool false from p0)
            have q93 := ev_of (show a.eval (.tmp 93) = .bool false from p1)
            clear hout p0 p1
            go_step
            exact hK _ _ rfl hG (Below.refl _ _)
        · intro vs w2 hG hlen hV
          match vs, hlen, hV with
          | v0 :: v1 :: v2 :: v3 :: v4 :: v5 :: v6 :: v7 :: v8 :: v9 :: v10 :: v11 :: v12 :: v13 :: v14 :: v15 :: v16 :: v17 :: v18 :: v19 :: v20 :: v21 :: v22 :: v23 :: v24 :: v25 :: v26 :: v27 :: v28 :: v29 :: v30 :: v31 :: v32 :: v33 :: v34 :: v35 :: v36 :: v37 :: v38 :: [], _, hV =>
            obtain rfl : v38 = .bool false := (hV 38 94 v38 rfl rfl)
            clear hV
            simp only [putsL, List.tail_cons, List.headD_cons]
            simp only [Act.put, List.setIfInBounds_toArray, List.set_cons_succ, List.set_cons_zero]
            have HZ : Hid (HoldRel w6 N (.int .i64 ((((i + 1 : Nat)) : Int) + 1)) w2) := by
              refine Lib.hid ⟨i + 1 + 1, by have := HJ.out; omega, by go_num, HW1.out.trans (hG.mono HW1.out.size)⟩
            clear hG
            go_wp2_with (fail)
            go_roundw
            case rel => exact HZ.out
            case measure => have := HJ.out; simp [intOf]; omega
    · obtain rfl : j = N := by omega
      have HZ : Hid (Below w.heap.size w wr) := Lib.hid (H6.out.2.trans (hBw.mono H6.out.2.size))
      clear hBw hj hlt
      go_wp2_with (fail)
      go_ret
      exact ⟨rfl, HZ.out⟩
end Go.Proofs.YtkgmcjeficgciaaDoor
