/-
  The contracts of package wins's Compare and Place.
-/
import Derived.Test.YtbfioekbahcicaaCmp
import Derived.Test.YtbfioekbahcicaaRefWCmp
namespace Go.Proofs.Ytbfioekbahcicaa
open Go Go.RowKit

set_option maxRecDepth 100000 in
set_option maxHeartbeats 1000000 in
theorem wplace_any (w : World) (x y : WindowL) : Calls Try.prog 24 #[.agg x.cells, .agg y.cells] w (Below0 w (.int .i64 (placeW x y))) := by
  obtain ⟨r, hr⟩ : ∃ r, r = placeW x y := ⟨_, rfl⟩
  rw [← hr]
  obtain ⟨wa, hwa⟩ : ∃ W, W = w.alloc (.cells x.cells 24) := ⟨_, rfl⟩
  obtain ⟨xb, hxb⟩ : ∃ b, b = w.heap.size := ⟨_, rfl⟩
  obtain ⟨wb, hwb⟩ : ∃ W, W = wa.alloc (.cells y.cells 24) := ⟨_, rfl⟩
  obtain ⟨yb, hyb⟩ : ∃ b, b = w.heap.size + 1 := ⟨_, rfl⟩
  have hws : wa.heap.size = w.heap.size + 1 := by rw [hwa]; exact heap_alloc_size w _
  have HWb : Hid (Below w.heap.size w wb) := by
    have h1 := (Below.refl _ w).alloc (Nat.le_refl _) (.cells x.cells 24)
    rw [← hwa] at h1
    rw [hwb]
    exact Lib.hid (h1.alloc h1.size _)
  have HD : Hid (∀ w', Below wb.heap.size wb w' → D3 w' xb x.key x.lo x.hi ∧ D3 w' yb y.key y.lo y.hi) := by
    have h1 : RowW wa xb x := by rw [hwa, hxb]; exact heap_alloc_new w _
    have h2 : RowW wb yb y := by rw [hwb, hyb, ← hws]; exact heap_alloc_new wa _
    have h3 : Below wa.heap.size wa wb := by rw [hwb]; exact (Below.refl _ wa).alloc (Nat.le_refl _) _
    exact Lib.hid (fun w' h => ⟨((h1.below h3).below h).d3, (h2.below h).d3⟩)
  have HG0 : Hid (Below wb.heap.size wb wb.drew) := (Below.refl _ wb).drew
  obtain ⟨xk, xl, xh⟩ := x
  obtain ⟨yk, yl, yh⟩ := y
  simp only at HD
  obtain ⟨ka, hka⟩ : ∃ k, k = ordS xk yk := ⟨_, rfl⟩
  obtain ⟨kb, hkb⟩ : ∃ k, k = ordI xl yl := ⟨_, rfl⟩
  obtain ⟨kc, hkc⟩ : ∃ k, k = ordI xh yh := ⟨_, rfl⟩
  have HR : Hid (r = firstI ka kb kc) := by rw [hr, hka, hkb, hkc]; exact Lib.hid rfl
  have HCL : Hid ((∀ w', Calls Try.prog 35 #[Sv xk, Sv yk] w' fun e w2 => e = .returned (.int .i64 ka) ∧ w2 = w') ∧ (∀ w', Calls Try.prog 36 #[.int .i64 xl, .int .i64 yl] w' fun e w2 => e = .returned (.int .i64 kb) ∧ w2 = w') ∧ (∀ w', Calls Try.prog 36 #[.int .i64 xh, .int .i64 yh] w' fun e w2 => e = .returned (.int .i64 kc) ∧ w2 = w')) := by
    rw [hka, hkb, hkc]
    exact Lib.hid ⟨fun w' => cmpS_any w' _ _, fun w' => cmpI_any w' _ _, fun w' => cmpI_any w' _ _⟩
  unfold WindowL.cells at hwa hwb ⊢
  clear hr hka hkb hkc
  go_enter Try.func24, Try.ntmps24
  go_upto_region 1 with (fail)
  rw [← hwa, ← hwb, ← hyb, ← hxb]
  clear hwa hwb hxb hyb hws
  refine wp_region_seq_frame (by kernel_rfl) [none, none, none, none, none, none, none, none, none, none, none, none, none, none, none, none, none, none] [] (vOfT (stE (.pointer (some ⟨xb, 0, none⟩)) :: stE (Sv xk) :: stE (.pointer (some ⟨yb, 0, none⟩)) :: stE (Sv yk) :: stE (.int .i64 ka) :: stE (.pointer (some ⟨xb, 1, none⟩)) :: stE (.int .i64 xl) :: stE (.pointer (some ⟨yb, 1, none⟩)) :: stE (.int .i64 yl) :: stE (.int .i64 kb) :: stE (.pointer (some ⟨xb, 2, none⟩)) :: stE (.int .i64 xh) :: stE (.pointer (some ⟨yb, 2, none⟩)) :: stE (.int .i64 yh) :: stE (.int .i64 kc) :: stI3 wb.heap.size ka kb kc :: stE (.int .i64 r) :: stE (.int .i64 r) :: ([] : List _))) (fun _ w' => Below wb.heap.size wb w') (fun w w' => Below w.heap.size w w') (vOfT_st _) (by kernel_rfl) (by kernel_rfl) (by kernel_rfl) HG0.out ⟨trivial, trivial, trivial, trivial, trivial, trivial, trivial, trivial, trivial, trivial, trivial, trivial, trivial, trivial, trivial, trivial, trivial, trivial, trivial⟩ ?_ ?_
  · refine ⟨?_, ?_, ?_, ?_, ?_, ?_, ?_, ?_, ?_, ?_, ?_, ?_, ?_, ?_, ?_, ?_, ?_, ?_, trivial⟩
    · intro k a w' hG hout hpre K hK
      have q2 := ev_of ((hout 2 rfl).trans (show _ = .pointer (some ⟨xb, 0, none⟩) from rfl))
      clear hout hpre
      go_step
      exact hK _ _ rfl hG (Below.refl _ _)
    · intro k a w' hG hout hpre K hK
      obtain ⟨p0, _⟩ := hpre
      have q5 := ev_of (show a.eval (.tmp 5) = .pointer (some ⟨xb, 0, none⟩) from p0)
      obtain ⟨d0, d1, d2⟩ := (HD.out w' hG).1
      clear hout p0
      go_step
      exact hK _ _ rfl hG (Below.refl _ _)
    · intro k a w' hG hout hpre K hK
      have q3 := ev_of ((hout 3 rfl).trans (show _ = .pointer (some ⟨yb, 0, none⟩) from rfl))
      clear hout hpre
      go_step
      exact hK _ _ rfl hG (Below.refl _ _)
    · intro k a w' hG hout hpre K hK
      obtain ⟨p0, _⟩ := hpre
      have q7 := ev_of (show a.eval (.tmp 7) = .pointer (some ⟨yb, 0, none⟩) from p0)
      obtain ⟨d0, d1, d2⟩ := (HD.out w' hG).2
      clear hout p0
      go_step
      exact hK _ _ rfl hG (Below.refl _ _)
    · intro k a w' hG hout hpre K hK
      obtain ⟨p0, p1, _⟩ := hpre
      have q6 := ev_of (show a.eval (.tmp 6) = Sv xk from p0)
      have q8 := ev_of (show a.eval (.tmp 8) = Sv yk from p1)
      have HS := Lib.hid (HCL.out.1 w')
      clear hout p0 p1
      go_step
      refine HS.out.mono ?_
      rintro e w3 ⟨rfl, hw3⟩
      subst w3
      exact hK _ _ rfl hG (Below.refl _ _)
    · intro k a w' hG hout hpre K hK
      have q2 := ev_of ((hout 2 rfl).trans (show _ = .pointer (some ⟨xb, 0, none⟩) from rfl))
      clear hout hpre
      go_step
      exact hK _ _ rfl hG (Below.refl _ _)
    · intro k a w' hG hout hpre K hK
      obtain ⟨p0, _⟩ := hpre
      have q10 := ev_of (show a.eval (.tmp 10) = .pointer (some ⟨xb, 1, none⟩) from p0)
      obtain ⟨d0, d1, d2⟩ := (HD.out w' hG).1
      clear hout p0
      go_step
      exact hK _ _ rfl hG (Below.refl _ _)
    · intro k a w' hG hout hpre K hK
      have q3 := ev_of ((hout 3 rfl).trans (show _ = .pointer (some ⟨yb, 0, none⟩) from rfl))
      clear hout hpre
      go_step
      exact hK _ _ rfl hG (Below.refl _ _)
    · intro k a w' hG hout hpre K hK
      obtain ⟨p0, _⟩ := hpre
      have q12 := ev_of (show a.eval (.tmp 12) = .pointer (some ⟨yb, 1, none⟩) from p0)
      obtain ⟨d0, d1, d2⟩ := (HD.out w' hG).2
      clear hout p0
      go_step
      exact hK _ _ rfl hG (Below.refl _ _)
    · intro k a w' hG hout hpre K hK
      obtain ⟨p0, p1, _⟩ := hpre
      have q11 := ev_of (show a.eval (.tmp 11) = .int .i64 xl from p0)
      have q13 := ev_of (show a.eval (.tmp 13) = .int .i64 yl from p1)
      have HS := Lib.hid (HCL.out.2.1 w')
      clear hout p0 p1
      go_step
      refine HS.out.mono ?_
      rintro e w3 ⟨rfl, hw3⟩
      subst w3
      exact hK _ _ rfl hG (Below.refl _ _)
    · intro k a w' hG hout hpre K hK
      have q2 := ev_of ((hout 2 rfl).trans (show _ = .pointer (some ⟨xb, 0, none⟩) from rfl))
      clear hout hpre
      go_step
      exact hK _ _ rfl hG (Below.refl _ _)
    · intro k a w' hG hout hpre K hK
      obtain ⟨p0, _⟩ := hpre
      have q15 := ev_of (show a.eval (.tmp 15) = .pointer (some ⟨xb, 2, none⟩) from p0)
      obtain ⟨d0, d1, d2⟩ := (HD.out w' hG).1
      clear hout p0
      go_step
      exact hK _ _ rfl hG (Below.refl _ _)
    · intro k a w' hG hout hpre K hK
      have q3 := ev_of ((hout 3 rfl).trans (show _ = .pointer (some ⟨yb, 0, none⟩) from rfl))
      clear hout hpre
      go_step
      exact hK _ _ rfl hG (Below.refl _ _)
    · intro k a w' hG hout hpre K hK
      obtain ⟨p0, _⟩ := hpre
      have q17 := ev_of (show a.eval (.tmp 17) = .pointer (some ⟨yb, 2, none⟩) from p0)
      obtain ⟨d0, d1, d2⟩ := (HD.out w' hG).2
      clear hout p0
      go_step
      exact hK _ _ rfl hG (Below.refl _ _)
    · intro k a w' hG hout hpre K hK
      obtain ⟨p0, p1, _⟩ := hpre
      have q16 := ev_of (show a.eval (.tmp 16) = .int .i64 xh from p0)
      have q18 := ev_of (show a.eval (.tmp 18) = .int .i64 yh from p1)
      have HS := Lib.hid (HCL.out.2.2 w')
      clear hout p0 p1
      go_step
      refine HS.out.mono ?_
      rintro e w3 ⟨rfl, hw3⟩
      subst w3
      exact hK _ _ rfl hG (Below.refl _ _)
    · intro k a w' hG hout hpre K hK
      obtain ⟨p0, p1, p2, _⟩ := hpre
      have q9 := ev_of (show a.eval (.tmp 9) = .int .i64 ka from p0)
      have q14 := ev_of (show a.eval (.tmp 14) = .int .i64 kb from p1)
      have q19 := ev_of (show a.eval (.tmp 19) = .int .i64 kc from p2)
      clear hout p0 p1 p2
      go_step
      exact hK _ _ ⟨w'.heap.size, rfl, hG.size, heap_alloc_new w' _⟩ (hG.alloc hG.size _) ((Below.refl _ w').alloc (Nat.le_refl _) _)
    · intro k a w' hG hout hpre K hK
      obtain ⟨p0, _⟩ := hpre
      obtain ⟨gg, hg0, _, hgr⟩ := p0
      have q0 := ev_of (show a.eval (.tmp 20) = .slice (some ⟨gg, 0, none⟩) 3 3 from hg0)
      have hor := or3_any w' gg ka kb kc hgr
      rw [← HR.out] at hor
      have HS := Lib.hid hor
      clear hout hor hgr hg0
      go_step
      refine HS.out.mono ?_
      rintro e w3 ⟨rfl, hw3⟩
      subst w3
      exact hK _ _ rfl hG (Below.refl _ _)
    · intro k a w' hG hout hpre K hK
      obtain ⟨p0, _⟩ := hpre
      have q21 := ev_of (show a.eval (.tmp 21) = .int .i64 r from p0)
      clear hout p0
      go_step
      exact hK _ _ rfl hG (Below.refl _ _)
  · intro vs w2 hG hlen hV
    match vs, hlen, hV with
    | [v0, v1, v2, v3, v4, v5, v6, v7, v8, v9, v10, v11, v12, v13, v14, v15, v16, v17], _, hV =>
      obtain rfl : v17 = .int .i64 r := hV 17 4 v17 rfl rfl
      clear hV
      simp only [putsL, List.tail_cons, List.headD_cons]
      simp only [Act.put, List.setIfInBounds_toArray, List.set_cons_succ, List.set_cons_zero]
      have HZ : Hid (Below w.heap.size w w2) := HWb.out.trans (hG.mono HWb.out.size)
      clear hG
      go_wp2_with (fail)
      go_ret
      exact ⟨rfl, HZ.out⟩
end Go.Proofs.Ytbfioekbahcicaa
