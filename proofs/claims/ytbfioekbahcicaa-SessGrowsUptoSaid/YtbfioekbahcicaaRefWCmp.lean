/-
  The contracts of the reference's Compare and Place.
-/
import Derived.Test.YtbfioekbahcicaaRefW
namespace Go.Proofs.Ytbfioekbahcicaa
open Go Go.RowKit

/-- A new slice of three numbers. -/
def stI3 (B0 : Nat) (a b c : Int) : StT (fun w w' => Below w.heap.size w w') :=
  ⟨fun w v => ∃ g, v = .slice (some ⟨g, 0, none⟩) 3 3 ∧ B0 ≤ g ∧ w.heap[g]? = some (.cells #[.int .i64 a, .int .i64 b, .int .i64 c] 3 (0, 0)), fun _ _ _ h ⟨g, h1, h2, h3⟩ => ⟨g, h1, h2, (h.block _ (Array.getElem?_eq_some_iff.1 h3).1).trans h3⟩⟩
theorem firstI_spec (a b c : Int) : (∀ j < 3, (∀ i < j, ([a, b, c] : List Int).getD i 0 = 0) → ([a, b, c] : List Int).getD j 0 ≠ 0 → firstI a b c = ([a, b, c] : List Int).getD j 0) ∧ ((∀ i < 3, ([a, b, c] : List Int).getD i 0 = 0) → firstI a b c = 0) := by
  constructor
  · intro j hj hz hn
    obtain rfl | rfl | rfl : j = 0 ∨ j = 1 ∨ j = 2 := by omega
    · exact if_pos hn
    · have h0 : a = 0 := hz 0 (by omega)
      unfold firstI
      rw [if_neg (by simpa using h0)]
      exact if_pos hn
    · have h0 : a = 0 := hz 0 (by omega)
      have h1 : b = 0 := hz 1 (by omega)
      unfold firstI
      rw [if_neg (by simpa using h0), if_neg (by simpa using h1)]
      rfl
  · intro hz
    have h0 : a = 0 := hz 0 (by omega)
    have h1 : b = 0 := hz 1 (by omega)
    have h2 : c = 0 := hz 2 (by omega)
    unfold firstI
    rw [if_neg (by simpa using h0), if_neg (by simpa using h1), h2]
def CmpRel (w0 : World) (ns : List Int) (v : Value) (wr : World) : Prop := ∃ j : Nat, j ≤ 3 ∧ v = .int .i64 (j : Int) ∧ (∀ i < j, ns.getD i 0 = 0) ∧ wr = w0
set_option maxRecDepth 100000 in
set_option maxHeartbeats 1000000 in
theorem rwPlace_any (w : World) (x y : WindowL) : Calls Try.prog 21 #[.agg x.cells, .agg y.cells] w (Below0 w (.int .i64 (placeW x y))) := by
  obtain ⟨r, hr⟩ : ∃ r, r = placeW x y := ⟨_, rfl⟩
  rw [← hr]
  obtain ⟨wa, hwa⟩ : ∃ W, W = w.alloc (.cells x.cells 24) := ⟨_, rfl⟩
  obtain ⟨xb, hxb⟩ : ∃ b, b = w.heap.size := ⟨_, rfl⟩
  obtain ⟨wb, hwb⟩ : ∃ W, W = wa.alloc (.cells y.cells 24) := ⟨_, rfl⟩
  obtain ⟨yb, hyb⟩ : ∃ b, b = w.heap.size + 1 := ⟨_, rfl⟩
  have hws : wa.heap.size = w.heap.size + 1 := by rw [hwa]; exact heap_alloc_size w _
  have HWb : Hid (Below w.heap.size w wb) := by
    have h1 := (Below.refl _ w).alloc (Nat.le_refl _) (.cells x.cells 24)
    rw [← hwa] at h1
    rw [hwb]
    exact Lib.hid (h1.alloc h1.size _)
  have HD : Hid (∀ w', Below wb.heap.size wb w' → D3 w' xb x.key x.lo x.hi ∧ D3 w' yb y.key y.lo y.hi) := by
    have h1 : RowW wa xb x := by rw [hwa, hxb]; exact heap_alloc_new w _
    have h2 : RowW wb yb y := by rw [hwb, hyb, ← hws]; exact heap_alloc_new wa _
    have h3 : Below wa.heap.size wa wb := by rw [hwb]; exact (Below.refl _ wa).alloc (Nat.le_refl _) _
    exact Lib.hid (fun w' h => ⟨((h1.below h3).below h).d3, (h2.below h).d3⟩)
  have HG0 : Hid (Below wb.heap.size wb wb.drew) := (Below.refl _ wb).drew
  obtain ⟨xk, xl, xh⟩ := x
  obtain ⟨yk, yl, yh⟩ := y
  simp only at HD
  obtain ⟨ka, hka⟩ : ∃ k, k = ordS xk yk := ⟨_, rfl⟩
  obtain ⟨kb, hkb⟩ : ∃ k, k = ordI xl yl := ⟨_, rfl⟩
  obtain ⟨kc, hkc⟩ : ∃ k, k = ordI xh yh := ⟨_, rfl⟩
  have HR : Hid (r = firstI ka kb kc) := by rw [hr, hka, hkb, hkc]; exact Lib.hid rfl
  have HCL : Hid ((∀ w', Calls Try.prog 32 #[Sv xk, Sv yk] w' fun e w2 => e = .returned (.int .i64 ka) ∧ w2 = w') ∧ (∀ w', Calls Try.prog 33 #[.int .i64 xl, .int .i64 yl] w' fun e w2 => e = .returned (.int .i64 kb) ∧ w2 = w') ∧ (∀ w', Calls Try.prog 33 #[.int .i64 xh, .int .i64 yh] w' fun e w2 => e = .returned (.int .i64 kc) ∧ w2 = w')) := by
    rw [hka, hkb, hkc]
    exact Lib.hid ⟨fun w' => rwKeys_any w' _ _, fun w' => rwOrder_any w' _ _, fun w' => rwOrder_any w' _ _⟩
  unfold WindowL.cells at hwa hwb ⊢
  clear hr hka hkb hkc
  go_enter Try.func21, Try.ntmps21
  go_upto_region 1 with (fail)
  rw [← hwa, ← hwb, ← hyb, ← hxb]
  clear hwa hwb hxb hyb hws
  refine wp_region_seq_frame (by kernel_rfl) [none, none, none, none, none, none, none, none, none, none, none, none, none, none, none, none, none, none] [] (vOfT (stE (.pointer (some ⟨xb, 0, none⟩)) :: stE (Sv xk) :: stE (.pointer (some ⟨yb, 0, none⟩)) :: stE (Sv yk) :: stE (.int .i64 ka) :: stE (.pointer (some ⟨xb, 1, none⟩)) :: stE (.int .i64 xl) :: stE (.pointer (some ⟨yb, 1, none⟩)) :: stE (.int .i64 yl) :: stE (.int .i64 kb) :: stE (.pointer (some ⟨xb, 2, none⟩)) :: stE (.int .i64 xh) :: stE (.pointer (some ⟨yb, 2, none⟩)) :: stE (.int .i64 yh) :: stE (.int .i64 kc) :: stI3 wb.heap.size ka kb kc :: stE (.int .i64 3) :: stE (.int .i64 0) :: ([] : List _))) (fun _ w' => Below wb.heap.size wb w') (fun w w' => Below w.heap.size w w') (vOfT_st _) (by kernel_rfl) (by kernel_rfl) (by kernel_rfl) HG0.out ⟨trivial, trivial, trivial, trivial, trivial, trivial, trivial, trivial, trivial, trivial, trivial, trivial, trivial, trivial, trivial, trivial, trivial, trivial, trivial⟩ ?_ ?_
  · refine ⟨?_, ?_, ?_, ?_, ?_, ?_, ?_, ?_, ?_, ?_, ?_, ?_, ?_, ?_, ?_, ?_, ?_, ?_, trivial⟩
    · intro k a w' hG hout hpre K hK
      have q2 := ev_of ((hout 2 rfl).trans (show _ = .pointer (some ⟨xb, 0, none⟩) from rfl))
      clear hout hpre
      go_step
      exact hK _ _ rfl hG (Below.refl _ _)
    · intro k a w' hG hout hpre K hK
      obtain ⟨p0, _⟩ := hpre
      have q7 := ev_of (show a.eval (.tmp 7) = .pointer (some ⟨xb, 0, none⟩) from p0)
      obtain ⟨d0, d1, d2⟩ := (HD.out w' hG).1
      clear hout p0
      go_step
      exact hK _ _ rfl hG (Below.refl _ _)
    · intro k a w' hG hout hpre K hK
      have q3 := ev_of ((hout 3 rfl).trans (show _ = .pointer (some ⟨yb, 0, none⟩) from rfl))
      clear hout hpre
      go_step
      exact hK _ _ rfl hG (Below.refl _ _)
    · intro k a w' hG hout hpre K hK
      obtain ⟨p0, _⟩ := hpre
      have q9 := ev_of (show a.eval (.tmp 9) = .pointer (some ⟨yb, 0, none⟩) from p0)
      obtain ⟨d0, d1, d2⟩ := (HD.out w' hG).2
      clear hout p0
      go_step
      exact hK _ _ rfl hG (Below.refl _ _)
    · intro k a w' hG hout hpre K hK
      obtain ⟨p0, p1, _⟩ := hpre
      have q8 := ev_of (show a.eval (.tmp 8) = Sv xk from p0)
      have q10 := ev_of (show a.eval (.tmp 10) = Sv yk from p1)
      have HS := Lib.hid (HCL.out.1 w')
      clear hout p0 p1
      go_step
      refine HS.out.mono ?_
      rintro e w3 ⟨rfl, hw3⟩
      subst w3
      exact hK _ _ rfl hG (Below.refl _ _)
    · intro k a w' hG hout hpre K hK
      have q2 := ev_of ((hout 2 rfl).trans (show _ = .pointer (some ⟨xb, 0, none⟩) from rfl))
      clear hout hpre
      go_step
      exact hK _ _ rfl hG (Below.refl _ _)
    · intro k a w' hG hout hpre K hK
      obtain ⟨p0, _⟩ := hpre
      have q12 := ev_of (show a.eval (.tmp 12) = .pointer (some ⟨xb, 1, none⟩) from p0)
      obtain ⟨d0, d1, d2⟩ := (HD.out w' hG).1
      clear hout p0
      go_step
      exact hK _ _ rfl hG (Below.refl _ _)
    · intro k a w' hG hout hpre K hK
      have q3 := ev_of ((hout 3 rfl).trans (show _ = .pointer (some ⟨yb, 0, none⟩) from rfl))
      clear hout hpre
      go_step
      exact hK _ _ rfl hG (Below.refl _ _)
    · intro k a w' hG hout hpre K hK
      obtain ⟨p0, _⟩ := hpre
      have q14 := ev_of (show a.eval (.tmp 14) = .pointer (some ⟨yb, 1, none⟩) from p0)
      obtain ⟨d0, d1, d2⟩ := (HD.out w' hG).2
      clear hout p0
      go_step
      exact hK _ _ rfl hG (Below.refl _ _)
    · intro k a w' hG hout hpre K hK
      obtain ⟨p0, p1, _⟩ := hpre
      have q13 := ev_of (show a.eval (.tmp 13) = .int .i64 xl from p0)
      have q15 := ev_of (show a.eval (.tmp 15) = .int .i64 yl from p1)
      have HS := Lib.hid (HCL.out.2.1 w')
      clear hout p0 p1
      go_step
      refine HS.out.mono ?_
      rintro e w3 ⟨rfl, hw3⟩
      subst w3
      exact hK _ _ rfl hG (Below.refl _ _)
    · intro k a w' hG hout hpre K hK
      have q2 := ev_of ((hout 2 rfl).trans (show _ = .pointer (some ⟨xb, 0, none⟩) from rfl))
      clear hout hpre
      go_step
      exact hK _ _ rfl hG (Below.refl _ _)
    · intro k a w' hG hout hpre K hK
      obtain ⟨p0, _⟩ := hpre
      have q17 := ev_of (show a.eval (.tmp 17) = .pointer (some ⟨xb, 2, none⟩) from p0)
      obtain ⟨d0, d1, d2⟩ := (HD.out w' hG).1
      clear hout p0
      go_step
      exact hK _ _ rfl hG (Below.refl _ _)
    · intro k a w' hG hout hpre K hK
      have q3 := ev_of ((hout 3 rfl).trans (show _ = .pointer (some ⟨yb, 0, none⟩) from rfl))
      clear hout hpre
      go_step
      exact hK _ _ rfl hG (Below.refl _ _)
    · intro k a w' hG hout hpre K hK
      obtain ⟨p0, _⟩ := hpre
      have q19 := ev_of (show a.eval (.tmp 19) = .pointer (some ⟨yb, 2, none⟩) from p0)
      obtain ⟨d0, d1, d2⟩ := (HD.out w' hG).2
      clear hout p0
      go_step
      exact hK _ _ rfl hG (Below.refl _ _)
    · intro k a w' hG hout hpre K hK
      obtain ⟨p0, p1, _⟩ := hpre
      have q18 := ev_of (show a.eval (.tmp 18) = .int .i64 xh from p0)
      have q20 := ev_of (show a.eval (.tmp 20) = .int .i64 yh from p1)
      have HS := Lib.hid (HCL.out.2.2 w')
      clear hout p0 p1
      go_step
      refine HS.out.mono ?_
      rintro e w3 ⟨rfl, hw3⟩
      subst w3
      exact hK _ _ rfl hG (Below.refl _ _)
    · intro k a w' hG hout hpre K hK
      obtain ⟨p0, p1, p2, _⟩ := hpre
      have q11 := ev_of (show a.eval (.tmp 11) = .int .i64 ka from p0)
      have q16 := ev_of (show a.eval (.tmp 16) = .int .i64 kb from p1)
      have q21 := ev_of (show a.eval (.tmp 21) = .int .i64 kc from p2)
      clear hout p0 p1 p2
      go_step
      exact hK _ _ ⟨w'.heap.size, rfl, hG.size, heap_alloc_new w' _⟩ (hG.alloc hG.size _) ((Below.refl _ w').alloc (Nat.le_refl _) _)
    · intro k a w' hG hout hpre K hK
      obtain ⟨p0, _⟩ := hpre
      obtain ⟨gg, hg0, _, _⟩ := p0
      have q22 := ev_of (show a.eval (.tmp 22) = .slice (some ⟨gg, 0, none⟩) 3 3 from hg0)
      clear hout
      go_step
      exact hK _ _ rfl hG (Below.refl _ _)
    · intro k a w' hG hout hpre K hK
      clear hout hpre
      go_step
      exact hK _ _ rfl hG (Below.refl _ _)
  · intro vs w2 hG hlen hV
    match vs, hlen, hV with
    | [v0, v1, v2, v3, v4, v5, v6, v7, v8, v9, v10, v11, v12, v13, v14, v15, v16, v17], _, hV =>
      obtain rfl : v16 = .int .i64 3 := hV 16 23 v16 rfl rfl
      obtain rfl : v17 = .int .i64 0 := hV 17 24 v17 rfl rfl
      obtain ⟨gg, rfl, hgb, hgr⟩ : ∃ gg, v15 = .slice (some ⟨gg, 0, none⟩) 3 3 ∧ wb.heap.size ≤ gg ∧ w2.heap[gg]? = some (.cells #[.int .i64 ka, .int .i64 kb, .int .i64 kc] 3 (0, 0)) := hV 15 22 v15 rfl rfl
      clear hV
      simp only [putsL, List.tail_cons, List.headD_cons]
      simp only [Act.put, List.setIfInBounds_toArray, List.set_cons_succ, List.set_cons_zero]
      have HW : Hid (Below w.heap.size w w2 ∧ ∀ w', Below w2.heap.size w2 w' → ∀ j < 3, w'.cell? ⟨gg, j, none⟩ = some (.int .i64 (([ka, kb, kc] : List Int).getD j 0))) := by
        have hb := HWb.out.trans (hG.mono HWb.out.size)
        refine Lib.hid ⟨hb, fun w' h j hj => ?_⟩
        rw [cell_of_row _ _ _ _ _ _ ((h.block _ (Array.getElem?_eq_some_iff.1 hgr).1).trans hgr)]
        obtain rfl | rfl | rfl : j = 0 ∨ j = 1 ∨ j = 2 := by omega
        all_goals rfl
      clear hG hgb hgr
      obtain ⟨ns, hns⟩ : ∃ l, l = ([ka, kb, kc] : List Int) := ⟨_, rfl⟩
      have HR2 : Hid ((∀ j < 3, (∀ i < j, ns.getD i 0 = 0) → ns.getD j 0 ≠ 0 → r = ns.getD j 0) ∧ ((∀ i < 3, ns.getD i 0 = 0) → r = 0)) := by
        rw [HR.out, hns]
        exact Lib.hid (firstI_spec ka kb kc)
      rw [← hns] at HW
      clear hns
      go_wp2_with (fail)
      go_loopw [24] (CmpRel w2 ns) (fun v _ => 3 - (intOf v).toNat)
      case atStart => exact ⟨0, by omega, rfl, fun i hi => by omega, rfl⟩
      case round =>
        obtain ⟨j, hj, rfl, hz, rfl⟩ := hrel
        have HZj := Lib.hid hz
        clear hz
        by_cases hlt : j < 3
        · have hc := HW.out.2 _ (Below.refl _ _) j hlt
          obtain ⟨n, hn⟩ : ∃ n, n = ns.getD j 0 := ⟨_, rfl⟩
          rw [← hn] at hc
          have HN := Lib.hid hn
          clear hn
          by_cases hn0 : n = 0
          · have e0 : (n != 0) = false := by rw [hn0]; rfl
            have HN0 := Lib.hid hn0
            clear hn0
            go_wp2_with (fail)
            go_roundw
            case rel =>
              refine ⟨j + 1, hlt, by go_num, fun i hi => ?_, rfl⟩
              by_cases hij : i < j
              · exact HZj.out i hij
              · obtain rfl : i = j := by omega
                rw [← HN.out]
                exact HN0.out
            case measure => simp [intOf]; omega
          · have e0 : (n != 0) = true := by simpa using hn0
            obtain rfl : r = n := by rw [HN.out]; exact HR2.out.1 j hlt HZj.out (by rw [← HN.out]; exact hn0)
            clear hn0
            go_wp2_with (fail)
            go_ret
            exact ⟨rfl, HW.out.1⟩
        · obtain rfl : j = 3 := by omega
          obtain rfl : r = 0 := HR2.out.2 HZj.out
          clear hlt hj
          go_wp2_with (fail)
          go_ret
          exact ⟨rfl, HW.out.1⟩
end Go.Proofs.Ytbfioekbahcicaa
