/-
  wins.Place, with the draws counted.
  slices.SortFunc of windows in the place order: the library's contract at a row of windows.
  The contract of package sess's inPlace.
  The contract of package sess's All.
-/
import Derived.Test.YtbfioekbahcicaaWinsCmp
import Derived.Test.YtbfioekbahcicaaSessList
import Derived.Test.YtbfioekbahcicaaSortW
import Derived.Test.YtbfioekbahcicaaSessRef
namespace Go.Proofs.Ytbfioekbahcicaa
open Go Go.RowKit

set_option maxRecDepth 100000 in
set_option maxHeartbeats 1000000 in
theorem wplaceD_any (w : World) (x y : WindowL) : Calls Try.prog 24 #[.agg x.cells, .agg y.cells] w (fun e w' => e = .returned (.int .i64 (placeW x y)) ∧ Below w.heap.size w w' ∧ w.drawn ≤ w'.drawn) := by
  obtain ⟨r, hr⟩ : ∃ r, r = placeW x y := ⟨_, rfl⟩
  rw [← hr]
  obtain ⟨wa, hwa⟩ : ∃ W, W = w.alloc (.cells x.cells 24) := ⟨_, rfl⟩
  obtain ⟨xb, hxb⟩ : ∃ b, b = w.heap.size := ⟨_, rfl⟩
  obtain ⟨wb, hwb⟩ : ∃ W, W = wa.alloc (.cells y.cells 24) := ⟨_, rfl⟩
  obtain ⟨yb, hyb⟩ : ∃ b, b = w.heap.size + 1 := ⟨_, rfl⟩
  have hws : wa.heap.size = w.heap.size + 1 := by rw [hwa]; exact heap_alloc_size w _
  have HWb : Hid (Below w.heap.size w wb) := by
    have h1 := (Below.refl _ w).alloc (Nat.le_refl _) (.cells x.cells 24)
    rw [← hwa] at h1
    rw [hwb]
    exact Lib.hid (h1.alloc h1.size _)
  have HD : Hid (∀ w', Below wb.heap.size wb w' → D3 w' xb x.key x.lo x.hi ∧ D3 w' yb y.key y.lo y.hi) := by
    have h1 : RowW wa xb x := by rw [hwa, hxb]; exact heap_alloc_new w _
    have h2 : RowW wb yb y := by rw [hwb, hyb, ← hws]; exact heap_alloc_new wa _
    have h3 : Below wa.heap.size wa wb := by rw [hwb]; exact (Below.refl _ wa).alloc (Nat.le_refl _) _
    exact Lib.hid (fun w' h => ⟨((h1.below h3).below h).d3, (h2.below h).d3⟩)
  have HG0 : Hid (Below wb.heap.size wb wb.drew ∧ wb.drawn ≤ wb.drew.drawn) := Lib.hid ⟨(Below.refl _ wb).drew, Nat.le_succ _⟩
  have HDw : Hid (w.drawn = wb.drawn) := by rw [hwb, hwa]; exact Lib.hid rfl
  obtain ⟨xk, xl, xh⟩ := x
  obtain ⟨yk, yl, yh⟩ := y
  simp only at HD
  obtain ⟨ka, hka⟩ : ∃ k, k = ordS xk yk := ⟨_, rfl⟩
  obtain ⟨kb, hkb⟩ : ∃ k, k = ordI xl yl := ⟨_, rfl⟩
  obtain ⟨kc, hkc⟩ : ∃ k, k = ordI xh yh := ⟨_, rfl⟩
  have HR : Hid (r = firstI ka kb kc) := by rw [hr, hka, hkb, hkc]; exact Lib.hid rfl
  have HCL : Hid ((∀ w', Calls Try.prog 35 #[Sv xk, Sv yk] w' fun e w2 => e = .returned (.int .i64 ka) ∧ w2 = w') ∧ (∀ w', Calls Try.prog 36 #[.int .i64 xl, .int .i64 yl] w' fun e w2 => e = .returned (.int .i64 kb) ∧ w2 = w') ∧ (∀ w', Calls Try.prog 36 #[.int .i64 xh, .int .i64 yh] w' fun e w2 => e = .returned (.int .i64 kc) ∧ w2 = w')) := by
    rw [hka, hkb, hkc]
    exact Lib.hid ⟨fun w' => cmpS_any w' _ _, fun w' => cmpI_any w' _ _, fun w' => cmpI_any w' _ _⟩
  unfold WindowL.cells at hwa hwb ⊢
  clear hr hka hkb hkc
  go_enter Try.func24, Try.ntmps24
  go_upto_region 1 with (fail)
  rw [← hwa, ← hwb, ← hyb, ← hxb]
  clear hwa hwb hxb hyb hws
  refine wp_region_seq_frame (by kernel_rfl) [none, none, none, none, none, none, none, none, none, none, none, none, none, none, none, none, none, none] [] (vOfT (stE (.pointer (some ⟨xb, 0, none⟩)) :: stE (Sv xk) :: stE (.pointer (some ⟨yb, 0, none⟩)) :: stE (Sv yk) :: stE (.int .i64 ka) :: stE (.pointer (some ⟨xb, 1, none⟩)) :: stE (.int .i64 xl) :: stE (.pointer (some ⟨yb, 1, none⟩)) :: stE (.int .i64 yl) :: stE (.int .i64 kb) :: stE (.pointer (some ⟨xb, 2, none⟩)) :: stE (.int .i64 xh) :: stE (.pointer (some ⟨yb, 2, none⟩)) :: stE (.int .i64 yh) :: stE (.int .i64 kc) :: stI3 wb.heap.size ka kb kc :: stE (.int .i64 r) :: stE (.int .i64 r) :: ([] : List _))) (fun _ w' => Below wb.heap.size wb w' ∧ wb.drawn ≤ w'.drawn) (fun w w' => Below w.heap.size w w') (vOfT_st _) (by kernel_rfl) (by kernel_rfl) (by kernel_rfl) HG0.out ⟨trivial, trivial, trivial, trivial, trivial, trivial, trivial, trivial, trivial, trivial, trivial, trivial, trivial, trivial, trivial, trivial, trivial, trivial, trivial⟩ ?_ ?_
  · refine ⟨?_, ?_, ?_, ?_, ?_, ?_, ?_, ?_, ?_, ?_, ?_, ?_, ?_, ?_, ?_, ?_, ?_, ?_, trivial⟩
    · intro k a w' hG hout hpre K hK
      have q2 := ev_of ((hout 2 rfl).trans (show _ = .pointer (some ⟨xb, 0, none⟩) from rfl))
      clear hout hpre
      go_step
      exact hK _ _ rfl hG (Below.refl _ _)
    · intro k a w' hG hout hpre K hK
      obtain ⟨p0, _⟩ := hpre
      have q5 := ev_of (show a.eval (.tmp 5) = .pointer (some ⟨xb, 0, none⟩) from p0)
      obtain ⟨d0, d1, d2⟩ := (HD.out w' hG.1).1
      clear hout p0
      go_step
      exact hK _ _ rfl hG (Below.refl _ _)
    · intro k a w' hG hout hpre K hK
      have q3 := ev_of ((hout 3 rfl).trans (show _ = .pointer (some ⟨yb, 0, none⟩) from rfl))
      clear hout hpre
      go_step
      exact hK _ _ rfl hG (Below.refl _ _)
    · intro k a w' hG hout hpre K hK
      obtain ⟨p0, _⟩ := hpre
      have q7 := ev_of (show a.eval (.tmp 7) = .pointer (some ⟨yb, 0, none⟩) from p0)
      obtain ⟨d0, d1, d2⟩ := (HD.out w' hG.1).2
      clear hout p0
      go_step
      exact hK _ _ rfl hG (Below.refl _ _)
    · intro k a w' hG hout hpre K hK
      obtain ⟨p0, p1, _⟩ := hpre
      have q6 := ev_of (show a.eval (.tmp 6) = Sv xk from p0)
      have q8 := ev_of (show a.eval (.tmp 8) = Sv yk from p1)
      have HS := Lib.hid (HCL.out.1 w')
      clear hout p0 p1
      go_step
      refine HS.out.mono ?_
      rintro e w3 ⟨rfl, hw3⟩
      subst w3
      exact hK _ _ rfl hG (Below.refl _ _)
    · intro k a w' hG hout hpre K hK
      have q2 := ev_of ((hout 2 rfl).trans (show _ = .pointer (some ⟨xb, 0, none⟩) from rfl))
      clear hout hpre
      go_step
      exact hK _ _ rfl hG (Below.refl _ _)
    · intro k a w' hG hout hpre K hK
      obtain ⟨p0, _⟩ := hpre
      have q10 := ev_of (show a.eval (.tmp 10) = .pointer (some ⟨xb, 1, none⟩) from p0)
      obtain ⟨d0, d1, d2⟩ := (HD.out w' hG.1).1
      clear hout p0
      go_step
      exact hK _ _ rfl hG (Below.refl _ _)
    · intro k a w' hG hout hpre K hK
      have q3 := ev_of ((hout 3 rfl).trans (show _ = .pointer (some ⟨yb, 0, none⟩) from rfl))
      clear hout hpre
      go_step
      exact hK _ _ rfl hG (Below.refl _ _)
    · intro k a w' hG hout hpre K hK
      obtain ⟨p0, _⟩ := hpre
      have q12 := ev_of (show a.eval (.tmp 12) = .pointer (some ⟨yb, 1, none⟩) from p0)
      obtain ⟨d0, d1, d2⟩ := (HD.out w' hG.1).2
      clear hout p0
      go_step
      exact hK _ _ rfl hG (Below.refl _ _)
    · intro k a w' hG hout hpre K hK
      obtain ⟨p0, p1, _⟩ := hpre
      have q11 := ev_of (show a.eval (.tmp 11) = .int .i64 xl from p0)
      have q13 := ev_of (show a.eval (.tmp 13) = .int .i64 yl from p1)
      have HS := Lib.hid (HCL.out.2.1 w')
      clear hout p0 p1
      go_step
      refine HS.out.mono ?_
      rintro e w3 ⟨rfl, hw3⟩
      subst w3
      exact hK _ _ rfl hG (Below.refl _ _)
    · intro k a w' hG hout hpre K hK
      have q2 := ev_of ((hout 2 rfl).trans (show _ = .pointer (some ⟨xb, 0, none⟩) from rfl))
      clear hout hpre
      go_step
      exact hK _ _ rfl hG (Below.refl _ _)
    · intro k a w' hG hout hpre K hK
      obtain ⟨p0, _⟩ := hpre
      have q15 := ev_of (show a.eval (.tmp 15) = .pointer (some ⟨xb, 2, none⟩) from p0)
      obtain ⟨d0, d1, d2⟩ := (HD.out w' hG.1).1
      clear hout p0
      go_step
      exact hK _ _ rfl hG (Below.refl _ _)
    · intro k a w' hG hout hpre K hK
      have q3 := ev_of ((hout 3 rfl).trans (show _ = .pointer (some ⟨yb, 0, none⟩) from rfl))
      clear hout hpre
      go_step
      exact hK _ _ rfl hG (Below.refl _ _)
    · intro k a w' hG hout hpre K hK
      obtain ⟨p0, _⟩ := hpre
      have q17 := ev_of (show a.eval (.tmp 17) = .pointer (some ⟨yb, 2, none⟩) from p0)
      obtain ⟨d0, d1, d2⟩ := (HD.out w' hG.1).2
      clear hout p0
      go_step
      exact hK _ _ rfl hG (Below.refl _ _)
    · intro k a w' hG hout hpre K hK
      obtain ⟨p0, p1, _⟩ := hpre
      have q16 := ev_of (show a.eval (.tmp 16) = .int .i64 xh from p0)
      have q18 := ev_of (show a.eval (.tmp 18) = .int .i64 yh from p1)
      have HS := Lib.hid (HCL.out.2.2 w')
      clear hout p0 p1
      go_step
      refine HS.out.mono ?_
      rintro e w3 ⟨rfl, hw3⟩
      subst w3
      exact hK _ _ rfl hG (Below.refl _ _)
    · intro k a w' hG hout hpre K hK
      obtain ⟨p0, p1, p2, _⟩ := hpre
      have q9 := ev_of (show a.eval (.tmp 9) = .int .i64 ka from p0)
      have q14 := ev_of (show a.eval (.tmp 14) = .int .i64 kb from p1)
      have q19 := ev_of (show a.eval (.tmp 19) = .int .i64 kc from p2)
      clear hout p0 p1 p2
      go_step
      exact hK _ _ ⟨w'.heap.size, rfl, hG.1.size, heap_alloc_new w' _⟩ ⟨hG.1.alloc hG.1.size _, hG.2⟩ ((Below.refl _ w').alloc (Nat.le_refl _) _)
    · intro k a w' hG hout hpre K hK
      obtain ⟨p0, _⟩ := hpre
      obtain ⟨gg, hg0, _, hgr⟩ := p0
      have q0 := ev_of (show a.eval (.tmp 20) = .slice (some ⟨gg, 0, none⟩) 3 3 from hg0)
      have hor := or3_any w' gg ka kb kc hgr
      rw [← HR.out] at hor
      have HS := Lib.hid hor
      clear hout hor hgr hg0
      go_step
      refine HS.out.mono ?_
      rintro e w3 ⟨rfl, hw3⟩
      subst w3
      exact hK _ _ rfl hG (Below.refl _ _)
    · intro k a w' hG hout hpre K hK
      obtain ⟨p0, _⟩ := hpre
      have q21 := ev_of (show a.eval (.tmp 21) = .int .i64 r from p0)
      clear hout p0
      go_step
      exact hK _ _ rfl hG (Below.refl _ _)
  · intro vs w2 hG hlen hV
    match vs, hlen, hV with
    | [v0, v1, v2, v3, v4, v5, v6, v7, v8, v9, v10, v11, v12, v13, v14, v15, v16, v17], _, hV =>
      obtain rfl : v17 = .int .i64 r := hV 17 4 v17 rfl rfl
      clear hV
      simp only [putsL, List.tail_cons, List.headD_cons]
      simp only [Act.put, List.setIfInBounds_toArray, List.set_cons_succ, List.set_cons_zero]
      have HZ : Hid (Below w.heap.size w w2 ∧ w.drawn ≤ w2.drawn) := Lib.hid ⟨HWb.out.trans (hG.1.mono HWb.out.size), by rw [HDw.out]; exact hG.2⟩
      clear hG
      go_wp2_with (fail)
      go_ret
      exact ⟨rfl, HZ.out⟩
end Go.Proofs.Ytbfioekbahcicaa
namespace Go.Proofs.Ytbfioekbahcicaa
open Go Go.RowKit

instance : Inhabited WindowL := ⟨zeroW⟩
def enc3 (x : WindowL) : List Value := [Sv x.key, .int .i64 x.lo, .int .i64 x.hi]
theorem enc3_cells (x : WindowL) : (enc3 x).toArray = x.cells := rfl
theorem ltOf_place (x y : WindowL) : ltOf placeW x y = decide (aheadP x y) := by
  unfold ltOf
  exact decide_eq_decide.2 (placeW_neg x y)
theorem swo_place : Sort.SWO (ltOf placeW) where
  irrefl x := by rw [ltOf_place]; exact decide_eq_false fun h => h.irrefl
  trans x y z h1 h2 := by
    rw [ltOf_place] at *
    exact decide_eq_true ((of_decide_eq_true h1).trans (of_decide_eq_true h2))
  ntrans x y z h1 h2 := by
    rw [ltOf_place] at *
    refine decide_eq_false fun h => ?_
    have n1 := of_decide_eq_false h1
    have n2 := of_decide_eq_false h2
    by_cases e : x = y
    · subst e
      exact n2 h
    · have h3 := (aheadP_total e).resolve_left n1
      exact n2 (h3.trans h)
/-- What a call leaves, as the sort's contract asks for it. -/
theorem grow_of {w w' : World} (h : Below w.heap.size w w') (hd : w.drawn ≤ w'.drawn) : ∃ q os, w' = Sort.grow (w.drewN q) os := by
  refine ⟨w'.drawn - w.drawn, w'.heap.extract w.heap.size w'.heap.size, ?_⟩
  obtain ⟨h1, h2, h3, h4, h5⟩ := h
  obtain ⟨hp, tp, dr, os, ou⟩ := w
  obtain ⟨hp', tp', dr', os', ou'⟩ := w'
  simp only at h1 h2 h3 h4 h5 hd
  subst h1 h2 h3
  have e1 : hp' = hp ++ hp'.extract hp.size hp'.size := by
    apply Array.ext_getElem?
    intro k
    rw [Array.getElem?_append]
    split
    · rename_i hk
      exact h5 k hk
    · rename_i hk
      rw [Array.getElem?_extract]
      split
      · congr 1
        omega
      · rw [Array.getElem?_eq_none (by omega)]
  unfold Sort.grow World.drewN
  simp only [World.mk.injEq, true_and, and_true]
  exact ⟨e1, by omega⟩
theorem flat_cells (l : List WindowL) : (Sort.flatK enc3 3 l.toArray).toList = cellsLW l := by
  apply List.ext_getElem?
  intro t
  by_cases ht : t < l.length * 3
  · have hi : t / 3 < l.length := by omega
    have hx : l[t / 3]? = some l[t / 3] := List.getElem?_eq_getElem hi
    have hs : (Sort.flatK enc3 3 l.toArray).size = l.length * 3 := by rw [Sort.size_flatK]; rfl
    have hj : t % 3 < 3 := by omega
    have h1 := cellsLW_at l (t / 3) _ (t % 3) ((enc3 l[t / 3])[t % 3]!) hx (by
      have hsz : (enc3 l[t / 3]).length = 3 := rfl
      rw [← enc3_cells, List.getElem?_toArray, getElem!_pos _ _ (by rw [hsz]; exact hj)]
      exact List.getElem?_eq_getElem _)
    rw [show t / 3 * 3 + t % 3 = t by omega] at h1
    rw [h1, Array.getElem?_toList]
    have h2 := Sort.get_flatK enc3 3 l.toArray t (by simpa using ht)
    rw [getElem!_pos _ _ (by rw [hs]; exact ht)] at h2
    rw [Array.getElem?_eq_getElem (by rw [hs]; exact ht), h2]
    congr 3
    rw [getElem!_pos _ _ (by simpa using hi)]
    rfl
  · rw [List.getElem?_eq_none, List.getElem?_eq_none]
    · rw [cellsLW_length]
      omega
    · rw [Array.length_toList, Sort.size_flatK]
      simp
      omega
theorem putCells_take (F cur : Array Value) (h : F.size ≤ cur.size) : (Sort.putCells id 0 F cur).toList.take F.size = F.toList := by
  apply List.ext_getElem?
  intro k
  rw [List.getElem?_take]
  split
  · rename_i hk
    rw [Array.getElem?_toList, Array.getElem?_toList]
    unfold Sort.putCells
    rw [Array.getElem?_mapIdx, Array.getElem?_eq_getElem (by omega), Option.map_some, if_pos (by omega), Nat.sub_zero, getElem!_pos F k hk, Array.getElem?_eq_getElem hk]
    rfl
  · rename_i hk
    rw [List.getElem?_eq_none (by rw [Array.length_toList]; omega)]
theorem putCells_size (F cur : Array Value) : (Sort.putCells id 0 F cur).size = cur.size := by simp [Sort.putCells]
def SortEnd (w : World) (base : Nat) (v : Value) (l : List WindowL) (e : Ending) (w' : World) : Prop :=
  e = .returned (.tuple #[]) ∧ ∃ l', l'.Perm l ∧ l'.Pairwise (fun a b => ¬ aheadP b a) ∧ OwnW w' base v l' ∧ w.grownBy w' v.ownBlock
theorem sortW_any (w : World) (base : Nat) (v : Value) (l : List WindowL) (hO : OwnW w base v l) (hn : l.length ≤ 1000000) :
    Calls Try.prog 39 #[v, .func (.func 24) #[] #[]] w (SortEnd w base v l) := by
  have hO' := hO
  by_cases h0 : l.length = 0
  · obtain rfl : l = [] := List.eq_nil_of_length_eq_zero h0
    obtain ⟨a, c, rfl, _, _⟩ := hO.form
    refine (AnyF.slices_SortFunc_none Try.sortW a c (.func (.func 24) #[] #[]) w).mono ?_
    rintro e w' ⟨rfl, hw⟩
    subst w'
    exact ⟨rfl, [], List.Perm.nil, List.Pairwise.nil, hO', ⟨rfl, rfl, rfl, Nat.le_refl _, fun _ _ _ => rfl⟩⟩
  · obtain ⟨g, c, rfl, hb, hg⟩ := World.ownsRow.form hO (by omega)
    obtain ⟨cur, hcur, hcs, htk, hnc, hcm⟩ : ∃ cur : Array Value, w.heap[g]? = some (.cells cur 24 (0, 0)) ∧ cur.size = c * 3 ∧ cur.toList.take (l.length * 3) = cellsLW l ∧ l.length ≤ c ∧ c ≤ maxLen := by
      rcases hO.2 with ⟨h', _⟩ | ⟨g', cap', cur, h', _, hg, hnc, hcm, hcs, htake⟩
      · simp at h'
      · simp only [Value.slice.injEq, Option.some.injEq, Addr.mk.injEq, and_true] at h'
        obtain ⟨rfl, _, rfl⟩ := h'
        exact ⟨cur, hg, hcs, htake, hnc, hcm⟩
    have hF : (Sort.flatK enc3 3 l.toArray).size = l.length * 3 := by rw [Sort.size_flatK]; rfl
    have hH : Sort.HoldsK enc3 3 w g 0 l.toArray := by
      intro j hj
      rw [hF] at hj
      refine ⟨?_, frozen_of_row w g (0 + j) cur _ hcur⟩
      have h1 := World.ownsRow.cellAt hO j hj
      rw [Nat.zero_add, h1, ← flat_cells, Array.getElem?_toList, Array.getElem?_eq_getElem (by rw [hF]; exact hj), getElem!_pos (Sort.flatK enc3 3 l.toArray) j (by rw [hF]; exact hj)]
      rfl
    have hcmp : CmpLays Try.prog 24 #[] enc3 3 placeW g 0 l.toArray.size w := by
      intro m os dk _ x y
      refine (wplaceD_any _ x y).mono ?_
      rintro e w' ⟨rfl, hB, hD⟩
      obtain ⟨q, os', hq⟩ := grow_of hB hD
      exact ⟨rfl, q, os', hq⟩
    have eg : ∀ args w, (callFunc 24 args).run Try.prog w = .ok (.enter 24 args) w := enters_of Try.func24 (by kernel_rfl) rfl
    have hcon := AnyQ.slices_SortFunc Try.sortW 3 Try.isAgg24 Try.sizeOf24 enc3 (fun _ => rfl) (fun x v hv => by simp [enc3] at hv; rcases hv with rfl | rfl | rfl <;> rfl) placeW swo_place 24 #[] g 0 c l.toArray w eg hcmp hH hg (by simp; omega)
    refine hcon.mono ?_
    rintro e w' ⟨rfl, d', n, os, hp, hs, rfl⟩
    obtain ⟨p1, _, p3⟩ := hp
    have hds : d'.size = l.length := by rw [p1]; rfl
    have hperm : d'.toList.Perm l := by
      have e1 : d'.extract 0 l.toArray.size = d' := by rw [← p1]; simp
      have e2 : l.toArray.extract 0 l.toArray.size = l.toArray := by simp
      rw [e1, e2] at p3
      exact p3
    have hF' : (Sort.flatK enc3 3 d').size = l.length * 3 := by rw [Sort.size_flatK, hds]
    have hrow : (sortWorldK enc3 3 w g 0 n d' os).heap[g]? = some (.cells (Sort.putCells id 0 (Sort.flatK enc3 3 d') cur) 24 (0, 0)) := by
      unfold sortWorldK Sort.grow Sort.putRowK Sort.putRow Sort.mapBlock Sort.ahead
      simp only
      rw [Array.getElem?_append, if_pos (by simpa using hg), Array.getElem?_modify, if_pos rfl, hcur]
      rfl
    refine ⟨rfl, d'.toList, hperm, ?_, ⟨?_, .inr ⟨g, c, _, ?_, hb, hrow, ?_, hcm, ?_, ?_⟩⟩, ⟨rfl, rfl, rfl, ?_, fun k hk hne => ?_⟩⟩
    · rw [List.pairwise_iff_getElem]
      intro i j hi hj hij
      rw [Array.length_toList] at hi hj
      have h := hs i j (Nat.zero_le _) hij (by rw [hds] at hj; simpa using hj)
      rw [ltOf_place, decide_eq_false_iff_not, getElem!_pos d' i hi, getElem!_pos d' j hj] at h
      simpa using h
    · rw [cellsLW_length]
    · show Value.slice _ l.length c = Value.slice _ d'.toList.length c
      rw [show d'.toList.length = l.length from hperm.length_eq]
    · rw [Array.length_toList, hds]
      exact hnc
    · rw [putCells_size, hcs]
    · rw [Array.length_toList, hds]
      have h1 := putCells_take (Sort.flatK enc3 3 d') cur (by rw [hF', hcs]; omega)
      rw [hF'] at h1
      rw [h1]
      have := flat_cells d'.toList
      simpa using this
    · unfold sortWorldK Sort.grow Sort.putRowK Sort.putRow Sort.mapBlock Sort.ahead
      simp
    · have hgk : g ≠ k := fun e => hne (by rw [← e]; rfl)
      unfold sortWorldK Sort.grow Sort.putRowK Sort.putRow Sort.mapBlock Sort.ahead
      simp only
      rw [Array.getElem?_append, if_pos (by simpa using hk), Array.getElem?_modify, if_neg hgk]
end Go.Proofs.Ytbfioekbahcicaa
namespace Go.Proofs.Ytbfioekbahcicaa
open Go Go.RowKit

def PlacedEnd (w : World) (l : List WindowL) (e : Ending) (w' : World) : Prop :=
  ∃ v l', e = .returned v ∧ OwnW w' w.heap.size v l' ∧ l'.Perm (rightsW l) ∧ l'.Pairwise (fun a b => ¬ aheadP b a) ∧ Below w.heap.size w w'
set_option maxRecDepth 100000 in
set_option maxHeartbeats 4000000 in
theorem sinPlace_any (w : World) (sa : Option Addr) (sc : Nat) (l : List WindowL) (hA : WinsAt w sa l) (hk : ∀ y ∈ l, y.key.length ≤ 1000000) (hn : l.length ≤ 300) :
    Calls Try.prog 29 #[.slice sa l.length sc] w (PlacedEnd w l) := by
  obtain ⟨n, hN⟩ : ∃ n, n = l.length := ⟨_, rfl⟩
  obtain ⟨P, hP⟩ : ∃ P, P = PlacedEnd w l := ⟨_, rfl⟩
  rw [← hP, ← hN]
  have HN : Hid (n = l.length ∧ n ≤ 300) := Lib.hid ⟨hN, by omega⟩
  have hn6 : n ≤ 300 := by omega
  have HA := Lib.hid hA
  have HP := Lib.hid hP
  have HK : Hid (∀ (i : Nat) (y : WindowL), l[i]? = some y → y.key.length ≤ 1000000) := Lib.hid (fun i y h => hk y (List.mem_of_getElem? h))
  clear hN hA hn hP hk
  go_enter Try.func29, Try.ntmps29
  go_upto_block 0 with (fail)
  go_cut [3, 5] from 8 to 18 (fun s3 _ wx => AO w s3 (rightsW l) wx)
  case first =>
    go_wp2_with (fail)
    go_loopw [3, 8] (FRel w l) (fun _ i _ => n - (intOf i).toNat)
    case atStart => exact ⟨0, Nat.zero_le _, rfl, OwnW.nil _ _, Below.refl _ _⟩
    case round =>
      obtain ⟨j, hj, rfl, hO, hB⟩ := hrel
      rw [← HN.out.1] at hj
      have HO := Lib.hid (And.intro hO hB)
      obtain ⟨v, hv⟩ : ∃ v, v = u3 := ⟨_, rfl⟩
      subst hv
      clear hO hB
      by_cases hlt : j < n
      · have hi0 : (0 : Int) ≤ (j : Int) ∧ (j : Int) < (n : Int) := by omega
        obtain ⟨x, pa, po, hx, hsa, c0, c1, c2⟩ := (HA.out.below HO.out.2).get (t := j) (by rw [← HN.out.1]; exact hlt)
        subst hsa
        have HXl := Lib.hid (And.intro hx hlt)
        obtain ⟨xk, xl, xh⟩ := x
        simp only at c0 c1 c2
        clear hx hj hlt
        go_upto_region 4 with (fail)
        refine wp_region_lit ?_
        iterate 9 go_step
        refine wpList_store_row rfl _ _ _ rfl wr.heap.size (WindowL.mk xk xl xh).cells rfl rfl 24 zeroW.cells (heap_alloc_new wr _) window_size rfl (window_one _) ?_
        obtain ⟨W1, hwx⟩ : ∃ W, W = (wr.alloc (Obj.cells #[.string ⟨#[]⟩, .int .i64 0, .int .i64 0] 24)).setRow wr.heap.size (WindowL.mk xk xl xh).cells := ⟨_, rfl⟩
        obtain ⟨xb, hxb⟩ : ∃ b, b = wr.heap.size := ⟨_, rfl⟩
        have Hwx : Hid (RowW W1 xb (WindowL.mk xk xl xh) ∧ Below wr.heap.size wr W1) := by
          obtain ⟨k1, k2⟩ := stored_window wr (WindowL.mk xk xl xh)
          rw [hwx, hxb]
          exact Lib.hid ⟨k1, k2⟩
        rw [← hwx, ← hxb]
        clear hwx hxb
        clear c0 c1 c2
        obtain ⟨r, hr⟩ : ∃ r, r = (WindowL.mk xk xl xh).rightB := ⟨_, rfl⟩
        have HR : Hid (∀ w', Calls Try.prog 19 #[.agg #[Sv xk, .int .i64 xl, .int .i64 xh]] w' (Below0 w' (.bool r))) := by
          rw [hr]
          exact Lib.hid (fun w' => wright_any w' ⟨xk, xl, xh⟩ (HK.out j _ HXl.out.1))
        have Hr := Lib.hid hr
        have HS := Lib.hid (rightTo_succ HXl.out.1)
        have H1 : Hid (AO w v (rightTo l j) W1) := Lib.hid (AO.below ⟨HO.out.2, HO.out.1⟩ Hwx.out.2)
        clear hr HO
        obtain ⟨d0, d1, d2⟩ := Hwx.out.1.d3
        simp only at d0 d1 d2
        go_wp2_with (fail)
        refine (HR.out W1).mono ?_
        rintro e w4 ⟨rfl, hB⟩
        have H4 : Hid (AO w v (rightTo l j) w4 ∧ RowW w4 xb ⟨xk, xl, xh⟩) := Lib.hid ⟨H1.out.below hB, Hwx.out.1.below hB⟩
        clear hB d0 d1 d2
        dsimp only
        cases r with
        | true =>
          obtain ⟨e0, e1, e2⟩ := H4.out.2.d3
          simp only at e0 e1 e2
          go_upto_region 6 with (fail)
          refine wp_region_lit ?_
          iterate 6 go_step
          refine wpList_slice1_W rfl (.tmp 15) rfl ⟨xk, xl, xh⟩ rfl ?_
          obtain ⟨w8, hw8⟩ : ∃ W, W = w4.alloc (.cells (WindowL.mk xk xl xh).cells 24) := ⟨_, rfl⟩
          obtain ⟨gb, hgb⟩ : ∃ b, b = w4.heap.size := ⟨_, rfl⟩
          have H8 : Hid (AO w v (rightTo l j) w8 ∧ (∀ j z, (WindowL.mk xk xl xh).cells[j]? = some z → w8.cell? ⟨gb, j, none⟩ = some z)) := by
            have hB : Below w4.heap.size w4 w8 := by rw [hw8]; exact (Below.refl _ w4).alloc (Nat.le_refl _) _
            refine Lib.hid ⟨H4.out.1.below hB, fun j z hz => ?_⟩
            rw [hw8, hgb, cell_of_row _ _ _ _ _ _ (heap_alloc_new w4 _)]
            exact hz
          rw [← hw8, ← hgb]
          clear hw8 hgb e0 e1 e2
          refine wpList_pushW rfl (.tmp 14) (.tmp 16) rfl w.heap.size v (rightTo l j) rfl H8.out.1.2 ⟨xk, xl, xh⟩ gb rfl H8.out.2 (by have h := rightTo_le l j; have := HXl.out.2; omega) H8.out.1.1.size ?_
          intro v' w9 g1 g2 g3
          have H9 : Hid (FRel w l v' (.int .i64 ((j : Int) + 1)) w9) := by
            refine Lib.hid ⟨j + 1, by have := HXl.out.2; have := HN.out.1; omega, by go_num, ?_, H8.out.1.1.trans (OwnW.below H8.out.1.2 g2 H8.out.1.1.size)⟩
            rw [HS.out, ← Hr.out]
            exact g1
          clear g1 g2 g3
          have HJn := Lib.hid HXl.out.2
          go_wp2_with (fail)
          go_roundw
          case rel => exact H9.out
          case measure => have := HJn.out; simp [intOf]; omega
        | false =>
          have H9 : Hid (FRel w l v (.int .i64 ((j : Int) + 1)) w4) := by
            refine Lib.hid ⟨j + 1, by have := HXl.out.2; have := HN.out.1; omega, by go_num, ?_, H4.out.1.1⟩
            rw [HS.out, ← Hr.out, if_neg (by decide), List.append_nil]
            exact H4.out.1.2
          have HJn := Lib.hid HXl.out.2
          go_wp2_with (fail)
          go_roundw
          case rel => exact H9.out
          case measure => have := HJn.out; simp [intOf]; omega
      · obtain rfl : j = n := by omega
        have HZ : Hid (AO w v (rightsW l) wr) := by
          have h := HO.out.1
          rw [HN.out.1, rightTo_all] at h
          exact Lib.hid ⟨HO.out.2, h⟩
        clear hlt hj
        go_wp2_with (fail)
        go_meet
        exact HZ.out
  case rest =>
  obtain ⟨v, hv⟩ : ∃ v, v = u3 := ⟨_, rfl⟩
  subst hv
  have HC := Lib.hid hcut
  have HS : Hid (Calls Try.prog 39 #[v, .func (.func 24) #[] #[]] wc (SortEnd wc w.heap.size v (rightsW l))) := Lib.hid (sortW_any wc w.heap.size v (rightsW l) HC.out.2 (Nat.le_trans (List.length_filter_le _ _) (by have := HN.out; omega)))
  clear hcut
  go_wp2_with (fail)
  refine HS.out.mono ?_
  rintro e w5 ⟨rfl, l', k1, k2, k3, k4⟩
  have HZ : Hid (P (.returned v) w5) := by
    rw [HP.out]
    exact Lib.hid ⟨v, l', rfl, k3, k1, k2, HC.out.1.trans (OwnW.below HC.out.2 k4 HC.out.1.size)⟩
  clear k1 k2 k3 k4
  dsimp only
  go_wp2_with (fail)
  exact HZ.out
end Go.Proofs.Ytbfioekbahcicaa
namespace Go.Proofs.Ytbfioekbahcicaa
open Go Go.RowKit

def foldTo (l : List WindowL) (j : Nat) : List WindowL := (l.take j).foldl stepA []
theorem foldTo_succ {l : List WindowL} {o : WindowL} {j : Nat} (h : l[j]? = some o) : foldTo l (j + 1) = stepA (foldTo l j) o := by
  rw [foldTo, List.take_add_one, h, List.foldl_append]
  rfl
theorem foldTo_le (l : List WindowL) : ∀ j, (foldTo l j).length ≤ j
  | 0 => Nat.le_refl _
  | j + 1 => by
    cases h : l[j]? with
    | some o =>
      rw [foldTo_succ h]
      have := stepA_length (foldTo l j) o
      have := foldTo_le l j
      omega
    | none =>
      have e : foldTo l (j + 1) = foldTo l j := by rw [foldTo, List.take_add_one, h]; simp [foldTo]
      rw [e]
      have := foldTo_le l j
      omega
theorem foldTo_all (l : List WindowL) : foldTo l l.length = l.foldl stepA [] := by rw [foldTo, List.take_length]
def LRel (w1 : World) (l : List WindowL) (v i : Value) (wr : World) : Prop := ∃ j : Nat, j ≤ l.length ∧ i = .int .i64 (j : Int) ∧ AO w1 v (foldTo l j) wr
def GX (w : World) (v : Value) (out out' : List WindowL) (xb : Nat) (x : WindowL) (q : Nat) (w' : World) : Prop := GA w v out out' q w' ∧ RowW w' xb x
theorem GX.below {w : World} {v : Value} {out out' : List WindowL} {xb : Nat} {x : WindowL} {q : Nat} {w' wz : World} (h : GX w v out out' xb x q w') (hB : Below w'.heap.size w' wz) : GX w v out out' xb x q wz := by
  refine ⟨?_, h.2.below hB⟩
  have h1 := h.1
  unfold GA at h1 ⊢
  cases e : Nat.ble q 1 <;> rw [e] at h1
  · exact AO.below h1 hB
  · exact AO.below h1 hB
set_option maxRecDepth 100000 in
set_option maxHeartbeats 4000000 in
theorem sAll_any (w : World) (sa : Option Addr) (sc : Nat) (l : List WindowL) (hA : WinsAt w sa l) (hk : ∀ y ∈ l, y.key.length ≤ 1000000) (hn : l.length ≤ 300) :
    Calls Try.prog 16 #[.slice sa l.length sc] w (WinsNew w (allL l)) := by
  obtain ⟨n, hN⟩ : ∃ n, n = l.length := ⟨_, rfl⟩
  obtain ⟨P, hP⟩ : ∃ P, P = WinsNew w (allL l) := ⟨_, rfl⟩
  rw [← hP, ← hN]
  have HI : Hid (Calls Try.prog 29 #[.slice sa n sc] w (PlacedEnd w l)) := by
    have h := sinPlace_any w sa sc l hA hk hn
    rw [← hN] at h
    exact Lib.hid h
  have HP := Lib.hid hP
  have HL0 : Hid ((rightsW l).length ≤ 300) := Lib.hid (Nat.le_trans (List.length_filter_le _ _) hn)
  clear hN hA hn hP hk
  go_enter Try.func16, Try.ntmps16
  go_wp2_with (fail)
  refine HI.out.mono ?_
  rintro e w1 ⟨v1, l1, rfl, k1, k2, k3, k4⟩
  obtain ⟨la, lc, rfl, hcap, hW⟩ := k1.form
  obtain ⟨n1, hn1⟩ : ∃ m, m = l1.length := ⟨_, rfl⟩
  have H1 : Hid (WinsAt w1 la l1 ∧ Below w.heap.size w w1 ∧ n1 = l1.length ∧ n1 ≤ 300 ∧ l1.foldl stepA [] = allL l) := Lib.hid ⟨hW, k4, hn1, by rw [hn1, k2.length_eq]; exact HL0.out, fold_allL k2 k3⟩
  rw [← hn1]
  have hn3 : n1 ≤ 300 := H1.out.2.2.2.1
  clear k1 k2 k3 k4 hcap hW hn1
  dsimp only
  go_wp2_with (fail)
  go_loopw [3, 10] (LRel w1 l1) (fun _ i _ => n1 - (intOf i).toNat)
  case atStart => exact ⟨0, Nat.zero_le _, rfl, Below.refl _ _, OwnW.nil _ _⟩
  case round =>
    obtain ⟨j, hj, rfl, hO⟩ := hrel
    rw [← H1.out.2.2.1] at hj
    obtain ⟨oa, oc, hv, hcap, _⟩ := hO.2.form
    obtain ⟨N, hNo⟩ : ∃ n, n = (foldTo l1 j).length := ⟨_, rfl⟩
    rw [← hNo] at hv
    subst hv
    have hNj : N ≤ j := by rw [hNo]; exact foldTo_le _ _
    have HO := Lib.hid (And.intro hO (And.intro hNo hcap))
    clear hO hNo hcap
    by_cases hlt : j < n1
    · have hi0 : (0 : Int) ≤ (j : Int) ∧ (j : Int) < (n1 : Int) := by omega
      obtain ⟨x, pa, po, hx, hsa, c0, c1, c2⟩ := (H1.out.1.below HO.out.1.1).get (t := j) (by rw [← H1.out.2.2.1]; exact hlt)
      subst hsa
      have HXl := Lib.hid (And.intro hx (And.intro hlt (And.intro hNj hn3)))
      obtain ⟨xk, xl, xh⟩ := x
      simp only at c0 c1 c2
      clear hx hj hlt
      go_upto_region 4 with (fail)
      refine wp_region_lit ?_
      iterate 9 go_step
      refine wpList_store_row rfl _ _ _ rfl wr.heap.size (WindowL.mk xk xl xh).cells rfl rfl 24 zeroW.cells (heap_alloc_new wr _) window_size rfl (window_one _) ?_
      obtain ⟨W1, hwx⟩ : ∃ W, W = (wr.alloc (Obj.cells #[.string ⟨#[]⟩, .int .i64 0, .int .i64 0] 24)).setRow wr.heap.size (WindowL.mk xk xl xh).cells := ⟨_, rfl⟩
      obtain ⟨xb, hxb⟩ : ∃ b, b = wr.heap.size := ⟨_, rfl⟩
      have Hwx : Hid (RowW W1 xb (WindowL.mk xk xl xh) ∧ Below wr.heap.size wr W1) := by
        obtain ⟨k1, k2⟩ := stored_window wr (WindowL.mk xk xl xh)
        rw [hwx, hxb]
        exact Lib.hid ⟨k1, k2⟩
      have Hxb : Hid (wr.heap.size = xb) := Lib.hid hxb.symm
      rw [← hwx, ← hxb]
      clear hwx hxb
      clear c0 c1 c2
      have HS := Lib.hid (foldTo_succ HXl.out.1)
      obtain ⟨out, hout⟩ : ∃ o, o = foldTo l1 j := ⟨_, rfl⟩
      rw [← hout] at HO HS
      have H2 : Hid (AO w1 (.slice oa N oc) out W1 ∧ N = out.length ∧ RowW W1 xb ⟨xk, xl, xh⟩ ∧ wr.heap.size = xb) := Lib.hid ⟨HO.out.1.below Hwx.out.2, HO.out.2.1, Hwx.out.1, Hxb.out⟩
      have HlO : Hid (∀ k, (Value.slice oa N oc).ownBlock = some k → k < xb) := Lib.hid (fun k hk => by have := HO.out.1.2.lt hk; rw [← Hxb.out]; exact this.2)
      clear HO hout Hwx
      have HG0 : Hid (Below W1.heap.size W1 W1.drew) := (Below.refl _ W1).drew
      have HRx : Hid (∀ w', Below W1.heap.size W1 w' → D3 w' xb xk xl xh) := Lib.hid (fun w' h => (H2.out.2.2.1.below h).d3)
      obtain ⟨VX, hVX⟩ : ∃ V, V = Value.agg (WindowL.mk xk xl xh).cells := ⟨_, rfl⟩
      have HVX := Lib.hid hVX
      by_cases hN0 : N = 0
      · subst hN0
        have HSt : Hid (foldTo l1 (j + 1) = out ++ [⟨xk, xl, xh⟩]) := by
          rw [HS.out, stepA, if_neg (fun h => h.1 (List.eq_nil_of_length_eq_zero H2.out.2.1.symm))]
          exact Lib.hid rfl
        clear hVX
        go_upto_region 6 with (fail)
        refine wp_region_skip_frame (fun i => ([3, 4, 5, 6, 7, 8] : List Nat).contains i) (by kernel_rfl) [none, none, none, none, none, none, none, none, none, none] [] (fun i_ _ _ v_ => v_ = (((Value.int .i64 (-1 : Int)) :: (Value.bool false) :: (Value.bool false) :: undef :: undef :: undef :: undef :: undef :: undef :: (Value.bool false) :: ([] : List Value))).getD i_ undef) (fun _ w' => Below W1.heap.size W1 w') (fun w w' => Below w.heap.size w w') (fun _ _ _ _ _ _ h => h) (by kernel_rfl) (by kernel_rfl) (by kernel_rfl) HG0.out (fun _ => ⟨rfl, rfl, rfl, fun _ _ h => .inl h, fun _ _ h => .inl h, fun _ _ h => .inl h, fun _ _ h => .inl h, fun _ _ h => .inl h, fun _ _ h => .inl h, rfl, trivial⟩) (fun i hi => by have hm := List.contains_iff_mem.1 hi; simp only [List.mem_cons, List.not_mem_nil, or_false] at hm; rcases hm with rfl | rfl | rfl | rfl | rfl | rfl <;> exact ⟨rfl, fun _ _ => rfl⟩) ?_ ?_
        · refine ⟨?_, ?_, ?_, ?_, ?_, ?_, ?_, ?_, ?_, ?_, trivial⟩
          · intro _ _ a w' hG hout hpre K hK
            have q6 := ev_of ((hout 6 rfl).trans (show _ = .int .i64 (-1 : Int) from rfl))
            clear hout hpre
            go_step
            exact hK _ _ rfl hG (Below.refl _ _)
          · intro _ _ a w' hG hout hpre K hK
            obtain ⟨p0, _⟩ := hpre
            have q17 := ev_of (show a.eval (.tmp 17) = .int .i64 (-1 : Int) from p0)
            clear hout p0
            go_step
            exact hK _ _ rfl hG (Below.refl _ _)
          · intro _ _ a w' hG hout hpre K hK
            obtain ⟨p0, _⟩ := hpre
            have q18 := ev_of (show a.eval (.tmp 18) = .bool false from p0)
            clear hout p0
            go_step
            exact hK _ _ rfl hG (Below.refl _ _)
          · exact fun h => absurd h (by decide)
          · exact fun h => absurd h (by decide)
          · exact fun h => absurd h (by decide)
          · exact fun h => absurd h (by decide)
          · exact fun h => absurd h (by decide)
          · exact fun h => absurd h (by decide)
          · intro _ _ a w' hG hout hpre K hK
            obtain ⟨p0, p1, _⟩ := hpre
            have q19 := ev_of (show a.eval (.tmp 19) = .bool false from p0)
            have q25 := ev_of (show a.eval (.tmp 25) = undef from p1)
            clear hout p0 p1
            go_step
            exact hK _ _ rfl hG (Below.refl _ _)
        · intro vs w2 hG hlen hV
          match vs, hlen, hV with
          | [v0, v1, v2, v3, v4, v5, v6, v7, v8, v9], _, hV =>
            obtain rfl : v9 = .bool false := (hV 9 26 v9 rfl rfl)
            clear hV
            simp only [putsL, List.tail_cons, List.headD_cons]
            simp only [Act.put, List.setIfInBounds_toArray, List.set_cons_succ, List.set_cons_zero]
            have H3 : Hid (AO w1 (.slice oa 0 oc) out w2 ∧ RowW w2 xb ⟨xk, xl, xh⟩) := Lib.hid ⟨H2.out.1.below hG, H2.out.2.2.1.below hG⟩
            clear hG
            obtain ⟨e0, e1, e2⟩ := H3.out.2.d3
            simp only at e0 e1 e2
            go_upto_region 8 with (fail)
            refine wp_region_lit ?_
            iterate 6 go_step
            refine wpList_slice1_W rfl (.tmp 37) rfl ⟨xk, xl, xh⟩ rfl ?_
            obtain ⟨w8, hw8⟩ : ∃ W, W = w2.alloc (.cells (WindowL.mk xk xl xh).cells 24) := ⟨_, rfl⟩
            obtain ⟨gb, hgb⟩ : ∃ b, b = w2.heap.size := ⟨_, rfl⟩
            have H8 : Hid (AO w1 (.slice oa 0 oc) out w8 ∧ (∀ j z, (WindowL.mk xk xl xh).cells[j]? = some z → w8.cell? ⟨gb, j, none⟩ = some z)) := by
              have hB : Below w2.heap.size w2 w8 := by rw [hw8]; exact (Below.refl _ w2).alloc (Nat.le_refl _) _
              refine Lib.hid ⟨H3.out.1.below hB, fun j z hz => ?_⟩
              rw [hw8, hgb, cell_of_row _ _ _ _ _ _ (heap_alloc_new w2 _)]
              exact hz
            rw [← hw8, ← hgb]
            clear hw8 hgb e0 e1 e2
            refine wpList_pushW rfl (.tmp 36) (.tmp 38) rfl w1.heap.size (.slice oa 0 oc) out rfl H8.out.1.2 ⟨xk, xl, xh⟩ gb rfl H8.out.2 (by have := H2.out.2.1; have := HXl.out.2; omega) H8.out.1.1.size ?_
            intro v' w9 g1 g2 g3
            have H9 : Hid (LRel w1 l1 v' (.int .i64 ((j : Int) + 1)) w9) := by
              refine Lib.hid ⟨j + 1, by have := HXl.out.2.1; have := H1.out.2.2.1; omega, by go_num, H8.out.1.1.trans (OwnW.below H8.out.1.2 g2 H8.out.1.1.size), ?_⟩
              rw [HSt.out]
              exact g1
            clear g1 g2 g3
            have HJn := Lib.hid HXl.out.2.1
            go_wp2_with (fail)
            go_roundw
            case rel => exact H9.out
            case measure => have := HJn.out; simp [intOf]; omega
      · obtain ⟨m, hmN⟩ : ∃ m, N = m + 1 := ⟨N - 1, by omega⟩
        obtain ⟨pb, oc', e, _⟩ := World.ownsRow.form H2.out.1.2 (by have := H2.out.2.1; omega)
        obtain rfl : oa = some ⟨pb, 0, none⟩ := by injection e
        clear e
        obtain ⟨t, ht⟩ : ∃ t, out[m]? = some t := ⟨_, List.getElem?_eq_getElem (by have := H2.out.2.1; omega)⟩
        have htl : lastW out = t := by
          unfold lastW
          rw [← H2.out.2.1, hmN, Nat.add_sub_cancel]
          exact atW_some ht
        obtain ⟨VT, hVT⟩ : ∃ V, V = Value.agg t.cells := ⟨_, rfl⟩
        obtain ⟨mb, hmb⟩ : ∃ b, b = meetB t ⟨xk, xl, xh⟩ := ⟨_, rfl⟩
        have HCm : Hid (∀ w', Calls Try.prog 20 #[VT, VX] w' (Below0 w' (.bool mb))) := by
          rw [hVT, hVX, hmb]
          exact Lib.hid (fun w' => smeet_any w' t ⟨xk, xl, xh⟩)
        have HVT := Lib.hid hVT
        have HTl := Lib.hid (And.intro ht (And.intro htl hmb))
        have HCt : Hid (∀ w', Below W1.heap.size W1 w' → AO w1 (.slice (some ⟨pb, 0, none⟩) N oc) out w') := Lib.hid (fun w' h => H2.out.1.below h)
        obtain ⟨tk, tl, th⟩ := t
        have HI0 : Hid ((0 : Int) ≤ (m : Int) ∧ (m : Int) < (N : Int)) := Lib.hid (by omega)
        have HmN := Lib.hid hmN
        have him : (N : Int) - 1 = (m : Int) := by omega
        clear hmN ht htl hVT hVX hmb hN0
        cases mb with
        | false =>
          have HSt : Hid (foldTo l1 (j + 1) = out ++ [⟨xk, xl, xh⟩]) := by
            rw [HS.out, stepA, if_neg (fun h => by rw [HTl.out.2.1, ← HTl.out.2.2] at h; cases h.2)]
            exact Lib.hid rfl
          go_upto_region 6 with (fail)
          refine wp_region_skip_frame (fun i => ([] : List Nat).contains i) (by kernel_rfl) [none, none, none, none, none, none, none, none, none, none] [] (fun i_ _ _ v_ => v_ = (((Value.int .i64 (m : Int)) :: (Value.bool true) :: (Value.bool true) :: (Value.slice (some ⟨pb, 0, none⟩) N oc) :: (Value.int .i64 (m : Int)) :: (Value.pointer (some ⟨pb, m * 3, none⟩)) :: VT :: VX :: (Value.bool false) :: (Value.bool false) :: ([] : List Value))).getD i_ undef) (fun _ w' => Below W1.heap.size W1 w') (fun w w' => Below w.heap.size w w') (fun _ _ _ _ _ _ h => h) (by kernel_rfl) (by kernel_rfl) (by kernel_rfl) HG0.out (fun _ => ⟨rfl, rfl, rfl, fun _ _ h => .inl h, fun _ _ h => .inl h, fun _ _ h => .inl h, fun _ _ h => .inl h, fun _ _ h => .inl h, fun _ _ h => .inl h, rfl, trivial⟩) (fun _ h => by simp at h) ?_ ?_
          · refine ⟨?_, ?_, ?_, ?_, ?_, ?_, ?_, ?_, ?_, ?_, trivial⟩
            · intro _ _ a w' hG hout hpre K hK
              have q6 := ev_of ((hout 6 rfl).trans (show _ = .int .i64 (m : Int) from rfl))
              clear hout hpre
              go_step
              exact hK _ _ rfl hG (Below.refl _ _)
            · intro _ _ a w' hG hout hpre K hK
              obtain ⟨p0, _⟩ := hpre
              have q17 := ev_of (show a.eval (.tmp 17) = .int .i64 (m : Int) from p0)
              have hi0 := HI0.out
              clear hout p0
              go_step
              exact hK _ _ rfl hG (Below.refl _ _)
            · intro _ _ a w' hG hout hpre K hK
              obtain ⟨p0, _⟩ := hpre
              have q18 := ev_of (show a.eval (.tmp 18) = .bool true from p0)
              clear hout p0
              go_step
              exact hK _ _ rfl hG (Below.refl _ _)
            · intro _ _ a w' hG hout hpre K hK
              have q3 := ev_of ((hout 3 rfl).trans (show _ = .slice (some ⟨pb, 0, none⟩) N oc from rfl))
              clear hout hpre
              go_step
              exact hK _ _ rfl hG (Below.refl _ _)
            · intro _ _ a w' hG hout hpre K hK
              have q6 := ev_of ((hout 6 rfl).trans (show _ = .int .i64 (m : Int) from rfl))
              clear hout hpre
              go_step
              exact hK _ _ rfl hG (Below.refl _ _)
            · intro _ _ a w' hG hout hpre K hK
              obtain ⟨p0, p1, _⟩ := hpre
              have q20 := ev_of (show a.eval (.tmp 20) = .slice (some ⟨pb, 0, none⟩) N oc from p0)
              have q21 := ev_of (show a.eval (.tmp 21) = .int .i64 (m : Int) from p1)
              have hi0 := HI0.out
              clear hout p0 p1
              go_step
              exact hK _ _ rfl hG (Below.refl _ _)
            · intro _ _ a w' hG hout hpre K hK
              obtain ⟨p0, _⟩ := hpre
              have q22 := ev_of (show a.eval (.tmp 22) = .pointer (some ⟨pb, m * 3, none⟩) from p0)
              obtain ⟨d0, d1, d2⟩ := (HCt.out w' hG).cells HTl.out.1
              clear hout p0
              go_step
              exact hK _ _ HVT.out.symm hG (Below.refl _ _)
            · intro _ _ a w' hG hout hpre K hK
              have q5 := ev_of ((hout 5 rfl).trans (show _ = .pointer (some ⟨xb, 0, none⟩) from rfl))
              obtain ⟨d0, d1, d2⟩ := HRx.out w' hG
              clear hout hpre
              go_step
              exact hK _ _ HVX.out.symm hG (Below.refl _ _)
            · intro _ _ a w' hG hout hpre K hK
              obtain ⟨p0, p1, _⟩ := hpre
              have q23 := ev_of (show a.eval (.tmp 23) = VT from p0)
              have q24 := ev_of (show a.eval (.tmp 24) = VX from p1)
              have HS := Lib.hid (HCm.out w')
              clear hout p0 p1
              go_step
              refine HS.out.mono ?_
              rintro e w3 ⟨rfl, hB⟩
              exact hK _ _ rfl (hG.trans (hB.mono hG.size)) hB
            · intro _ _ a w' hG hout hpre K hK
              obtain ⟨p0, p1, _⟩ := hpre
              have q19 := ev_of (show a.eval (.tmp 19) = .bool true from p0)
              have q25 := ev_of (show a.eval (.tmp 25) = .bool false from p1)
              clear hout p0 p1
              go_step
              exact hK _ _ rfl hG (Below.refl _ _)
          · intro vs w2 hG hlen hV
            match vs, hlen, hV with
            | [v0, v1, v2, v3, v4, v5, v6, v7, v8, v9], _, hV =>
              obtain rfl : v9 = .bool false := (hV 9 26 v9 rfl rfl)
              clear hV
              simp only [putsL, List.tail_cons, List.headD_cons]
              simp only [Act.put, List.setIfInBounds_toArray, List.set_cons_succ, List.set_cons_zero]
              have H3 : Hid (AO w1 (.slice (some ⟨pb, 0, none⟩) N oc) out w2 ∧ RowW w2 xb ⟨xk, xl, xh⟩) := Lib.hid ⟨H2.out.1.below hG, H2.out.2.2.1.below hG⟩
              clear hG
              obtain ⟨e0, e1, e2⟩ := H3.out.2.d3
              simp only at e0 e1 e2
              go_upto_region 8 with (fail)
              refine wp_region_lit ?_
              iterate 6 go_step
              refine wpList_slice1_W rfl (.tmp 37) rfl ⟨xk, xl, xh⟩ rfl ?_
              obtain ⟨w8, hw8⟩ : ∃ W, W = w2.alloc (.cells (WindowL.mk xk xl xh).cells 24) := ⟨_, rfl⟩
              obtain ⟨gb, hgb⟩ : ∃ b, b = w2.heap.size := ⟨_, rfl⟩
              have H8 : Hid (AO w1 (.slice (some ⟨pb, 0, none⟩) N oc) out w8 ∧ (∀ j z, (WindowL.mk xk xl xh).cells[j]? = some z → w8.cell? ⟨gb, j, none⟩ = some z)) := by
                have hB : Below w2.heap.size w2 w8 := by rw [hw8]; exact (Below.refl _ w2).alloc (Nat.le_refl _) _
                refine Lib.hid ⟨H3.out.1.below hB, fun j z hz => ?_⟩
                rw [hw8, hgb, cell_of_row _ _ _ _ _ _ (heap_alloc_new w2 _)]
                exact hz
              rw [← hw8, ← hgb]
              clear hw8 hgb e0 e1 e2
              refine wpList_pushW rfl (.tmp 36) (.tmp 38) rfl w1.heap.size (.slice (some ⟨pb, 0, none⟩) N oc) out rfl H8.out.1.2 ⟨xk, xl, xh⟩ gb rfl H8.out.2 (by have := H2.out.2.1; have := HXl.out.2; omega) H8.out.1.1.size ?_
              intro v' w9 g1 g2 g3
              have H9 : Hid (LRel w1 l1 v' (.int .i64 ((j : Int) + 1)) w9) := by
                refine Lib.hid ⟨j + 1, by have := HXl.out.2.1; have := H1.out.2.2.1; omega, by go_num, H8.out.1.1.trans (OwnW.below H8.out.1.2 g2 H8.out.1.1.size), ?_⟩
                rw [HSt.out]
                exact g1
              clear g1 g2 g3
              have HJn := Lib.hid HXl.out.2.1
              go_wp2_with (fail)
              go_roundw
              case rel => exact H9.out
              case measure => have := HJn.out; simp [intOf]; omega
        | true =>
          go_upto_region 6 with (fail)
          refine wp_region_skip_frame (fun i => ([] : List Nat).contains i) (by kernel_rfl) [none, none, none, none, none, none, none, none, none, none] [] (fun i_ _ _ v_ => v_ = (((Value.int .i64 (m : Int)) :: (Value.bool true) :: (Value.bool true) :: (Value.slice (some ⟨pb, 0, none⟩) N oc) :: (Value.int .i64 (m : Int)) :: (Value.pointer (some ⟨pb, m * 3, none⟩)) :: VT :: VX :: (Value.bool true) :: (Value.bool true) :: ([] : List Value))).getD i_ undef) (fun _ w' => Below W1.heap.size W1 w') (fun w w' => Below w.heap.size w w') (fun _ _ _ _ _ _ h => h) (by kernel_rfl) (by kernel_rfl) (by kernel_rfl) HG0.out (fun _ => ⟨rfl, rfl, rfl, fun _ _ h => .inl h, fun _ _ h => .inl h, fun _ _ h => .inl h, fun _ _ h => .inl h, fun _ _ h => .inl h, fun _ _ h => .inl h, rfl, trivial⟩) (fun _ h => by simp at h) ?_ ?_
          · refine ⟨?_, ?_, ?_, ?_, ?_, ?_, ?_, ?_, ?_, ?_, trivial⟩
            · intro _ _ a w' hG hout hpre K hK
              have q6 := ev_of ((hout 6 rfl).trans (show _ = .int .i64 (m : Int) from rfl))
              clear hout hpre
              go_step
              exact hK _ _ rfl hG (Below.refl _ _)
            · intro _ _ a w' hG hout hpre K hK
              obtain ⟨p0, _⟩ := hpre
              have q17 := ev_of (show a.eval (.tmp 17) = .int .i64 (m : Int) from p0)
              have hi0 := HI0.out
              clear hout p0
              go_step
              exact hK _ _ rfl hG (Below.refl _ _)
            · intro _ _ a w' hG hout hpre K hK
              obtain ⟨p0, _⟩ := hpre
              have q18 := ev_of (show a.eval (.tmp 18) = .bool true from p0)
              clear hout p0
              go_step
              exact hK _ _ rfl hG (Below.refl _ _)
            · intro _ _ a w' hG hout hpre K hK
              have q3 := ev_of ((hout 3 rfl).trans (show _ = .slice (some ⟨pb, 0, none⟩) N oc from rfl))
              clear hout hpre
              go_step
              exact hK _ _ rfl hG (Below.refl _ _)
            · intro _ _ a w' hG hout hpre K hK
              have q6 := ev_of ((hout 6 rfl).trans (show _ = .int .i64 (m : Int) from rfl))
              clear hout hpre
              go_step
              exact hK _ _ rfl hG (Below.refl _ _)
            · intro _ _ a w' hG hout hpre K hK
              obtain ⟨p0, p1, _⟩ := hpre
              have q20 := ev_of (show a.eval (.tmp 20) = .slice (some ⟨pb, 0, none⟩) N oc from p0)
              have q21 := ev_of (show a.eval (.tmp 21) = .int .i64 (m : Int) from p1)
              have hi0 := HI0.out
              clear hout p0 p1
              go_step
              exact hK _ _ rfl hG (Below.refl _ _)
            · intro _ _ a w' hG hout hpre K hK
              obtain ⟨p0, _⟩ := hpre
              have q22 := ev_of (show a.eval (.tmp 22) = .pointer (some ⟨pb, m * 3, none⟩) from p0)
              obtain ⟨d0, d1, d2⟩ := (HCt.out w' hG).cells HTl.out.1
              clear hout p0
              go_step
              exact hK _ _ HVT.out.symm hG (Below.refl _ _)
            · intro _ _ a w' hG hout hpre K hK
              have q5 := ev_of ((hout 5 rfl).trans (show _ = .pointer (some ⟨xb, 0, none⟩) from rfl))
              obtain ⟨d0, d1, d2⟩ := HRx.out w' hG
              clear hout hpre
              go_step
              exact hK _ _ HVX.out.symm hG (Below.refl _ _)
            · intro _ _ a w' hG hout hpre K hK
              obtain ⟨p0, p1, _⟩ := hpre
              have q23 := ev_of (show a.eval (.tmp 23) = VT from p0)
              have q24 := ev_of (show a.eval (.tmp 24) = VX from p1)
              have HS := Lib.hid (HCm.out w')
              clear hout p0 p1
              go_step
              refine HS.out.mono ?_
              rintro e w3 ⟨rfl, hB⟩
              exact hK _ _ rfl (hG.trans (hB.mono hG.size)) hB
            · intro _ _ a w' hG hout hpre K hK
              obtain ⟨p0, p1, _⟩ := hpre
              have q19 := ev_of (show a.eval (.tmp 19) = .bool true from p0)
              have q25 := ev_of (show a.eval (.tmp 25) = .bool true from p1)
              clear hout p0 p1
              go_step
              exact hK _ _ rfl hG (Below.refl _ _)
          · intro vs w2 hG hlen hV
            match vs, hlen, hV with
            | [v0, v1, v2, v3, v4, v5, v6, v7, v8, v9], _, hV =>
              obtain rfl : v9 = .bool true := (hV 9 26 v9 rfl rfl)
              clear hV
              simp only [putsL, List.tail_cons, List.headD_cons]
              simp only [Act.put, List.setIfInBounds_toArray, List.set_cons_succ, List.set_cons_zero]
              have H3 : Hid (AO w1 (.slice (some ⟨pb, 0, none⟩) N oc) out w2 ∧ RowW w2 xb ⟨xk, xl, xh⟩) := Lib.hid ⟨H2.out.1.below hG, H2.out.2.2.1.below hG⟩
              clear hG HCm HCt HRx HG0
              obtain ⟨h, hh⟩ : ∃ h, h = wholeW ⟨tk, tl, th⟩ ⟨xk, xl, xh⟩ := ⟨_, rfl⟩
              obtain ⟨VH, hVH⟩ : ∃ V, V = Value.agg h.cells := ⟨_, rfl⟩
              have HCw : Hid (∀ w', Calls Try.prog 22 #[VT, VX] w' (Below0 w' VH)) := by
                rw [HVT.out, HVX.out, hVH, hh]
                exact Lib.hid (fun w' => swhole_any w' ⟨tk, tl, th⟩ ⟨xk, xl, xh⟩)
              have HVH := Lib.hid hVH
              have HSt : Hid (foldTo l1 (j + 1) = out.set m h) := by
                rw [HS.out, stepA, if_pos ⟨fun e => by rw [e] at HTl; exact absurd HTl.out.1 (by simp), by rw [HTl.out.2.1]; exact HTl.out.2.2.symm⟩, HTl.out.2.1, ← hh, ← H2.out.2.1, HmN.out, Nat.add_sub_cancel]
                exact Lib.hid rfl
              have HLt : Hid (pb < xb) := Lib.hid (HlO.out pb rfl)
              clear hVH hh
              have HGr : Hid (∀ q w', GX w1 (.slice (some ⟨pb, 0, none⟩) N oc) out (out.set m h) xb ⟨xk, xl, xh⟩ q w' → D3 w' xb xk xl xh) := Lib.hid (fun q w' h => h.2.d3)
              have HG1 : Hid (GX w1 (.slice (some ⟨pb, 0, none⟩) N oc) out (out.set m h) xb ⟨xk, xl, xh⟩ 0 w2.drew) := Lib.hid ⟨H3.out.1.below (Below.refl _ w2).drew, H3.out.2.below (Below.refl _ w2).drew⟩
              go_upto_region 7 with (fail)
              refine wp_region_skip_frame (fun i => ([] : List Nat).contains i) (by kernel_rfl) [none, none, none, none, none, some 0, none, none, none, some 1] [5, 9] (V4 ((Value.slice (some ⟨pb, 0, none⟩) N oc) :: (Value.int .i64 (m : Int)) :: (Value.slice (some ⟨pb, 0, none⟩) N oc) :: (Value.int .i64 (m : Int)) :: (Value.pointer (some ⟨pb, m * 3, none⟩)) :: VT :: VX :: VH :: (Value.pointer (some ⟨pb, m * 3, none⟩)) :: undef :: ([] : List Value)) 99 (fun _ _ _ => True) 98 (fun _ _ _ => True) 97 (fun _ _ _ => True) 96 (fun _ _ _ => True)) (GX w1 (.slice (some ⟨pb, 0, none⟩) N oc) out (out.set m h) xb ⟨xk, xl, xh⟩) (fun w w' => Below w.heap.size w w') (V4_le _ (fun _ _ _ _ _ h => h) (fun _ _ _ _ _ h => h) (fun _ _ _ _ _ h => h) (fun _ _ _ _ _ h => h)) (by kernel_rfl) (by kernel_rfl) (by kernel_rfl) HG1.out (fun _ => ⟨rfl, rfl, rfl, rfl, rfl, rfl, rfl, rfl, rfl, rfl, trivial⟩) (fun _ h => by simp at h) ?_ ?_
              · refine ⟨?_, ?_, ?_, ?_, ?_, ?_, ?_, ?_, ?_, ?_, trivial⟩
                · intro _ _ a w' hG hout hpre K hK
                  have q3 := ev_of ((hout 3 rfl).trans (show _ = .slice (some ⟨pb, 0, none⟩) N oc from rfl))
                  clear hout hpre
                  go_step
                  exact hK _ _ rfl hG (Below.refl _ _)
                · intro _ _ a w' hG hout hpre K hK
                  have q6 := ev_of ((hout 6 rfl).trans (show _ = .int .i64 (m : Int) from rfl))
                  clear hout hpre
                  go_step
                  exact hK _ _ rfl hG (Below.refl _ _)
                · intro _ _ a w' hG hout hpre K hK
                  have q3 := ev_of ((hout 3 rfl).trans (show _ = .slice (some ⟨pb, 0, none⟩) N oc from rfl))
                  clear hout hpre
                  go_step
                  exact hK _ _ rfl hG (Below.refl _ _)
                · intro _ _ a w' hG hout hpre K hK
                  have q6 := ev_of ((hout 6 rfl).trans (show _ = .int .i64 (m : Int) from rfl))
                  clear hout hpre
                  go_step
                  exact hK _ _ rfl hG (Below.refl _ _)
                · intro _ _ a w' hG hout hpre K hK
                  obtain ⟨p0, p1, _⟩ := hpre
                  have q29 := ev_of (show a.eval (.tmp 29) = .slice (some ⟨pb, 0, none⟩) N oc from p0)
                  have q30 := ev_of (show a.eval (.tmp 30) = .int .i64 (m : Int) from p1)
                  have hi0 := HI0.out
                  clear hout p0 p1
                  go_step
                  exact hK _ _ rfl hG (Below.refl _ _)
                · intro _ a w' hG hout hpre K hK
                  obtain ⟨p0, _⟩ := hpre
                  have q31 := ev_of (show a.eval (.tmp 31) = .pointer (some ⟨pb, m * 3, none⟩) from p0)
                  have hG1 : AO w1 (.slice (some ⟨pb, 0, none⟩) N oc) out w' := hG.1
                  obtain ⟨d0, d1, d2⟩ := hG1.cells HTl.out.1
                  clear hout p0
                  go_step
                  exact hK _ _ HVT.out.symm hG (V4_keep (.inr fun _ h => h) (.inr fun _ h => h) (.inr fun _ h => h) (.inr fun _ h => h))
                · intro _ _ a w' hG hout hpre K hK
                  have q5 := ev_of ((hout 5 rfl).trans (show _ = .pointer (some ⟨xb, 0, none⟩) from rfl))
                  obtain ⟨d0, d1, d2⟩ := HGr.out _ w' hG
                  clear hout hpre
                  go_step
                  exact hK _ _ HVX.out.symm hG (Below.refl _ _)
                · intro _ _ a w' hG hout hpre K hK
                  obtain ⟨p0, p1, _⟩ := hpre
                  have q32 := ev_of (show a.eval (.tmp 32) = VT from p0)
                  have q33 := ev_of (show a.eval (.tmp 33) = VX from p1)
                  have HS := Lib.hid (HCw.out w')
                  clear hout p0 p1
                  go_step
                  refine HS.out.mono ?_
                  rintro e w3 ⟨rfl, hB⟩
                  exact hK _ _ rfl (GX.below hG hB) hB
                · intro _ _ a w' hG hout hpre K hK
                  obtain ⟨p0, p1, _⟩ := hpre
                  have q27 := ev_of (show a.eval (.tmp 27) = .slice (some ⟨pb, 0, none⟩) N oc from p0)
                  have q28 := ev_of (show a.eval (.tmp 28) = .int .i64 (m : Int) from p1)
                  have hi0 := HI0.out
                  clear hout p0 p1
                  go_step
                  exact hK _ _ rfl hG (Below.refl _ _)
                · intro _ a w' hG hout hpre K hK
                  obtain ⟨p0, p1, _⟩ := hpre
                  have qa := (show a.eval (.tmp 35) = .pointer (some ⟨pb, m * 3, none⟩) from p0)
                  have qb := (show a.eval (.tmp 34) = VH from p1)
                  rw [HVH.out] at qb
                  clear hout p0 p1
                  have hG1 : AO w1 (.slice (some ⟨pb, 0, none⟩) N oc) out w' := hG.1
                  have hG2 : RowW w' xb ⟨xk, xl, xh⟩ := hG.2
                  refine wp_putW (.tmp 35) (.tmp 34) rfl h hG1.2 H2.out.2.1 (by have := HmN.out; omega) qa qb ?_
                  intro w3 g1 g2
                  exact hK _ _ rfl ⟨⟨hG1.1.trans (OwnW.below hG1.2 g2 hG1.1.size), g1⟩, hG2.grown g2 (by have := HLt.out; simp; omega)⟩ (V4_keep (.inr fun _ h => h) (.inr fun _ h => h) (.inr fun _ h => h) (.inr fun _ h => h))
              · intro vs w2_ hG hlen hV
                match vs, hlen, hV with
                | [v0, v1, v2, v3, v4, v5, v6, v7, v8, v9], _, hV =>
                  clear hV
                  simp only [putsL, List.tail_cons, List.headD_cons]
                  simp only [Act.put, List.setIfInBounds_toArray, List.set_cons_succ, List.set_cons_zero]
                  have hG1 : AO w1 (.slice (some ⟨pb, 0, none⟩) N oc) (out.set m h) w2_ := hG.1
                  have HZ : Hid (LRel w1 l1 (.slice (some ⟨pb, 0, none⟩) N oc) (.int .i64 ((j : Int) + 1)) w2_) := by
                    refine Lib.hid ⟨j + 1, by have := HXl.out.2.1; have := H1.out.2.2.1; omega, by go_num, ?_⟩
                    rw [HSt.out]
                    exact hG1
                  have HJn := Lib.hid HXl.out.2.1
                  clear hG hG1
                  go_wp2_with (fail)
                  go_roundw
                  case rel => exact HZ.out
                  case measure => have := HJn.out; simp [intOf]; omega
    · obtain rfl : j = n1 := by omega
      have HZ : Hid (P (.returned (.slice oa N oc)) wr) := by
        have h := HO.out.1
        rw [H1.out.2.2.1, foldTo_all, H1.out.2.2.2.2] at h
        rw [HP.out]
        exact Lib.hid ⟨_, rfl, h.2.mono H1.out.2.1.size, H1.out.2.1.trans (h.1.mono H1.out.2.1.size)⟩
      clear hlt hj hNj
      go_wp2_with (fail)
      exact HZ.out
end Go.Proofs.Ytbfioekbahcicaa
