/-
  Part 32 of 53 of what the proof leans on.
-/
import Derived.Test.YtjeeghafachebaaGreatG30
import Derived.Test.YtjeeghafachebaaGreatG31
import Derived.Test.YtjeeghafachebaaGreatG21
import Derived.Test.YtjeeghafachebaaGreatG27
namespace Go.Proofs.YtjeeghafachebaaGreat
open Go Go.RowKit Go.Shelf
set_option maxRecDepth 100000 in
set_option maxHeartbeats 1000000 in
theorem wcompareD_any (w : World) (x y : WindowL) : Calls Tryz.prog 69 #[.agg x.cells, .agg y.cells] w (fun e w' => e = .returned (.int .i64 (cmpW x y)) ∧ Below w.heap.size w w' ∧ w.drawn ≤ w'.drawn) := by
  obtain ⟨r, hr⟩ : ∃ r, r = cmpW x y := ⟨_, rfl⟩; rw [← hr]; obtain ⟨wa, hwa⟩ : ∃ W, W = w.alloc (.cells x.cells 47) := ⟨_, rfl⟩; obtain ⟨xb, hxb⟩ : ∃ b, b = w.heap.size := ⟨_, rfl⟩; obtain ⟨wb, hwb⟩ : ∃ W, W = wa.alloc (.cells y.cells 47) := ⟨_, rfl⟩; obtain ⟨yb, hyb⟩ : ∃ b, b = w.heap.size + 1 := ⟨_, rfl⟩
  have hws : wa.heap.size = w.heap.size + 1 := by rw [hwa]; exact heap_alloc_size w _
  have HWb : Hid (Below w.heap.size w wb) := by
    have h1 := (Below.refl _ w).alloc (Nat.le_refl _) (.cells x.cells 47); rw [← hwa] at h1; rw [hwb]; exact Lib.hid (h1.alloc h1.size _)
  have HD : Hid (∀ w', Below wb.heap.size wb w' → D3 w' xb x.key x.lo x.hi ∧ D3 w' yb y.key y.lo y.hi) := by
    have h1 : RowW wa xb x := by rw [hwa, hxb]; exact heap_alloc_new w _
    have h2 : RowW wb yb y := by rw [hwb, hyb, ← hws]; exact heap_alloc_new wa _
    have h3 : Below wa.heap.size wa wb := by rw [hwb]; exact (Below.refl _ wa).alloc (Nat.le_refl _) _
    exact Lib.hid (fun w' h => ⟨((h1.below h3).below h).d3, (h2.below h).d3⟩)
  have HG0 : Hid (Below wb.heap.size wb wb.drew ∧ wb.drawn ≤ wb.drew.drawn) := Lib.hid ⟨(Below.refl _ wb).drew, Nat.le_succ _⟩
  have HDw : Hid (w.drawn = wb.drawn) := by rw [hwb, hwa]; exact Lib.hid rfl
  obtain ⟨xk, xl, xh⟩ := x; obtain ⟨yk, yl, yh⟩ := y; simp only at HD; obtain ⟨ka, hka⟩ : ∃ k, k = ordI xh yh := ⟨_, rfl⟩; obtain ⟨kb, hkb⟩ : ∃ k, k = ordI xl yl := ⟨_, rfl⟩; obtain ⟨kc, hkc⟩ : ∃ k, k = ordS xk yk := ⟨_, rfl⟩
  have HR : Hid (r = firstI ka kb kc) := by rw [hr, hka, hkb, hkc]; exact Lib.hid rfl
  have HCL : Hid ((∀ w', Calls Tryz.prog 91 #[.int .i64 xh, .int .i64 yh] w' fun e w2 => e = .returned (.int .i64 ka) ∧ w2 = w') ∧ (∀ w', Calls Tryz.prog 91 #[.int .i64 xl, .int .i64 yl] w' fun e w2 => e = .returned (.int .i64 kb) ∧ w2 = w') ∧ (∀ w', Calls Tryz.prog 90 #[Sv xk, Sv yk] w' fun e w2 => e = .returned (.int .i64 kc) ∧ w2 = w')) := by
    rw [hka, hkb, hkc]; exact Lib.hid ⟨fun w' => cmpI_any w' _ _, fun w' => cmpI_any w' _ _, fun w' => cmpS_any w' _ _⟩
  unfold WindowL.cells at hwa hwb ⊢; clear hr hka hkb hkc
  go_enter Tryz.func69, Tryz.ntmps69
  go_upto_region 1 with (fail)
  rw [← hwa, ← hwb, ← hyb, ← hxb]; clear hwa hwb hxb hyb hws
  refine wp_region_seq_frame (by kernel_rfl) [none, none, none, none, none, none, none, none, none, none, none, none, none, none, none, none, none, none] [] (vOfT (stE (.pointer (some ⟨xb, 2, none⟩)) :: stE (.int .i64 xh) :: stE (.pointer (some ⟨yb, 2, none⟩)) :: stE (.int .i64 yh) :: stE (.int .i64 ka) :: stE (.pointer (some ⟨xb, 1, none⟩)) :: stE (.int .i64 xl) :: stE (.pointer (some ⟨yb, 1, none⟩)) :: stE (.int .i64 yl) :: stE (.int .i64 kb) :: stE (.pointer (some ⟨xb, 0, none⟩)) :: stE (Sv xk) :: stE (.pointer (some ⟨yb, 0, none⟩)) :: stE (Sv yk) :: stE (.int .i64 kc) :: stI3 wb.heap.size ka kb kc :: stE (.int .i64 r) :: stE (.int .i64 r) :: ([] : List _))) (fun _ w' => Below wb.heap.size wb w' ∧ wb.drawn ≤ w'.drawn) (fun w w' => Below w.heap.size w w') (vOfT_st _) (by kernel_rfl) (by kernel_rfl) (by kernel_rfl) HG0.out ⟨trivial, trivial, trivial, trivial, trivial, trivial, trivial, trivial, trivial, trivial, trivial, trivial, trivial, trivial, trivial, trivial, trivial, trivial, trivial⟩ ?_ ?_
  · refine ⟨?_, ?_, ?_, ?_, ?_, ?_, ?_, ?_, ?_, ?_, ?_, ?_, ?_, ?_, ?_, ?_, ?_, ?_, trivial⟩
    · intro k a w' hG hout hpre K hK; have q2 := ev_of ((hout 2 rfl).trans (show _ = .pointer (some ⟨xb, 0, none⟩) from rfl)); clear hout hpre; go_step; exact hK _ _ rfl hG (Below.refl _ _)
    · intro k a w' hG hout hpre K hK; obtain ⟨p0, _⟩ := hpre; have q5 := ev_of (show a.eval (.tmp 5) = .pointer (some ⟨xb, 2, none⟩) from p0); obtain ⟨d0, d1, d2⟩ := (HD.out w' hG.1).1; clear hout p0; go_step; exact hK _ _ rfl hG (Below.refl _ _)
    · intro k a w' hG hout hpre K hK; have q3 := ev_of ((hout 3 rfl).trans (show _ = .pointer (some ⟨yb, 0, none⟩) from rfl)); clear hout hpre; go_step; exact hK _ _ rfl hG (Below.refl _ _)
    · intro k a w' hG hout hpre K hK; obtain ⟨p0, _⟩ := hpre; have q7 := ev_of (show a.eval (.tmp 7) = .pointer (some ⟨yb, 2, none⟩) from p0); obtain ⟨d0, d1, d2⟩ := (HD.out w' hG.1).2; clear hout p0; go_step; exact hK _ _ rfl hG (Below.refl _ _)
    · intro k a w' hG hout hpre K hK; obtain ⟨p0, p1, _⟩ := hpre; have q6 := ev_of (show a.eval (.tmp 6) = .int .i64 xh from p0); have q8 := ev_of (show a.eval (.tmp 8) = .int .i64 yh from p1); have HS := Lib.hid (HCL.out.1 w'); clear hout p0 p1; go_step; refine HS.out.mono ?_; rintro e w3 ⟨rfl, hw3⟩; subst w3; exact hK _ _ rfl hG (Below.refl _ _)
    · intro k a w' hG hout hpre K hK; have q2 := ev_of ((hout 2 rfl).trans (show _ = .pointer (some ⟨xb, 0, none⟩) from rfl)); clear hout hpre; go_step; exact hK _ _ rfl hG (Below.refl _ _)
    · intro k a w' hG hout hpre K hK; obtain ⟨p0, _⟩ := hpre; have q10 := ev_of (show a.eval (.tmp 10) = .pointer (some ⟨xb, 1, none⟩) from p0); obtain ⟨d0, d1, d2⟩ := (HD.out w' hG.1).1; clear hout p0; go_step; exact hK _ _ rfl hG (Below.refl _ _)
    · intro k a w' hG hout hpre K hK; have q3 := ev_of ((hout 3 rfl).trans (show _ = .pointer (some ⟨yb, 0, none⟩) from rfl)); clear hout hpre; go_step; exact hK _ _ rfl hG (Below.refl _ _)
    · intro k a w' hG hout hpre K hK; obtain ⟨p0, _⟩ := hpre; have q12 := ev_of (show a.eval (.tmp 12) = .pointer (some ⟨yb, 1, none⟩) from p0); obtain ⟨d0, d1, d2⟩ := (HD.out w' hG.1).2; clear hout p0; go_step; exact hK _ _ rfl hG (Below.refl _ _)
    · intro k a w' hG hout hpre K hK; obtain ⟨p0, p1, _⟩ := hpre; have q11 := ev_of (show a.eval (.tmp 11) = .int .i64 xl from p0); have q13 := ev_of (show a.eval (.tmp 13) = .int .i64 yl from p1); have HS := Lib.hid (HCL.out.2.1 w'); clear hout p0 p1; go_step; refine HS.out.mono ?_; rintro e w3 ⟨rfl, hw3⟩; subst w3; exact hK _ _ rfl hG (Below.refl _ _)
    · intro k a w' hG hout hpre K hK; have q2 := ev_of ((hout 2 rfl).trans (show _ = .pointer (some ⟨xb, 0, none⟩) from rfl)); clear hout hpre; go_step; exact hK _ _ rfl hG (Below.refl _ _)
    · intro k a w' hG hout hpre K hK; obtain ⟨p0, _⟩ := hpre; have q15 := ev_of (show a.eval (.tmp 15) = .pointer (some ⟨xb, 0, none⟩) from p0); obtain ⟨d0, d1, d2⟩ := (HD.out w' hG.1).1; clear hout p0; go_step; exact hK _ _ rfl hG (Below.refl _ _)
    · intro k a w' hG hout hpre K hK; have q3 := ev_of ((hout 3 rfl).trans (show _ = .pointer (some ⟨yb, 0, none⟩) from rfl)); clear hout hpre; go_step; exact hK _ _ rfl hG (Below.refl _ _)
    · intro k a w' hG hout hpre K hK; obtain ⟨p0, _⟩ := hpre; have q17 := ev_of (show a.eval (.tmp 17) = .pointer (some ⟨yb, 0, none⟩) from p0); obtain ⟨d0, d1, d2⟩ := (HD.out w' hG.1).2; clear hout p0; go_step; exact hK _ _ rfl hG (Below.refl _ _)
    · intro k a w' hG hout hpre K hK; obtain ⟨p0, p1, _⟩ := hpre; have q16 := ev_of (show a.eval (.tmp 16) = Sv xk from p0); have q18 := ev_of (show a.eval (.tmp 18) = Sv yk from p1); have HS := Lib.hid (HCL.out.2.2 w'); clear hout p0 p1; go_step; refine HS.out.mono ?_; rintro e w3 ⟨rfl, hw3⟩; subst w3; exact hK _ _ rfl hG (Below.refl _ _)
    · intro k a w' hG hout hpre K hK; obtain ⟨p0, p1, p2, _⟩ := hpre; have q9 := ev_of (show a.eval (.tmp 9) = .int .i64 ka from p0); have q14 := ev_of (show a.eval (.tmp 14) = .int .i64 kb from p1); have q19 := ev_of (show a.eval (.tmp 19) = .int .i64 kc from p2); clear hout p0 p1 p2; go_step; exact hK _ _ ⟨w'.heap.size, rfl, hG.1.size, heap_alloc_new w' _⟩ ⟨hG.1.alloc hG.1.size _, hG.2⟩ ((Below.refl _ w').alloc (Nat.le_refl _) _)
    · intro k a w' hG hout hpre K hK; obtain ⟨p0, _⟩ := hpre; obtain ⟨gg, hg0, _, hgr⟩ := p0; have q0 := ev_of (show a.eval (.tmp 20) = .slice (some ⟨gg, 0, none⟩) 3 3 from hg0); have hor := or3_any w' gg ka kb kc hgr; rw [← HR.out] at hor; have HS := Lib.hid hor; clear hout hor hgr hg0; go_step; refine HS.out.mono ?_; rintro e w3 ⟨rfl, hw3⟩; subst w3; exact hK _ _ rfl hG (Below.refl _ _)
    · intro k a w' hG hout hpre K hK; obtain ⟨p0, _⟩ := hpre; have q21 := ev_of (show a.eval (.tmp 21) = .int .i64 r from p0); clear hout p0; go_step; exact hK _ _ rfl hG (Below.refl _ _)
  · intro vs w2 hG hlen hV
    match vs, hlen, hV with
    | [v0, v1, v2, v3, v4, v5, v6, v7, v8, v9, v10, v11, v12, v13, v14, v15, v16, v17], _, hV =>
      obtain rfl : v17 = .int .i64 r := hV 17 4 v17 rfl rfl; clear hV; simp only [putsL, List.tail_cons, List.headD_cons]; simp only [Act.put, List.setIfInBounds_toArray, List.set_cons_succ, List.set_cons_zero]
      have HZ : Hid (Below w.heap.size w w2 ∧ w.drawn ≤ w2.drawn) := Lib.hid ⟨HWb.out.trans (hG.1.mono HWb.out.size), by rw [HDw.out]; exact hG.2⟩
      clear hG; go_wp2_with (fail); go_ret; exact ⟨rfl, HZ.out⟩
def befP (a b : WindowL) : Prop := a.hi < b.hi ∨ a.hi = b.hi ∧ (a.lo < b.lo ∨ a.lo = b.lo ∧ ltS a.key b.key = true)
theorem cmpW_cases (a b : WindowL) : cmpW a b = -1 ∧ befP a b ∨ cmpW a b = 0 ∧ a = b ∨ cmpW a b = 1 ∧ befP b a := by
  have hd : cmpW a b = firstI (ordI a.hi b.hi) (ordI a.lo b.lo) (ordS a.key b.key) := rfl
  rcases ordI_cases a.hi b.hi with ⟨h1, e1⟩ | ⟨h1, e1⟩ | ⟨h1, e1⟩
  · exact .inl ⟨by rw [hd, e1]; rfl, .inl h1⟩
  · rcases ordI_cases a.lo b.lo with ⟨h2, e2⟩ | ⟨h2, e2⟩ | ⟨h2, e2⟩
    · exact .inl ⟨by rw [hd, e1, e2]; rfl, .inr ⟨h1, .inl h2⟩⟩
    · rcases ordS_cases a.key b.key with ⟨h3, e3⟩ | ⟨h3, e3⟩ | ⟨h3, e3⟩
      · exact .inl ⟨by rw [hd, e1, e2, e3]; rfl, .inr ⟨h1, .inr ⟨h2, h3⟩⟩⟩
      · refine .inr (.inl ⟨by rw [hd, e1, e2, e3]; rfl, ?_⟩)
        obtain ⟨k, lo, hi⟩ := a; obtain ⟨k', lo', hi'⟩ := b; simp only at h1 h2 h3; rw [h1, h2, h3]
      · exact .inr (.inr ⟨by rw [hd, e1, e2, e3]; rfl, .inr ⟨h1.symm, .inr ⟨h2.symm, h3⟩⟩⟩)
    · exact .inr (.inr ⟨by rw [hd, e1, e2]; rfl, .inr ⟨h1.symm, .inl h2⟩⟩)
  · exact .inr (.inr ⟨by rw [hd, e1]; rfl, .inl h1⟩)
theorem befP.trans {a b c : WindowL} (h1 : befP a b) (h2 : befP b c) : befP a c := by
  unfold befP at *
  rcases h1 with h1 | ⟨h1, h1'⟩
  · rcases h2 with h2 | ⟨h2, _⟩ <;> exact .inl (by omega)
  · rcases h2 with h2 | ⟨h2, h2'⟩
    · exact .inl (by omega)
    · refine .inr ⟨by omega, ?_⟩
      rcases h1' with h3 | ⟨h3, h3'⟩
      · rcases h2' with h4 | ⟨h4, _⟩ <;> exact .inl (by omega)
      · rcases h2' with h4 | ⟨h4, h4'⟩
        · exact .inl (by omega)
        · exact .inr ⟨by omega, ltS_trans h3' h4'⟩
theorem befP.irrefl {a : WindowL} (h : befP a a) : False := by
  rcases h with h | ⟨_, h | ⟨_, h⟩⟩
  · omega
  · omega
  · rw [ltS_irrefl] at h
    cases h
theorem befP.asymm {a b : WindowL} (h1 : befP a b) (h2 : befP b a) : False := (h1.trans h2).irrefl
theorem cmpW_neg (a b : WindowL) : cmpW a b < 0 ↔ befP a b := by
  rcases cmpW_cases a b with ⟨e, h⟩ | ⟨e, rfl⟩ | ⟨e, h⟩
  · exact ⟨fun _ => h, fun _ => by omega⟩
  · exact ⟨fun h => by omega, fun h => h.irrefl.elim⟩
  · exact ⟨fun h => by omega, fun h' => (h.asymm h').elim⟩
theorem befP_total {a b : WindowL} (h : a ≠ b) : befP a b ∨ befP b a := by
  rcases cmpW_cases a b with ⟨_, h'⟩ | ⟨_, rfl⟩ | ⟨_, h'⟩
  · exact .inl h'
  · exact (h rfl).elim
  · exact .inr h'
def befO (x y : OutE) : Prop := befP x.w y.w
theorem insO_perm (l : List OutE) (p : OutE) : (insO l p).Perm (p :: l) := by
  induction l with
  | nil => exact List.Perm.refl _
  | cons x l ih =>
    unfold insO
    split
    · exact List.Perm.refl _
    · exact (ih.cons x).trans (List.Perm.swap p x l)
theorem insO_sorted {l : List OutE} {p : OutE} (hs : l.Pairwise befO) (hw : ∀ x ∈ l, x.w ≠ p.w) : (insO l p).Pairwise befO := by
  induction l with
  | nil => simp [insO]
  | cons x l ih =>
    rw [List.pairwise_cons] at hs; unfold insO
    split
    · rename_i h
      have hpx : befO p x := (cmpW_neg _ _).1 h; rw [List.pairwise_cons, List.pairwise_cons]; refine ⟨fun y hy => ?_, hs⟩
      rcases List.mem_cons.1 hy with rfl | hy
      · exact hpx
      · exact hpx.trans (hs.1 y hy)
    · rename_i h
      have hxp : befO x p := (befP_total (hw x (by simp))).resolve_right fun h' => h ((cmpW_neg _ _).2 h')
      rw [List.pairwise_cons]
      refine ⟨fun y hy => ?_, ih hs.2 (fun z hz => hw z (by simp [hz]))⟩
      rcases List.mem_cons.1 ((insO_perm l p).mem_iff.1 hy) with rfl | hy
      · exact hxp
      · exact hs.1 y hy
theorem sortO_from : ∀ (l out : List OutE), out.Pairwise befO → ((out ++ l).map OutE.w).Nodup → (l.foldl insO out).Pairwise befO ∧ (l.foldl insO out).Perm (out ++ l)
  | [], out, hs, _ => ⟨hs, by simp⟩
  | p :: l, out, hs, hn => by
    have hw : ∀ x ∈ out, x.w ≠ p.w := fun x hx e => by
      rw [List.map_append, List.nodup_append] at hn
      exact hn.2.2 x.w (List.mem_map.2 ⟨x, hx, rfl⟩) p.w (by simp) e
    have hp : (insO out p ++ l).Perm (out ++ p :: l) := by
      refine ((insO_perm out p).append_right l).trans ?_; exact (List.perm_middle (l₁ := out) (a := p) (l₂ := l)).symm
    have h := sortO_from l (insO out p) (insO_sorted hs hw) ((hp.map OutE.w).nodup_iff.2 hn); exact ⟨h.1, h.2.trans hp⟩
theorem sortO_spec {l : List OutE} (hn : (l.map OutE.w).Nodup) : (sortO l).Pairwise befO ∧ (sortO l).Perm l := by
  have h := sortO_from l [] List.Pairwise.nil (by simpa using hn)
  have h2 := h.2; rw [List.nil_append] at h2; exact ⟨h.1, h2⟩
theorem sortO_ext {l m : List OutE} (hn : (l.map OutE.w).Nodup) (hp : m.Perm l) (hs : m.Pairwise (fun a b => ¬ befO b a)) : m = sortO l := by
  obtain ⟨h1, h2⟩ := sortO_spec hn; have hnm : (m.map OutE.w).Nodup := (hp.map OutE.w).nodup_iff.2 hn; refine sorted_ext_gen (R := befO) (fun a h => befP.irrefl h) (fun a b h h' => befP.asymm h h') ?_ h1 (fun x => hp.mem_iff.trans h2.mem_iff.symm); have hd : m.Pairwise (fun a b => a.w ≠ b.w) := List.pairwise_map.1 hnm; exact (hs.and hd).imp fun ⟨h, h'⟩ => (befP_total h').resolve_right h
instance : Inhabited OutV := ⟨zeroOV⟩
def encO (x : OutV) : List Value := [.bool x.o.late, .int .i64 x.o.item.kind, Sv x.o.item.key, .int .i64 x.o.item.time, .int .i64 x.o.item.value, Sv x.o.w.key, .int .i64 x.o.w.lo, .int .i64 x.o.w.hi, .int .i64 x.o.r, x.tv]
theorem encO_cells (x : OutV) : (encO x).toArray = x.cells := rfl
def cmpO (x y : OutV) : Int := cmpW x.o.w y.o.w
theorem ltOf_cmp (x y : OutV) : ltOf cmpO x y = decide (cmpW x.o.w y.o.w < 0) := rfl
theorem swo_cmp : Sort.SWO (ltOf cmpO) where
  irrefl x := by rw [ltOf_cmp]; exact decide_eq_false fun h => ((cmpW_neg _ _).1 h).irrefl
  trans x y z h1 h2 := by
    rw [ltOf_cmp] at *; exact decide_eq_true ((cmpW_neg _ _).2 (((cmpW_neg _ _).1 (of_decide_eq_true h1)).trans ((cmpW_neg _ _).1 (of_decide_eq_true h2))))
  ntrans x y z h1 h2 := by
    rw [ltOf_cmp] at *; refine decide_eq_false fun h => ?_; have n1 := of_decide_eq_false h1; have n2 := of_decide_eq_false h2; rw [cmpW_neg] at n1 n2 h
    by_cases e : x.o.w = y.o.w
    · rw [e] at h; exact n2 h
    · have h3 := (befP_total e).resolve_left n1; exact n2 (h3.trans h)
theorem grow_of {w w' : World} (h : Below w.heap.size w w') (hd : w.drawn ≤ w'.drawn) : ∃ q os, w' = Sort.grow (w.drewN q) os := by
  refine ⟨w'.drawn - w.drawn, w'.heap.extract w.heap.size w'.heap.size, ?_⟩; obtain ⟨h1, h2, h3, h4, h5⟩ := h; obtain ⟨hp, tp, dr, os, ou⟩ := w; obtain ⟨hp', tp', dr', os', ou'⟩ := w'; simp only at h1 h2 h3 h4 h5 hd; subst h1 h2 h3
  have e1 : hp' = hp ++ hp'.extract hp.size hp'.size := by
    apply Array.ext_getElem?
    intro k; rw [Array.getElem?_append]
    split
    · rename_i hk
      exact h5 k hk
    · rename_i hk
      rw [Array.getElem?_extract]
      split
      · congr 1
        omega
      · rw [Array.getElem?_eq_none (by omega)]
  unfold Sort.grow World.drewN; simp only [World.mk.injEq, true_and, and_true]
  exact ⟨e1, by omega⟩
theorem flatO_cells (l : List OutV) : (Sort.flatK encO 10 l.toArray).toList = cellsLO l := by
  apply List.ext_getElem?
  intro t
  by_cases ht : t < l.length * 10
  · have hi : t / 10 < l.length := by omega
    have hx : l[t / 10]? = some l[t / 10] := List.getElem?_eq_getElem hi
    have hs : (Sort.flatK encO 10 l.toArray).size = l.length * 10 := by rw [Sort.size_flatK]; rfl
    have hj : t % 10 < 10 := by omega
    have h1 := cellsLO_at l (t / 10) _ (t % 10) ((encO l[t / 10])[t % 10]!) hx (by
      have hsz : (encO l[t / 10]).length = 10 := rfl
      rw [← encO_cells, List.getElem?_toArray, getElem!_pos _ _ (by rw [hsz]; exact hj)]
      exact List.getElem?_eq_getElem _)
    rw [show t / 10 * 10 + t % 10 = t by omega] at h1
    rw [h1, Array.getElem?_toList]
    have h2 := Sort.get_flatK encO 10 l.toArray t (by simpa using ht)
    rw [getElem!_pos _ _ (by rw [hs]; exact ht)] at h2
    rw [Array.getElem?_eq_getElem (by rw [hs]; exact ht), h2]
    congr 3
    rw [getElem!_pos _ _ (by simpa using hi)]
    rfl
  · rw [List.getElem?_eq_none, List.getElem?_eq_none]
    · rw [cellsLO_length]; omega
    · rw [Array.length_toList, Sort.size_flatK]; simp; omega
theorem putCells_take (F cur : Array Value) (h : F.size ≤ cur.size) : (Sort.putCells id 0 F cur).toList.take F.size = F.toList := by
  apply List.ext_getElem?
  intro k; rw [List.getElem?_take]
  split
  · rename_i hk
    rw [Array.getElem?_toList, Array.getElem?_toList]; unfold Sort.putCells
    rw [Array.getElem?_mapIdx, Array.getElem?_eq_getElem (by omega), Option.map_some, if_pos (by omega), Nat.sub_zero, getElem!_pos F k hk, Array.getElem?_eq_getElem hk]
    rfl
  · rename_i hk
    rw [List.getElem?_eq_none (by rw [Array.length_toList]; omega)]
theorem putCells_size (F cur : Array Value) : (Sort.putCells id 0 F cur).size = cur.size := by simp [Sort.putCells]
set_option maxRecDepth 100000 in
theorem omark1D_any (w : World) (x y : OutV) : Calls Tryz.prog 68 #[.agg x.cells, .agg y.cells] w (fun e w' => e = .returned (.int .i64 (cmpO x y)) ∧ Below w.heap.size w w' ∧ w.drawn ≤ w'.drawn) := by
  obtain ⟨r, hr⟩ : ∃ r, r = cmpO x y := ⟨_, rfl⟩; rw [← hr]; obtain ⟨w1, hw1⟩ : ∃ W, W = (w.alloc (.cells x.cells 50)).alloc (.cells y.cells 50) := ⟨_, rfl⟩; obtain ⟨xb, hxb⟩ : ∃ b, b = w.heap.size := ⟨_, rfl⟩; obtain ⟨yb, hyb⟩ : ∃ b, b = w.heap.size + 1 := ⟨_, rfl⟩
  have H1 : Hid (RowO w1 xb x ∧ RowO w1 yb y ∧ Below w.heap.size w w1) := by rw [hw1, hxb, hyb]; exact Lib.hid (box_oo w x y)
  have HC : Hid (Calls Tryz.prog 69 #[.agg x.o.w.cells, .agg y.o.w.cells] w1 (fun e w' => e = .returned (.int .i64 r) ∧ Below w1.heap.size w1 w' ∧ w1.drawn ≤ w'.drawn)) := by
    rw [hr]; exact Lib.hid (wcompareD_any w1 x.o.w y.o.w)
  have HB1 : Hid (Below w.heap.size w w1 ∧ w.drawn = w1.drawn) := by refine Lib.hid ⟨H1.out.2.2, ?_⟩; rw [hw1]; rfl
  have hs1 : (w.alloc (.cells x.cells 50)).heap.size = w.heap.size + 1 := heap_alloc_size w _; clear hr; obtain ⟨⟨late, ⟨ik, ikey, it, iv⟩, ⟨xk, xl, xh⟩, rd, lv⟩, tv, ht⟩ := x; obtain ⟨⟨late', ⟨ik', ikey', it', iv'⟩, ⟨xk', xl', xh'⟩, rd', lv'⟩, tv', ht'⟩ := y; obtain ⟨e0, e1, e2, e3, e4, e5, e6, e7, e8, e9⟩ := H1.out.1.d10; obtain ⟨f0, f1, f2, f3, f4, f5, f6, f7, f8, f9⟩ := H1.out.2.1.d10; unfold OutV.cells at hw1 hs1 ⊢; unfold WindowL.cells at HC; simp only at hw1 hs1 HC e5 e6 e7 f5 f6 f7; clear H1 e0 e1 e2 e3 e4 e8 e9 f0 f1 f2 f3 f4 f8 f9
  go_enter Tryz.func68, Tryz.ntmps68
  go_upto_region 1 with (fail)
  rw [← hw1, ← hyb, ← hxb]; clear hw1 hyb hxb hs1; go_wp2_with (fail); refine HC.out.mono ?_; rintro e w2 ⟨rfl, hB, hD⟩
  have HZ : Hid (Below w.heap.size w w2 ∧ w.drawn ≤ w2.drawn) := Lib.hid ⟨HB1.out.1.trans (hB.mono HB1.out.1.size), by rw [HB1.out.2]; exact hD⟩
  clear hB hD e5 e6 e7 f5 f6 f7; dsimp only; go_wp2_with (fail); go_ret; exact ⟨rfl, HZ.out⟩
def SortEndO (w : World) (base : Nat) (v : Value) (l : List OutV) (e : Ending) (w' : World) : Prop :=
  e = .returned (.tuple #[]) ∧ ∃ l', l'.Perm l ∧ l'.Pairwise (fun a b => ¬ cmpW b.o.w a.o.w < 0) ∧ OwnO w' base v l' ∧ w.grownBy w' v.ownBlock
theorem sortO_any (w : World) (base : Nat) (v : Value) (l : List OutV) (hO : OwnO w base v l) (hn : l.length ≤ 1000000) :
    Calls Tryz.prog 67 #[v, .func (.func 68) #[] #[]] w (SortEndO w base v l) := by
  have hO' := hO
  by_cases h0 : l.length = 0
  · obtain rfl : l = [] := List.eq_nil_of_length_eq_zero h0; obtain ⟨a, c, rfl, _, _⟩ := hO.form; refine (AnyF.slices_SortFunc_none Tryz.sortO a c (.func (.func 68) #[] #[]) w).mono ?_; rintro e w' ⟨rfl, hw⟩; subst w'; exact ⟨rfl, [], List.Perm.nil, List.Pairwise.nil, hO', ⟨rfl, rfl, rfl, Nat.le_refl _, fun _ _ _ => rfl⟩⟩
  · obtain ⟨g, c, rfl, hb, hg⟩ := World.ownsRow.form hO (by omega)
    obtain ⟨cur, hcur, hcs, htk, hnc, hcm⟩ : ∃ cur : Array Value, w.heap[g]? = some (.cells cur 50 (0, 0)) ∧ cur.size = c * 10 ∧ cur.toList.take (l.length * 10) = cellsLO l ∧ l.length ≤ c ∧ c ≤ maxLen := by
      rcases hO.2 with ⟨h', _⟩ | ⟨g', cap', cur, h', _, hg, hnc, hcm, hcs, htake⟩
      · simp at h'
      · simp only [Value.slice.injEq, Option.some.injEq, Addr.mk.injEq, and_true] at h'; obtain ⟨rfl, _, rfl⟩ := h'; exact ⟨cur, hg, hcs, htake, hnc, hcm⟩
    have hF : (Sort.flatK encO 10 l.toArray).size = l.length * 10 := by rw [Sort.size_flatK]; rfl
    have hH : Sort.HoldsK encO 10 w g 0 l.toArray := by
      intro j hj; rw [hF] at hj; refine ⟨?_, frozen_of_row w g (0 + j) cur _ hcur⟩; have h1 := World.ownsRow.cellAt hO j hj
      rw [Nat.zero_add, h1, ← flatO_cells, Array.getElem?_toList, Array.getElem?_eq_getElem (by rw [hF]; exact hj), getElem!_pos (Sort.flatK encO 10 l.toArray) j (by rw [hF]; exact hj)]
      rfl
    have hcmp : CmpLays Tryz.prog 68 #[] encO 10 cmpO g 0 l.toArray.size w := by
      intro m os dk _ x y; refine (omark1D_any _ x y).mono ?_; rintro e w' ⟨rfl, hB, hD⟩; obtain ⟨q, os', hq⟩ := grow_of hB hD; exact ⟨rfl, q, os', hq⟩
    have eg : ∀ args w, (callFunc 68 args).run Tryz.prog w = .ok (.enter 68 args) w := enters_of Tryz.func68 (by kernel_rfl) rfl
    have hcon := AnyQ.slices_SortFunc Tryz.sortO 10 Tryz.isAgg50 Tryz.sizeOf50 encO (fun _ => rfl) (fun x v hv => Array.all_eq_true'.1 (out_one x) v (by rw [← encO_cells]; simpa using hv)) cmpO swo_cmp 68 #[] g 0 c l.toArray w eg hcmp hH hg (by simp; omega)
    refine hcon.mono ?_; rintro e w' ⟨rfl, d', n, os, hp, hs, rfl⟩; obtain ⟨p1, _, p3⟩ := hp
    have hds : d'.size = l.length := by rw [p1]; rfl
    have hperm : d'.toList.Perm l := by
      have e1 : d'.extract 0 l.toArray.size = d' := by rw [← p1]; simp
      have e2 : l.toArray.extract 0 l.toArray.size = l.toArray := by simp
      rw [e1, e2] at p3; exact p3
    have hF' : (Sort.flatK encO 10 d').size = l.length * 10 := by rw [Sort.size_flatK, hds]
    have hrow : (sortWorldK encO 10 w g 0 n d' os).heap[g]? = some (.cells (Sort.putCells id 0 (Sort.flatK encO 10 d') cur) 50 (0, 0)) := by
      unfold sortWorldK Sort.grow Sort.putRowK Sort.putRow Sort.mapBlock Sort.ahead; simp only
      rw [Array.getElem?_append, if_pos (by simpa using hg), Array.getElem?_modify, if_pos rfl, hcur]
      rfl
    refine ⟨rfl, d'.toList, hperm, ?_, ⟨?_, .inr ⟨g, c, _, ?_, hb, hrow, ?_, hcm, ?_, ?_⟩⟩, ⟨rfl, rfl, rfl, ?_, fun k hk hne => ?_⟩⟩
    · rw [List.pairwise_iff_getElem]; intro i j hi hj hij; rw [Array.length_toList] at hi hj
      have h := hs i j (Nat.zero_le _) hij (by rw [hds] at hj; simpa using hj)
      rw [ltOf_cmp, decide_eq_false_iff_not, getElem!_pos d' i hi, getElem!_pos d' j hj] at h
      simpa using h
    · rw [cellsLO_length]
    · show Value.slice _ l.length c = Value.slice _ d'.toList.length c
      rw [show d'.toList.length = l.length from hperm.length_eq]
    · rw [Array.length_toList, hds]; exact hnc
    · rw [putCells_size, hcs]
    · rw [Array.length_toList, hds]
      have h1 := putCells_take (Sort.flatK encO 10 d') cur (by rw [hF', hcs]; omega)
      rw [hF'] at h1; rw [h1]; have := flatO_cells d'.toList
      simpa using this
    · unfold sortWorldK Sort.grow Sort.putRowK Sort.putRow Sort.mapBlock Sort.ahead; simp
    · have hgk : g ≠ k := fun e => hne (by rw [← e]; rfl)
      unfold sortWorldK Sort.grow Sort.putRowK Sort.putRow Sort.mapBlock Sort.ahead; simp only
      rw [Array.getElem?_append, if_pos (by simpa using hk), Array.getElem?_modify, if_neg hgk]
end Go.Proofs.YtjeeghafachebaaGreat
namespace Go.Proofs.YtjeeghafachebaaGreat
open Go Go.RowKit
theorem made_zero : ∀ (n : Nat) (j : Nat) (u : Value), (cellsLW (List.replicate n zeroW))[j]? = some u → (madeCells #[.string ⟨#[]⟩, .int .i64 0, .int .i64 0] (n * 3)).toList[j]? = some u := by
  intro n j u hu; have hj := (List.getElem?_eq_some_iff.1 hu).1; rw [cellsLW_length, List.length_replicate] at hj
  have hx : (List.replicate n zeroW)[j / 3]? = some zeroW := by rw [List.getElem?_replicate, if_pos (by omega)]
  have h3 : j % 3 < 3 := Nat.mod_lt _ (by decide)
  obtain ⟨v, hv⟩ : ∃ v, zeroW.cells[j % 3]? = some v := ⟨_, Array.getElem?_eq_getElem (show j % 3 < zeroW.cells.size from h3)⟩; have h1 := cellsLW_at _ (j / 3) _ (j % 3) v hx hv
  rw [show j / 3 * 3 + j % 3 = j by omega, hu] at h1
  cases h1
  have e : (madeCells #[.string ⟨#[]⟩, .int .i64 0, .int .i64 0] (n * 3)).toList[j]? = some (#[Value.string ⟨#[]⟩, .int .i64 0, .int .i64 0][j % 3]!) := by
    rw [Array.getElem?_toList]; unfold madeCells; simp; refine ⟨j, ?_, rfl⟩
    rw [Array.getElem?_eq_getElem (by simpa using hj)]
    simp
  rw [e]; have : zeroW.cells = #[Value.string ⟨#[]⟩, .int .i64 0, .int .i64 0] := rfl; rw [this] at hv
  match j % 3, h3, hv with
  | 0, _, hv => exact hv
  | 1, _, hv => exact hv
  | 2, _, hv => exact hv
theorem made_zeros (n : Nat) : (madeCells (Value.agg #[.string ⟨#[]⟩, .int .i64 0, .int .i64 0]).cells (n * 3)).toList = cellsLW (List.replicate n zeroW) := by
  apply List.ext_getElem?
  intro j
  show (madeCells #[.string ⟨#[]⟩, .int .i64 0, .int .i64 0] (n * 3)).toList[j]? = _
  cases h : (cellsLW (List.replicate n zeroW))[j]? with
  | some u => exact made_zero n j u h
  | none =>
    have h1 := List.getElem?_eq_none_iff.1 h; rw [cellsLW_length, List.length_replicate] at h1; rw [List.getElem?_eq_none_iff, Array.length_toList, size_madeCells]; exact h1
theorem wpList_zeroW (w : World) {ops : Array Oper} {rest : List Oper} {o : Oper} {a : Act} {Q : Exit → Act → World → Prop} (hg : o.guard = none) (l c : Operand) (hop : o.op = Op.makeSlice 84 l c)
    (base : Nat) (n : Nat) (hl : a.eval l = .int .i64 (n : Int)) (hc : a.eval c = .int .i64 (n : Int)) (hn : n ≤ 1000000) (hb : base ≤ w.heap.size)
    (hK : ∀ w', OwnW w' base (.slice (some ⟨w.heap.size, 0, none⟩) n n) (List.replicate n zeroW) → Below w.heap.size w w' → wpList Tryz.prog ops Q rest (a.put o.dst (.slice (some ⟨w.heap.size, 0, none⟩) n n)) w') : wpList Tryz.prog ops Q (o :: rest) a w := by
  obtain ⟨i, hi, hz0, hz1, hz2⟩ := info_parts (P := Tryz.prog) (e := 47) (z := .agg #[.string ⟨#[]⟩, .int .i64 0, .int .i64 0]) (size := 3) (bytes := 32) (by kernel_rfl)
  refine wpList_make_full w hg l c 84 hop base 47 i _ 3 Tryz.underlying84 hi hz0 hz1 .i64 .i64 _ _ n hl hc rfl rfl (by rw [hz2]; omega) (by unfold maxLen; omega) hb ?_
  intro w' h1 h2
  refine hK w' ?_ ⟨h2.os, h2.tape, h2.output, h2.size, fun k hk => h2.block k hk (by simp)⟩
  unfold OwnW; rw [List.length_replicate, ← made_zeros]; exact h1
theorem wpList_putW {ops : Array Oper} {rest : List Oper} {o : Oper} {a : Act} {w : World} {Q : Exit → Act → World → Prop} (hgd : o.guard = none) (x y : Operand) (ho : o.op = .store 47 x y) {base g c n i : Nat} {l : List WindowL} (u : WindowL)
    (hown : OwnW w base (.slice (some ⟨g, 0, none⟩) n c) l) (hn : n = l.length) (hi : i < n) (hx : a.eval x = .pointer (some ⟨g, i * 3, none⟩)) (hy : a.eval y = .agg u.cells)
    (h : ∀ w', OwnW w' base (.slice (some ⟨g, 0, none⟩) n c) (l.set i u) → w.grownBy w' (some g) → wpList Tryz.prog ops Q rest (a.put o.dst undef) w') : wpList Tryz.prog ops Q (o :: rest) a w :=
  wpList_plain hgd fun _ hK => wp_putW x y ho u hown hn hi hx hy (fun w' k1 k2 => hK _ _ (h w' k1 k2))
def fillW (l : List WindowL) (i : Nat) : List WindowL := l.take i ++ List.replicate (l.length - i) zeroW
theorem fillW_length {l : List WindowL} {i : Nat} (h : i ≤ l.length) : (fillW l i).length = l.length := by
  rw [fillW, List.length_append, List.length_take, List.length_replicate]; omega
theorem fillW_zero (l : List WindowL) : fillW l 0 = List.replicate l.length zeroW := by simp [fillW]
theorem fillW_all (l : List WindowL) : fillW l l.length = l := by simp [fillW]
theorem fillW_set {l : List WindowL} {i : Nat} {x : WindowL} (h : l[i]? = some x) : (fillW l i).set i x = fillW l (i + 1) := by
  have hi := (List.getElem?_eq_some_iff.1 h).1
  have e : l.length - i = (l.length - (i + 1)) + 1 := by omega
  have ht : (l.take i).length = i := by rw [List.length_take]; omega
  rw [fillW, fillW, List.take_add_one, h, e, List.replicate_succ, List.set_append_right _ _ (by omega), ht, Nat.sub_self, List.set_cons_zero]
  simp
def WRel (w : World) (g : Nat) (ws : List WindowL) (v : Value) (wr : World) : Prop := ∃ i : Nat, i ≤ ws.length ∧ v = .int .i64 (i : Int) ∧ OwnW wr w.heap.size (.slice (some ⟨g, 0, none⟩) ws.length ws.length) (fillW ws i) ∧ Below w.heap.size w wr
set_option maxRecDepth 100000 in
set_option maxHeartbeats 2000000 in
theorem owindows_any (w : World) (sa : Option Addr) (sc : Nat) (l : List PaneV) (hA : PanesAt w sa l) (hn : l.length ≤ 1000000) :
    Calls Tryz.prog 53 #[.slice sa l.length sc] w (WinsNew w (l.map fun x => x.p.w)) := by
  obtain ⟨n, hN⟩ : ∃ n, n = l.length := ⟨_, rfl⟩; obtain ⟨ws, hws⟩ : ∃ ws, ws = l.map fun x => x.p.w := ⟨_, rfl⟩; obtain ⟨P, hP⟩ : ∃ P, P = WinsNew w ws := ⟨_, rfl⟩; rw [← hws, ← hP, ← hN]
  have hwl : ws.length = n := by rw [hws, List.length_map, hN]
  have HYes : Hid (∀ wz g, OwnW wz w.heap.size (.slice (some ⟨g, 0, none⟩) n n) ws → Below w.heap.size w wz → P (.returned (.slice (some ⟨g, 0, none⟩) n n)) wz) := Lib.hid (fun wz g h hB => by rw [hP]; exact ⟨_, rfl, h, hB⟩)
  have HA := Lib.hid hA
  have hn6 : n ≤ 1000000 := by omega
  have HN : Hid (n = l.length ∧ ws.length = n) := Lib.hid ⟨hN, hwl⟩
  have HW : Hid (∀ (i : Nat) (x : PaneV), l[i]? = some x → ws[i]? = some x.p.w) := Lib.hid (fun i x h => by rw [hws, List.getElem?_map, h]; rfl)
  clear hN hA hn hP hws hwl
  go_enter Tryz.func53, Tryz.ntmps53
  go_upto_region 1 with (fail)
  refine wp_region_lit ?_
  iterate 6 go_step
  refine wpList_zeroW w rfl _ _ rfl w.heap.size n rfl rfl hn6 (Nat.le_refl _) ?_; intro w1 k1 k2; obtain ⟨g, hg⟩ : ∃ g, g = w.heap.size := ⟨_, rfl⟩
  have HO1 : Hid (OwnW w1 w.heap.size (.slice (some ⟨g, 0, none⟩) n n) (fillW ws 0) ∧ Below w.heap.size w w1) := by
    rw [fillW_zero, HN.out.2]; rw [← hg] at k1; rw [hg] at k1 ⊢; exact Lib.hid ⟨k1, k2⟩
  rw [← hg]; clear k1 k2 hg; go_wp2_with (fail)
  go_loopw [11] (WRel w g ws) (fun v _ => n - (intOf v).toNat)
  case atStart => exact ⟨0, Nat.zero_le _, rfl, by rw [HN.out.2]; exact HO1.out.1, HO1.out.2⟩
  case round =>
    obtain ⟨i, hi, rfl, hO, hB⟩ := hrel; rw [HN.out.2] at hi hO; have HO := Lib.hid (And.intro hO hB); clear hO hB
    by_cases hlt : i < n
    · have hi0 : (0 : Int) ≤ (i : Int) ∧ (i : Int) < (n : Int) := by omega
      obtain ⟨x, pa, oa, hx, hsa, c0, c1, c2, c3, c4, c5, c6, c7⟩ := (HA.out.below HO.out.2).get (t := i) (by rw [← HN.out.1]; exact hlt)
      subst hsa; have HX := Lib.hid (HW.out i x hx); have HI := Lib.hid (And.intro hlt hi); clear hx hi hlt; obtain ⟨⟨⟨xk, xl, xh⟩, ⟨xn, xa, xt, xu, xv⟩, xr⟩, xtv, xz, xht, xhz⟩ := x; simp only at c0 c1 c2 c3 c4 c5 c6 c7
      go_upto_region 4 with (fail)
      refine wp_region_lit ?_
      iterate 15 go_step
      refine wpList_store_row rfl _ _ _ rfl wr.heap.size (PaneV.mk ⟨⟨xk, xl, xh⟩, ⟨xn, xa, xt, xu, xv⟩, xr⟩ xtv xz xht xhz).cells rfl rfl 55 zeroPV.cells (heap_alloc_new wr _) pane_size rfl (pane_one _) ?_; obtain ⟨wx, hwx⟩ : ∃ W, W = (wr.alloc (Obj.cells #[.string ⟨#[]⟩, .int .i64 0, .int .i64 0, .int .i64 0, .int .i64 0, .slice none 0 0, .complex .f64 0 0, .int .i64 0] 55)).setRow wr.heap.size (PaneV.mk ⟨⟨xk, xl, xh⟩, ⟨xn, xa, xt, xu, xv⟩, xr⟩ xtv xz xht xhz).cells := ⟨_, rfl⟩; obtain ⟨xb, hxb⟩ : ∃ b, b = wr.heap.size := ⟨_, rfl⟩
      have Hwx : Hid (RowP wx xb (PaneV.mk ⟨⟨xk, xl, xh⟩, ⟨xn, xa, xt, xu, xv⟩, xr⟩ xtv xz xht xhz) ∧ Below wr.heap.size wr wx) := by
        obtain ⟨k1, k2⟩ := stored_pane wr (PaneV.mk ⟨⟨xk, xl, xh⟩, ⟨xn, xa, xt, xu, xv⟩, xr⟩ xtv xz xht xhz); rw [hwx, hxb]; exact Lib.hid ⟨k1, k2⟩
      rw [← hwx, ← hxb]; clear hwx hxb c0 c1 c2 c3 c4 c5 c6 c7; have HO2 : Hid (OwnW wx w.heap.size (.slice (some ⟨g, 0, none⟩) n n) (fillW ws i) ∧ Below w.heap.size w wx) := Lib.hid ⟨HO.out.1.far Hwx.out.2, HO.out.2.trans (Hwx.out.2.mono HO.out.2.size)⟩; obtain ⟨e0, e1, e2, _⟩ := Hwx.out.1.d8; have hi1 := HI.out.1
      go_upto_region 5 with (fail)
      refine wp_region_lit ?_
      iterate 15 go_step
      refine wpList_putW (i := i) (c := n) (n := n) (g := g) rfl _ _ rfl ⟨xk, xl, xh⟩ HO2.out.1 (by rw [fillW_length (by rw [HN.out.2]; exact HI.out.2), HN.out.2]) HI.out.1 (by first | rfl | (dsimp only; rfl) | trace_state) rfl ?_
      intro w3 j1 j2
      have HO3 : Hid (OwnW w3 w.heap.size (.slice (some ⟨g, 0, none⟩) n n) (fillW ws (i + 1)) ∧ Below w.heap.size w w3) := by
        rw [fillW_set HX.out] at j1; exact Lib.hid ⟨j1, HO2.out.2.trans (HO2.out.1.below j2 HO2.out.2.size)⟩
      clear j1 j2 e0 e1 e2 hi1; go_wp2_with (fail)
      refine ⟨⟨i + 1, by rw [HN.out.2]; exact HI.out.1, rfl, by rw [HN.out.2]; exact HO3.out.1, HO3.out.2⟩, by rw [intOf_i, intOf_i]; have := HI.out.1; omega⟩
    · obtain rfl : i = n := by omega
      clear hlt; go_wp2_with (fail); refine HYes.out _ _ ?_ HO.out.2; have h := HO.out.1
      have e : fillW ws i = ws := by rw [← HN.out.2]; exact fillW_all ws
      rw [e] at h; exact h
theorem pairwise_steps {l : List WindowL} (h : ∀ j, 0 < j → j < l.length → aheadP (atW l (j - 1)) (atW l j)) : l.Pairwise aheadP := by
  refine List.pairwise_iff_getElem.2 fun i j hi hj hij => ?_; have hat : ∀ i (h : i < l.length), atW l i = l[i] := fun i h => atW_some (List.getElem?_eq_getElem h)
  have far : ∀ d i (hi : i + d + 1 < l.length), aheadP (l[i]'(by omega)) l[i + d + 1] := by
    intro d
    induction d with
    | zero =>
      intro i hi
      have := h (i + 1) (by omega) hi
      rwa [hat _ hi, Nat.add_sub_cancel, hat i (by omega)] at this
    | succ d ih =>
      intro i hi
      have h1 := ih i (by omega)
      have h2 := h (i + (d + 1) + 1) (by omega) hi
      rw [hat _ hi, Nat.add_sub_cancel, hat (i + (d + 1)) (by omega)] at h2
      exact h1.trans h2
  have := far (j - i - 1) i (by omega)
  simpa [show i + (j - i - 1) + 1 = j by omega] using this
def PlRel (w : World) (ws : List WindowL) (v : Value) (wr : World) : Prop := ∃ i : Nat, 1 ≤ i ∧ i ≤ ws.length + 1 ∧ v = .int .i64 (i : Int) ∧ (∀ j, 0 < j → j < i → j < ws.length → aheadP (atW ws (j - 1)) (atW ws j)) ∧ Below w.heap.size w wr
set_option maxRecDepth 100000 in
set_option maxHeartbeats 2000000 in
theorem oplaced_any (w : World) (q : QueryL) (sa : Option Addr) (sc : Nat) (l : List PaneV) (hA : PanesAt w sa l) (hk : ∀ x ∈ l, x.p.w.key.length ≤ 1000000) (hn : l.length ≤ 1000000) :
    Calls Tryz.prog 31 #[.agg q.cells, .slice sa l.length sc] w (Below0 w (.bool (placedB q (l.map PaneV.p)))) := by
  have mixed : Tryz.prog.follows .mixedOrders = true := by kernel_rfl
  obtain ⟨n, hN⟩ : ∃ n, n = l.length := ⟨_, rfl⟩; obtain ⟨ws, hws⟩ : ∃ ws, ws = l.map fun x => x.p.w := ⟨_, rfl⟩
  have hwl : ws.length = n := by rw [hws, List.length_map, hN]
  have he : wsP (l.map PaneV.p) = ws := by rw [hws, wsP, List.map_map]; rfl
  obtain ⟨P, hP⟩ : ∃ P, P = Below0 w (.bool (placedB q (l.map PaneV.p))) := ⟨_, rfl⟩; rw [← hP, ← hN]
  have HS : Hid (∀ wz, q.kind = 3 → Below w.heap.size w wz → P (.returned (.bool (decide (Settled ws)))) wz) := Lib.hid (fun wz h hB => by rw [hP, placedB, if_pos h, he]; exact ⟨rfl, hB⟩)
  have HNo : Hid (∀ wz, q.kind ≠ 3 → ¬ ws.Pairwise aheadP → Below w.heap.size w wz → P (.returned (.bool false)) wz) := Lib.hid (fun wz h h' hB => by rw [hP, placedB, if_neg h, he, decide_eq_false h']; exact ⟨rfl, hB⟩)
  have HYes : Hid (∀ wz, q.kind ≠ 3 → ws.Pairwise aheadP → Below w.heap.size w wz → P (.returned (.bool true)) wz) := Lib.hid (fun wz h h' hB => by rw [hP, placedB, if_neg h, he, decide_eq_true h']; exact ⟨rfl, hB⟩)
  obtain ⟨w1, hw1⟩ : ∃ W, W = w.alloc (.cells q.cells 23) := ⟨_, rfl⟩; obtain ⟨qb, hqb⟩ : ∃ b, b = w.heap.size := ⟨_, rfl⟩
  have H1 : Hid (RowQ w1 qb q ∧ Below w.heap.size w w1) := by rw [hw1, hqb]; exact Lib.hid (box_q w q)
  have HA : Hid (PanesAt w1 sa l) := Lib.hid (hA.below H1.out.2)
  have hn6 : n ≤ 1000000 := by omega
  have HN : Hid (n = l.length ∧ ws.length = n) := Lib.hid ⟨hN, hwl⟩
  have HW : Hid (∀ (i : Nat) (x : PaneV), l[i]? = some x → ws[i]? = some x.p.w) := Lib.hid (fun i x h => by rw [hws, List.getElem?_map, h]; rfl)
  have HWi : Hid (∀ w', Below w1.heap.size w1 w' → Calls Tryz.prog 53 #[.slice sa n sc] w' (WinsNew w' ws)) := by
    rw [hws, hN]; exact Lib.hid (fun w' h => owindows_any w' sa sc l (HA.out.below h) hn)
  have HSe : Hid (∀ w' a c, WinsAt w' a ws → Calls Tryz.prog 52 #[.slice a ws.length c] w' (Below0 w' (.bool (decide (Settled ws))))) := Lib.hid (fun w' a c h => sSettled_any w' a c ws h (fun x hx => by
    rw [hws] at hx; obtain ⟨y, hy, rfl⟩ := List.mem_map.1 hx
    exact hk y hy) (by omega))
  clear hN hA hn hP hws hwl he hk; obtain ⟨kind, size, slide, late, agg, kq⟩ := q; unfold QueryL.cells at hw1 ⊢; simp only at HS HNo HYes; obtain ⟨d0, d1, d2, d3, d4, d5⟩ := H1.out.1.d6; simp only at d0 d1 d2 d3 d4 d5
  by_cases hkind : kind = 3
  · subst hkind
    go_enter Tryz.func31, Tryz.ntmps31
    go_upto_region 1 with (fail)
    rw [← hw1, ← hqb]; clear hw1 hqb; go_wp2_with (fail); refine (HWi.out w1 (Below.refl _ _)).mono ?_; rintro e w2 ⟨v, rfl, hO, hB⟩; obtain ⟨a, c, rfl, hc, hW⟩ := hO.form; have HB2 := Lib.hid (H1.out.2.trans (hB.mono H1.out.2.size)); have HS2 := Lib.hid (HSe.out w2 a c hW); clear hB hO hW hc d0 d1 d2 d3 d4 d5; dsimp only; go_wp2_with (fail); refine HS2.out.mono ?_; rintro e w3 ⟨rfl, hB⟩; have HB3 := Lib.hid (HB2.out.trans (hB.mono HB2.out.size)); clear hB; dsimp only; go_wp2_with (fail)
    exact HS.out _ (by simp) HB3.out
  · have hkind' : (kind == 3) = false := by simpa using hkind
    have HK := Lib.hid hkind; clear hkind HS HWi HSe
    go_enter Tryz.func31, Tryz.ntmps31
    go_upto_region 1 with (fail)
    rw [← hw1, ← hqb]; clear hw1 hqb; go_wp2_with (fail); clear d0 d1 d2 d3 d4 d5
    go_loopw [5] (PlRel w1 ws) (fun v _ => n + 1 - (intOf v).toNat)
    case atStart => exact ⟨1, Nat.le_refl _, by omega, rfl, fun j h h' => by omega, Below.refl _ _⟩
    case round =>
      obtain ⟨i, hi1, hi, rfl, hok, hB⟩ := hrel; rw [HN.out.2] at hi hok; have HO := Lib.hid (And.intro hok hB); clear hok hB
      by_cases hlt : i < n
      · have hi0 : (1 : Int) ≤ (i : Int) ∧ (i : Int) < (n : Int) := by omega
        obtain ⟨m, rfl⟩ : ∃ m, i = m + 1 := ⟨i - 1, by omega⟩
        obtain ⟨x, pa, oa, hx, hsa, _⟩ := HA.out.get (t := m) (by rw [← HN.out.1]; omega)
        obtain ⟨y, pc, oc, hy, hsc, _⟩ := HA.out.get (t := m + 1) (by rw [← HN.out.1]; omega)
        subst hsa; have HX := Lib.hid (HW.out m x hx); have HY := Lib.hid (HW.out (m + 1) y hy); obtain ⟨xw, hxw⟩ : ∃ u, u = x.p.w := ⟨_, rfl⟩; obtain ⟨yw, hyw⟩ : ∃ u, u = y.p.w := ⟨_, rfl⟩
        have HL1 : Hid (∀ w', Below wr.heap.size wr w' → w'.cell? ⟨pa, oa + m * 8, none⟩ = some (Sv xw.key) ∧ w'.cell? ⟨pa, oa + m * 8 + 1, none⟩ = some (.int .i64 xw.lo) ∧ w'.cell? ⟨pa, oa + m * 8 + 2, none⟩ = some (.int .i64 xw.hi)) := Lib.hid (fun w' h => by
          obtain ⟨x', b', o', hx', ha', c⟩ := ((HA.out.below HO.out.2).below (h.mono (Nat.le_refl _))).get (t := m) (by rw [← HN.out.1]; omega)
          rw [hx] at hx'
          cases hx'
          cases ha'
          rw [hxw]
          exact ⟨c.1, c.2.1, c.2.2.1⟩)
        have HL2 : Hid (∀ w', Below wr.heap.size wr w' → w'.cell? ⟨pa, oa + (m + 1) * 8, none⟩ = some (Sv yw.key) ∧ w'.cell? ⟨pa, oa + (m + 1) * 8 + 1, none⟩ = some (.int .i64 yw.lo) ∧ w'.cell? ⟨pa, oa + (m + 1) * 8 + 2, none⟩ = some (.int .i64 yw.hi)) := Lib.hid (fun w' h => by
          obtain ⟨x', b', o', hx', ha', c⟩ := ((HA.out.below HO.out.2).below (h.mono (Nat.le_refl _))).get (t := m + 1) (by rw [← HN.out.1]; omega)
          rw [hy] at hx'
          cases hx'
          cases ha'
          rw [hyw]
          exact ⟨c.1, c.2.1, c.2.2.1⟩)
        obtain ⟨p, hp⟩ : ∃ p, p = placeW xw yw := ⟨_, rfl⟩; obtain ⟨VX, hVX⟩ : ∃ V, V = Value.agg xw.cells := ⟨_, rfl⟩; obtain ⟨VY, hVY⟩ : ∃ V, V = Value.agg yw.cells := ⟨_, rfl⟩
        have HPl : Hid (∀ w', Calls Tryz.prog 54 #[VX, VY] w' (Below0 w' (.int .i64 p))) := by
          rw [hp, hVX, hVY]; exact Lib.hid (fun w' => wplace_any w' xw yw)
        have HPa : Hid (p < 0 ↔ aheadP (atW ws m) (atW ws (m + 1))) := by
          rw [hp, atW_some HX.out, atW_some HY.out, ← hxw, ← hyw]; exact Lib.hid (placeW_neg _ _)
        have HI := Lib.hid hlt; obtain ⟨xk, xl, xh⟩ := xw; obtain ⟨yk, yl, yh⟩ := yw; have HVX : Hid (VX = .agg #[Sv xk, .int .i64 xl, .int .i64 xh]) := Lib.hid hVX; have HVY : Hid (VY = .agg #[Sv yk, .int .i64 yl, .int .i64 yh]) := Lib.hid hVY; simp only at HL1 HL2
        have HIm : Hid (((m + 1 : Nat) : Int) - 1 = (m : Int) ∧ (0 : Int) ≤ ((m + 1 : Nat) : Int) ∧ ((m + 1 : Nat) : Int) ≤ 1000000) := Lib.hid (by have := hn6; omega)
        have HI1 : Hid ((0 : Int) ≤ (m : Int) ∧ (m : Int) < (n : Int)) := Lib.hid (by omega)
        have HI0 := Lib.hid hi0; clear hx hy hsc hxw hyw hp hVX hVY hi hlt hi1 HX HY
        by_cases hp0 : p < 0
        · have hge : decide (0 ≤ p) = false := decide_eq_false (by omega)
          have HG := Lib.hid hge; have HP0 := Lib.hid (HPa.out.1 hp0); clear hp0 hge HPa
          go_upto_region 6 with (fail)
          have HG0 : Hid (Below wr.heap.size wr wr.drew) := Lib.hid (Below.refl _ wr).drew
          refine wp_region_skip_frame (fun i => ([] : List Nat).contains i) (by kernel_rfl) [none, none, none, none, none, none, none, none, none, none, none, none, none] [] (fun i_ _ _ v_ => v_ = (((Value.slice (some ⟨pa, oa, none⟩) n sc) :: (Value.int .i64 ((m + 1 : Nat) : Int)) :: (Value.int .i64 (m : Int)) :: (Value.pointer (some ⟨pa, oa + m * 8, none⟩)) :: (Value.pointer (some ⟨pa, oa + m * 8, none⟩)) :: VX :: (Value.slice (some ⟨pa, oa, none⟩) n sc) :: (Value.int .i64 ((m + 1 : Nat) : Int)) :: (Value.pointer (some ⟨pa, oa + (m + 1) * 8, none⟩)) :: (Value.pointer (some ⟨pa, oa + (m + 1) * 8, none⟩)) :: VY :: (Value.int .i64 p) :: (Value.bool false) :: ([] : List Value))).getD i_ undef) (fun _ w' => Below wr.heap.size wr w') (fun w w' => Below w.heap.size w w') (fun _ _ _ _ _ _ h => h) (by kernel_rfl) (by kernel_rfl) (by kernel_rfl) HG0.out (fun _ => ⟨rfl, rfl, rfl, rfl, rfl, rfl, rfl, rfl, rfl, rfl, rfl, rfl, rfl, trivial⟩) (fun _ h => by simp at h) ?_ ?_
          · refine ⟨?_, ?_, ?_, ?_, ?_, ?_, ?_, ?_, ?_, ?_, ?_, ?_, ?_, trivial⟩
            · intro _ _ a w' hG hout hpre K hK; have q1 := ev_of ((hout 1 rfl).trans (show _ = .slice (some ⟨pa, oa, none⟩) n sc from rfl)); clear hout hpre; go_step; exact hK _ _ rfl hG (Below.refl _ _)
            · intro _ _ a w' hG hout hpre K hK; have q5 := ev_of ((hout 5 rfl).trans (show _ = .int .i64 ((m + 1 : Nat) : Int) from rfl)); clear hout hpre; go_step; exact hK _ _ rfl hG (Below.refl _ _)
            · intro _ _ a w' hG hout hpre K hK; obtain ⟨p0, _⟩ := hpre; have q19 := ev_of (show a.eval (.tmp 19) = .int .i64 ((m + 1 : Nat) : Int) from p0); have him := HIm.out; clear hout p0; go_step; exact hK _ _ rfl hG (Below.refl _ _)
            · intro _ _ a w' hG hout hpre K hK; obtain ⟨p0, p1, _⟩ := hpre; have q18 := ev_of (show a.eval (.tmp 18) = .slice (some ⟨pa, oa, none⟩) n sc from p0); have q20 := ev_of (show a.eval (.tmp 20) = .int .i64 (m : Int) from p1); have hi0 := HI1.out; clear hout p0 p1; go_step; exact hK _ _ rfl hG (Below.refl _ _)
            · intro _ _ a w' hG hout hpre K hK; obtain ⟨p0, _⟩ := hpre; have q21 := ev_of (show a.eval (.tmp 21) = .pointer (some ⟨pa, oa + m * 8, none⟩) from p0); clear hout p0; go_step; exact hK _ _ rfl hG (Below.refl _ _)
            · intro _ _ a w' hG hout hpre K hK; obtain ⟨p0, _⟩ := hpre; have q22 := ev_of (show a.eval (.tmp 22) = .pointer (some ⟨pa, oa + m * 8, none⟩) from p0); obtain ⟨c0, c1, c2⟩ := HL1.out _ hG; clear hout p0; go_step; exact hK _ _ HVX.out.symm hG (Below.refl _ _)
            · intro _ _ a w' hG hout hpre K hK; have q1 := ev_of ((hout 1 rfl).trans (show _ = .slice (some ⟨pa, oa, none⟩) n sc from rfl)); clear hout hpre; go_step; exact hK _ _ rfl hG (Below.refl _ _)
            · intro _ _ a w' hG hout hpre K hK; have q5 := ev_of ((hout 5 rfl).trans (show _ = .int .i64 ((m + 1 : Nat) : Int) from rfl)); clear hout hpre; go_step; exact hK _ _ rfl hG (Below.refl _ _)
            · intro _ _ a w' hG hout hpre K hK; obtain ⟨p0, p1, _⟩ := hpre; have q24 := ev_of (show a.eval (.tmp 24) = .slice (some ⟨pa, oa, none⟩) n sc from p0); have q25 := ev_of (show a.eval (.tmp 25) = .int .i64 ((m + 1 : Nat) : Int) from p1); have hi0 := HI0.out; clear hout p0 p1; go_step; exact hK _ _ rfl hG (Below.refl _ _)
            · intro _ _ a w' hG hout hpre K hK; obtain ⟨p0, _⟩ := hpre; have q26 := ev_of (show a.eval (.tmp 26) = .pointer (some ⟨pa, oa + (m + 1) * 8, none⟩) from p0); clear hout p0; go_step; exact hK _ _ rfl hG (Below.refl _ _)
            · intro _ _ a w' hG hout hpre K hK; obtain ⟨p0, _⟩ := hpre; have q27 := ev_of (show a.eval (.tmp 27) = .pointer (some ⟨pa, oa + (m + 1) * 8, none⟩) from p0); obtain ⟨c0, c1, c2⟩ := HL2.out _ hG; clear hout p0; go_step; exact hK _ _ HVY.out.symm hG (Below.refl _ _)
            · intro _ _ a w' hG hout hpre K hK; obtain ⟨p0, p1, _⟩ := hpre; have q23 := ev_of (show a.eval (.tmp 23) = VX from p0); have q28 := ev_of (show a.eval (.tmp 28) = VY from p1); have HS := Lib.hid (HPl.out w'); clear hout p0 p1; go_step; refine HS.out.mono ?_; rintro e w3 ⟨rfl, hB⟩; exact hK _ _ rfl (hG.trans (hB.mono hG.size)) hB
            · intro _ _ a w' hG hout hpre K hK; obtain ⟨p0, _⟩ := hpre; have q29 := ev_of (show a.eval (.tmp 29) = .int .i64 p from p0); have hg := HG.out; clear hout p0; go_step; exact hK _ _ rfl hG (Below.refl _ _)
          · intro vs w2 hG hlen hV
            match vs, hlen, hV with
            | [v0, v1, v2, v3, v4, v5, v6, v7, v8, v9, v10, v11, v12], _, hV =>
              obtain rfl : v12 = .bool false := (hV 12 30 v12 rfl rfl); clear hV; simp only [putsL, List.tail_cons, List.headD_cons]; simp only [Act.put, List.setIfInBounds_toArray, List.set_cons_succ, List.set_cons_zero]; have HZ := Lib.hid (HO.out.2.trans (hG.mono HO.out.2.size)); clear hG; go_wp2_with (fail)
              refine ⟨⟨m + 2, by omega, by rw [HN.out.2]; have := HI.out; omega, by go_num, fun j h0 h1 h2 => ?_, HZ.out⟩, by rw [intOf_i, intOf_i]; have := HI.out; omega⟩
              rcases Nat.lt_or_ge j (m + 1) with h | h
              · exact HO.out.1 j h0 h (by rw [← HN.out.2]; exact h2)
              · obtain rfl : j = m + 1 := by omega
                exact HP0.out
        · have hge : decide (0 ≤ p) = true := decide_eq_true (by omega)
          have HG := Lib.hid hge; have HP0 : Hid (¬ aheadP (atW ws m) (atW ws (m + 1))) := Lib.hid (fun h => hp0 (HPa.out.2 h)); clear hp0 hge HPa
          go_upto_region 6 with (fail)
          have HG0 : Hid (Below wr.heap.size wr wr.drew) := Lib.hid (Below.refl _ wr).drew
          refine wp_region_skip_frame (fun i => ([] : List Nat).contains i) (by kernel_rfl) [none, none, none, none, none, none, none, none, none, none, none, none, none] [] (fun i_ _ _ v_ => v_ = (((Value.slice (some ⟨pa, oa, none⟩) n sc) :: (Value.int .i64 ((m + 1 : Nat) : Int)) :: (Value.int .i64 (m : Int)) :: (Value.pointer (some ⟨pa, oa + m * 8, none⟩)) :: (Value.pointer (some ⟨pa, oa + m * 8, none⟩)) :: VX :: (Value.slice (some ⟨pa, oa, none⟩) n sc) :: (Value.int .i64 ((m + 1 : Nat) : Int)) :: (Value.pointer (some ⟨pa, oa + (m + 1) * 8, none⟩)) :: (Value.pointer (some ⟨pa, oa + (m + 1) * 8, none⟩)) :: VY :: (Value.int .i64 p) :: (Value.bool true) :: ([] : List Value))).getD i_ undef) (fun _ w' => Below wr.heap.size wr w') (fun w w' => Below w.heap.size w w') (fun _ _ _ _ _ _ h => h) (by kernel_rfl) (by kernel_rfl) (by kernel_rfl) HG0.out (fun _ => ⟨rfl, rfl, rfl, rfl, rfl, rfl, rfl, rfl, rfl, rfl, rfl, rfl, rfl, trivial⟩) (fun _ h => by simp at h) ?_ ?_
          · refine ⟨?_, ?_, ?_, ?_, ?_, ?_, ?_, ?_, ?_, ?_, ?_, ?_, ?_, trivial⟩
            · intro _ _ a w' hG hout hpre K hK; have q1 := ev_of ((hout 1 rfl).trans (show _ = .slice (some ⟨pa, oa, none⟩) n sc from rfl)); clear hout hpre; go_step; exact hK _ _ rfl hG (Below.refl _ _)
            · intro _ _ a w' hG hout hpre K hK; have q5 := ev_of ((hout 5 rfl).trans (show _ = .int .i64 ((m + 1 : Nat) : Int) from rfl)); clear hout hpre; go_step; exact hK _ _ rfl hG (Below.refl _ _)
            · intro _ _ a w' hG hout hpre K hK; obtain ⟨p0, _⟩ := hpre; have q19 := ev_of (show a.eval (.tmp 19) = .int .i64 ((m + 1 : Nat) : Int) from p0); have him := HIm.out; clear hout p0; go_step; exact hK _ _ rfl hG (Below.refl _ _)
            · intro _ _ a w' hG hout hpre K hK; obtain ⟨p0, p1, _⟩ := hpre; have q18 := ev_of (show a.eval (.tmp 18) = .slice (some ⟨pa, oa, none⟩) n sc from p0); have q20 := ev_of (show a.eval (.tmp 20) = .int .i64 (m : Int) from p1); have hi0 := HI1.out; clear hout p0 p1; go_step; exact hK _ _ rfl hG (Below.refl _ _)
            · intro _ _ a w' hG hout hpre K hK; obtain ⟨p0, _⟩ := hpre; have q21 := ev_of (show a.eval (.tmp 21) = .pointer (some ⟨pa, oa + m * 8, none⟩) from p0); clear hout p0; go_step; exact hK _ _ rfl hG (Below.refl _ _)
            · intro _ _ a w' hG hout hpre K hK; obtain ⟨p0, _⟩ := hpre; have q22 := ev_of (show a.eval (.tmp 22) = .pointer (some ⟨pa, oa + m * 8, none⟩) from p0); obtain ⟨c0, c1, c2⟩ := HL1.out _ hG; clear hout p0; go_step; exact hK _ _ HVX.out.symm hG (Below.refl _ _)
            · intro _ _ a w' hG hout hpre K hK; have q1 := ev_of ((hout 1 rfl).trans (show _ = .slice (some ⟨pa, oa, none⟩) n sc from rfl)); clear hout hpre; go_step; exact hK _ _ rfl hG (Below.refl _ _)
            · intro _ _ a w' hG hout hpre K hK; have q5 := ev_of ((hout 5 rfl).trans (show _ = .int .i64 ((m + 1 : Nat) : Int) from rfl)); clear hout hpre; go_step; exact hK _ _ rfl hG (Below.refl _ _)
            · intro _ _ a w' hG hout hpre K hK; obtain ⟨p0, p1, _⟩ := hpre; have q24 := ev_of (show a.eval (.tmp 24) = .slice (some ⟨pa, oa, none⟩) n sc from p0); have q25 := ev_of (show a.eval (.tmp 25) = .int .i64 ((m + 1 : Nat) : Int) from p1); have hi0 := HI0.out; clear hout p0 p1; go_step; exact hK _ _ rfl hG (Below.refl _ _)
            · intro _ _ a w' hG hout hpre K hK; obtain ⟨p0, _⟩ := hpre; have q26 := ev_of (show a.eval (.tmp 26) = .pointer (some ⟨pa, oa + (m + 1) * 8, none⟩) from p0); clear hout p0; go_step; exact hK _ _ rfl hG (Below.refl _ _)
            · intro _ _ a w' hG hout hpre K hK; obtain ⟨p0, _⟩ := hpre; have q27 := ev_of (show a.eval (.tmp 27) = .pointer (some ⟨pa, oa + (m + 1) * 8, none⟩) from p0); obtain ⟨c0, c1, c2⟩ := HL2.out _ hG; clear hout p0; go_step; exact hK _ _ HVY.out.symm hG (Below.refl _ _)
            · intro _ _ a w' hG hout hpre K hK; obtain ⟨p0, p1, _⟩ := hpre; have q23 := ev_of (show a.eval (.tmp 23) = VX from p0); have q28 := ev_of (show a.eval (.tmp 28) = VY from p1); have HS := Lib.hid (HPl.out w'); clear hout p0 p1; go_step; refine HS.out.mono ?_; rintro e w3 ⟨rfl, hB⟩; exact hK _ _ rfl (hG.trans (hB.mono hG.size)) hB
            · intro _ _ a w' hG hout hpre K hK; obtain ⟨p0, _⟩ := hpre; have q29 := ev_of (show a.eval (.tmp 29) = .int .i64 p from p0); have hg := HG.out; clear hout p0; go_step; exact hK _ _ rfl hG (Below.refl _ _)
          · intro vs w2 hG hlen hV
            match vs, hlen, hV with
            | [v0, v1, v2, v3, v4, v5, v6, v7, v8, v9, v10, v11, v12], _, hV =>
              obtain rfl : v12 = .bool true := (hV 12 30 v12 rfl rfl); clear hV; simp only [putsL, List.tail_cons, List.headD_cons]; simp only [Act.put, List.setIfInBounds_toArray, List.set_cons_succ, List.set_cons_zero]; have HZ := Lib.hid (HO.out.2.trans (hG.mono HO.out.2.size)); clear hG; go_wp2_with (fail); refine HNo.out _ HK.out (fun h => HP0.out ?_) (H1.out.2.trans (HZ.out.mono H1.out.2.size))
              have h1 := List.pairwise_iff_getElem.1 h m (m + 1) (by rw [HN.out.2]; have := HI.out; omega) (by rw [HN.out.2]; exact HI.out) (by omega)
              rw [atW_some (List.getElem?_eq_getElem (by rw [HN.out.2]; have := HI.out; omega)), atW_some (List.getElem?_eq_getElem (by rw [HN.out.2]; exact HI.out))]
              exact h1
      · clear hi1
        have hge : ¬ ((i : Int) < (n : Int)) := by omega
        have HI := Lib.hid hlt; clear hlt; go_wp2_with (fail); refine HYes.out _ HK.out (pairwise_steps fun j h0 h1 => ?_) (H1.out.2.trans (HO.out.2.mono H1.out.2.size)); rw [HN.out.2] at h1
        exact HO.out.1 j h0 (by have := HI.out; omega) h1
end Go.Proofs.YtjeeghafachebaaGreat
