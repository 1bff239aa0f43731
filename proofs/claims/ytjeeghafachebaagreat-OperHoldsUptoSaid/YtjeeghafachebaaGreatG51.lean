/-
  Part 51 of 53 of what the proof leans on.
-/
import Derived.Test.YtjeeghafachebaaGreatG48
import Derived.Test.YtjeeghafachebaaGreatG49
import Derived.Test.YtjeeghafachebaaGreatG19
import Derived.Test.YtjeeghafachebaaGreatG50
namespace Go.Proofs.YtjeeghafachebaaGreat
open Go Go.RowKit
def FndB (q : QueryL) (o : OutE) (p : PaneL) : Bool := decide (p.w = o.w) && (decide (p.r = o.r) && decide (valueQ q p.a = o.v))
def HoldRel (w : World) (q : QueryL) (n qb sb : Nat) (i : Value) (wr : World) : Prop := ∃ (j : Nat) (S : StateL) (m : Int) (pv : Value), j ≤ n ∧ i = .int .i64 (j : Int) ∧ Below w.heap.size w wr ∧ RowQ wr qb q ∧ RowS wr sb m pv ∧ HasS wr (.agg #[.int .i64 m, pv]) S ∧ rightS q S = true
def IdxRel (w : World) (n : Nat) (i : Value) (wr : World) : Prop := ∃ j : Nat, j ≤ n ∧ i = .int .i64 (j : Int) ∧ Below w.heap.size w wr
def FndRel (w : World) (q : QueryL) (o : OutE) (f0 : Bool) (l : List PaneV) (f i : Value) (wr : World) : Prop := ∃ j : Nat, j ≤ l.length ∧ i = .int .i64 (j : Int) ∧ f = .bool (f0 || (l.take j).any (fun x => FndB q o x.p)) ∧ Below w.heap.size w wr
theorem any_take {l : List PaneV} {f : PaneV → Bool} {j : Nat} {x : PaneV} (h : l[j]? = some x) : (l.take (j + 1)).any f = ((l.take j).any f || f x) := by
  rw [List.take_add_one, h, List.any_append]; simp
theorem found_yes {q : QueryL} {s t : StateL} {x : ItemL} {o : OutE} {l : List PaneV} (h : outOk q s x t o) (hl : o.late = false) (hp : t.panes = l.map PaneV.p) : (decide (o.w.hi + q.late ≤ t.mark) || l.any (fun x => FndB q o x.p)) = true := by
  rcases (h.2 hl).1 with h | ⟨p, hm, h1, h2, h3⟩
  · rw [decide_eq_true h]; rfl
  · rw [hp] at hm; obtain ⟨y, hy, rfl⟩ := List.mem_map.1 hm; rw [Bool.or_eq_true]
    right
    rw [List.any_eq_true]; refine ⟨y, hy, ?_⟩; unfold FndB; rw [decide_eq_true h1, decide_eq_true h2, decide_eq_true h3]; rfl
theorem below_store {w w' w'' : World} {b : Nat} (h : Below w.heap.size w w') (hb : w.heap.size ≤ b) (hg : w'.grownBy w'' (some b)) : Below w.heap.size w w'' := h.trans (below_set hg hb h.size)
set_option maxRecDepth 100000 in
set_option maxHeartbeats 8000000 in
theorem oholds_any (w : World) (q : QueryL) (ia : Option Addr) (ic : Nat) (its : List ItemL) (hI : ItemsAt w ia its) (hk : ∀ x ∈ its, x.key.length ≤ 1048576) (hl : its.length ≤ 1048576) :
    Calls Tryz.prog 4 #[.agg q.cells, .slice ia its.length ic] w (Below0 w (.bool true)) := by
  have mixed : Tryz.prog.follows .mixedOrders = true := by kernel_rfl
  have HF := Lib.hid (fun w' => ofirst_any w'); obtain ⟨P, hP⟩ : ∃ P, P = Below0 w (.bool true) := ⟨_, rfl⟩; rw [← hP]
  have HYes : Hid (∀ w', Below w.heap.size w w' → P (.returned (.bool true)) w') := Lib.hid (fun w' h => by rw [hP]; exact ⟨rfl, h⟩)
  obtain ⟨g, hg⟩ : ∃ g, g = greatL its := ⟨_, rfl⟩
  have HGt : Hid (∀ w', Below w.heap.size w w' → Calls Tryz.prog 7 #[.slice ia its.length ic] w' (Below0 w' (.int .i64 ((g : Nat) : Int)))) := by
    rw [hg]; exact Lib.hid (fun w' hB => great_any w' ia ic its (hI.below hB) hk hl)
  obtain ⟨n, hN⟩ : ∃ n, n = its.length := ⟨_, rfl⟩; have HA : Hid (ItemsAt w ia its ∧ n = its.length ∧ g = greatL its) := Lib.hid ⟨hI, hN, hg⟩; rw [← hN] at HGt ⊢
  have hNb : n ≤ 1048576 := by omega
  obtain ⟨w1, hw1⟩ : ∃ W, W = w.alloc (.cells q.cells 23) := ⟨_, rfl⟩; obtain ⟨qb, hqb⟩ : ∃ b, b = w.heap.size := ⟨_, rfl⟩
  have H1 : Hid (RowQ w1 qb q ∧ Below w.heap.size w w1) := by rw [hw1, hqb]; exact Lib.hid (box_q w q)
  have HBq := Lib.hid hqb; clear hI hk hl hN hg hP; obtain ⟨Q, hQ⟩ : ∃ Q, Q = q := ⟨_, rfl⟩; rw [← hQ] at H1; obtain ⟨qr, hqr⟩ : ∃ b, b = Q.rightB := ⟨_, rfl⟩; have HQr := Lib.hid hqr
  have HRq : Hid (∀ w', Calls Tryz.prog 14 #[.agg q.cells] w' (Below0 w' (.bool qr))) := by
    rw [hqr, hQ]; exact Lib.hid (fun w' => rqRight_any w' q)
  have HSt : Hid (∀ w' m pv s x, HasS w' (.agg #[.int .i64 m, pv]) s → comeOk Q s.panes 256 → x.key.length ≤ 1000000 → Calls Tryz.prog 15 #[.agg q.cells, .agg #[.int .i64 m, pv], .agg x.cells] w' (ComeEnd w' (runQ Q s [x]).s (runQ Q s [x]).outs (runQ Q s [x]).e)) := by
    rw [hQ]; exact Lib.hid (fun w' m pv s x h1 h2 h3 => step_of h1 h2 h3)
  have HRt : Hid (∀ w' m pv s, HasS w' (.agg #[.int .i64 m, pv]) s → rightS Q s = true → Calls Tryz.prog 17 #[.agg q.cells, .agg #[.int .i64 m, pv]] w' (Below0 w' (.bool true))) := by
    rw [hQ]; refine Lib.hid (fun w' m pv s h1 h2 => ?_); have h := right_of (q := q) h1 (rightS_ok h2); rw [h2] at h; exact h
  have HVl : Hid (∀ w' (x : PaneV), GoodP w' x → x.p.a.top.length ≤ 1000000 → Calls Tryz.prog 19 #[.agg q.cells, .agg #[.int .i64 x.p.a.n, .int .i64 x.p.a.a, x.tv, x.z]] w' (IntsEnd w' (valueQ Q x.p.a))) := by
    rw [hQ]; exact Lib.hid (fun w' x h1 h2 => avalue_any w' q x.p.a x.tv x.z h1.1 h1.2 h2)
  obtain ⟨kind, size, slide, late, agg, kq⟩ := q
  have HQd : Hid (∀ w', RowQ w' qb Q → D6 w' qb kind size slide late agg kq) := by rw [hQ]; exact Lib.hid (fun w' h => h.d6)
  have HQe : Hid (Q = ⟨kind, size, slide, late, agg, kq⟩) := Lib.hid hQ; clear hQ hqr; unfold QueryL.cells at hw1 HRq HSt HRt HVl ⊢; simp only at hw1 HRq HSt HRt HVl ⊢
  go_enter Tryz.func4, Tryz.ntmps4
  go_upto_region 1 with (fail)
  rw [← hw1, ← hqb]; clear hw1 hqb; go_wp2_with (fail); refine (HF.out w1).mono ?_; rintro e w2 ⟨rfl, hB⟩; have H2 : Hid (RowQ w2 qb Q ∧ Below w.heap.size w w2) := Lib.hid ⟨H1.out.1.below hB, H1.out.2.trans (hB.mono H1.out.2.size)⟩; clear hB H1; dsimp only
  by_cases hgr : 1500 < g
  · go_wp2_with (fail); refine (HGt.out w2 H2.out.2).mono ?_; rintro e w3 ⟨rfl, hB⟩; have HZ := Lib.hid (HYes.out w3 (H2.out.2.trans (hB.mono H2.out.2.size))); clear hB; dsimp only; go_wp2_with (fail); exact HZ.out
  go_wp2_with (fail); refine (HGt.out w2 H2.out.2).mono ?_; rintro e w3 ⟨rfl, hB⟩; have H3 : Hid (RowQ w3 qb Q ∧ Below w.heap.size w w3) := Lib.hid ⟨H2.out.1.below hB, H2.out.2.trans (hB.mono H2.out.2.size)⟩; clear hB H2 HGt; dsimp only
  have HIt : Hid ((∀ x ∈ its, x.key.length ≤ 1000000) ∧ n ≤ 3000) := Lib.hid ⟨fun x hx => by have := greatL_mem hx; have := HA.out.2.2; omega, by have := greatL_length its; have := HA.out.2; omega⟩
  have hn3 : n ≤ 3000 := HIt.out.2; clear hNb; obtain ⟨d0, d1, d2, d3, d4, d5⟩ := HQd.out w3 H3.out.1
  have hgd : decide ((1500 : Int) < (g : Int)) = false := decide_eq_false (by omega)
  clear hgr
  cases qr with
  | false =>
    go_wp2_with (fail); refine (HRq.out w3).mono ?_; rintro e w4 ⟨rfl, hB⟩; have HZ := Lib.hid (HYes.out w4 (H3.out.2.trans (hB.mono H3.out.2.size))); clear hB d0 d1 d2 d3 d4 d5; dsimp only; go_wp2_with (fail); exact HZ.out
  | true =>
  go_wp2_with (fail); refine (HRq.out w3).mono ?_; rintro e w4 ⟨rfl, hB⟩; have H4 : Hid (RowQ w4 qb Q ∧ Below w.heap.size w w4) := Lib.hid ⟨H3.out.1.below hB, H3.out.2.trans (hB.mono H3.out.2.size)⟩; clear hB d0 d1 d2 d3 d4 d5 H3 HRq hgd; dsimp only
  go_upto_region 5 with (fail)
  refine wp_region_lit ?_; refine wpList_plain rfl fun K hK => ?_; go_step; refine (onew_any w4).mono ?_; rintro e w5 ⟨rfl, hB⟩; refine hK _ _ ?_; clear hK; have H5 : Hid (RowQ w5 qb Q ∧ Below w.heap.size w w5) := Lib.hid ⟨H4.out.1.below hB, H4.out.2.trans (hB.mono H4.out.2.size)⟩; clear hB H4
  iterate 3 go_step
  refine wpList_store_row rfl _ _ _ rfl w5.heap.size #[.int .i64 (-1), .slice none 0 0] rfl rfl 29 #[.int .i64 0, nilV] (heap_alloc_new w5 _) state_size rfl (state_one rfl) ?_; obtain ⟨w6, hw6⟩ : ∃ W, W = (w5.alloc (Obj.cells #[.int .i64 0, .slice none 0 0] 29)).setRow w5.heap.size #[.int .i64 (-1), .slice none 0 0] := ⟨_, rfl⟩; obtain ⟨sb, hsb⟩ : ∃ b, b = w5.heap.size := ⟨_, rfl⟩
  have HSb : Hid (w.heap.size ≤ sb ∧ qb < sb) := Lib.hid ⟨by have := H5.out.2.size; omega, by have := H5.out.1.lt; omega⟩
  have H6 : Hid (HoldRel w Q n qb sb (.int .i64 0) w6) := by
    obtain ⟨j1, hB⟩ := stored_state w5 (-1) (.slice none 0 0); have e : w6 = (w5.alloc (Obj.cells #[.int .i64 0, nilV] 29)).setRow w5.heap.size #[.int .i64 (-1), .slice none 0 0] := hw6; rw [← e, ← hsb] at j1; rw [← e] at hB
    exact Lib.hid ⟨0, newS, -1, _, Nat.zero_le _, rfl, H5.out.2.trans (hB.mono H5.out.2.size), H5.out.1.below hB, j1, ⟨_, [], rfl, PanesIn.nil _, fun y hy => by simp at hy, rfl⟩, newS_right HQr.out.symm⟩
  rw [← hw6, ← hsb]; clear hw6 hsb H5; go_wp2_with (fail)
  go_loopw [29] (HoldRel w Q n qb sb) (fun i _ => n - (intOf i).toNat)
  case atStart => exact H6.out
  case round =>
    obtain ⟨j, S, m, pv, hj, rfl, hB, hQ, hS, hH, hR⟩ := hrel; have HB : Hid (Below w.heap.size w wr ∧ RowQ wr qb Q ∧ RowS wr sb m pv ∧ HasS wr (.agg #[.int .i64 m, pv]) S ∧ rightS Q S = true) := Lib.hid ⟨hB, hQ, hS, hH, hR⟩; clear hB hQ hS hH hR; obtain ⟨wa, hwa⟩ : ∃ W, W = wr := ⟨_, rfl⟩; rw [← hwa] at HB ⊢; clear hwa
    by_cases hlt : j < n
    · have hi0 : (0 : Int) ≤ (j : Int) ∧ (j : Int) < (n : Int) := by omega
      obtain ⟨x, pa, po, hx, hsa, c0, c1, c2, c3⟩ := (HA.out.1.below HB.out.1).get (t := j) (by rw [← HA.out.2.1]; exact hlt)
      subst hsa; have HX : Hid (j < n ∧ x.key.length ≤ 1000000) := Lib.hid ⟨hlt, HIt.out.1 x (List.mem_of_getElem? hx)⟩; obtain ⟨X, hX⟩ : ∃ X, X = x := ⟨_, rfl⟩; rw [← hX] at HX; obtain ⟨xd, xk, xt, xv⟩ := x; simp only at c0 c1 c2 c3; have HXe := Lib.hid hX; clear hx hj hlt hX
      go_upto_region 8 with (fail)
      refine wp_region_lit ?_
      iterate 9 go_step
      refine wpList_store_row rfl _ _ _ rfl wa.heap.size #[.int .i64 xd, Sv xk, .int .i64 xt, .int .i64 xv] rfl rfl 42 zeroI.cells (heap_alloc_new wa _) item_size rfl (item_one ⟨xd, xk, xt, xv⟩) ?_; obtain ⟨wb, hwb⟩ : ∃ W, W = (wa.alloc (Obj.cells #[.int .i64 0, .string ⟨#[]⟩, .int .i64 0, .int .i64 0] 42)).setRow wa.heap.size #[.int .i64 xd, Sv xk, .int .i64 xt, .int .i64 xv] := ⟨_, rfl⟩; obtain ⟨xb, hxb⟩ : ∃ b, b = wa.heap.size := ⟨_, rfl⟩
      have H7 : Hid (RowX wb xb X ∧ Below w.heap.size w wb ∧ RowQ wb qb Q ∧ RowS wb sb m pv ∧ HasS wb (.agg #[.int .i64 m, pv]) S ∧ sb < xb) := by
        obtain ⟨k1, k2⟩ := stored_item wa ⟨xd, xk, xt, xv⟩; have e : wb = (wa.alloc (Obj.cells #[.int .i64 0, .string ⟨#[]⟩, .int .i64 0, .int .i64 0] 42)).setRow wa.heap.size (ItemL.mk xd xk xt xv).cells := hwb; rw [← e, ← hxb, ← HXe.out] at k1; rw [← e] at k2; obtain ⟨j1, j2, j3, j4, _⟩ := HB.out
        exact Lib.hid ⟨k1, j1.trans (k2.mono j1.size), j2.below k2, j3.below k2, j4.below k2, by have := j3.lt; omega⟩
      rw [← hwb, ← hxb]; clear hwb hxb c0 c1 c2 c3
      have HXd : Hid (∀ w', RowX w' xb X → DX w' xb xd xk xt xv) := by rw [HXe.out]; exact Lib.hid (fun w' h => h.dx)
      obtain ⟨R, hR⟩ : ∃ R, R = runQ Q S [X] := ⟨_, rfl⟩
      have HR1 : Hid (R = if (stepS Q S X).2.2 = 0 then ⟨(stepS Q S X).1, (stepS Q S X).2.1, 1, 0⟩ else ⟨S, [], 0, (stepS Q S X).2.2⟩) := Lib.hid (hR.trans (run_one Q S X HB.out.2.2.2.2))
      obtain ⟨T, O, z, E⟩ := R
      have HStX : Hid (Calls Tryz.prog 15 #[.agg #[.int .i64 kind, .int .i64 size, .int .i64 slide, .int .i64 late, .int .i64 agg, .int .i64 kq], .agg #[.int .i64 m, pv], .agg #[.int .i64 xd, Sv xk, .int .i64 xt, .int .i64 xv]] wb (ComeEnd wb T O E)) := by
        have h := HSt.out wb m pv S X H7.out.2.2.2.2.1 (rightS_ok HB.out.2.2.2.2) HX.out.2; rw [← hR, HXe.out] at h; exact Lib.hid h
      have HRS := Lib.hid HB.out.2.2.2.2; clear hR HB; obtain ⟨d0, d1, d2, d3, d4, d5⟩ := HQd.out wb H7.out.2.2.1; obtain ⟨e0, e1⟩ := H7.out.2.2.2.1.d2; obtain ⟨x0, x1, x2, x3⟩ := HXd.out wb H7.out.1
      go_upto_region 9 with (fail)
      refine wp_region_lit ?_
      iterate 9 go_step
      refine wpList_plain rfl fun K hK => ?_; go_step; refine HStX.out.mono ?_; rintro e wc ⟨sv, ov, rfl, hS, hO, hB⟩; refine hK _ _ ?_; clear hK HStX d0 d1 d2 d3 d4 d5 e0 e1 x0 x1 x2 x3; obtain ⟨pv2, l2, hsv, hPI, hPG, hPm⟩ := hS; subst hsv; obtain ⟨m2, hm2⟩ : ∃ z, z = T.mark := ⟨_, rfl⟩; rw [← hm2]; obtain ⟨oa, oc, lo, hov, hlo, hOA, hOG, hOe⟩ := hO.open; subst hov; obtain ⟨no, hno⟩ : ∃ n, n = lo.length := ⟨_, rfl⟩; rw [← hno]
      have H8 : Hid (RowX wc xb X ∧ Below w.heap.size w wc ∧ RowQ wc qb Q ∧ RowS wc sb m pv ∧ HasS wc (.agg #[.int .i64 m, pv]) S ∧ PanesIn wc pv2 l2 ∧ (∀ y ∈ l2, GoodP wc y) ∧ OutsAt wc oa lo ∧ ∀ y ∈ lo, GoodO wc y) := by
        obtain ⟨j1, j2, j3, j4, j5, _⟩ := H7.out; exact Lib.hid ⟨j1.below hB, j2.trans (hB.mono j2.size), j3.below hB, j4.below hB, j5.below hB, hPI, hPG, hOA, hOG⟩
      have HPl : Hid (m2 = T.mark ∧ T.panes = l2.map PaneV.p ∧ no = lo.length ∧ lo.length = O.length ∧ O = lo.map OutV.o ∧ sb < xb) := Lib.hid ⟨hm2, hPm, hno, hlo, hOe, H7.out.2.2.2.2.2⟩
      have hob : no ≤ 1000000 := by
        have h := HR1.out
        have h2 := stepS_outs (q := Q) (s := S) (x := X) (n := 256) (rightS_iff.1 HRS.out).2.2.1 (by decide)
        have h3 : O.length ≤ 256 := by
          split at h
          · cases h; exact h2
          · cases h; simp
        omega
      clear hO hB hPI hPG hPm hOA hOG hm2 hno hlo hOe H7
      iterate 15 go_step
      refine wpList_store_row rfl _ _ _ rfl wc.heap.size #[.int .i64 m2, pv2] rfl rfl 29 #[.int .i64 0, nilV] (heap_alloc_new wc _) state_size rfl (state_one H8.out.2.2.2.2.2.1.one) ?_; obtain ⟨wd, hwd⟩ : ∃ W, W = (wc.alloc (Obj.cells #[.int .i64 0, .slice none 0 0] 29)).setRow wc.heap.size #[.int .i64 m2, pv2] := ⟨_, rfl⟩; obtain ⟨tb, htb⟩ : ∃ b, b = wc.heap.size := ⟨_, rfl⟩
      have H9 : Hid (RowX wd xb X ∧ Below w.heap.size w wd ∧ RowQ wd qb Q ∧ RowS wd sb m pv ∧ HasS wd (.agg #[.int .i64 m, pv]) S ∧ PanesIn wd pv2 l2 ∧ (∀ y ∈ l2, GoodP wd y) ∧ OutsAt wd oa lo ∧ (∀ y ∈ lo, GoodO wd y) ∧ RowS wd tb m2 pv2 ∧ HasS wd (.agg #[.int .i64 m2, pv2]) T) := by
        obtain ⟨k1, k2⟩ := stored_state wc m2 pv2; have e : wd = (wc.alloc (Obj.cells #[.int .i64 0, nilV] 29)).setRow wc.heap.size #[.int .i64 m2, pv2] := hwd; rw [← e, ← htb] at k1; rw [← e] at k2; obtain ⟨j1, j2, j3, j4, j5, j6, j7, j8, j9⟩ := H8.out
        exact Lib.hid ⟨j1.below k2, j2.trans (k2.mono j2.size), j3.below k2, j4.below k2, j5.below k2, j6.below k2, fun y hy => (j7 y hy).below k2, j8.below k2, fun y hy => (j9 y hy).below k2, k1, ⟨_, l2, by rw [HPl.out.1], j6.below k2, fun y hy => (j7 y hy).below k2, HPl.out.2.1⟩⟩
      rw [← hwd, ← htb]; clear hwd htb H8
      by_cases hE : E = 0
      · subst hE
        have hyes : stepS Q S X = (T, O, 0) := by
          have h := HR1.out
          split at h
          · rename_i h0
            have h1 := congrArg RunL.s h; have h2 := congrArg RunL.outs h; simp only at h1 h2; rw [h1, h2]; exact Prod.ext rfl (Prod.ext rfl h0)
          · rename_i h0
            have h1 := congrArg RunL.e h; simp only at h1; exact absurd h1.symm h0
        have HOut : Hid (S.mark ≤ T.mark ∧ (∀ o ∈ O, outOk Q S X T o) ∧ rightS Q T = true) := by
          have h1 := stepS_out HRS.out (x := X) (by rw [hyes])
          have h2 := stepS_right HX.out.2 HRS.out (x := X) (by rw [hyes])
          rw [hyes] at h1 h2; exact Lib.hid ⟨h1.1, h1.2, h2⟩
        have hmm : ¬ m2 < m := by
          have := HOut.out.1; have := HPl.out.1; have := (H9.out.2.2.2.2.1).open.1; omega
        have hmd : decide (m2 < m) = false := decide_eq_false hmm; have HRc : Hid (Calls Tryz.prog 17 #[.agg #[.int .i64 kind, .int .i64 size, .int .i64 slide, .int .i64 late, .int .i64 agg, .int .i64 kq], .agg #[.int .i64 m2, pv2]] wd (Below0 wd (.bool true))) := Lib.hid (HRt.out wd m2 pv2 T H9.out.2.2.2.2.2.2.2.2.2.2 HOut.out.2.2); clear hyes; obtain ⟨d0, d1, d2, d3, d4, d5⟩ := HQd.out wd H9.out.2.2.1; obtain ⟨f0, f1⟩ := H9.out.2.2.2.2.2.2.2.2.2.1.d2; go_wp2_with (fail); refine HRc.out.mono ?_; rintro e we ⟨rfl, hB⟩
        have H10 : Hid (RowX we xb X ∧ Below w.heap.size w we ∧ RowQ we qb Q ∧ RowS we sb m pv ∧ HasS we (.agg #[.int .i64 m, pv]) S ∧ PanesIn we pv2 l2 ∧ (∀ y ∈ l2, GoodP we y) ∧ OutsAt we oa lo ∧ (∀ y ∈ lo, GoodO we y) ∧ RowS we tb m2 pv2 ∧ HasS we (.agg #[.int .i64 m2, pv2]) T) := by
          obtain ⟨j1, j2, j3, j4, j5, j6, j7, j8, j9, j10, j11⟩ := H9.out; exact Lib.hid ⟨j1.below hB, j2.trans (hB.mono j2.size), j3.below hB, j4.below hB, j5.below hB, j6.below hB, fun y hy => (j7 y hy).below hB, j8.below hB, fun y hy => (j9 y hy).below hB, j10.below hB, j11.below hB⟩
        clear hB d0 d1 d2 d3 d4 d5 f0 f1 HRc H9; dsimp only; obtain ⟨e0, e1⟩ := H10.out.2.2.2.1.d2; obtain ⟨f0, f1⟩ := H10.out.2.2.2.2.2.2.2.2.2.1.d2; go_wp2_with (fail); clear e0 e1 f0 f1 hmd hmm
        go_loopw [65] (IdxRel we no) (fun i _ => no - (intOf i).toNat)
        case atStart => exact ⟨0, Nat.zero_le _, rfl, Below.refl _ _⟩
        case round =>
          obtain ⟨i, hi, rfl, hB⟩ := hrel; have HB := Lib.hid hB; clear hB; obtain ⟨wf, hwf⟩ : ∃ W, W = wr := ⟨_, rfl⟩; rw [← hwf] at HB ⊢; clear hwf
          by_cases hit : i < no
          · have hi2 : (0 : Int) ≤ (i : Int) ∧ (i : Int) < (no : Int) := by omega
            obtain ⟨y, ob, oo, hy, hsa, c0, c1, c2, c3, c4, c5, c6, c7, c8, c9⟩ := (H10.out.2.2.2.2.2.2.2.1.below HB.out).get (t := i) (by rw [← HPl.out.2.2.1]; exact hit)
            subst hsa; have hym := List.mem_of_getElem? hy
            have HY : Hid (outOk Q S X T y.o ∧ GoodO we y ∧ i < no) := Lib.hid ⟨HOut.out.2.1 y.o (by rw [HPl.out.2.2.2.2.1]; exact List.mem_map.2 ⟨y, hym, rfl⟩), H10.out.2.2.2.2.2.2.2.2.1 y hym, hit⟩
            clear hy hym hi hit; obtain ⟨Y, hY⟩ : ∃ Y, Y = y := ⟨_, rfl⟩; rw [← hY] at HY; obtain ⟨⟨lt, ⟨yd, yk, yt, yv⟩, ⟨wk, wl, wh⟩, rd, vs⟩, tv, ht⟩ := y; simp only at c0 c1 c2 c3 c4 c5 c6 c7 c8 c9; have HYe := Lib.hid hY; clear hY; have HTv := Lib.hid ht
            go_upto_region 17 with (fail)
            refine wp_region_lit ?_
            iterate 9 go_step
            refine wpList_store_row rfl _ _ _ rfl wf.heap.size #[.bool lt, .int .i64 yd, Sv yk, .int .i64 yt, .int .i64 yv, Sv wk, .int .i64 wl, .int .i64 wh, .int .i64 rd, tv] rfl rfl 50 zeroOV.cells (heap_alloc_new wf _) out_size rfl (out_one ⟨⟨lt, ⟨yd, yk, yt, yv⟩, ⟨wk, wl, wh⟩, rd, vs⟩, tv, HTv.out⟩) ?_; obtain ⟨wg, hwg⟩ : ∃ W, W = (wf.alloc (Obj.cells zeroOV.cells 50)).setRow wf.heap.size #[.bool lt, .int .i64 yd, Sv yk, .int .i64 yt, .int .i64 yv, Sv wk, .int .i64 wl, .int .i64 wh, .int .i64 rd, tv] := ⟨_, rfl⟩; obtain ⟨yb, hyb⟩ : ∃ b, b = wf.heap.size := ⟨_, rfl⟩
            have H11 : Hid (RowO wg yb Y ∧ Below we.heap.size we wg ∧ we.heap.size ≤ yb) := by
              obtain ⟨k1, k2⟩ := stored_out wf ⟨⟨lt, ⟨yd, yk, yt, yv⟩, ⟨wk, wl, wh⟩, rd, vs⟩, tv, HTv.out⟩; have e : wg = (wf.alloc (Obj.cells zeroOV.cells 50)).setRow wf.heap.size (OutV.mk ⟨lt, ⟨yd, yk, yt, yv⟩, ⟨wk, wl, wh⟩, rd, vs⟩ tv HTv.out).cells := hwg; rw [← e, ← hyb, ← HYe.out] at k1; rw [← e] at k2
              exact Lib.hid ⟨k1, HB.out.trans (k2.mono HB.out.size), by rw [hyb]; exact HB.out.size⟩
            rw [show ((wf.alloc (Obj.cells #[.bool false, .int .i64 0, .string ⟨#[]⟩, .int .i64 0, .int .i64 0, .string ⟨#[]⟩, .int .i64 0, .int .i64 0, .int .i64 0, .slice none 0 0] 50)).setRow wf.heap.size #[.bool lt, .int .i64 yd, Sv yk, .int .i64 yt, .int .i64 yv, Sv wk, .int .i64 wl, .int .i64 wh, .int .i64 rd, tv]) = wg from hwg.symm, ← hyb]; clear hwg hyb c0 c1 c2 c3 c4 c5 c6 c7 c8 c9 HB
            have HYd : Hid (∀ w', RowO w' yb Y → w'.cell? ⟨yb, 0, none⟩ = some (.bool lt) ∧ w'.cell? ⟨yb, 1, none⟩ = some (.int .i64 yd) ∧ w'.cell? ⟨yb, 2, none⟩ = some (Sv yk) ∧ w'.cell? ⟨yb, 3, none⟩ = some (.int .i64 yt) ∧ w'.cell? ⟨yb, 4, none⟩ = some (.int .i64 yv) ∧ w'.cell? ⟨yb, 5, none⟩ = some (Sv wk) ∧ w'.cell? ⟨yb, 6, none⟩ = some (.int .i64 wl) ∧ w'.cell? ⟨yb, 7, none⟩ = some (.int .i64 wh) ∧ w'.cell? ⟨yb, 8, none⟩ = some (.int .i64 rd) ∧ w'.cell? ⟨yb, 9, none⟩ = some tv) := by
              rw [HYe.out]; exact Lib.hid (fun w' h => ⟨h.cell 0 rfl, h.cell 1 rfl, h.cell 2 rfl, h.cell 3 rfl, h.cell 4 rfl, h.cell 5 rfl, h.cell 6 rfl, h.cell 7 rfl, h.cell 8 rfl, h.cell 9 rfl⟩)
            cases lt with
            | true =>
              have hee : Y.o.item = X ∧ T = S := HY.out.1.1 (by rw [HYe.out])
              rw [HYe.out, HXe.out] at hee; simp only [ItemL.mk.injEq] at hee; obtain ⟨⟨rfl, rfl, rfl, rfl⟩, hTS⟩ := hee
              have HSm : Hid (Calls Tryz.prog 16 #[.agg #[.int .i64 m, pv], .agg #[.int .i64 m2, pv2]] wg (Below0 wg (.bool true))) := by
                have h := same_of (H10.out.2.2.2.2.1.below H11.out.2.1) (H10.out.2.2.2.2.2.2.2.2.2.2.below H11.out.2.1) (rightS_ok HRS.out) (rightS_ok HOut.out.2.2); rw [decide_eq_true hTS.symm] at h; exact Lib.hid h
              clear hTS
              have hne : ∀ w', (binOp .neq 42 (.agg #[.int .i64 yd, Sv yk, .int .i64 yt, .int .i64 yv]) (.agg #[.int .i64 yd, Sv yk, .int .i64 yt, .int .i64 yv])).run Tryz.prog w' = .ok (.bool false) w' := fun w' => by
                have h := run_neq_item w' ⟨yd, yk, yt, yv⟩ ⟨yd, yk, yt, yv⟩; rw [(sameI_iff _ _).2 rfl] at h; exact h
              have hgd : ∀ w' op o1 o2, (eqGuard op 42 o1 o2 (.agg #[.int .i64 yd, Sv yk, .int .i64 yt, .int .i64 yv]) (.agg #[.int .i64 yd, Sv yk, .int .i64 yt, .int .i64 yv])).run Tryz.prog w' = .ok () w' := fun w' op o1 o2 => run_guard_item w' op o1 o2 ⟨yd, yk, yt, yv⟩ ⟨yd, yk, yt, yv⟩; obtain ⟨e0, e1⟩ := (H10.out.2.2.2.1.below H11.out.2.1).d2; obtain ⟨f0, f1⟩ := (H10.out.2.2.2.2.2.2.2.2.2.1.below H11.out.2.1).d2; obtain ⟨x0, x1, x2, x3⟩ := HXd.out wg (H10.out.1.below H11.out.2.1); obtain ⟨y0, y1, y2, y3, y4, _⟩ := HYd.out wg H11.out.1; go_wp2_with (fail); refine HSm.out.mono ?_; rintro e wh_ ⟨rfl, hB⟩
              have HZ : Hid (IdxRel we no (.int .i64 ((i : Int) + 1)) wh_) := Lib.hid ⟨i + 1, by have := HY.out.2.2; omega, by go_num, H11.out.2.1.trans (hB.mono H11.out.2.1.size)⟩
              have HJn := Lib.hid HY.out.2.2; clear hB e0 e1 f0 f1 x0 x1 x2 x3 y0 y1 y2 y3 y4 HSm hne hgd; dsimp only; go_wp2_with (fail); go_roundw
              case rel => exact HZ.out
              case measure => have := HJn.out; simp [intOf]; omega
            | false =>
              obtain ⟨hfa, hfb, hfc⟩ := HY.out.1.2 (by rw [HYe.out])
              rw [HYe.out] at hfb hfc; simp only at hfb hfc
              have hlq : 0 ≤ late ∧ late ≤ 1099511627776 := by
                have h := rightQ_cases HQr.out.symm; rw [HQe.out] at h; simp only at h; omega
              have hm40 : m2 ≤ 1099511627776 := by
                have h := (rightS_iff.1 HOut.out.2.2).2.1; have := HPl.out.1; omega
              have hw40 : 0 ≤ wh ∧ wh ≤ 1099511627776 := by
                have := HPl.out.1; omega
              obtain ⟨f0_, hf0⟩ : ∃ b, b = decide (wh + late ≤ m2) := ⟨_, rfl⟩; have hge : decide (m2 ≥ wh + late) = f0_ := hf0.symm; have hge2 : decide (wh + late ≤ m2) = f0_ := hf0.symm
              have HF0 : Hid ((f0_ || l2.any (fun x => FndB Q Y.o x.p)) = true) := by
                have h := found_yes HY.out.1 (by rw [HYe.out]) HPl.out.2.1
                rw [← HPl.out.1, HYe.out, HQe.out] at h; rw [hf0, HYe.out, HQe.out]; exact Lib.hid h
              clear hf0 hfa; obtain ⟨pa2, pc2, l3, hpv2, hPA, hPG, hPm⟩ := H10.out.2.2.2.2.2.2.2.2.2.2.open.2
              have hl32 : l3.map PaneV.p = l2.map PaneV.p := by rw [← hPm, HPl.out.2.1]
              have HF1 : Hid ((f0_ || l3.any (fun x => FndB Q Y.o x.p)) = true) := by
                have e : ∀ l : List PaneV, l.any (fun x => FndB Q Y.o x.p) = (l.map PaneV.p).any (FndB Q Y.o) := fun l => by rw [List.any_map]; rfl
                rw [e, hl32, ← e]; exact HF0
              obtain ⟨np, hnp⟩ : ∃ n, n = l3.length := ⟨_, rfl⟩; rw [← hnp] at hpv2; subst hpv2
              have hnb : np ≤ 256 := by
                have h := (rightS_iff.1 HOut.out.2.2).2.2.1; rw [hPm, List.length_map] at h; omega
              have HPn : Hid (PanesAt we pa2 l3 ∧ (∀ x ∈ l3, GoodP we x) ∧ np = l3.length ∧ ∀ x ∈ l3, x.p.a.top.length ≤ 1000000) := by
                refine Lib.hid ⟨hPA, hPG, hnp, fun x hx => ?_⟩
                have h := (rightS_ok HOut.out.2.2).2.1 x.p (by rw [hPm]; exact List.mem_map.2 ⟨x, hx, rfl⟩)
                exact h.2.2
              clear hPA hPG hPm hnp hl32 HF0; obtain ⟨d0, d1, d2, d3, d4, d5⟩ := HQd.out wg (H10.out.2.2.1.below H11.out.2.1); obtain ⟨f0, f1⟩ := (H10.out.2.2.2.2.2.2.2.2.2.1.below H11.out.2.1).d2; obtain ⟨y0, y1, y2, y3, y4, y5, y6, y7, y8, y9⟩ := HYd.out wg H11.out.1; go_wp2_with (fail); clear d0 d1 d2 d3 d4 d5 f0 f1 y0 y1 y2 y3 y4 y5 y6 y7 y8 y9
              go_loopw [13, 93] (FndRel wg Q Y.o f0_ l3) (fun _ i _ => np - (intOf i).toNat)
              case atStart => exact ⟨0, Nat.zero_le _, rfl, by rw [List.take_zero, List.any_nil, Bool.or_false], Below.refl _ _⟩
              case round =>
                obtain ⟨p, hp, rfl, hf, hB⟩ := hrel
                obtain ⟨b, hb⟩ : ∃ b, b = (f0_ || (l3.take p).any (fun x => FndB Q Y.o x.p)) := ⟨_, rfl⟩
                rw [← hb] at hf; subst hf; rw [← HPn.out.2.2.1] at hp; have HB := Lib.hid (And.intro hB hb); clear hB hb; obtain ⟨wi, hwi⟩ : ∃ W, W = wr := ⟨_, rfl⟩; rw [← hwi] at HB ⊢; clear hwi
                by_cases hpt : p < np
                · have hp2 : (0 : Int) ≤ (p : Int) ∧ (p : Int) < (np : Int) := by omega
                  have HWg : Hid (Below we.heap.size we wi) := Lib.hid (H11.out.2.1.trans (HB.out.1.mono H11.out.2.1.size))
                  obtain ⟨v, vb, vo, hv, hsa, c0, c1, c2, c3, c4, c5, c6, c7⟩ := (HPn.out.1.below HWg.out).get (t := p) (by rw [← HPn.out.2.2.1]; exact hpt)
                  subst hsa; have hvm := List.mem_of_getElem? hv; obtain ⟨V, hV⟩ : ∃ V, V = v := ⟨_, rfl⟩
                  have HV : Hid (GoodP we V ∧ V.p.a.top.length ≤ 1000000 ∧ p < np ∧ (l3.take (p + 1)).any (fun x => FndB Q Y.o x.p) = ((l3.take p).any (fun x => FndB Q Y.o x.p) || FndB Q Y.o V.p)) := by
                    rw [hV]; exact Lib.hid ⟨HPn.out.2.1 v hvm, HPn.out.2.2.2 v hvm, hpt, any_take hv⟩
                  clear hv hvm hp hpt; obtain ⟨⟨⟨vk, vl, vh⟩, ⟨an, aa, at_, au, av⟩, vr⟩, vt, vz, h1_, h2_⟩ := v; simp only at c0 c1 c2 c3 c4 c5 c6 c7; have HVe := Lib.hid hV; have Hh := Lib.hid (And.intro h1_ h2_); clear hV
                  go_upto_region 24 with (fail)
                  refine wp_region_lit ?_
                  iterate 9 go_step
                  refine wpList_store_row rfl _ _ _ rfl wi.heap.size #[Sv vk, .int .i64 vl, .int .i64 vh, .int .i64 an, .int .i64 aa, vt, vz, .int .i64 vr] rfl rfl 55 zeroPV.cells (heap_alloc_new wi _) pane_size rfl (pane_one ⟨⟨⟨vk, vl, vh⟩, ⟨an, aa, at_, au, av⟩, vr⟩, vt, vz, Hh.out.1, Hh.out.2⟩) ?_; obtain ⟨wj, hwj⟩ : ∃ W, W = (wi.alloc (Obj.cells zeroPV.cells 55)).setRow wi.heap.size #[Sv vk, .int .i64 vl, .int .i64 vh, .int .i64 an, .int .i64 aa, vt, vz, .int .i64 vr] := ⟨_, rfl⟩; obtain ⟨pb, hpb⟩ : ∃ b, b = wi.heap.size := ⟨_, rfl⟩
                  have H13 : Hid (RowP wj pb V ∧ Below wg.heap.size wg wj ∧ Below we.heap.size we wj) := by
                    obtain ⟨k1, k2⟩ := stored_pane wi ⟨⟨⟨vk, vl, vh⟩, ⟨an, aa, at_, au, av⟩, vr⟩, vt, vz, Hh.out.1, Hh.out.2⟩; have e : wj = (wi.alloc (Obj.cells zeroPV.cells 55)).setRow wi.heap.size (PaneV.mk ⟨⟨vk, vl, vh⟩, ⟨an, aa, at_, au, av⟩, vr⟩ vt vz Hh.out.1 Hh.out.2).cells := hwj; rw [← e, ← hpb, ← HVe.out] at k1; rw [← e] at k2; exact Lib.hid ⟨k1, HB.out.1.trans (k2.mono HB.out.1.size), HWg.out.trans (k2.mono HWg.out.size)⟩
                  rw [show ((wi.alloc (Obj.cells #[.string ⟨#[]⟩, .int .i64 0, .int .i64 0, .int .i64 0, .int .i64 0, .slice none 0 0, .complex .f64 0 0, .int .i64 0] 55)).setRow wi.heap.size #[Sv vk, .int .i64 vl, .int .i64 vh, .int .i64 an, .int .i64 aa, vt, vz, .int .i64 vr]) = wj from hwj.symm, ← hpb]; clear hwj hpb c0 c1 c2 c3 c4 c5 c6 c7
                  have HFn : Hid (∀ r w', Below wj.heap.size wj w' → r = (b || FndB Q Y.o V.p) → FndRel wg Q Y.o f0_ l3 (.bool r) (.int .i64 ((p : Int) + 1)) w') := by
                    refine Lib.hid (fun r w' h hr => ⟨p + 1, by have := HV.out.2.2.1; have := HPn.out.2.2.1; omega, by go_num, ?_, H13.out.2.1.trans (h.mono H13.out.2.1.size)⟩)
                    rw [hr, HV.out.2.2.2, HB.out.2, Bool.or_assoc]
                  have HJn := Lib.hid HV.out.2.2.1; clear HB
                  have HVd : Hid (∀ w', RowP w' pb V → w'.cell? ⟨pb, 0, none⟩ = some (Sv vk) ∧ w'.cell? ⟨pb, 1, none⟩ = some (.int .i64 vl) ∧ w'.cell? ⟨pb, 2, none⟩ = some (.int .i64 vh) ∧ w'.cell? ⟨pb, 3, none⟩ = some (.int .i64 an) ∧ w'.cell? ⟨pb, 4, none⟩ = some (.int .i64 aa) ∧ w'.cell? ⟨pb, 5, none⟩ = some vt ∧ w'.cell? ⟨pb, 6, none⟩ = some vz ∧ w'.cell? ⟨pb, 7, none⟩ = some (.int .i64 vr)) := by
                    rw [HVe.out]; exact Lib.hid (fun w' h => ⟨h.cell 0 rfl, h.cell 1 rfl, h.cell 2 rfl, h.cell 3 rfl, h.cell 4 rfl, h.cell 5 rfl, h.cell 6 rfl, h.cell 7 rfl⟩)
                  have HCl : Hid (∀ w', Below wj.heap.size wj w' → (w'.cell? ⟨pb, 0, none⟩ = some (Sv vk) ∧ w'.cell? ⟨pb, 1, none⟩ = some (.int .i64 vl) ∧ w'.cell? ⟨pb, 2, none⟩ = some (.int .i64 vh) ∧ w'.cell? ⟨pb, 3, none⟩ = some (.int .i64 an) ∧ w'.cell? ⟨pb, 4, none⟩ = some (.int .i64 aa) ∧ w'.cell? ⟨pb, 5, none⟩ = some vt ∧ w'.cell? ⟨pb, 6, none⟩ = some vz ∧ w'.cell? ⟨pb, 7, none⟩ = some (.int .i64 vr)) ∧
                      (w'.cell? ⟨yb, 5, none⟩ = some (Sv wk) ∧ w'.cell? ⟨yb, 6, none⟩ = some (.int .i64 wl) ∧ w'.cell? ⟨yb, 7, none⟩ = some (.int .i64 wh) ∧ w'.cell? ⟨yb, 8, none⟩ = some (.int .i64 rd) ∧ w'.cell? ⟨yb, 9, none⟩ = some tv) ∧ D6 w' qb kind size slide late agg kq) := by
                    refine Lib.hid (fun w' h => ⟨HVd.out w' (H13.out.1.below h), ?_, HQd.out w' (H10.out.2.2.1.below (H13.out.2.2.trans (h.mono H13.out.2.2.size)))⟩); have hb := H13.out.2.1.trans (h.mono H13.out.2.1.size); obtain ⟨_, _, _, _, _, k5, k6, k7, k8, k9⟩ := HYd.out w' (H11.out.1.below hb); exact ⟨k5, k6, k7, k8, k9⟩
                  have HGj : Hid (Below wj.heap.size wj wj.drew) := (Below.refl _ wj).drew
                  cases b with
                  | true =>
                    have HZ : Hid (∀ w', Below wj.heap.size wj w' → FndRel wg Q Y.o f0_ l3 (.bool true) (.int .i64 ((p : Int) + 1)) w') := Lib.hid (fun w' h => HFn.out true w' h rfl)
                    go_upto_region 25 with (fail)
                    refine wp_region_skip_frame (fun i => ([2, 3, 4, 5, 6, 7, 8, 9, 10, 11, 12, 13, 14, 15, 16, 17, 18, 19, 20, 21, 22] : List Nat).contains i) (by kernel_rfl) [none, none, none, none, none, none, none, none, none, none, none, none, none, none, none, none, none, none, none, none, none, none, none, none, none] [] (fun i_ _ _ v_ => v_ = (((Value.bool true) :: (Value.bool true) :: undef :: undef :: undef :: undef :: undef :: undef :: undef :: undef :: undef :: undef :: undef :: undef :: undef :: undef :: undef :: undef :: undef :: undef :: undef :: undef :: undef :: (Value.bool true) :: (Value.bool true) :: ([] : List Value))).getD i_ undef) (fun _ w' => Below wj.heap.size wj w') (fun w w' => Below w.heap.size w w') (fun _ _ _ _ _ _ h => h) (by kernel_rfl) (by kernel_rfl) (by kernel_rfl) HGj.out (fun _ => ⟨rfl, rfl, fun _ _ h => .inl h, fun _ _ h => .inl h, fun _ _ h => .inl h, fun _ _ h => .inl h, fun _ _ h => .inl h, fun _ _ h => .inl h, fun _ _ h => .inr ⟨rfl, h⟩, fun _ _ h => .inr ⟨rfl, h⟩, fun _ _ h => .inr ⟨rfl, h⟩, fun _ _ h => .inr ⟨rfl, h⟩, fun _ _ h => .inr ⟨rfl, h⟩, fun _ _ h => .inl h, fun _ _ h => .inl h, fun _ _ h => .inr ⟨rfl, h⟩, fun _ _ h => .inr ⟨rfl, h⟩, fun _ _ h => .inr ⟨rfl, h⟩, fun _ _ h => .inr ⟨rfl, h⟩, fun _ _ h => .inr ⟨rfl, h⟩, fun _ _ h => .inr ⟨rfl, h⟩, fun _ _ h => .inr ⟨rfl, h⟩, fun _ _ h => .inl h, rfl, rfl, trivial⟩) (fun i hi => by have hm := List.contains_iff_mem.1 hi; simp only [List.mem_cons, List.not_mem_nil, or_false] at hm; rcases hm with rfl | rfl | rfl | rfl | rfl | rfl | rfl | rfl | rfl | rfl | rfl | rfl | rfl | rfl | rfl | rfl | rfl | rfl | rfl | rfl | rfl <;> exact ⟨rfl, fun _ _ => rfl⟩) ?_ ?_
                    · refine ⟨?_, ?_, ?_, ?_, ?_, ?_, ?_, ?_, ?_, ?_, ?_, ?_, ?_, ?_, ?_, ?_, ?_, ?_, ?_, ?_, ?_, ?_, ?_, ?_, ?_, trivial⟩
                      · intro _ _ a w' hG hout hpre K hK; have q13 := ev_of ((hout 13 rfl).trans (show _ = .bool true from rfl)); clear hout hpre; go_step; exact hK _ _ rfl hG (Below.refl _ _)
                      · intro _ _ a w' hG hout hpre K hK; obtain ⟨p0, _⟩ := hpre; have q97 := ev_of (show a.eval (.tmp 97) = .bool true from p0); clear hout p0; go_step; exact hK _ _ rfl hG (Below.refl _ _)
                      · exact fun h => absurd h (by decide)
                      · exact fun h => absurd h (by decide)
                      · exact fun h => absurd h (by decide)
                      · exact fun h => absurd h (by decide)
                      · exact fun h => absurd h (by decide)
                      · exact fun h => absurd h (by decide)
                      · exact fun h => absurd h (by decide)
                      · exact fun h => absurd h (by decide)
                      · exact fun h => absurd h (by decide)
                      · exact fun h => absurd h (by decide)
                      · exact fun h => absurd h (by decide)
                      · exact fun h => absurd h (by decide)
                      · exact fun h => absurd h (by decide)
                      · exact fun h => absurd h (by decide)
                      · exact fun h => absurd h (by decide)
                      · exact fun h => absurd h (by decide)
                      · exact fun h => absurd h (by decide)
                      · exact fun h => absurd h (by decide)
                      · exact fun h => absurd h (by decide)
                      · exact fun h => absurd h (by decide)
                      · exact fun h => absurd h (by decide)
                      · intro _ _ a w' hG hout hpre K hK; obtain ⟨p0, p1, _⟩ := hpre; have q98 := ev_of (show a.eval (.tmp 98) = .bool true from p0); have q119 := ev_of (show a.eval (.tmp 119) = undef from p1); clear hout p0 p1; go_step; exact hK _ _ rfl hG (Below.refl _ _)
                      · intro _ _ a w' hG hout hpre K hK; obtain ⟨p0, _⟩ := hpre; have q120 := ev_of (show a.eval (.tmp 120) = .bool true from p0); clear hout p0; go_step; exact hK _ _ rfl hG (Below.refl _ _)
                    · intro vs w2 hG hlen hV
                      match vs, hlen, hV with
                      | [v0, v1, v2, v3, v4, v5, v6, v7, v8, v9, v10, v11, v12, v13, v14, v15, v16, v17, v18, v19, v20, v21, v22, v23, v24], _, hV =>
                        obtain rfl : v24 = .bool true := (hV 24 13 v24 rfl rfl); clear hV; simp only [putsL, List.tail_cons, List.headD_cons]; simp only [Act.put, List.setIfInBounds_toArray, List.set_cons_succ, List.set_cons_zero]; have HZ2 := Lib.hid (HZ.out w2 hG); clear hG; go_wp2_with (fail); go_roundw
                        case rel => exact HZ2.out
                        case measure => have := HJn.out; simp [intOf]; omega
                  | false =>
                    obtain ⟨bw, hbw⟩ : ∃ b, b = decide ((⟨vk, vl, vh⟩ : WindowL) = ⟨wk, wl, wh⟩) := ⟨_, rfl⟩; obtain ⟨br, hbr⟩ : ∃ b, b = decide (vr = rd) := ⟨_, rfl⟩; obtain ⟨bv, hbv⟩ : ∃ b, b = decide (valueQ Q V.p.a = Y.o.v) := ⟨_, rfl⟩
                    have HFb : Hid (FndB Q Y.o V.p = (bw && (br && bv))) := by
                      unfold FndB; rw [hbv, hbr, hbw, HVe.out, HYe.out]; exact Lib.hid rfl
                    have HZ : Hid (∀ w', Below wj.heap.size wj w' → FndRel wg Q Y.o f0_ l3 (.bool (bw && (br && bv))) (.int .i64 ((p : Int) + 1)) w') := Lib.hid (fun w' h => HFn.out _ w' h (by rw [HFb.out]; rfl))
                    obtain ⟨VW, hVW⟩ : ∃ V, V = Value.agg #[Sv vk, .int .i64 vl, .int .i64 vh] := ⟨_, rfl⟩; obtain ⟨UW, hUW⟩ : ∃ V, V = Value.agg #[Sv wk, .int .i64 wl, .int .i64 wh] := ⟨_, rfl⟩
                    have HVW : Hid (VW = Value.agg #[Sv vk, .int .i64 vl, .int .i64 vh] ∧ UW = Value.agg #[Sv wk, .int .i64 wl, .int .i64 wh] ∧ (∀ w, (binOp .eql 47 VW UW).run Tryz.prog w = .ok (.bool bw) w) ∧ ∀ w op o1 o2, (eqGuard op 47 o1 o2 VW UW).run Tryz.prog w = .ok () w) := by
                      refine Lib.hid ⟨hVW, hUW, ?_, ?_⟩
                      · intro w; rw [hVW, hUW, hbw]
                        exact (run_eql_window w ⟨vk, vl, vh⟩ ⟨wk, wl, wh⟩).trans (by congr 2; exact Bool.eq_iff_iff.2 ((sameW_iff _ _).trans decide_eq_true_iff.symm))
                      · intro w op o1 o2; rw [hVW, hUW]; exact run_guard_window w op o1 o2 ⟨vk, vl, vh⟩ ⟨wk, wl, wh⟩
                    have HVA : Hid (∀ w', Below wj.heap.size wj w' → Calls Tryz.prog 19 #[.agg #[.int .i64 kind, .int .i64 size, .int .i64 slide, .int .i64 late, .int .i64 agg, .int .i64 kq], .agg #[.int .i64 an, .int .i64 aa, vt, vz]] w' (IntsEnd w' (valueQ Q V.p.a))) := by
                      refine Lib.hid (fun w' h => ?_); have h2 := HVl.out w' V ((HV.out.1.below H13.out.2.2).below h) HV.out.2.1; rw [HVe.out] at h2 ⊢; exact h2
                    have HSI : Hid (∀ w' t1, Below wj.heap.size wj w' → IntsAt w' t1 (valueQ Q V.p.a) → Calls Tryz.prog 18 #[t1, tv] w' (Below0 w' (.bool bv))) := by
                      refine Lib.hid (fun w' t1 h h1 => ?_)
                      have hg : IntsAt w' tv Y.o.v := by
                        have hg := (HY.out.2.1.below H13.out.2.2).below h; rw [HYe.out] at hg ⊢; exact hg
                      have h2 := rsameInts_any w' t1 tv (valueQ Q V.p.a) Y.o.v h1 hg (valueQ_len HV.out.2.1); rw [← hbv] at h2; exact h2
                    clear hVW hUW hbw hbv HFn
                    cases bw with
                    | false =>
                      go_upto_region 25 with (fail)
                      refine wp_region_skip_frame (fun i => ([8, 9, 10, 11, 12, 15, 16, 17, 18, 19, 20, 21] : List Nat).contains i) (by kernel_rfl) [none, none, none, none, none, none, none, none, none, none, none, none, none, none, none, none, none, none, none, none, none, none, none, none, none] [] (fun i_ _ _ v_ => v_ = (((Value.bool false) :: (Value.bool false) :: (Value.pointer (some ⟨pb, 0, none⟩)) :: VW :: (Value.pointer (some ⟨yb, 5, none⟩)) :: UW :: (Value.bool false) :: (Value.bool false) :: undef :: undef :: undef :: undef :: undef :: (Value.bool false) :: (Value.bool false) :: undef :: undef :: undef :: undef :: undef :: undef :: undef :: (Value.bool false) :: (Value.bool false) :: (Value.bool false) :: ([] : List Value))).getD i_ undef) (fun _ w' => Below wj.heap.size wj w') (fun w w' => Below w.heap.size w w') (fun _ _ _ _ _ _ h => h) (by kernel_rfl) (by kernel_rfl) (by kernel_rfl) HGj.out (fun _ => ⟨rfl, rfl, fun _ _ h => .inl h, fun _ _ h => .inl h, fun _ _ h => .inl h, fun _ _ h => .inl h, fun _ _ h => .inl h, fun _ _ h => .inl h, fun _ _ h => .inl h, fun _ _ h => .inl h, fun _ _ h => .inl h, fun _ _ h => .inl h, fun _ _ h => .inl h, fun _ _ h => .inl h, fun _ _ h => .inl h, fun _ _ h => .inl h, fun _ _ h => .inl h, fun _ _ h => .inl h, fun _ _ h => .inl h, fun _ _ h => .inl h, fun _ _ h => .inl h, fun _ _ h => .inl h, fun _ _ h => .inl h, rfl, rfl, trivial⟩) (fun i hi => by have hm := List.contains_iff_mem.1 hi; simp only [List.mem_cons, List.not_mem_nil, or_false] at hm; rcases hm with rfl | rfl | rfl | rfl | rfl | rfl | rfl | rfl | rfl | rfl | rfl | rfl <;> exact ⟨rfl, fun _ _ => rfl⟩) ?_ ?_
                      · refine ⟨?_, ?_, ?_, ?_, ?_, ?_, ?_, ?_, ?_, ?_, ?_, ?_, ?_, ?_, ?_, ?_, ?_, ?_, ?_, ?_, ?_, ?_, ?_, ?_, ?_, trivial⟩
                        · intro _ _ a w' hG hout hpre K hK; have q13 := ev_of ((hout 13 rfl).trans (show _ = .bool false from rfl)); clear hout hpre; go_step; exact hK _ _ rfl hG (Below.refl _ _)
                        · intro _ _ a w' hG hout hpre K hK; obtain ⟨p0, _⟩ := hpre; have q97 := ev_of (show a.eval (.tmp 97) = .bool false from p0); clear hout p0; go_step; exact hK _ _ rfl hG (Below.refl _ _)
                        · intro _ _ a w' hG hout hpre K hK; have q15 := ev_of ((hout 15 rfl).trans (show _ = .pointer (some ⟨pb, 0, none⟩) from rfl)); clear hout hpre; go_step; exact hK _ _ rfl hG (Below.refl _ _)
                        · intro _ _ a w' hG hout hpre K hK; obtain ⟨p0, _⟩ := hpre; have q99 := ev_of (show a.eval (.tmp 99) = .pointer (some ⟨pb, 0, none⟩) from p0); obtain ⟨⟨d0, d1, d2, d3, d4, d5, d6, d7⟩, ⟨y5, y6, y7, y8, y9⟩, ⟨q0, q1, q2, q3, q4, q5⟩⟩ := HCl.out w' hG; clear hout p0; go_step; exact hK _ _ HVW.out.1.symm hG (Below.refl _ _)
                        · intro _ _ a w' hG hout hpre K hK; have q12 := ev_of ((hout 12 rfl).trans (show _ = .pointer (some ⟨yb, 0, none⟩) from rfl)); clear hout hpre; go_step; exact hK _ _ rfl hG (Below.refl _ _)
                        · intro _ _ a w' hG hout hpre K hK; obtain ⟨p0, _⟩ := hpre; have q101 := ev_of (show a.eval (.tmp 101) = .pointer (some ⟨yb, 5, none⟩) from p0); obtain ⟨⟨d0, d1, d2, d3, d4, d5, d6, d7⟩, ⟨y5, y6, y7, y8, y9⟩, ⟨q0, q1, q2, q3, q4, q5⟩⟩ := HCl.out w' hG; clear hout p0; go_step; exact hK _ _ HVW.out.2.1.symm hG (Below.refl _ _)
                        · intro _ _ a w' hG hout hpre K hK; obtain ⟨p0, p1, _⟩ := hpre; have q100 := ev_of (show a.eval (.tmp 100) = VW from p0); have q102 := ev_of (show a.eval (.tmp 102) = UW from p1); have he := HVW.out.2.2.1; have hgd := HVW.out.2.2.2; clear hout p0 p1; go_step; exact hK _ _ rfl hG (Below.refl _ _)
                        · intro _ _ a w' hG hout hpre K hK; obtain ⟨p0, _⟩ := hpre; have q103 := ev_of (show a.eval (.tmp 103) = .bool false from p0); clear hout p0; go_step; exact hK _ _ rfl hG (Below.refl _ _)
                        · exact fun h => absurd h (by decide)
                        · exact fun h => absurd h (by decide)
                        · exact fun h => absurd h (by decide)
                        · exact fun h => absurd h (by decide)
                        · exact fun h => absurd h (by decide)
                        · intro _ _ a w' hG hout hpre K hK; obtain ⟨p0, p1, _⟩ := hpre; have q104 := ev_of (show a.eval (.tmp 104) = .bool false from p0); have q109 := ev_of (show a.eval (.tmp 109) = undef from p1); clear hout p0 p1; go_step; exact hK _ _ rfl hG (Below.refl _ _)
                        · intro _ _ a w' hG hout hpre K hK; obtain ⟨p0, _⟩ := hpre; have q110 := ev_of (show a.eval (.tmp 110) = .bool false from p0); clear hout p0; go_step; exact hK _ _ rfl hG (Below.refl _ _)
                        · exact fun h => absurd h (by decide)
                        · exact fun h => absurd h (by decide)
                        · exact fun h => absurd h (by decide)
                        · exact fun h => absurd h (by decide)
                        · exact fun h => absurd h (by decide)
                        · exact fun h => absurd h (by decide)
                        · exact fun h => absurd h (by decide)
                        · intro _ _ a w' hG hout hpre K hK; obtain ⟨p0, p1, _⟩ := hpre; have q111 := ev_of (show a.eval (.tmp 111) = .bool false from p0); have q118 := ev_of (show a.eval (.tmp 118) = undef from p1); clear hout p0 p1; go_step; exact hK _ _ rfl hG (Below.refl _ _)
                        · intro _ _ a w' hG hout hpre K hK; obtain ⟨p0, p1, _⟩ := hpre; have q98 := ev_of (show a.eval (.tmp 98) = .bool false from p0); have q119 := ev_of (show a.eval (.tmp 119) = .bool false from p1); clear hout p0 p1; go_step; exact hK _ _ rfl hG (Below.refl _ _)
                        · intro _ _ a w' hG hout hpre K hK; obtain ⟨p0, _⟩ := hpre; have q120 := ev_of (show a.eval (.tmp 120) = .bool false from p0); clear hout p0; go_step; exact hK _ _ rfl hG (Below.refl _ _)
                      · intro vs w2 hG hlen hV
                        match vs, hlen, hV with
                        | [v0, v1, v2, v3, v4, v5, v6, v7, v8, v9, v10, v11, v12, v13, v14, v15, v16, v17, v18, v19, v20, v21, v22, v23, v24], _, hV =>
                          obtain rfl : v24 = .bool false := (hV 24 13 v24 rfl rfl); clear hV; simp only [putsL, List.tail_cons, List.headD_cons]; simp only [Act.put, List.setIfInBounds_toArray, List.set_cons_succ, List.set_cons_zero]; have HZ2 := Lib.hid (HZ.out w2 hG); clear hG; go_wp2_with (fail); go_roundw
                          case rel => exact HZ2.out
                          case measure => have := HJn.out; simp [intOf]; omega
                    | true =>
                      cases br with
                      | false =>
                        have hre : ¬ vr = rd := of_decide_eq_false hbr.symm; have hrf : decide (vr = rd) = false := hbr.symm
                        have hrg : (vr == rd) = false := by simpa using hre
                        clear hbr
                        go_upto_region 25 with (fail)
                        refine wp_region_skip_frame (fun i => ([15, 16, 17, 18, 19, 20, 21] : List Nat).contains i) (by kernel_rfl) [none, none, none, none, none, none, none, none, none, none, none, none, none, none, none, none, none, none, none, none, none, none, none, none, none] [] (fun i_ _ _ v_ => v_ = (((Value.bool false) :: (Value.bool false) :: (Value.pointer (some ⟨pb, 0, none⟩)) :: VW :: (Value.pointer (some ⟨yb, 5, none⟩)) :: UW :: (Value.bool true) :: (Value.bool true) :: (Value.pointer (some ⟨pb, 7, none⟩)) :: (Value.int .i64 vr) :: (Value.pointer (some ⟨yb, 8, none⟩)) :: (Value.int .i64 rd) :: (Value.bool false) :: (Value.bool false) :: (Value.bool false) :: undef :: undef :: undef :: undef :: undef :: undef :: undef :: (Value.bool false) :: (Value.bool false) :: (Value.bool false) :: ([] : List Value))).getD i_ undef) (fun _ w' => Below wj.heap.size wj w') (fun w w' => Below w.heap.size w w') (fun _ _ _ _ _ _ h => h) (by kernel_rfl) (by kernel_rfl) (by kernel_rfl) HGj.out (fun _ => ⟨rfl, rfl, fun _ _ h => .inl h, fun _ _ h => .inl h, fun _ _ h => .inl h, fun _ _ h => .inl h, fun _ _ h => .inl h, fun _ _ h => .inl h, fun _ _ h => .inl h, fun _ _ h => .inl h, fun _ _ h => .inl h, fun _ _ h => .inl h, fun _ _ h => .inl h, fun _ _ h => .inl h, fun _ _ h => .inl h, fun _ _ h => .inl h, fun _ _ h => .inl h, fun _ _ h => .inl h, fun _ _ h => .inl h, fun _ _ h => .inl h, fun _ _ h => .inl h, fun _ _ h => .inl h, fun _ _ h => .inl h, rfl, rfl, trivial⟩) (fun i hi => by have hm := List.contains_iff_mem.1 hi; simp only [List.mem_cons, List.not_mem_nil, or_false] at hm; rcases hm with rfl | rfl | rfl | rfl | rfl | rfl | rfl <;> exact ⟨rfl, fun _ _ => rfl⟩) ?_ ?_
                        · refine ⟨?_, ?_, ?_, ?_, ?_, ?_, ?_, ?_, ?_, ?_, ?_, ?_, ?_, ?_, ?_, ?_, ?_, ?_, ?_, ?_, ?_, ?_, ?_, ?_, ?_, trivial⟩
                          · intro _ _ a w' hG hout hpre K hK; have q13 := ev_of ((hout 13 rfl).trans (show _ = .bool false from rfl)); clear hout hpre; go_step; exact hK _ _ rfl hG (Below.refl _ _)
                          · intro _ _ a w' hG hout hpre K hK; obtain ⟨p0, _⟩ := hpre; have q97 := ev_of (show a.eval (.tmp 97) = .bool false from p0); clear hout p0; go_step; exact hK _ _ rfl hG (Below.refl _ _)
                          · intro _ _ a w' hG hout hpre K hK; have q15 := ev_of ((hout 15 rfl).trans (show _ = .pointer (some ⟨pb, 0, none⟩) from rfl)); clear hout hpre; go_step; exact hK _ _ rfl hG (Below.refl _ _)
                          · intro _ _ a w' hG hout hpre K hK; obtain ⟨p0, _⟩ := hpre; have q99 := ev_of (show a.eval (.tmp 99) = .pointer (some ⟨pb, 0, none⟩) from p0); obtain ⟨⟨d0, d1, d2, d3, d4, d5, d6, d7⟩, ⟨y5, y6, y7, y8, y9⟩, ⟨q0, q1, q2, q3, q4, q5⟩⟩ := HCl.out w' hG; clear hout p0; go_step; exact hK _ _ HVW.out.1.symm hG (Below.refl _ _)
                          · intro _ _ a w' hG hout hpre K hK; have q12 := ev_of ((hout 12 rfl).trans (show _ = .pointer (some ⟨yb, 0, none⟩) from rfl)); clear hout hpre; go_step; exact hK _ _ rfl hG (Below.refl _ _)
                          · intro _ _ a w' hG hout hpre K hK; obtain ⟨p0, _⟩ := hpre; have q101 := ev_of (show a.eval (.tmp 101) = .pointer (some ⟨yb, 5, none⟩) from p0); obtain ⟨⟨d0, d1, d2, d3, d4, d5, d6, d7⟩, ⟨y5, y6, y7, y8, y9⟩, ⟨q0, q1, q2, q3, q4, q5⟩⟩ := HCl.out w' hG; clear hout p0; go_step; exact hK _ _ HVW.out.2.1.symm hG (Below.refl _ _)
                          · intro _ _ a w' hG hout hpre K hK; obtain ⟨p0, p1, _⟩ := hpre; have q100 := ev_of (show a.eval (.tmp 100) = VW from p0); have q102 := ev_of (show a.eval (.tmp 102) = UW from p1); have he := HVW.out.2.2.1; have hgd := HVW.out.2.2.2; clear hout p0 p1; go_step; exact hK _ _ rfl hG (Below.refl _ _)
                          · intro _ _ a w' hG hout hpre K hK; obtain ⟨p0, _⟩ := hpre; have q103 := ev_of (show a.eval (.tmp 103) = .bool true from p0); clear hout p0; go_step; exact hK _ _ rfl hG (Below.refl _ _)
                          · intro _ _ a w' hG hout hpre K hK; have q15 := ev_of ((hout 15 rfl).trans (show _ = .pointer (some ⟨pb, 0, none⟩) from rfl)); clear hout hpre; go_step; exact hK _ _ rfl hG (Below.refl _ _)
                          · intro _ _ a w' hG hout hpre K hK; obtain ⟨p0, _⟩ := hpre; have q105 := ev_of (show a.eval (.tmp 105) = .pointer (some ⟨pb, 7, none⟩) from p0); obtain ⟨⟨d0, d1, d2, d3, d4, d5, d6, d7⟩, ⟨y5, y6, y7, y8, y9⟩, ⟨q0, q1, q2, q3, q4, q5⟩⟩ := HCl.out w' hG; clear hout p0; go_step; exact hK _ _ rfl hG (Below.refl _ _)
                          · intro _ _ a w' hG hout hpre K hK; have q12 := ev_of ((hout 12 rfl).trans (show _ = .pointer (some ⟨yb, 0, none⟩) from rfl)); clear hout hpre; go_step; exact hK _ _ rfl hG (Below.refl _ _)
                          · intro _ _ a w' hG hout hpre K hK; obtain ⟨p0, _⟩ := hpre; have q107 := ev_of (show a.eval (.tmp 107) = .pointer (some ⟨yb, 8, none⟩) from p0); obtain ⟨⟨d0, d1, d2, d3, d4, d5, d6, d7⟩, ⟨y5, y6, y7, y8, y9⟩, ⟨q0, q1, q2, q3, q4, q5⟩⟩ := HCl.out w' hG; clear hout p0; go_step; exact hK _ _ rfl hG (Below.refl _ _)
                          · intro _ _ a w' hG hout hpre K hK; obtain ⟨p0, p1, _⟩ := hpre; have q106 := ev_of (show a.eval (.tmp 106) = .int .i64 vr from p0); have q108 := ev_of (show a.eval (.tmp 108) = .int .i64 rd from p1); clear hout p0 p1; go_step; exact hK _ _ rfl hG (Below.refl _ _)
                          · intro _ _ a w' hG hout hpre K hK; obtain ⟨p0, p1, _⟩ := hpre; have q104 := ev_of (show a.eval (.tmp 104) = .bool true from p0); have q109 := ev_of (show a.eval (.tmp 109) = .bool false from p1); clear hout p0 p1; go_step; exact hK _ _ rfl hG (Below.refl _ _)
                          · intro _ _ a w' hG hout hpre K hK; obtain ⟨p0, _⟩ := hpre; have q110 := ev_of (show a.eval (.tmp 110) = .bool false from p0); clear hout p0; go_step; exact hK _ _ rfl hG (Below.refl _ _)
                          · exact fun h => absurd h (by decide)
                          · exact fun h => absurd h (by decide)
                          · exact fun h => absurd h (by decide)
                          · exact fun h => absurd h (by decide)
                          · exact fun h => absurd h (by decide)
                          · exact fun h => absurd h (by decide)
                          · exact fun h => absurd h (by decide)
                          · intro _ _ a w' hG hout hpre K hK; obtain ⟨p0, p1, _⟩ := hpre; have q111 := ev_of (show a.eval (.tmp 111) = .bool false from p0); have q118 := ev_of (show a.eval (.tmp 118) = undef from p1); clear hout p0 p1; go_step; exact hK _ _ rfl hG (Below.refl _ _)
                          · intro _ _ a w' hG hout hpre K hK; obtain ⟨p0, p1, _⟩ := hpre; have q98 := ev_of (show a.eval (.tmp 98) = .bool false from p0); have q119 := ev_of (show a.eval (.tmp 119) = .bool false from p1); clear hout p0 p1; go_step; exact hK _ _ rfl hG (Below.refl _ _)
                          · intro _ _ a w' hG hout hpre K hK; obtain ⟨p0, _⟩ := hpre; have q120 := ev_of (show a.eval (.tmp 120) = .bool false from p0); clear hout p0; go_step; exact hK _ _ rfl hG (Below.refl _ _)
                        · intro vs w2 hG hlen hV
                          match vs, hlen, hV with
                          | [v0, v1, v2, v3, v4, v5, v6, v7, v8, v9, v10, v11, v12, v13, v14, v15, v16, v17, v18, v19, v20, v21, v22, v23, v24], _, hV =>
                            obtain rfl : v24 = .bool false := (hV 24 13 v24 rfl rfl); clear hV; simp only [putsL, List.tail_cons, List.headD_cons]; simp only [Act.put, List.setIfInBounds_toArray, List.set_cons_succ, List.set_cons_zero]; have HZ2 := Lib.hid (HZ.out w2 hG); clear hG; go_wp2_with (fail); go_roundw
                            case rel => exact HZ2.out
                            case measure => have := HJn.out; simp [intOf]; omega
                      | true =>
                        obtain rfl : vr = rd := of_decide_eq_true hbr.symm; clear hbr
                        go_upto_region 25 with (fail)
                        refine wp_region_skip_frame (fun i => ([] : List Nat).contains i) (by kernel_rfl) [none, none, none, none, none, none, none, none, none, none, none, none, none, none, none, none, none, none, none, none, none, none, none, none, none] [] (V4 ((Value.bool false) :: (Value.bool false) :: (Value.pointer (some ⟨pb, 0, none⟩)) :: VW :: (Value.pointer (some ⟨yb, 5, none⟩)) :: UW :: (Value.bool true) :: (Value.bool true) :: (Value.pointer (some ⟨pb, 7, none⟩)) :: (Value.int .i64 vr) :: (Value.pointer (some ⟨yb, 8, none⟩)) :: (Value.int .i64 vr) :: (Value.bool true) :: (Value.bool true) :: (Value.bool true) :: (Value.agg #[.int .i64 kind, .int .i64 size, .int .i64 slide, .int .i64 late, .int .i64 agg, .int .i64 kq]) :: (Value.pointer (some ⟨pb, 3, none⟩)) :: (Value.agg #[.int .i64 an, .int .i64 aa, vt, vz]) :: undef :: (Value.pointer (some ⟨yb, 9, none⟩)) :: tv :: (Value.bool bv) :: (Value.bool bv) :: (Value.bool bv) :: (Value.bool bv) :: ([] : List Value)) 18 (fun _ w v => IntsAt w v (valueQ Q V.p.a)) 99 (fun _ _ _ => True) 99 (fun _ _ _ => True) 99 (fun _ _ _ => True)) (fun _ w' => Below wj.heap.size wj w') (fun w w' => Below w.heap.size w w') (V4_le _ (fun _ _ _ _ hB h => IntsAt.below h hB) (fun _ _ _ _ _ h => h) (fun _ _ _ _ _ h => h) (fun _ _ _ _ _ h => h)) (by kernel_rfl) (by kernel_rfl) (by kernel_rfl) HGj.out (fun _ => ⟨rfl, rfl, fun _ _ h => .inl h, fun _ _ h => .inl h, fun _ _ h => .inl h, fun _ _ h => .inl h, fun _ _ h => .inl h, fun _ _ h => .inl h, fun _ _ h => .inl h, fun _ _ h => .inl h, fun _ _ h => .inl h, fun _ _ h => .inl h, fun _ _ h => .inl h, fun _ _ h => .inl h, fun _ _ h => .inl h, fun _ _ h => .inl h, fun _ _ h => .inl h, fun _ _ h => .inl h, fun _ _ h => .inl h, fun _ _ h => .inl h, fun _ _ h => .inl h, fun _ _ h => .inl h, fun _ _ h => .inl h, rfl, rfl, trivial⟩) (fun _ h => by simp at h) ?_ ?_
                        · refine ⟨?_, ?_, ?_, ?_, ?_, ?_, ?_, ?_, ?_, ?_, ?_, ?_, ?_, ?_, ?_, ?_, ?_, ?_, ?_, ?_, ?_, ?_, ?_, ?_, ?_, trivial⟩
                          · intro _ _ a w' hG hout hpre K hK; have q13 := ev_of ((hout 13 rfl).trans (show _ = .bool false from rfl)); clear hout hpre; go_step; exact hK _ _ rfl hG (Below.refl _ _)
                          · intro _ _ a w' hG hout hpre K hK; obtain ⟨p0, _⟩ := hpre; have q97 := ev_of (show a.eval (.tmp 97) = .bool false from p0); clear hout p0; go_step; exact hK _ _ rfl hG (Below.refl _ _)
                          · intro _ _ a w' hG hout hpre K hK; have q15 := ev_of ((hout 15 rfl).trans (show _ = .pointer (some ⟨pb, 0, none⟩) from rfl)); clear hout hpre; go_step; exact hK _ _ rfl hG (Below.refl _ _)
                          · intro _ _ a w' hG hout hpre K hK; obtain ⟨p0, _⟩ := hpre; have q99 := ev_of (show a.eval (.tmp 99) = .pointer (some ⟨pb, 0, none⟩) from p0); obtain ⟨⟨d0, d1, d2, d3, d4, d5, d6, d7⟩, ⟨y5, y6, y7, y8, y9⟩, ⟨q0, q1, q2, q3, q4, q5⟩⟩ := HCl.out w' hG; clear hout p0; go_step; exact hK _ _ HVW.out.1.symm hG (Below.refl _ _)
                          · intro _ _ a w' hG hout hpre K hK; have q12 := ev_of ((hout 12 rfl).trans (show _ = .pointer (some ⟨yb, 0, none⟩) from rfl)); clear hout hpre; go_step; exact hK _ _ rfl hG (Below.refl _ _)
                          · intro _ _ a w' hG hout hpre K hK; obtain ⟨p0, _⟩ := hpre; have q101 := ev_of (show a.eval (.tmp 101) = .pointer (some ⟨yb, 5, none⟩) from p0); obtain ⟨⟨d0, d1, d2, d3, d4, d5, d6, d7⟩, ⟨y5, y6, y7, y8, y9⟩, ⟨q0, q1, q2, q3, q4, q5⟩⟩ := HCl.out w' hG; clear hout p0; go_step; exact hK _ _ HVW.out.2.1.symm hG (Below.refl _ _)
                          · intro _ _ a w' hG hout hpre K hK; obtain ⟨p0, p1, _⟩ := hpre; have q100 := ev_of (show a.eval (.tmp 100) = VW from p0); have q102 := ev_of (show a.eval (.tmp 102) = UW from p1); have he := HVW.out.2.2.1; have hgd := HVW.out.2.2.2; clear hout p0 p1; go_step; exact hK _ _ rfl hG (Below.refl _ _)
                          · intro _ _ a w' hG hout hpre K hK; obtain ⟨p0, _⟩ := hpre; have q103 := ev_of (show a.eval (.tmp 103) = .bool true from p0); clear hout p0; go_step; exact hK _ _ rfl hG (Below.refl _ _)
                          · intro _ _ a w' hG hout hpre K hK; have q15 := ev_of ((hout 15 rfl).trans (show _ = .pointer (some ⟨pb, 0, none⟩) from rfl)); clear hout hpre; go_step; exact hK _ _ rfl hG (Below.refl _ _)
                          · intro _ _ a w' hG hout hpre K hK; obtain ⟨p0, _⟩ := hpre; have q105 := ev_of (show a.eval (.tmp 105) = .pointer (some ⟨pb, 7, none⟩) from p0); obtain ⟨⟨d0, d1, d2, d3, d4, d5, d6, d7⟩, ⟨y5, y6, y7, y8, y9⟩, ⟨q0, q1, q2, q3, q4, q5⟩⟩ := HCl.out w' hG; clear hout p0; go_step; exact hK _ _ rfl hG (Below.refl _ _)
                          · intro _ _ a w' hG hout hpre K hK; have q12 := ev_of ((hout 12 rfl).trans (show _ = .pointer (some ⟨yb, 0, none⟩) from rfl)); clear hout hpre; go_step; exact hK _ _ rfl hG (Below.refl _ _)
                          · intro _ _ a w' hG hout hpre K hK; obtain ⟨p0, _⟩ := hpre; have q107 := ev_of (show a.eval (.tmp 107) = .pointer (some ⟨yb, 8, none⟩) from p0); obtain ⟨⟨d0, d1, d2, d3, d4, d5, d6, d7⟩, ⟨y5, y6, y7, y8, y9⟩, ⟨q0, q1, q2, q3, q4, q5⟩⟩ := HCl.out w' hG; clear hout p0; go_step; exact hK _ _ rfl hG (Below.refl _ _)
                          · intro _ _ a w' hG hout hpre K hK; obtain ⟨p0, p1, _⟩ := hpre; have q106 := ev_of (show a.eval (.tmp 106) = .int .i64 vr from p0); have q108 := ev_of (show a.eval (.tmp 108) = .int .i64 vr from p1); clear hout p0 p1; go_step; exact hK _ _ rfl hG (Below.refl _ _)
                          · intro _ _ a w' hG hout hpre K hK; obtain ⟨p0, p1, _⟩ := hpre; have q104 := ev_of (show a.eval (.tmp 104) = .bool true from p0); have q109 := ev_of (show a.eval (.tmp 109) = .bool true from p1); clear hout p0 p1; go_step; exact hK _ _ rfl hG (Below.refl _ _)
                          · intro _ _ a w' hG hout hpre K hK; obtain ⟨p0, _⟩ := hpre; have q110 := ev_of (show a.eval (.tmp 110) = .bool true from p0); clear hout p0; go_step; exact hK _ _ rfl hG (Below.refl _ _)
                          · intro _ _ a w' hG hout hpre K hK; have q2 := ev_of ((hout 2 rfl).trans (show _ = .pointer (some ⟨qb, 0, none⟩) from rfl)); obtain ⟨⟨d0, d1, d2, d3, d4, d5, d6, d7⟩, ⟨y5, y6, y7, y8, y9⟩, ⟨q0, q1, q2, q3, q4, q5⟩⟩ := HCl.out w' hG; clear hout hpre; go_step; exact hK _ _ rfl hG (Below.refl _ _)
                          · intro _ _ a w' hG hout hpre K hK; have q15 := ev_of ((hout 15 rfl).trans (show _ = .pointer (some ⟨pb, 0, none⟩) from rfl)); clear hout hpre; go_step; exact hK _ _ rfl hG (Below.refl _ _)
                          · intro _ _ a w' hG hout hpre K hK; obtain ⟨p0, _⟩ := hpre; have q113 := ev_of (show a.eval (.tmp 113) = .pointer (some ⟨pb, 3, none⟩) from p0); obtain ⟨⟨d0, d1, d2, d3, d4, d5, d6, d7⟩, ⟨y5, y6, y7, y8, y9⟩, ⟨q0, q1, q2, q3, q4, q5⟩⟩ := HCl.out w' hG; clear hout p0; go_step; exact hK _ _ rfl hG (Below.refl _ _)
                          · intro _ _ a w' hG hout hpre K hK; obtain ⟨p0, p1, _⟩ := hpre; have q112 := ev_of (show a.eval (.tmp 112) = .agg #[.int .i64 kind, .int .i64 size, .int .i64 slide, .int .i64 late, .int .i64 agg, .int .i64 kq] from p0); have q114 := ev_of (show a.eval (.tmp 114) = .agg #[.int .i64 an, .int .i64 aa, vt, vz] from p1); clear hout p0 p1; have HS := Lib.hid (HVA.out w' hG); go_step; refine HS.out.mono ?_; rintro e w3 ⟨tv1, rfl, hI, hB, _⟩; exact hK _ _ hI (hG.trans (hB.mono hG.size)) hB
                          · intro _ _ a w' hG hout hpre K hK; have q12 := ev_of ((hout 12 rfl).trans (show _ = .pointer (some ⟨yb, 0, none⟩) from rfl)); clear hout hpre; go_step; exact hK _ _ rfl hG (Below.refl _ _)
                          · intro _ _ a w' hG hout hpre K hK; obtain ⟨p0, _⟩ := hpre; have q116 := ev_of (show a.eval (.tmp 116) = .pointer (some ⟨yb, 9, none⟩) from p0); obtain ⟨⟨d0, d1, d2, d3, d4, d5, d6, d7⟩, ⟨y5, y6, y7, y8, y9⟩, ⟨q0, q1, q2, q3, q4, q5⟩⟩ := HCl.out w' hG; clear hout p0; go_step; exact hK _ _ rfl hG (Below.refl _ _)
                          · intro _ _ a w' hG hout hpre K hK; obtain ⟨p0, p1, _⟩ := hpre; obtain hI := (show IntsAt w' (a.eval (.tmp 115)) (valueQ Q V.p.a) from p0); have q117 := ev_of (show a.eval (.tmp 117) = tv from p1); clear hout p1; obtain ⟨t1, ht1⟩ : ∃ v, a.eval (.tmp 115) = v := ⟨_, rfl⟩; rw [ht1] at hI; have q115 := ev_of ht1; have HS := Lib.hid (HSI.out w' t1 hG hI); clear hI ht1; go_step; refine HS.out.mono ?_; rintro e w3 ⟨rfl, hB⟩; exact hK _ _ rfl (hG.trans (hB.mono hG.size)) hB
                          · intro _ _ a w' hG hout hpre K hK; obtain ⟨p0, p1, _⟩ := hpre; have q111 := ev_of (show a.eval (.tmp 111) = .bool true from p0); have q118 := ev_of (show a.eval (.tmp 118) = .bool bv from p1); clear hout p0 p1; go_step; exact hK _ _ rfl hG (Below.refl _ _)
                          · intro _ _ a w' hG hout hpre K hK; obtain ⟨p0, p1, _⟩ := hpre; have q98 := ev_of (show a.eval (.tmp 98) = .bool false from p0); have q119 := ev_of (show a.eval (.tmp 119) = .bool bv from p1); clear hout p0 p1; go_step; exact hK _ _ rfl hG (Below.refl _ _)
                          · intro _ _ a w' hG hout hpre K hK; obtain ⟨p0, _⟩ := hpre; have q120 := ev_of (show a.eval (.tmp 120) = .bool bv from p0); clear hout p0; go_step; exact hK _ _ rfl hG (Below.refl _ _)
                        · intro vs w2 hG hlen hV
                          match vs, hlen, hV with
                          | [v0, v1, v2, v3, v4, v5, v6, v7, v8, v9, v10, v11, v12, v13, v14, v15, v16, v17, v18, v19, v20, v21, v22, v23, v24], _, hV =>
                            obtain rfl : v24 = .bool bv := (hV 24 13 v24 rfl rfl); clear hV; simp only [putsL, List.tail_cons, List.headD_cons]; simp only [Act.put, List.setIfInBounds_toArray, List.set_cons_succ, List.set_cons_zero]; have HZ2 := Lib.hid (HZ.out w2 hG); clear hG; go_wp2_with (fail); go_roundw
                            case rel => exact HZ2.out
                            case measure => have := HJn.out; simp [intOf]; omega
                · obtain rfl : p = np := by omega
                  have hbt : b = true := by
                    rw [HB.out.2, HPn.out.2.2.1, List.take_length]; exact HF1.out
                  subst hbt; have H12 : Hid (Below wg.heap.size wg wi) := Lib.hid HB.out.1; clear HB hp hpt; have HWw : Hid (Below we.heap.size we wi) := Lib.hid (H11.out.2.1.trans (H12.out.mono H11.out.2.1.size)); obtain ⟨f0, f1⟩ := (H10.out.2.2.2.2.2.2.2.2.2.1.below HWw.out).d2; obtain ⟨y0, y1, y2, y3, y4, y5, y6, y7, y8, y9⟩ := HYd.out wi (H11.out.1.below H12.out); have hmT := HPl.out.1
                  have hx1 : ¬ m2 < wh := by omega
                  clear hmT; have hx2 : decide (m2 < wh) = false := decide_eq_false hx1
                  have hx3 : ¬ rd < 1 := by omega
                  have hx4 : decide (rd < 1) = false := decide_eq_false hx3
                  have HZ : Hid (IdxRel we no (.int .i64 ((i : Int) + 1)) wi) := Lib.hid ⟨i + 1, by have := HY.out.2.2; omega, by go_num, HWw.out⟩
                  have HJn := Lib.hid HY.out.2.2; clear hge hge2; go_wp2_with (fail); go_roundw
                  case rel => exact HZ.out
                  case measure => have := HJn.out; simp [intOf]; omega
          · obtain rfl : i = no := by omega
            have H12 := Lib.hid HB.out; clear HB hi hit; obtain ⟨f0, f1⟩ := (H10.out.2.2.2.2.2.2.2.2.2.1.below H12.out).d2
            go_upto_region 30 with (fail)
            refine wp_region_lit ?_
            iterate 3 go_step
            refine wpList_store_row rfl _ _ _ rfl sb #[.int .i64 m2, pv2] rfl rfl 29 #[.int .i64 m, pv] (H10.out.2.2.2.1.below H12.out) state_size rfl (state_one H10.out.2.2.2.2.2.1.one) ?_; obtain ⟨wz, hwz⟩ : ∃ W, W = wf.setRow sb #[.int .i64 m2, pv2] := ⟨_, rfl⟩
            have HZ : Hid (HoldRel w Q n qb sb (.int .i64 ((j : Int) + 1)) wz) := by
              have hg : wf.grownBy wz (some sb) := by rw [hwz]; exact grown_setRow _ _ _
              obtain ⟨j1, j2, j3, j4, j5, j6, j7, j8, j9, j10, j11⟩ := H10.out; have hBw := j2.trans (H12.out.mono j2.size); obtain ⟨ea, ec, el, epv, _⟩ := j5.open.2; subst epv
              exact Lib.hid ⟨j + 1, T, m2, pv2, by have := HX.out.1; omega, by go_num, below_store hBw HSb.out.1 hg, (hg.block qb (j3.below H12.out).lt (by have := HSb.out.2; simp; omega)).trans (j3.below H12.out), by rw [hwz]; exact RowS.reset (j4.below H12.out) m2 _, (j11.below H12.out).store (j4.below H12.out) hg, HOut.out.2.2⟩
            have HJn := Lib.hid HX.out.1; rw [← hwz]; clear hwz f0 f1; go_wp2_with (fail); go_roundw
            case rel => exact HZ.out
            case measure => have := HJn.out; simp [intOf]; omega
      · have hST : T = S ∧ no = 0 := by
          have h := HR1.out
          split at h
          · cases h; exact absurd rfl hE
          · cases h
            refine ⟨rfl, ?_⟩; obtain ⟨_, _, h1, h2, _⟩ := HPl.out; simp only [List.length_nil] at h2; omega
        obtain ⟨rfl, rfl⟩ := hST
        have hE1 : (E != 0) = true := by simpa using hE
        have hE2 : (E == 0) = false := by simpa using hE
        have HSm : Hid (Calls Tryz.prog 16 #[.agg #[.int .i64 m, pv], .agg #[.int .i64 m2, pv2]] wd (Below0 wd (.bool true))) := by
          have h := same_of H9.out.2.2.2.2.1 H9.out.2.2.2.2.2.2.2.2.2.2 (rightS_ok HRS.out) (rightS_ok HRS.out); rw [decide_eq_true rfl] at h; exact Lib.hid h
        clear hE; obtain ⟨e0, e1⟩ := H9.out.2.2.2.1.d2; obtain ⟨f0, f1⟩ := H9.out.2.2.2.2.2.2.2.2.2.1.d2; go_wp2_with (fail); refine HSm.out.mono ?_; rintro e we ⟨rfl, hB⟩
        have HZ : Hid (HoldRel w Q n qb sb (.int .i64 ((j : Int) + 1)) we) := by
          obtain ⟨j1, j2, j3, j4, j5, _⟩ := H9.out
          exact Lib.hid ⟨j + 1, T, m, pv, by have := HX.out.1; omega, by go_num, j2.trans (hB.mono j2.size), j3.below hB, j4.below hB, j5.below hB, HRS.out⟩
        have HJn := Lib.hid HX.out.1; clear hB e0 e1 f0 f1 HSm; dsimp only; go_wp2_with (fail); go_roundw
        case rel => exact HZ.out
        case measure => have := HJn.out; simp [intOf]; omega
    · obtain rfl : j = n := by omega
      have HZ := Lib.hid (HYes.out wa HB.out.1); clear hlt hj HB; go_wp2_with (fail); exact HZ.out
end Go.Proofs.YtjeeghafachebaaGreat
