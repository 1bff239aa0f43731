/-
  Part 47 of 56 of what the proof leans on.
-/
import Derived.Test.YtjeeghafachebaaGreatK46
import Derived.Test.YtjeeghafachebaaGreatK3
namespace Go.Proofs.YtjeeghafachebaaGreat
open Go Go.RowKit
theorem PanesIn.grown {w w' : World} {v : Value} {l : List PaneV} {row : Option Nat} (h : PanesIn w v l) (hg : w.grownBy w' row) (hn : ∀ b, row = some b → ∃ cs T fr, w.heap[b]? = some (.cells cs T fr) ∧ T ≠ 55) : PanesIn w' v l := by
  obtain ⟨a', c', e, hc, h⟩ := h
  refine ⟨a', c', e, hc, ?_⟩
  rcases h with h | ⟨b', o, ha, ht, h⟩
  · exact .inl h
  · by_cases hl : l = []
    · exact .inr ⟨b', o, ha, .inl hl, fun i x hx => by rw [hl] at hx; simp at hx⟩
    · rcases ht with ht | ⟨cur, ht⟩
      · exact absurd ht hl
      · have hne : some b' ≠ row := fun e => by
          obtain ⟨cs, T, fr, h1, h2⟩ := hn b' e.symm
          rw [ht] at h1
          simp only [Option.some.injEq, Obj.cells.injEq] at h1
          exact h2 h1.2.1.symm
        have hbl := hg.block b' (TyP.lt ⟨cur, ht⟩) hne
        refine .inr ⟨b', o, ha, .inr ⟨cur, hbl.trans ht⟩, fun i x hx j u hu => ?_⟩
        rw [← h i x hx j u hu]
        unfold World.cell?
        simp only [hbl]
theorem PanesIn.store {w w' : World} {v : Value} {l : List PaneV} {b n c : Nat} {m : Int} {a : Option Addr} (h : PanesIn w v l) (hb : RowS w b m (.slice a n c)) (hg : w.grownBy w' (some b)) : PanesIn w' v l :=
  h.grown hg (fun k hk => by cases hk; exact ⟨_, _, _, hb, by decide⟩)
theorem OutsAt.store {w w' : World} {l : List OutV} {b n c : Nat} {m : Int} {a a' : Option Addr} (h : OutsAt w a' l) (hb : RowS w b m (.slice a n c)) (hg : w.grownBy w' (some b)) : OutsAt w' a' l := by
  rcases h with h | ⟨b', o, ha, h⟩
  · exact .inl h
  · refine .inr ⟨b', o, ha, fun i x hx j u hu => ?_⟩
    have hcell := h i x hx j u hu
    have hne : b' ≠ b := by
      rintro rfl
      have hk := h i x hx 0 _ rfl
      rw [cell_of_row _ _ _ _ _ _ hb] at hk
      have hlt := (Array.getElem?_eq_some_iff.1 hk).1
      have hlt2 : o + i * 10 + 0 < 2 := hlt
      match ho : o + i * 10 + 0, hlt2, hk with
      | 0, _, hk =>
        have e : Value.int .i64 m = Value.bool x.o.late := Option.some.inj hk
        cases e
      | 1, _, hk =>
        have e : Value.slice a n c = Value.bool x.o.late := Option.some.inj hk
        cases e
    have hlt := block_lt_of_cell hcell
    have hbl := hg.block b' hlt (by simpa using hne)
    rw [← hcell]
    unfold World.cell?
    simp only [hbl]
theorem GoodP.storeS {w w' : World} {x : PaneV} {b : Nat} {m : Int} {pv : Value} (h : GoodP w x) (hb : RowS w b m pv) (hg : w.grownBy w' (some b)) : GoodP w' x :=
  ⟨h.1.grown hg (fun _ _ _ e hne => h.1.apart e hne hb (by decide)), h.2⟩
theorem HasO.store {w w' : World} {v : Value} {o : List OutE} {b n c : Nat} {m : Int} {a : Option Addr} (h : HasO w v o) (hb : RowS w b m (.slice a n c)) (hg : w.grownBy w' (some b)) : HasO w' v o := by
  obtain ⟨a', c', l, h1, h2, h3, h4, h5⟩ := h
  exact ⟨a', c', l, h1, h2, h3.store hb hg, fun x hx => IntsAt.grown (h4 x hx) hg (fun _ _ _ e hne => IntsAt.apart (h4 x hx) e hne hb (by decide)), h5⟩
theorem comeOk.sorted {q : QueryL} {l : List PaneV} {n : Nat} (h : comeOk q (l.map PaneV.p) n) (hn : n ≤ 1000000) : FitP l ∧ (wsP (l.map PaneV.p)).Pairwise aheadP := by
  refine ⟨⟨fun x hx => (h.2.1 x.p (List.mem_map.2 ⟨x, hx, rfl⟩)).2, ?_⟩, wsP_sorted.2 (placed_sorted h.1)⟩
  have := h.2.2
  rw [List.length_map] at this
  omega
set_option maxRecDepth 100000 in
set_option maxHeartbeats 4000000 in
theorem ostep_any (w : World) (q : QueryL) (m : Int) (pv : Value) (x : ItemL) (l : List PaneV) (hA : PanesIn w pv l) (hG : ∀ y ∈ l, GoodP w y) (hok : comeOk q (l.map PaneV.p) 256) (hk : x.key.length ≤ 1000000) :
    Calls Tryz.prog 21 #[.agg q.cells, .agg #[.int .i64 m, pv], .agg x.cells] w (ComeEnd w (stepS q ⟨m, l.map PaneV.p⟩ x).1 (stepS q ⟨m, l.map PaneV.p⟩ x).2.1 (stepS q ⟨m, l.map PaneV.p⟩ x).2.2) := by
  obtain ⟨ps, hps⟩ : ∃ ps, ps = l.map PaneV.p := ⟨_, rfl⟩
  obtain ⟨P, hP⟩ : ∃ P, P = ComeEnd w (stepS q ⟨m, ps⟩ x).1 (stepS q ⟨m, ps⟩ x).2.1 (stepS q ⟨m, ps⟩ x).2.2 := ⟨_, rfl⟩
  rw [← hps, ← hP]
  obtain ⟨r, hr⟩ : ∃ r, r = x.rightB := ⟨_, rfl⟩
  have HNo : Hid (r = false → ∀ wz, Below w.heap.size w wz → P (.returned (.tuple #[.agg #[.int .i64 0, .slice none 0 0], .slice none 0 0, .int .i64 2])) wz) := Lib.hid (fun h wz hB => by
    rw [hr] at h
    rw [hP, stepS, if_neg (by rw [h]; decide)]
    exact ⟨_, _, rfl, zeroS_has wz, HasO.nil _, hB⟩)
  obtain ⟨kd, hkd⟩ : ∃ k, k = x.kind := ⟨_, rfl⟩
  have HCo : Hid (r = true → kd = 1 → ∀ wz sv ov, HasS wz sv (comeQ q ⟨m, ps⟩ x).1 → HasO wz ov (comeQ q ⟨m, ps⟩ x).2.1 → Below w.heap.size w wz → P (.returned (.tuple #[sv, ov, .int .i64 (comeQ q ⟨m, ps⟩ x).2.2])) wz) := Lib.hid (fun h h1 wz sv ov hS hO hB => by
    rw [hr] at h
    rw [hkd] at h1
    rw [hP, stepS, if_pos h, if_pos h1]
    exact ⟨_, _, rfl, hS, hO, hB⟩)
  have HMa : Hid (r = true → kd ≠ 1 → ∀ wz sv ov, HasS wz sv (markQ q ⟨m, ps⟩ x.time).1 → HasO wz ov (markQ q ⟨m, ps⟩ x.time).2 → Below w.heap.size w wz → P (.returned (.tuple #[sv, ov, .int .i64 0])) wz) := Lib.hid (fun h h1 wz sv ov hS hO hB => by
    rw [hr] at h
    rw [hkd] at h1
    rw [hP, stepS, if_pos h, if_neg h1]
    exact ⟨_, _, rfl, hS, hO, hB⟩)
  have HRt : Hid (∀ w', Calls Tryz.prog 37 #[.agg x.cells] w' (Below0 w' (.bool r))) := by
    rw [hr]
    exact Lib.hid (fun w' => eright_any w' x hk)
  have HCm : Hid (∀ w', Below w.heap.size w w' → Calls Tryz.prog 38 #[.agg q.cells, .agg #[.int .i64 m, pv], .agg x.cells] w' (ComeEnd w' (comeQ q ⟨m, ps⟩ x).1 (comeQ q ⟨m, ps⟩ x).2.1 (comeQ q ⟨m, ps⟩ x).2.2)) := by
    rw [hps]
    exact Lib.hid (fun w' hB => ocome_any w' q m pv x l (hA.below hB) (fun y hy => (hG y hy).below hB) hok hk)
  have HMk : Hid (∀ w', Below w.heap.size w w' → Calls Tryz.prog 39 #[.agg q.cells, .agg #[.int .i64 m, pv], .int .i64 x.time] w' (MarkEnd w' (markQ q ⟨m, ps⟩ x.time).1 (markQ q ⟨m, ps⟩ x.time).2)) := by
    rw [hps]
    obtain ⟨h1, h2⟩ := hok.sorted (by decide)
    exact Lib.hid (fun w' hB => omark_any w' q m x.time pv l (hA.below hB) (fun y hy => (hG y hy).below hB) h1 h2)
  obtain ⟨sa, sc, hpv, hz1, hz2⟩ := hA.form
  clear hz1 hz2
  obtain ⟨w1, hw1⟩ : ∃ W, W = (((w.alloc (.cells q.cells 23)).alloc (.cells #[.int .i64 m, pv] 29)).alloc (.cells x.cells 42)).alloc (.cells #[.int .i64 0, .slice none 0 0] 29) := ⟨_, rfl⟩
  obtain ⟨qb, hqb⟩ : ∃ b, b = w.heap.size := ⟨_, rfl⟩
  obtain ⟨sb, hsb⟩ : ∃ b, b = w.heap.size + 1 := ⟨_, rfl⟩
  obtain ⟨xb, hxb⟩ : ∃ b, b = w.heap.size + 2 := ⟨_, rfl⟩
  obtain ⟨rb, hrb⟩ : ∃ b, b = w.heap.size + 3 := ⟨_, rfl⟩
  have H1 : Hid (RowQ w1 qb q ∧ RowS w1 sb m pv ∧ RowX w1 xb x ∧ RowS w1 rb 0 nilV ∧ Below w.heap.size w w1 ∧ w1.heap.size = w.heap.size + 4) := by rw [hw1, hqb, hsb, hxb, hrb]; exact Lib.hid (box_come w q m pv x)
  have HBd : Hid (w.heap.size ≤ rb) := Lib.hid (by omega)
  clear hP hr hA hG hok hk hps
  obtain ⟨S1, hS1⟩ : ∃ s, s = comeQ q ⟨m, ps⟩ x := ⟨_, rfl⟩
  obtain ⟨S2, hS2⟩ : ∃ s, s = markQ q ⟨m, ps⟩ x.time := ⟨_, rfl⟩
  rw [← hS1] at HCo HCm
  rw [← hS2] at HMa HMk
  clear hS1 hS2
  obtain ⟨Q, hQ⟩ : ∃ Q, Q = q := ⟨_, rfl⟩
  rw [← hQ] at H1
  obtain ⟨X, hX⟩ : ∃ X, X = x := ⟨_, rfl⟩
  rw [← hX] at H1
  obtain ⟨kind, size, slide, late, agg, kq⟩ := q
  obtain ⟨xkd, xk, xt, xv⟩ := x
  simp only at hkd HMk
  subst hkd
  have HQd : Hid (∀ w', RowQ w' qb Q → D6 w' qb kind size slide late agg kq) := by rw [hQ]; exact Lib.hid (fun w' h => h.d6)
  have HXd : Hid (∀ w', RowX w' xb X → DX w' xb kd xk xt xv) := by rw [hX]; exact Lib.hid (fun w' h => h.dx)
  clear hQ hX
  obtain ⟨n, hn⟩ : ∃ n, n = l.length := ⟨_, rfl⟩
  rw [← hn] at hpv
  clear hn
  subst hpv
  unfold QueryL.cells ItemL.cells at hw1 HCm ⊢
  unfold QueryL.cells at HMk
  unfold ItemL.cells at HRt
  simp only at hw1 HRt HCm HMk ⊢
  have hs1 : (w.alloc (.cells #[.int .i64 kind, .int .i64 size, .int .i64 slide, .int .i64 late, .int .i64 agg, .int .i64 kq] 23)).heap.size = w.heap.size + 1 := heap_alloc_size w _
  have hs2 : ((w.alloc (.cells #[.int .i64 kind, .int .i64 size, .int .i64 slide, .int .i64 late, .int .i64 agg, .int .i64 kq] 23)).alloc (.cells #[.int .i64 m, .slice sa n sc] 29)).heap.size = w.heap.size + 2 := by rw [heap_alloc_size, heap_alloc_size]
  have hs3 : (((w.alloc (.cells #[.int .i64 kind, .int .i64 size, .int .i64 slide, .int .i64 late, .int .i64 agg, .int .i64 kq] 23)).alloc (.cells #[.int .i64 m, .slice sa n sc] 29)).alloc (.cells #[.int .i64 kd, Sv xk, .int .i64 xt, .int .i64 xv] 42)).heap.size = w.heap.size + 3 := by rw [heap_alloc_size, heap_alloc_size, heap_alloc_size]
  obtain ⟨x0, x1, x2, x3⟩ := HXd.out w1 H1.out.2.2.1
  go_enter Tryz.func21, Tryz.ntmps21
  go_upto_region 1 with (fail)
  rw [← hw1, ← hrb, ← hxb, ← hsb, ← hqb]
  clear hw1 hrb hxb hsb hqb hs1 hs2 hs3
  cases r with
  | false =>
    go_wp2_with (fail)
    refine (HRt.out w1).mono ?_
    rintro e w2 ⟨rfl, hB⟩
    have H2 : Hid (RowS w2 rb 0 nilV ∧ Below w.heap.size w w2) := Lib.hid ⟨H1.out.2.2.2.1.below hB, H1.out.2.2.2.2.1.trans (hB.mono H1.out.2.2.2.2.1.size)⟩
    clear hB x0 x1 x2 x3
    dsimp only
    go_upto_region 2 with (fail)
    refine wp_region_lit ?_
    refine wpList_build_on (by kernel_rfl) 29 _ rfl #[.int .i64 0, .slice none 0 0] (by first | exact built_state0 | (simp only [List.map_toArray, List.map_nil]; exact built_state0) | kernel_rfl) ?_
    refine wpList_store_row rfl _ _ _ rfl rb #[.int .i64 0, .slice none 0 0] rfl rfl 29 #[.int .i64 0, nilV] H2.out.1 state_size rfl (state_one rfl) ?_
    obtain ⟨wz, hwz⟩ : ∃ W, W = w2.setRow rb #[.int .i64 0, .slice none 0 0] := ⟨_, rfl⟩
    have HZ : Hid (RowS wz rb 0 nilV ∧ P (.returned (.tuple #[.agg #[.int .i64 0, .slice none 0 0], .slice none 0 0, .int .i64 2])) wz) := by
      have hg : w2.grownBy wz (some rb) := by rw [hwz]; exact grown_setRow _ _ _
      exact Lib.hid ⟨by rw [hwz]; exact RowS.reset H2.out.1 0 _, HNo.out (by trivial) wz (H2.out.2.trans (below_set hg HBd.out H2.out.2.size))⟩
    rw [← hwz]
    clear hwz
    go_wp2_with (fail)
    exact bodyPost_ret (v := .tuple #[.agg #[.int .i64 0, .slice none 0 0], .slice none 0 0, .int .i64 2]) ((results_cell_tmp_tmp (p := 6) (s := 7) (u := 8) (ty := 29) rfl _ _ rb 29 #[.int .i64 0, .slice none 0 0] (0, 0) _ rfl HZ.out.1 Tryz.underlying29 rfl state_size).trans rfl) rfl HZ.out.2
  | true =>
    go_wp2_with (fail)
    refine (HRt.out w1).mono ?_
    rintro e w2 ⟨rfl, hB⟩
    have H2 : Hid (RowQ w2 qb Q ∧ RowS w2 sb m (.slice sa n sc) ∧ RowX w2 xb X ∧ RowS w2 rb 0 nilV ∧ Below w.heap.size w w2) := Lib.hid ⟨H1.out.1.below hB, H1.out.2.1.below hB, H1.out.2.2.1.below hB, H1.out.2.2.2.1.below hB, H1.out.2.2.2.2.1.trans (hB.mono H1.out.2.2.2.2.1.size)⟩
    clear hB x0 x1 x2 x3
    dsimp only
    obtain ⟨d0, d1, d2, d3, d4, d5⟩ := HQd.out w2 H2.out.1
    obtain ⟨e0, e1⟩ := H2.out.2.1.d2
    obtain ⟨x0, x1, x2, x3⟩ := HXd.out w2 H2.out.2.2.1
    by_cases hk1 : kd = 1
    · subst hk1
      go_upto_region 4 with (fail)
      refine wp_region_lit ?_
      iterate 9 go_step
      refine wpList_plain rfl fun K' hK' => ?_
      go_step
      refine (HCm.out w2 H2.out.2.2.2.2).mono ?_
      rintro e w3 ⟨sv, ov, rfl, ⟨pv', l', rfl, hP1, hP2, hP3⟩, hO, hB⟩
      refine hK' _ _ ?_
      clear hK' d0 d1 d2 d3 d4 d5 e0 e1 x0 x1 x2 x3
      obtain ⟨m', hm'⟩ : ∃ z, z = S1.1.mark := ⟨_, rfl⟩
      rw [← hm']
      have H3 : Hid (RowS w3 rb 0 nilV ∧ Below w.heap.size w w3 ∧ PanesIn w3 pv' l' ∧ (∀ y ∈ l', GoodP w3 y) ∧ S1.1.panes = l'.map PaneV.p ∧ HasO w3 ov S1.2.1 ∧ m' = S1.1.mark) := Lib.hid ⟨H2.out.2.2.2.1.below hB, H2.out.2.2.2.2.trans (hB.mono H2.out.2.2.2.2.size), hP1, hP2, hP3, hO, hm'⟩
      clear hB hP1 hP2 hP3 hO hm'
      iterate 9 go_step
      refine wpList_store_row rfl _ _ _ rfl rb #[.int .i64 m', pv'] rfl rfl 29 #[.int .i64 0, nilV] H3.out.1 state_size rfl (state_one H3.out.2.2.1.one) ?_
      obtain ⟨wz, hwz⟩ : ∃ W, W = w3.setRow rb #[.int .i64 m', pv'] := ⟨_, rfl⟩
      have HZ : Hid (RowS wz rb m' pv' ∧ P (.returned (.tuple #[.agg #[.int .i64 m', pv'], ov, .int .i64 S1.2.2])) wz) := by
        have hg : w3.grownBy wz (some rb) := by rw [hwz]; exact grown_setRow _ _ _
        obtain ⟨j1, j2, j3, j4, j5, j6, j7⟩ := H3.out
        exact Lib.hid ⟨by rw [hwz]; exact RowS.reset j1 m' _, HCo.out (by trivial) (by trivial) wz _ ov ⟨pv', l', by rw [j7], j3.store j1 hg, fun y hy => (j4 y hy).storeS j1 hg, j5⟩ (j6.store j1 hg) (j2.trans (below_set hg HBd.out j2.size))⟩
      rw [← hwz]
      clear hwz
      go_wp2_with (fail)
      exact bodyPost_ret (v := .tuple #[.agg #[.int .i64 m', pv'], ov, .int .i64 S1.2.2]) ((results_cell_tmp_tmp (p := 6) (s := 7) (u := 8) (ty := 29) rfl _ _ rb 29 #[.int .i64 m', pv'] (0, 0) _ rfl HZ.out.1 Tryz.underlying29 rfl state_size).trans rfl) rfl HZ.out.2
    · have HK1 := Lib.hid hk1
      have hk1' : (kd == 1) = false := by simpa using hk1
      go_upto_region 5 with (fail)
      clear hk1 hk1'
      refine wp_region_lit ?_
      iterate 12 go_step
      refine wpList_plain rfl fun K' hK' => ?_
      go_step
      refine (HMk.out w2 H2.out.2.2.2.2).mono ?_
      rintro e w3 ⟨sv, ov, rfl, ⟨pv', l', rfl, hP1, hP2, hP3⟩, hO, hB⟩
      refine hK' _ _ ?_
      clear hK' d0 d1 d2 d3 d4 d5 e0 e1 x0 x1 x2 x3
      obtain ⟨m', hm'⟩ : ∃ z, z = S2.1.mark := ⟨_, rfl⟩
      rw [← hm']
      have H3 : Hid (RowS w3 rb 0 nilV ∧ Below w.heap.size w w3 ∧ PanesIn w3 pv' l' ∧ (∀ y ∈ l', GoodP w3 y) ∧ S2.1.panes = l'.map PaneV.p ∧ HasO w3 ov S2.2 ∧ m' = S2.1.mark) := Lib.hid ⟨H2.out.2.2.2.1.below hB, H2.out.2.2.2.2.trans (hB.mono H2.out.2.2.2.2.size), hP1, hP2, hP3, hO, hm'⟩
      clear hB hP1 hP2 hP3 hO hm'
      iterate 12 go_step
      refine wpList_store_row rfl _ _ _ rfl w3.heap.size #[.int .i64 m', pv'] rfl rfl 29 #[.int .i64 0, nilV] (heap_alloc_new w3 _) state_size rfl (state_one H3.out.2.2.1.one) ?_
      obtain ⟨w4, hw4⟩ : ∃ W, W = (w3.alloc (Obj.cells #[.int .i64 0, .slice none 0 0] 29)).setRow w3.heap.size #[.int .i64 m', pv'] := ⟨_, rfl⟩
      obtain ⟨tb, htb⟩ : ∃ b, b = w3.heap.size := ⟨_, rfl⟩
      have H4 : Hid (RowS w4 rb 0 nilV ∧ Below w.heap.size w w4 ∧ PanesIn w4 pv' l' ∧ (∀ y ∈ l', GoodP w4 y) ∧ S2.1.panes = l'.map PaneV.p ∧ HasO w4 ov S2.2 ∧ m' = S2.1.mark ∧ RowS w4 tb m' pv') := by
        obtain ⟨k1, k2⟩ := stored_state w3 m' pv'
        have e : w4 = (w3.alloc (Obj.cells #[.int .i64 0, nilV] 29)).setRow w3.heap.size #[.int .i64 m', pv'] := hw4
        rw [← e, ← htb] at k1
        rw [← e] at k2
        obtain ⟨j1, j2, j3, j4, j5, j6, j7⟩ := H3.out
        exact Lib.hid ⟨j1.below k2, j2.trans (k2.mono j2.size), j3.below k2, fun y hy => (j4 y hy).below k2, j5, j6.below k2, j7, k1⟩
      rw [← hw4, ← htb]
      clear hw4 htb H3
      obtain ⟨e0, e1⟩ := H4.out.2.2.2.2.2.2.2.d2
      go_upto_region 6 with (fail)
      refine wp_region_lit ?_
      iterate 6 go_step
      refine wpList_store_row rfl _ _ _ rfl rb #[.int .i64 m', pv'] rfl rfl 29 #[.int .i64 0, nilV] H4.out.1 state_size rfl (state_one H4.out.2.2.1.one) ?_
      obtain ⟨wz, hwz⟩ : ∃ W, W = w4.setRow rb #[.int .i64 m', pv'] := ⟨_, rfl⟩
      have HZ : Hid (RowS wz rb m' pv' ∧ P (.returned (.tuple #[.agg #[.int .i64 m', pv'], ov, .int .i64 0])) wz) := by
        have hg : w4.grownBy wz (some rb) := by rw [hwz]; exact grown_setRow _ _ _
        obtain ⟨j1, j2, j3, j4, j5, j6, j7, _⟩ := H4.out
        exact Lib.hid ⟨by rw [hwz]; exact RowS.reset j1 m' _, HMa.out (by trivial) HK1.out wz _ ov ⟨pv', l', by rw [j7], j3.store j1 hg, fun y hy => (j4 y hy).storeS j1 hg, j5⟩ (j6.store j1 hg) (j2.trans (below_set hg HBd.out j2.size))⟩
      rw [← hwz]
      clear hwz e0 e1
      go_wp2_with (fail)
      exact bodyPost_ret (v := .tuple #[.agg #[.int .i64 m', pv'], ov, .int .i64 0]) ((results_cell_tmp_tmp (p := 6) (s := 7) (u := 8) (ty := 29) rfl _ _ rb 29 #[.int .i64 m', pv'] (0, 0) _ rfl HZ.out.1 Tryz.underlying29 rfl state_size).trans rfl) rfl HZ.out.2
end Go.Proofs.YtjeeghafachebaaGreat
