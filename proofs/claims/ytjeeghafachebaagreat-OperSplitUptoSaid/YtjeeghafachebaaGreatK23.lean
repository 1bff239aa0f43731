/-
  Part 23 of 56 of what the proof leans on.
-/
import Derived.Test.YtjeeghafachebaaGreatK22
import Derived.Test.YtjeeghafachebaaGreatK21
import Derived.Test.YtjeeghafachebaaGreatK19
import Derived.Test.YtjeeghafachebaaGreatK3
namespace Go.Proofs.YtjeeghafachebaaGreat
open Go Go.RowKit
def mergeQ (q : QueryL) (x y : AggL) : AggL × Int :=
  if x.rightB q = true ∧ y.rightB q = true then (if togOver q x y = false ∧ (togL q x y).rightB q = true then (togL q x y, 0) else (zeroA, 20)) else (zeroA, 2)
theorem right_facts {q : QueryL} {x : AggL} (h : x.rightB q = true) : q.rightB = true ∧ (0 ≤ x.n ∧ x.n ≤ 1073741824) ∧ (-4398046511104 ≤ x.a ∧ x.a ≤ 4398046511104) ∧ x.top.length ≤ 8 ∧ (0 ≤ q.k ∧ q.k ≤ 8) := by
  rw [rightA_parts] at h
  simp only [Bool.and_eq_true, decide_eq_true_eq] at h
  obtain ⟨h1, h2, h3, h4, h5, h6⟩ := h
  obtain ⟨_, _, _, _, _, ha, hk, hk0⟩ := rightQ_cases h1
  have hkb : 0 ≤ q.k ∧ q.k ≤ 8 := by
    by_cases h : q.agg = 6
    · have := hk h
      omega
    · have := hk0 h
      omega
  have hm := mostA_bd q.agg
  refine ⟨h1, h2, ?_, ?_, hkb⟩
  · unfold mostN at h3
    split at h3 <;> omega
  · unfold topsN at h4
    split at h4 <;> omega
def MgSt (w : World) (qb b1 b2 b6 : Nat) (Q : QueryL) (n1 a1 : Int) (tv1 z1 : Value) (n2 a2 : Int) (tv2 z2 : Value) (w' : World) : Prop :=
  w.heap.size ≤ b6 ∧ RowQ w' qb Q ∧ RowA w' b1 n1 a1 tv1 z1 ∧ RowA w' b2 n2 a2 tv2 z2 ∧ RowA w' b6 0 0 nilV zeroZ ∧ Below w.heap.size w w'
theorem MgSt.below {w : World} {qb b1 b2 b6 : Nat} {Q : QueryL} {n1 a1 : Int} {tv1 z1 : Value} {n2 a2 : Int} {tv2 z2 : Value} {w' w'' : World} (h : MgSt w qb b1 b2 b6 Q n1 a1 tv1 z1 n2 a2 tv2 z2 w') (hB : Below w'.heap.size w' w'') : MgSt w qb b1 b2 b6 Q n1 a1 tv1 z1 n2 a2 tv2 z2 w'' := by
  obtain ⟨h0, h1, h2, h3, h4, h5⟩ := h
  exact ⟨h0, h1.below hB, h2.below hB, h3.below hB, h4.below hB, h5.trans (hB.mono h5.size)⟩
set_option maxRecDepth 100000 in
set_option maxHeartbeats 2000000 in
theorem amerge_any (w : World) (q : QueryL) (x y : AggL) (tv1 z1 tv2 z2 : Value) (h1 : IntsAt w tv1 x.top) (h2 : IntsAt w tv2 y.top) (k1 : WholeZ z1 x.u x.v) (k2 : WholeZ z2 y.u y.v) (hn1 : x.top.length ≤ 1000000) (hn2 : y.top.length ≤ 1000000) :
    Calls Tryz.prog 99 #[.agg q.cells, .agg (aggC x.n x.a tv1 z1), .agg (aggC y.n y.a tv2 z2)] w (AggEnd w (mergeQ q x y).1 (mergeQ q x y).2) := by
  obtain ⟨P, hP⟩ : ∃ P, P = AggEnd w (mergeQ q x y).1 (mergeQ q x y).2 := ⟨_, rfl⟩
  rw [← hP]
  obtain ⟨r1, hr1⟩ : ∃ b, b = x.rightB q := ⟨_, rfl⟩
  obtain ⟨r2, hr2⟩ : ∃ b, b = y.rightB q := ⟨_, rfl⟩
  obtain ⟨m, hm⟩ : ∃ m, m = togL q x y := ⟨_, rfl⟩
  obtain ⟨er, her⟩ : ∃ e, e = togE q x y := ⟨_, rfl⟩
  obtain ⟨r3, hr3⟩ : ∃ b, b = m.rightB q := ⟨_, rfl⟩
  have HZe : Hid (∀ w' er', Below w.heap.size w w' → mergeQ q x y = (zeroA, er') → P (.returned (.tuple #[.agg #[.int .i64 0, .int .i64 0, .slice none 0 0, .complex .f64 0 0], .int .i64 er'])) w') := by
    refine Lib.hid (fun w' er' hB hq => ?_)
    rw [hP, hq]
    exact ⟨_, _, rfl, IntsAt.nil _, zeroZ_whole, hB, fun _ _ _ h => by cases h⟩
  have HYe : Hid (∀ w' tv z, IntsAt w' tv m.top → WholeZ z m.u m.v → Below w.heap.size w w' → (∀ a n c, tv = .slice (some a) n c → w.heap.size ≤ a.block) → mergeQ q x y = (m, 0) → P (.returned (.tuple #[.agg #[.int .i64 m.n, .int .i64 m.a, tv, z], .int .i64 0])) w') := by
    refine Lib.hid (fun w' tv z j1 j2 j3 j6 hq => ?_)
    rw [hP, hq]
    exact ⟨tv, z, rfl, j1, j2, j3, j6⟩
  have HEq : Hid (mergeQ q x y = if r1 = true ∧ r2 = true then (if er = 0 ∧ r3 = true then (m, 0) else (zeroA, 20)) else (zeroA, 2)) := by
    rw [mergeQ, ← hr1, ← hr2, ← hm, ← hr3, her, togE]
    refine Lib.hid ?_
    cases togOver q x y <;> simp
  obtain ⟨Q, hQ⟩ : ∃ Q, Q = q := ⟨_, rfl⟩
  have HC1 : Hid (∀ w', Below w.heap.size w w' → Calls Tryz.prog 32 #[.agg Q.cells, .agg #[.int .i64 x.n, .int .i64 x.a, tv1, z1]] w' (Below0 w' (.bool r1))) := by
    rw [hr1, hQ]
    exact Lib.hid (fun w' h => aright_any w' q x tv1 z1 (h1.below h) k1 hn1)
  have HC2 : Hid (∀ w', Below w.heap.size w w' → Calls Tryz.prog 32 #[.agg Q.cells, .agg #[.int .i64 y.n, .int .i64 y.a, tv2, z2]] w' (Below0 w' (.bool r2))) := by
    rw [hr2, hQ]
    exact Lib.hid (fun w' h => aright_any w' q y tv2 z2 (h2.below h) k2 hn2)
  have HC3 : Hid (r1 = true → r2 = true → ∀ w', Below w.heap.size w w' → Calls Tryz.prog 122 #[.agg Q.cells, .agg #[.int .i64 x.n, .int .i64 x.a, tv1, z1], .agg #[.int .i64 y.n, .int .i64 y.a, tv2, z2]] w' (AggEnd w' m er)) := by
    rw [hm, her, hQ]
    refine Lib.hid (fun e1 e2 w' h => ?_)
    obtain ⟨_, f2, f3, f4, f5⟩ := right_facts (hr1.symm.trans e1)
    obtain ⟨_, g2, g3, g4, _⟩ := right_facts (hr2.symm.trans e2)
    exact atogether_any w' q x y tv1 z1 tv2 z2 (h1.below h) (h2.below h) k1 k2 (by omega) (by omega) ⟨f2, g2, f3, g3⟩
  have HC4 : Hid (r1 = true → r2 = true → ∀ w' tv z, IntsAt w' tv m.top → WholeZ z m.u m.v → Calls Tryz.prog 32 #[.agg Q.cells, .agg #[.int .i64 m.n, .int .i64 m.a, tv, z]] w' (Below0 w' (.bool r3))) := by
    rw [hr3, hQ]
    refine Lib.hid (fun e1 e2 w' tv z j1 j2 => aright_any w' q m tv z j1 j2 ?_)
    obtain ⟨_, _, _, f4, f5⟩ := right_facts (hr1.symm.trans e1)
    obtain ⟨_, _, _, g4, _⟩ := right_facts (hr2.symm.trans e2)
    rw [hm, togL]
    simp only
    split
    · rw [top_length]
      omega
    · simp
  have Her : Hid (er = 0 ∨ er = 20) := by
    rw [her, togE]
    split
    · exact Lib.hid (.inr rfl)
    · exact Lib.hid (.inl rfl)
  obtain ⟨n1, a1, l1, u1, v1⟩ := x
  obtain ⟨n2, a2, l2, u2, v2⟩ := y
  simp only at HC1 HC2 HC3 ⊢
  obtain ⟨w1, hw1⟩ : ∃ W, W = (((w.alloc (.cells q.cells 23)).alloc (.cells (aggC n1 a1 tv1 z1) 53)).alloc (.cells (aggC n2 a2 tv2 z2) 53)).alloc (.cells zeroC 53) := ⟨_, rfl⟩
  obtain ⟨qb, hqb⟩ : ∃ b, b = w.heap.size := ⟨_, rfl⟩
  obtain ⟨b1, hb1⟩ : ∃ b, b = w.heap.size + 1 := ⟨_, rfl⟩
  obtain ⟨b2, hb2⟩ : ∃ b, b = w.heap.size + 2 := ⟨_, rfl⟩
  obtain ⟨b6, hb6⟩ : ∃ b, b = w.heap.size + 3 := ⟨_, rfl⟩
  have hs1 : (w.alloc (.cells q.cells 23)).heap.size = w.heap.size + 1 := heap_alloc_size w _
  have hs2 : ((w.alloc (.cells q.cells 23)).alloc (.cells (aggC n1 a1 tv1 z1) 53)).heap.size = w.heap.size + 2 := by rw [heap_alloc_size, heap_alloc_size]
  have hs3 : (((w.alloc (.cells q.cells 23)).alloc (.cells (aggC n1 a1 tv1 z1) 53)).alloc (.cells (aggC n2 a2 tv2 z2) 53)).heap.size = w.heap.size + 3 := by rw [heap_alloc_size, heap_alloc_size, heap_alloc_size]
  have H1 : Hid (MgSt w qb b1 b2 b6 Q n1 a1 tv1 z1 n2 a2 tv2 z2 w1) := by
    have h := box_qaa w q n1 a1 tv1 z1 n2 a2 tv2 z2
    have hB := (Below.refl _ (((w.alloc (.cells q.cells 23)).alloc (.cells (aggC n1 a1 tv1 z1) 53)).alloc (.cells (aggC n2 a2 tv2 z2) 53))).alloc (Nat.le_refl _) (.cells zeroC 53)
    rw [← hw1] at hB
    have hz : RowA w1 b6 0 0 nilV zeroZ := by rw [hw1, hb6, ← hs3]; exact heap_alloc_new _ _
    rw [hqb, hb1, hb2, hQ]
    exact Lib.hid ⟨by omega, h.1.below hB, h.2.1.below hB, h.2.2.1.below hB, hz, h.2.2.2.1.trans (hB.mono h.2.2.2.1.size)⟩
  have Hm := Lib.hid hm
  clear hP h1 h2 k1 k2 hn1 hn2 hr1 hr2 hr3 hm her
  obtain ⟨kind, size, slide, late, agg, k⟩ := q
  have HQe : Hid (Q.cells = #[.int .i64 kind, .int .i64 size, .int .i64 slide, .int .i64 late, .int .i64 agg, .int .i64 k] ∧ ∀ w', RowQ w' qb Q → D6 w' qb kind size slide late agg k) := by
    rw [hQ]
    exact Lib.hid ⟨rfl, fun w' h => h.d6⟩
  unfold QueryL.cells at hw1 hs1 hs2 hs3 ⊢
  unfold zeroC at hw1
  unfold aggC at hw1 hs2 hs3 ⊢
  simp only [nilV, zeroZ] at hw1 hs1 hs2 hs3
  rw [HQe.out.1] at HC1 HC2 HC3 HC4
  obtain ⟨mn, ma, ml, mu, mv⟩ := m
  simp only at HYe HC4
  clear hQ
  obtain ⟨d0, d1, d2, d3, d4, d5⟩ := HQe.out.2 w1 H1.out.2.1
  obtain ⟨f0, f1, f2, f3⟩ := H1.out.2.2.1.d4
  go_enter Tryz.func99, Tryz.ntmps99
  go_upto_region 1 with (fail)
  rw [← hw1, ← hb6, ← hb2, ← hb1, ← hqb]
  clear hw1 hqb hb1 hb2 hb6 hs1 hs2 hs3
  go_wp2_with (fail)
  refine (HC1.out w1 H1.out.2.2.2.2.2).mono ?_
  rintro e w2 ⟨rfl, hB⟩
  have H2 : Hid (MgSt w qb b1 b2 b6 Q n1 a1 tv1 z1 n2 a2 tv2 z2 w2) := Lib.hid (H1.out.below hB)
  clear hB d0 d1 d2 d3 d4 d5 f0 f1 f2 f3 H1 HC1
  dsimp only
  cases r1 with
  | false =>
    have hq : mergeQ ⟨kind, size, slide, late, agg, k⟩ ⟨n1, a1, l1, u1, v1⟩ ⟨n2, a2, l2, u2, v2⟩ = (zeroA, 2) := by rw [HEq.out]; simp
    go_upto_region 2 with (fail)
    refine wp_region_lit ?_
    iterate 3 go_step
    refine wpList_store_row rfl _ _ _ rfl b6 zeroC rfl rfl 53 zeroC H2.out.2.2.2.2.1 agg_size rfl (agg_one rfl rfl) ?_
    obtain ⟨wy, hwy⟩ : ∃ W, W = w2.setRow b6 zeroC := ⟨_, rfl⟩
    have HZ : Hid (RowA wy b6 0 0 nilV zeroZ ∧ P (.returned (.tuple #[.agg #[.int .i64 0, .int .i64 0, .slice none 0 0, .complex .f64 0 0], .int .i64 2])) wy) := by
      have hg := grown_setRow w2 b6 zeroC
      obtain ⟨h0, h1, h2, h3, h4, h5⟩ := H2.out
      rw [hwy]
      exact Lib.hid ⟨h4.reset _ _ _ _, HZe.out _ 2 (h5.trans (below_set hg h0 h5.size)) hq⟩
    rw [← hwy]
    clear hwy hq
    go_wp2_with (fail)
    exact bodyPost_ret (v := .tuple #[.agg zeroC, .int .i64 2]) ((results_cell_row_tmp (p := 6) (u := 7) (ty := 53) rfl _ _ b6 53 zeroC (0, 0) _ rfl HZ.out.1 Tryz.underlying53 rfl agg_size).trans rfl) rfl HZ.out.2
  | true =>
  obtain ⟨d0, d1, d2, d3, d4, d5⟩ := HQe.out.2 w2 H2.out.2.1
  obtain ⟨g0, g1, g2, g3⟩ := H2.out.2.2.2.1.d4
  go_wp2_with (fail)
  refine (HC2.out w2 H2.out.2.2.2.2.2).mono ?_
  rintro e w3 ⟨rfl, hB⟩
  have H3 : Hid (MgSt w qb b1 b2 b6 Q n1 a1 tv1 z1 n2 a2 tv2 z2 w3) := Lib.hid (H2.out.below hB)
  clear hB d0 d1 d2 d3 d4 d5 g0 g1 g2 g3 H2 HC2
  dsimp only
  cases r2 with
  | false =>
    have hq : mergeQ ⟨kind, size, slide, late, agg, k⟩ ⟨n1, a1, l1, u1, v1⟩ ⟨n2, a2, l2, u2, v2⟩ = (zeroA, 2) := by rw [HEq.out]; simp
    go_upto_region 2 with (fail)
    refine wp_region_lit ?_
    iterate 3 go_step
    refine wpList_store_row rfl _ _ _ rfl b6 zeroC rfl rfl 53 zeroC H3.out.2.2.2.2.1 agg_size rfl (agg_one rfl rfl) ?_
    obtain ⟨wy, hwy⟩ : ∃ W, W = w3.setRow b6 zeroC := ⟨_, rfl⟩
    have HZ : Hid (RowA wy b6 0 0 nilV zeroZ ∧ P (.returned (.tuple #[.agg #[.int .i64 0, .int .i64 0, .slice none 0 0, .complex .f64 0 0], .int .i64 2])) wy) := by
      have hg := grown_setRow w3 b6 zeroC
      obtain ⟨h0, h1, h2, h3, h4, h5⟩ := H3.out
      rw [hwy]
      exact Lib.hid ⟨h4.reset _ _ _ _, HZe.out _ 2 (h5.trans (below_set hg h0 h5.size)) hq⟩
    rw [← hwy]
    clear hwy hq
    go_wp2_with (fail)
    exact bodyPost_ret (v := .tuple #[.agg zeroC, .int .i64 2]) ((results_cell_row_tmp (p := 6) (u := 7) (ty := 53) rfl _ _ b6 53 zeroC (0, 0) _ rfl HZ.out.1 Tryz.underlying53 rfl agg_size).trans rfl) rfl HZ.out.2
  | true =>
  obtain ⟨d0, d1, d2, d3, d4, d5⟩ := HQe.out.2 w3 H3.out.2.1
  obtain ⟨f0, f1, f2, f3⟩ := H3.out.2.2.1.d4
  obtain ⟨g0, g1, g2, g3⟩ := H3.out.2.2.2.1.d4
  go_upto_region 3 with (fail)
  refine wp_region_lit ?_
  iterate 9 go_step
  refine wpList_plain rfl fun K hK => ?_
  go_step
  refine (HC3.out (by simp) (by simp) w3 H3.out.2.2.2.2.2).mono ?_
  rintro e w4 ⟨tv, z, rfl, hI, hW, hB, hnb⟩
  have HNb : Hid ((∀ a n c, tv = .slice (some a) n c → w.heap.size ≤ a.block) ∧ ∀ a n c, tv = .slice (some a) n c → ml ≠ [] → a.block ≠ b6) := by
    have l6 := H3.out.2.2.2.2.1.lt
    have l0 := H3.out.1
    exact Lib.hid ⟨fun a n c e => by have := hnb a n c e; omega, fun a n c e _ => by have := hnb a n c e; omega⟩
  refine hK _ _ ?_
  have H4 : Hid (MgSt w qb b1 b2 b6 Q n1 a1 tv1 z1 n2 a2 tv2 z2 w4 ∧ IntsAt w4 tv ml ∧ WholeZ z mu mv) := Lib.hid ⟨H3.out.below hB, hI, hW⟩
  unfold aggC
  simp only
  clear hK hB hI hW hnb d0 d1 d2 d3 d4 d5 f0 f1 f2 f3 g0 g1 g2 g3 H3 HC3
  iterate 12 go_step
  refine wpList_store_row rfl _ _ _ rfl w4.heap.size (aggC mn ma tv z) rfl rfl 53 zeroC (heap_alloc_new w4 _) agg_size rfl (agg_oneW H4.out.2.1 H4.out.2.2) ?_
  obtain ⟨w5, hw5⟩ : ∃ W, W = (w4.alloc (Obj.cells #[.int .i64 0, .int .i64 0, .slice none 0 0, .complex .f64 0 0] 53)).setRow w4.heap.size (aggC mn ma tv z) := ⟨_, rfl⟩
  obtain ⟨b8, hb8⟩ : ∃ b, b = w4.heap.size := ⟨_, rfl⟩
  have H5 : Hid (MgSt w qb b1 b2 b6 Q n1 a1 tv1 z1 n2 a2 tv2 z2 w5 ∧ IntsAt w5 tv ml ∧ WholeZ z mu mv ∧ RowA w5 b8 mn ma tv z ∧ b6 < b8) := by
    obtain ⟨k1, k2⟩ := stored_agg w4 mn ma tv z
    rw [hw5, hb8]
    exact Lib.hid ⟨H4.out.1.below k2, H4.out.2.1.below k2, H4.out.2.2, k1, H4.out.1.2.2.2.2.1.lt⟩
  rw [← hw5, ← hb8]
  clear hw5 hb8 H4
  rcases Her.out with rfl | rfl
  · obtain ⟨d0, d1, d2, d3, d4, d5⟩ := HQe.out.2 w5 H5.out.1.2.1
    obtain ⟨f0, f1, f2, f3⟩ := H5.out.2.2.2.1.d4
    go_wp2_with (fail)
    refine (HC4.out (by simp) (by simp) w5 tv z H5.out.2.1 H5.out.2.2.1).mono ?_
    rintro e w6 ⟨rfl, hB⟩
    have H6 : Hid (MgSt w qb b1 b2 b6 Q n1 a1 tv1 z1 n2 a2 tv2 z2 w6 ∧ IntsAt w6 tv ml ∧ WholeZ z mu mv ∧ RowA w6 b8 mn ma tv z ∧ b6 < b8) := by
      obtain ⟨j1, j2, j3, j4, j5⟩ := H5.out
      exact Lib.hid ⟨j1.below hB, j2.below hB, j3, j4.below hB, j5⟩
    clear hB d0 d1 d2 d3 d4 d5 f0 f1 f2 f3 H5 HC4
    dsimp only
    cases r3 with
    | false =>
      have H6' := Lib.hid H6.out.1
      have hq : mergeQ ⟨kind, size, slide, late, agg, k⟩ ⟨n1, a1, l1, u1, v1⟩ ⟨n2, a2, l2, u2, v2⟩ = (zeroA, 20) := by rw [HEq.out]; simp
      go_upto_region 5 with (fail)
      refine wp_region_lit ?_
      iterate 3 go_step
      refine wpList_store_row rfl _ _ _ rfl b6 zeroC rfl rfl 53 zeroC H6'.out.2.2.2.2.1 agg_size rfl (agg_one rfl rfl) ?_
      obtain ⟨wy, hwy⟩ : ∃ W, W = w6.setRow b6 zeroC := ⟨_, rfl⟩
      have HZ : Hid (RowA wy b6 0 0 nilV zeroZ ∧ P (.returned (.tuple #[.agg #[.int .i64 0, .int .i64 0, .slice none 0 0, .complex .f64 0 0], .int .i64 20])) wy) := by
        have hg := grown_setRow w6 b6 zeroC
        obtain ⟨h0, h1, h2, h3, h4, h5⟩ := H6'.out
        rw [hwy]
        exact Lib.hid ⟨h4.reset _ _ _ _, HZe.out _ 20 (h5.trans (below_set hg h0 h5.size)) hq⟩
      rw [← hwy]
      clear hwy hq
      go_wp2_with (fail)
      exact bodyPost_ret (v := .tuple #[.agg zeroC, .int .i64 20]) ((results_cell_row_tmp (p := 6) (u := 7) (ty := 53) rfl _ _ b6 53 zeroC (0, 0) _ rfl HZ.out.1 Tryz.underlying53 rfl agg_size).trans rfl) rfl HZ.out.2
    | true =>
      have hq : mergeQ ⟨kind, size, slide, late, agg, k⟩ ⟨n1, a1, l1, u1, v1⟩ ⟨n2, a2, l2, u2, v2⟩ = (⟨mn, ma, ml, mu, mv⟩, 0) := by rw [HEq.out]; rfl
      obtain ⟨f0, f1, f2, f3⟩ := H6.out.2.2.2.1.d4
      go_upto_region 6 with (fail)
      refine wp_region_lit ?_
      iterate 3 go_step
      refine wpList_store_row rfl _ _ _ rfl b6 (aggC mn ma tv z) rfl rfl 53 zeroC H6.out.1.2.2.2.2.1 agg_size rfl (agg_oneW H6.out.2.1 H6.out.2.2.1) ?_
      obtain ⟨wy, hwy⟩ : ∃ W, W = w6.setRow b6 (aggC mn ma tv z) := ⟨_, rfl⟩
      have HZ : Hid (RowA wy b6 mn ma tv z ∧ P (.returned (.tuple #[.agg #[.int .i64 mn, .int .i64 ma, tv, z], .int .i64 0])) wy) := by
        have hg := grown_setRow w6 b6 (aggC mn ma tv z)
        obtain ⟨⟨h0, h1, h2, h3, h4, h5⟩, j2, j3, j4, j5⟩ := H6.out
        rw [hwy]
        refine Lib.hid ⟨h4.reset _ _ _ _, HYe.out _ tv z (j2.grown hg HNb.out.2) j3 (h5.trans (below_set hg h0 h5.size)) HNb.out.1 hq⟩
      rw [← hwy]
      clear hwy f0 f1 f2 f3 hq
      go_wp2_with (fail)
      exact bodyPost_ret (v := .tuple #[.agg (aggC mn ma tv z), .int .i64 0]) ((results_cell_row_tmp (p := 6) (u := 7) (ty := 53) rfl _ _ b6 53 (aggC mn ma tv z) (0, 0) _ rfl HZ.out.1 Tryz.underlying53 rfl agg_size).trans rfl) rfl HZ.out.2
  · have H5' := Lib.hid H5.out.1
    have hq : mergeQ ⟨kind, size, slide, late, agg, k⟩ ⟨n1, a1, l1, u1, v1⟩ ⟨n2, a2, l2, u2, v2⟩ = (zeroA, 20) := by rw [HEq.out]; simp
    go_upto_region 5 with (fail)
    refine wp_region_lit ?_
    iterate 3 go_step
    refine wpList_store_row rfl _ _ _ rfl b6 zeroC rfl rfl 53 zeroC H5'.out.2.2.2.2.1 agg_size rfl (agg_one rfl rfl) ?_
    obtain ⟨wy, hwy⟩ : ∃ W, W = w5.setRow b6 zeroC := ⟨_, rfl⟩
    have HZ : Hid (RowA wy b6 0 0 nilV zeroZ ∧ P (.returned (.tuple #[.agg #[.int .i64 0, .int .i64 0, .slice none 0 0, .complex .f64 0 0], .int .i64 20])) wy) := by
      have hg := grown_setRow w5 b6 zeroC
      obtain ⟨h0, h1, h2, h3, h4, h5⟩ := H5'.out
      rw [hwy]
      exact Lib.hid ⟨h4.reset _ _ _ _, HZe.out _ 20 (h5.trans (below_set hg h0 h5.size)) hq⟩
    rw [← hwy]
    clear hwy hq
    go_wp2_with (fail)
    exact bodyPost_ret (v := .tuple #[.agg zeroC, .int .i64 20]) ((results_cell_row_tmp (p := 6) (u := 7) (ty := 53) rfl _ _ b6 53 zeroC (0, 0) _ rfl HZ.out.1 Tryz.underlying53 rfl agg_size).trans rfl) rfl HZ.out.2
end Go.Proofs.YtjeeghafachebaaGreat
namespace Go.Proofs.YtjeeghafachebaaGreat
open Go Go.RowKit
def addQ (q : QueryL) (x : AggL) (v : Int) : AggL × Int := if withinB v 1099511627776 = true then mergeQ q x (oneL q.agg v) else (zeroA, 2)
def AdSt (w : World) (qb b1 b6 : Nat) (q : QueryL) (x : AggL) (tv1 z1 : Value) (w' : World) : Prop :=
  (w.heap.size ≤ b6 ∧ qb < b6 ∧ b1 < b6) ∧ RowQ w' qb q ∧ RowA w' b1 x.n x.a tv1 z1 ∧ RowA w' b6 0 0 nilV zeroZ ∧ Below w.heap.size w w'
theorem AdSt.below {w : World} {qb b1 b6 : Nat} {q : QueryL} {x : AggL} {tv1 z1 : Value} {w' w'' : World} (h : AdSt w qb b1 b6 q x tv1 z1 w') (hB : Below w'.heap.size w' w'') : AdSt w qb b1 b6 q x tv1 z1 w'' := by
  obtain ⟨h0, h1, h2, h3, h4⟩ := h
  exact ⟨h0, h1.below hB, h2.below hB, h3.below hB, h4.trans (hB.mono h4.size)⟩
def AdV (b6 : Nat) (m : AggL) (w' : World) (tv z : Value) : Prop := IntsAt w' tv m.top ∧ WholeZ z m.u m.v ∧ ∀ a n c, tv = .slice (some a) n c → b6 < a.block
def AdG (w : World) (qb b1 b6 : Nat) (q : QueryL) (x : AggL) (tv1 z1 : Value) (m : AggL) : Nat → World → Prop
  | 0, w' => AdSt w qb b1 b6 q x tv1 z1 w'
  | 1, w' => AdSt w qb b1 b6 q x tv1 z1 w'
  | 2, w' => AdSt w qb b1 b6 q x tv1 z1 w'
  | _ + 3, w' => ∃ tv z, RowA w' b6 m.n m.a tv z ∧ AdV b6 m w' tv z ∧ Below w.heap.size w w' ∧ RowQ w' qb q ∧ RowA w' b1 x.n x.a tv1 z1
set_option maxRecDepth 100000 in
set_option maxHeartbeats 2000000 in
theorem aadd_any (w : World) (q : QueryL) (x : AggL) (tv1 z1 : Value) (v : Int) (h1 : IntsAt w tv1 x.top) (k1 : WholeZ z1 x.u x.v) (hn1 : x.top.length ≤ 1000000) :
    Calls Tryz.prog 100 #[.agg q.cells, .agg (aggC x.n x.a tv1 z1), .int .i64 v] w (AggEnd w (addQ q x v).1 (addQ q x v).2) := by
  obtain ⟨P, hP⟩ : ∃ P, P = AggEnd w (addQ q x v).1 (addQ q x v).2 := ⟨_, rfl⟩
  rw [← hP]
  obtain ⟨r1, hr1⟩ : ∃ b, b = withinB v 1099511627776 := ⟨_, rfl⟩
  obtain ⟨o, ho⟩ : ∃ m, m = oneL q.agg v := ⟨_, rfl⟩
  obtain ⟨m, hm⟩ : ∃ m, m = (mergeQ q x o).1 := ⟨_, rfl⟩
  obtain ⟨er, her⟩ : ∃ e, e = (mergeQ q x o).2 := ⟨_, rfl⟩
  have HZe : Hid (∀ w' er', Below w.heap.size w w' → addQ q x v = (zeroA, er') → P (.returned (.tuple #[.agg #[.int .i64 0, .int .i64 0, .slice none 0 0, .complex .f64 0 0], .int .i64 er'])) w') := by
    refine Lib.hid (fun w' er' hB hq => ?_)
    rw [hP, hq]
    exact ⟨_, _, rfl, IntsAt.nil _, zeroZ_whole, hB, fun _ _ _ h => by cases h⟩
  have HEq : Hid (addQ q x v = if r1 = true then (m, er) else (zeroA, 2)) := by
    rw [addQ, ← hr1, ← ho, hm, her]
    exact Lib.hid rfl
  have HYe : Hid (∀ w' tv z b6, w.heap.size ≤ b6 → AdV b6 m w' tv z → Below w.heap.size w w' → r1 = true → P (.returned (.tuple #[.agg (aggC m.n m.a tv z), .int .i64 er])) w') := by
    refine Lib.hid (fun w' tv z b6 j0 j1 j2 j3 => ?_)
    rw [hP, HEq.out, if_pos j3]
    exact ⟨tv, z, rfl, j1.1, j1.2.1, j2, fun a n c e => by have := j1.2.2 a n c e; omega⟩
  have HC1 : Hid (∀ w', Calls Tryz.prog 55 #[.int .i64 v, .int .i64 1099511627776] w' (fun e w'' => e = .returned (.bool r1) ∧ w'' = w')) := by
    rw [hr1]
    exact Lib.hid (fun w' => awithin_any w' v _ (by decide))
  obtain ⟨VQ, hVQ⟩ : ∃ V, V = Value.agg q.cells := ⟨_, rfl⟩
  obtain ⟨VA, hVA⟩ : ∃ V, V = Value.agg (aggC x.n x.a tv1 z1) := ⟨_, rfl⟩
  have HC2 : Hid (∀ w', Calls Tryz.prog 123 #[VQ, .int .i64 v] w' (AggOne w' o)) := by
    rw [ho, hVQ]
    exact Lib.hid (fun w' => aone_any w' q v)
  have HC3 : Hid (∀ w' tv z, Below w.heap.size w w' → IntsAt w' tv o.top → WholeZ z o.u o.v → Calls Tryz.prog 99 #[VQ, VA, .agg (aggC o.n o.a tv z)] w' (AggEnd w' m er)) := by
    rw [hm, her, hVQ, hVA]
    refine Lib.hid (fun w' tv z hB j1 j2 => amerge_any w' q x o tv1 z1 tv z (h1.below hB) j1 k1 j2 hn1 ?_)
    rw [ho, oneL]
    simp only
    split <;> simp
  obtain ⟨w1, hw1⟩ : ∃ W, W = ((w.alloc (.cells q.cells 23)).alloc (.cells (aggC x.n x.a tv1 z1) 53)).alloc (.cells zeroC 53) := ⟨_, rfl⟩
  obtain ⟨qb, hqb⟩ : ∃ b, b = w.heap.size := ⟨_, rfl⟩
  obtain ⟨b1, hb1⟩ : ∃ b, b = w.heap.size + 1 := ⟨_, rfl⟩
  obtain ⟨b6, hb6⟩ : ∃ b, b = w.heap.size + 2 := ⟨_, rfl⟩
  have hs1 : (w.alloc (.cells q.cells 23)).heap.size = w.heap.size + 1 := heap_alloc_size w _
  have hs2 : ((w.alloc (.cells q.cells 23)).alloc (.cells (aggC x.n x.a tv1 z1) 53)).heap.size = w.heap.size + 2 := by rw [heap_alloc_size, heap_alloc_size]
  have H1 : Hid (AdSt w qb b1 b6 q x tv1 z1 w1) := by
    have h := box_qa w q x.n x.a tv1 z1
    have hB := (Below.refl _ ((w.alloc (.cells q.cells 23)).alloc (.cells (aggC x.n x.a tv1 z1) 53))).alloc (Nat.le_refl _) (.cells zeroC 53)
    rw [← hw1] at hB
    have hz : RowA w1 b6 0 0 nilV zeroZ := by rw [hw1, hb6, ← hs2]; exact heap_alloc_new _ _
    rw [hqb, hb1]
    exact Lib.hid ⟨⟨by omega, by omega, by omega⟩, h.1.below hB, h.2.1.below hB, hz, h.2.2.trans (hB.mono h.2.2.size)⟩
  clear hP h1 k1 hn1 hr1 hm her ho
  obtain ⟨kind, size, slide, late, agg, kq⟩ := q
  obtain ⟨n1, a1, l1, u1, v1⟩ := x
  have HVQ : Hid (VQ = .agg #[.int .i64 kind, .int .i64 size, .int .i64 slide, .int .i64 late, .int .i64 agg, .int .i64 kq]) := Lib.hid hVQ
  have HVA : Hid (VA = .agg #[.int .i64 n1, .int .i64 a1, tv1, z1]) := Lib.hid hVA
  clear hVQ hVA
  obtain ⟨Q, hQ⟩ : ∃ Q, Q = QueryL.mk kind size slide late agg kq := ⟨_, rfl⟩
  obtain ⟨X, hX⟩ : ∃ X, X = AggL.mk n1 a1 l1 u1 v1 := ⟨_, rfl⟩
  have HRq : Hid (∀ w', RowQ w' qb Q → D6 w' qb kind size slide late agg kq) := by
    rw [hQ]
    exact Lib.hid (fun w' h => h.d6)
  have HRa : Hid (∀ w', RowA w' b1 X.n X.a tv1 z1 → D4 w' b1 n1 a1 tv1 z1) := by
    rw [hX]
    exact Lib.hid (fun w' h => h.d4)
  rw [← hQ, ← hX] at H1 HEq HZe
  simp only at hw1 hs2
  clear hQ hX
  unfold QueryL.cells at hw1 hs1 hs2 ⊢
  unfold zeroC at hw1
  unfold aggC at hw1 hs2 ⊢
  simp only [nilV, zeroZ] at hw1 hs1 hs2 ⊢
  go_enter Tryz.func100, Tryz.ntmps100
  go_upto_region 1 with (fail)
  rw [← hw1, ← hb6, ← hb1, ← hqb]
  clear hw1 hqb hb1 hb6 hs1 hs2
  go_wp2_with (fail)
  refine (HC1.out w1).mono ?_
  rintro e w2 ⟨rfl, hw2⟩
  subst w2
  clear HC1
  dsimp only
  cases r1 with
  | false =>
    have hq : addQ Q X v = (zeroA, 2) := by rw [HEq.out]; simp
    go_upto_region 2 with (fail)
    refine wp_region_lit ?_
    iterate 3 go_step
    refine wpList_store_row rfl _ _ _ rfl b6 zeroC rfl rfl 53 zeroC H1.out.2.2.2.1 agg_size rfl (agg_one rfl rfl) ?_
    obtain ⟨wy, hwy⟩ : ∃ W, W = w1.setRow b6 zeroC := ⟨_, rfl⟩
    have HZ : Hid (RowA wy b6 0 0 nilV zeroZ ∧ P (.returned (.tuple #[.agg #[.int .i64 0, .int .i64 0, .slice none 0 0, .complex .f64 0 0], .int .i64 2])) wy) := by
      have hg := grown_setRow w1 b6 zeroC
      obtain ⟨h0, h1, h2, h3, h4⟩ := H1.out
      rw [hwy]
      exact Lib.hid ⟨h3.reset _ _ _ _, HZe.out _ 2 (h4.trans (below_set hg h0.1 h4.size)) hq⟩
    rw [← hwy]
    clear hwy hq
    go_wp2_with (fail)
    exact bodyPost_ret (v := .tuple #[.agg zeroC, .int .i64 2]) ((results_cell_row_tmp (p := 6) (u := 7) (ty := 53) rfl _ _ b6 53 zeroC (0, 0) _ rfl HZ.out.1 Tryz.underlying53 rfl agg_size).trans rfl) rfl HZ.out.2
  | true =>
  have HG0 : Hid (AdG w qb b1 b6 Q X tv1 z1 m 0 w1.drew) := Lib.hid (H1.out.below (Below.refl _ w1).drew)
  have HGq : Hid (∀ k w', AdG w qb b1 b6 Q X tv1 z1 m k w' → RowQ w' qb Q) := Lib.hid (fun k w' h => match k, h with
    | 0, h => h.2.1
    | 1, h => h.2.1
    | 2, h => h.2.1
    | _ + 3, ⟨_, _, _, _, _, h, _⟩ => h)
  have HGa : Hid (∀ k w', AdG w qb b1 b6 Q X tv1 z1 m k w' → RowA w' b1 X.n X.a tv1 z1) := Lib.hid (fun k w' h => match k, h with
    | 0, h => h.2.2.1
    | 1, h => h.2.2.1
    | 2, h => h.2.2.1
    | _ + 3, ⟨_, _, _, _, _, _, h⟩ => h)
  have HBd : Hid (w.heap.size ≤ b6) := Lib.hid H1.out.1.1
  clear H1
  go_upto_region 3 with (fail)
  refine wp_region_skip_frame (fun i => ([] : List Nat).contains i) (by kernel_rfl) [none, none, none, none, some 0, some 1, none, none, some 2, none] [4, 5, 8] (V4 (VQ :: VA :: VQ :: (Value.int .i64 v) :: undef :: undef :: undef :: (Value.int .i64 er) :: undef :: (Value.int .i64 er) :: ([] : List Value)) 4 (fun k w' v => k = 1 → ∃ tv z, v = .agg (aggC o.n o.a tv z) ∧ IntsAt w' tv o.top ∧ WholeZ z o.u o.v) 5 (fun k w' v => 2 ≤ k ∧ ∃ tv z, v = .tuple #[.agg (aggC m.n m.a tv z), .int .i64 er] ∧ (k = 2 → AdV b6 m w' tv z)) 6 (fun k w' v => 2 ≤ k ∧ ∃ tv z, v = .agg (aggC m.n m.a tv z) ∧ (k = 2 → AdV b6 m w' tv z)) 99 (fun _ _ _ => True)) (AdG w qb b1 b6 Q X tv1 z1 m) (fun w w' => Below w.heap.size w w') (V4_le _ (fun k w w' v h ha hk => by obtain ⟨tv, z, h1, h2, h3⟩ := ha hk; exact ⟨tv, z, h1, h2.below h, h3⟩) (fun k w_ w' v h ha => by obtain ⟨hk, tv, z, h1, h2⟩ := ha; exact ⟨hk, tv, z, h1, fun e => ⟨(h2 e).1.below h, (h2 e).2⟩⟩) (fun k w_ w' v h ha => by obtain ⟨hk, tv, z, h1, h2⟩ := ha; exact ⟨hk, tv, z, h1, fun e => ⟨(h2 e).1.below h, (h2 e).2⟩⟩) (fun _ _ _ _ _ h => h)) (by kernel_rfl) (by kernel_rfl) (by kernel_rfl) HG0.out (fun _ => ⟨rfl, rfl, rfl, rfl, rfl, rfl, rfl, rfl, rfl, rfl, trivial⟩) (fun _ h => by simp at h) ?_ ?_
  · refine ⟨?_, ?_, ?_, ?_, ?_, ?_, ?_, ?_, ?_, ?_, trivial⟩
    · intro _ kk a w' hG hout hpre K hK
      have q3 := ev_of ((hout 3 rfl).trans (show _ = .pointer (some ⟨qb, 0, none⟩) from rfl))
      obtain ⟨d0, d1, d2, d3, d4, d5⟩ := HRq.out _ (HGq.out _ _ hG)
      clear hout hpre
      go_step
      exact hK _ _ HVQ.out.symm hG (Below.refl _ _)
    · intro _ kk a w' hG hout hpre K hK
      have q4 := ev_of ((hout 4 rfl).trans (show _ = .pointer (some ⟨b1, 0, none⟩) from rfl))
      obtain ⟨d0, d1, d2, d3⟩ := HRa.out _ (HGa.out _ _ hG)
      clear hout hpre
      go_step
      exact hK _ _ HVA.out.symm hG (Below.refl _ _)
    · intro _ kk a w' hG hout hpre K hK
      have q3 := ev_of ((hout 3 rfl).trans (show _ = .pointer (some ⟨qb, 0, none⟩) from rfl))
      obtain ⟨d0, d1, d2, d3, d4, d5⟩ := HRq.out _ (HGq.out _ _ hG)
      clear hout hpre
      go_step
      exact hK _ _ HVQ.out.symm hG (Below.refl _ _)
    · intro _ kk a w' hG hout hpre K hK
      have q2 := ev_of ((hout 2 rfl).trans (show _ = .int .i64 v from rfl))
      clear hout hpre
      go_step
      exact hK _ _ rfl hG (Below.refl _ _)
    · intro _ a w' hG hout hpre K hK
      obtain ⟨p0, p1, _⟩ := hpre
      have q14 := ev_of (show a.eval (.tmp 14) = VQ from p0)
      have q15 := ev_of (show a.eval (.tmp 15) = .int .i64 v from p1)
      have hG1 : AdSt w qb b1 b6 Q X tv1 z1 w' := hG
      have HG1 := Lib.hid hG1
      clear hout p0 p1 hG hG1
      go_step
      refine (HC2.out w').mono ?_
      rintro e w3 ⟨tv, z, rfl, k1, k2, hB⟩
      exact hK _ _ (fun _ => ⟨tv, z, rfl, k1, k2⟩) (HG1.out.below hB) (V4_keep (.inl rfl) (.inr fun u h => absurd h.1 (by decide)) (.inr fun u h => absurd h.1 (by decide)) (.inr fun _ h => h))
    · intro _ a w' hG hout hpre K hK
      obtain ⟨p0, p1, p2, _⟩ := hpre
      have q12 := ev_of (show a.eval (.tmp 12) = VQ from p0)
      have q13 := ev_of (show a.eval (.tmp 13) = VA from p1)
      obtain ⟨tv, z, hv, k1, k2⟩ := (show (1 = 1) → (∃ tv z, a.eval (.tmp 16) = .agg (aggC o.n o.a tv z) ∧ IntsAt w' tv o.top ∧ WholeZ z o.u o.v) from p2) rfl
      have q16 := ev_of hv
      have hG1 : AdSt w qb b1 b6 Q X tv1 z1 w' := hG
      have HS2 := Lib.hid (HC3.out w' tv z hG1.2.2.2.2 k1 k2)
      have HG1 := Lib.hid hG1
      clear hout p0 p1 p2 hv hG hG1
      go_step
      refine HS2.out.mono ?_
      rintro e w3 ⟨tv3, z3, rfl, j1, j2, hB, hnb⟩
      exact hK _ _ ⟨by decide, tv3, z3, rfl, fun _ => ⟨j1, j2, fun a n c e => Nat.lt_of_lt_of_le HG1.out.2.2.2.1.lt (hnb a n c e)⟩⟩ (HG1.out.below hB) (V4_keep (.inr fun u _ h => absurd h (by decide)) (.inl rfl) (.inr fun u h => absurd h.1 (by decide)) (.inr fun _ h => h))
    · intro _ kk a w' hG hout hpre K hK
      obtain ⟨p0, _⟩ := hpre
      obtain ⟨hk2, tv, z, hv, hz⟩ := (show 2 ≤ kk ∧ ∃ tv z, a.eval (.tmp 17) = .tuple #[.agg (aggC m.n m.a tv z), .int .i64 er] ∧ (kk = 2 → AdV b6 m w' tv z) from p0)
      have q17 := ev_of hv
      clear hout p0 hv
      go_step
      exact hK _ _ ⟨hk2, tv, z, rfl, hz⟩ hG (Below.refl _ _)
    · intro _ kk a w' hG hout hpre K hK
      obtain ⟨p0, _⟩ := hpre
      obtain ⟨hk2, tv, z, hv, hz⟩ := (show 2 ≤ kk ∧ ∃ tv z, a.eval (.tmp 17) = .tuple #[.agg (aggC m.n m.a tv z), .int .i64 er] ∧ (kk = 2 → AdV b6 m w' tv z) from p0)
      have q17 := ev_of hv
      clear hout p0 hv
      go_step
      exact hK _ _ rfl hG (Below.refl _ _)
    · intro _ a w' hG hout hpre K hK
      obtain ⟨p0, _⟩ := hpre
      obtain ⟨_, tv, z, hv, hz⟩ := (show 2 ≤ 2 ∧ ∃ tv z, a.eval (.tmp 18) = .agg (aggC m.n m.a tv z) ∧ (2 = 2 → AdV b6 m w' tv z) from p0)
      obtain ⟨j1, j2, j3⟩ := hz rfl
      have q6 := ((hout 6 rfl).trans (show _ = Value.pointer (some ⟨b6, 0, none⟩) from rfl))
      obtain ⟨g0, g1, g2, g3, g4⟩ : AdSt w qb b1 b6 Q X tv1 z1 w' := hG
      clear hout p0 hz
      refine wp_store_row _ (.tmp 6) (.tmp 18) rfl b6 (aggC m.n m.a tv z) q6 hv _ zeroC g3 agg_size rfl (agg_oneW j1 j2) ?_
      have hg := grown_setRow w' b6 (aggC m.n m.a tv z)
      have l6 := g3.lt
      exact hK _ _ rfl ⟨tv, z, g3.reset _ _ _ _, ⟨j1.grown hg (fun a n c e _ => by have := j3 a n c e; omega), j2, j3⟩, g4.trans (below_set hg g0.1 g4.size), (hg.block qb g1.lt (by simp; omega)).trans g1, g2.grown hg (by simp; omega)⟩ (V4_keep (.inr fun u _ h => absurd h (by decide)) (.inr fun u h => ⟨by decide, h.2.imp fun tv h => h.imp fun z h => ⟨h.1, fun e => absurd e (by decide)⟩⟩) (.inr fun u h => ⟨by decide, h.2.imp fun tv h => h.imp fun z h => ⟨h.1, fun e => absurd e (by decide)⟩⟩) (.inr fun _ h => h))
    · intro _ kk a w' hG hout hpre K hK
      obtain ⟨p0, _⟩ := hpre
      have q19 := ev_of (show a.eval (.tmp 19) = .int .i64 er from p0)
      clear hout p0
      go_step
      exact hK _ _ rfl hG (Below.refl _ _)
  · intro vs w2_ hG hlen hV
    match vs, hlen, hV with
    | [v0, v1, v2, v3, v4, v5, v6, v7, v8, v9], _, hV =>
      obtain rfl : v9 = .int .i64 er := hV 9 7 v9 rfl rfl
      obtain ⟨tv, z, hr, hv, hB, _⟩ : ∃ tv z, RowA w2_ b6 m.n m.a tv z ∧ AdV b6 m w2_ tv z ∧ Below w.heap.size w w2_ ∧ _ := hG
      have HZ : Hid (RowA w2_ b6 m.n m.a tv z ∧ P (.returned (.tuple #[.agg (aggC m.n m.a tv z), .int .i64 er])) w2_) := Lib.hid ⟨hr, HYe.out w2_ tv z b6 HBd.out hv hB rfl⟩
      clear hV hr hv hB
      simp only [putsL, List.tail_cons, List.headD_cons]
      simp only [Act.put, List.setIfInBounds_toArray, List.set_cons_succ, List.set_cons_zero]
      go_wp2_with (fail)
      exact bodyPost_ret (v := .tuple #[.agg (aggC m.n m.a tv z), .int .i64 er]) ((results_cell_row_tmp (p := 6) (u := 7) (ty := 53) rfl _ _ b6 53 (aggC m.n m.a tv z) (0, 0) _ rfl HZ.out.1 Tryz.underlying53 rfl agg_size).trans rfl) rfl HZ.out.2
end Go.Proofs.YtjeeghafachebaaGreat
namespace Go.Proofs.YtjeeghafachebaaGreat
open Go Go.RowKit
def valueQ (q : QueryL) (x : AggL) : List Int :=
  if x.rightB q = true ∧ x.n ≠ 0 then (if q.agg = 1 then [x.n] else if q.agg = 5 then [downQ x.a x.n] else if q.agg = 6 then x.top else if q.agg = 7 then [x.u, x.v] else [x.a]) else []
def IntsEnd (w : World) (l : List Int) (e : Ending) (w' : World) : Prop := ∃ tv, e = .returned tv ∧ IntsAt w' tv l ∧ Below w.heap.size w w' ∧ ∀ a n c, tv = .slice (some a) n c → w.heap.size ≤ a.block
theorem IntsAt.cell1 {w : World} {g : Nat} {x : Int} (h : w.heap[g]? = some (.cells #[.int .i64 x] 3 (0, 0))) : IntsAt w (.slice (some ⟨g, 0, none⟩) 1 1) [x] := by
  refine ⟨_, 1, rfl, Nat.le_refl _, .inr ⟨g, 0, rfl, .inr ⟨_, h⟩, fun i y hy => ?_⟩⟩
  match i, hy with
  | 0, hy =>
    simp only [List.getElem?_cons_zero, Option.some.injEq] at hy
    subst hy
    rw [cell_of_row _ _ _ _ _ _ h]
    rfl
  | i + 1, hy => simp at hy
theorem IntsAt.cell2 {w : World} {g : Nat} {x y : Int} (h : w.heap[g]? = some (.cells #[.int .i64 x, .int .i64 y] 3 (0, 0))) : IntsAt w (.slice (some ⟨g, 0, none⟩) 2 2) [x, y] := by
  refine ⟨_, 2, rfl, Nat.le_refl _, .inr ⟨g, 0, rfl, .inr ⟨_, h⟩, fun i z hz => ?_⟩⟩
  match i, hz with
  | 0, hz =>
    simp only [List.getElem?_cons_zero, Option.some.injEq] at hz
    subst hz
    rw [cell_of_row _ _ _ _ _ _ h]
    rfl
  | 1, hz =>
    simp only [List.getElem?_cons_succ, List.getElem?_cons_zero, Option.some.injEq] at hz
    subst hz
    rw [cell_of_row _ _ _ _ _ _ h]
    rfl
  | i + 2, hz => simp at hz
theorem right_list {q : QueryL} {x : AggL} (h : x.rightB q = true) : x.top.length ≤ 8 := (right_facts h).2.2.2.1
set_option maxRecDepth 100000 in
set_option maxHeartbeats 2000000 in
theorem avalue_any (w : World) (q : QueryL) (x : AggL) (tv1 z1 : Value) (h1 : IntsAt w tv1 x.top) (k1 : WholeZ z1 x.u x.v) (hn1 : x.top.length ≤ 1000000) :
    Calls Tryz.prog 19 #[.agg q.cells, .agg (aggC x.n x.a tv1 z1)] w (IntsEnd w (valueQ q x)) := by
  obtain ⟨P, hP⟩ : ∃ P, P = IntsEnd w (valueQ q x) := ⟨_, rfl⟩
  rw [← hP]
  obtain ⟨r1, hr1⟩ : ∃ b, b = x.rightB q := ⟨_, rfl⟩
  have HZe : Hid (∀ w', Below w.heap.size w w' → valueQ q x = [] → P (.returned (.slice none 0 0)) w') := by
    refine Lib.hid (fun w' hB hq => ?_)
    rw [hP, hq]
    exact ⟨_, rfl, IntsAt.nil _, hB, fun _ _ _ h => by cases h⟩
  have HOne : Hid (∀ w' n, Below w.heap.size w w' → valueQ q x = [n] → P (.returned (.slice (some ⟨w'.heap.size, 0, none⟩) 1 1)) (w'.alloc (.cells #[.int .i64 n] 3))) := by
    refine Lib.hid (fun w' n hB hq => ?_)
    rw [hP, hq]
    exact ⟨_, rfl, IntsAt.cell1 (heap_alloc_new w' _), hB.trans (((Below.refl _ w').alloc (Nat.le_refl _) _).mono hB.size), fun a k c h => by cases h; exact hB.size⟩
  have HTwo : Hid (∀ w' n m, Below w.heap.size w w' → valueQ q x = [n, m] → P (.returned (.slice (some ⟨w'.heap.size, 0, none⟩) 2 2)) (w'.alloc (.cells #[.int .i64 n, .int .i64 m] 3))) := by
    refine Lib.hid (fun w' n m hB hq => ?_)
    rw [hP, hq]
    exact ⟨_, rfl, IntsAt.cell2 (heap_alloc_new w' _), hB.trans (((Below.refl _ w').alloc (Nat.le_refl _) _).mono hB.size), fun a k c h => by cases h; exact hB.size⟩
  have HTv : Hid (∀ w' tv, IntsAt w' tv x.top → Below w.heap.size w w' → (∀ a n c, tv = .slice (some a) n c → w.heap.size ≤ a.block) → valueQ q x = x.top → P (.returned tv) w') := by
    refine Lib.hid (fun w' tv hI hB hN hq => ?_)
    rw [hP, hq]
    exact ⟨tv, rfl, hI, hB, hN⟩
  have HC1 : Hid (∀ w', Below w.heap.size w w' → Calls Tryz.prog 32 #[.agg q.cells, .agg #[.int .i64 x.n, .int .i64 x.a, tv1, z1]] w' (Below0 w' (.bool r1))) := by
    rw [hr1]
    exact Lib.hid (fun w' h => aright_any w' q x tv1 z1 (h1.below h) k1 hn1)
  have HF : Hid (r1 = true → q.rightB = true ∧ (0 ≤ x.n ∧ x.n ≤ 1073741824) ∧ (-4398046511104 ≤ x.a ∧ x.a ≤ 4398046511104)) := Lib.hid (fun e => by
    obtain ⟨f1, f2, f3, _⟩ := right_facts (hr1.symm.trans e)
    exact ⟨f1, f2, f3⟩)
  have HCl : Hid (∀ w', Below w.heap.size w w' → Calls Tryz.prog 34 #[tv1] w' (fun e w'' => ∃ v', e = .returned v' ∧ IntsAt w'' v' x.top ∧ Below w'.heap.size w' w'' ∧ ∀ a n c, v' = .slice (some a) n c → w'.heap.size ≤ a.block)) := Lib.hid (fun w' h => cloneI_any w' tv1 x.top (h1.below h) hn1)
  have HPa : Hid (∀ w', Calls Tryz.prog 35 #[z1] w' fun e w'' => e = .returned (.tuple #[.int .i64 x.u, .int .i64 x.v]) ∧ w'' = w') := Lib.hid (fun w' => parts_yes w' z1 x.u x.v k1)
  have HEq : Hid (valueQ q x = if r1 = true ∧ x.n ≠ 0 then (if q.agg = 1 then [x.n] else if q.agg = 5 then [downQ x.a x.n] else if q.agg = 6 then x.top else if q.agg = 7 then [x.u, x.v] else [x.a]) else []) := by
    rw [valueQ, ← hr1]
    exact Lib.hid rfl
  obtain ⟨n1, a1, l1, u1, v1⟩ := x
  simp only at HC1 HOne HTv HF HCl HPa HEq ⊢
  obtain ⟨w1, hw1⟩ : ∃ W, W = (w.alloc (.cells q.cells 23)).alloc (.cells (aggC n1 a1 tv1 z1) 53) := ⟨_, rfl⟩
  obtain ⟨qb, hqb⟩ : ∃ b, b = w.heap.size := ⟨_, rfl⟩
  obtain ⟨b1, hb1⟩ : ∃ b, b = w.heap.size + 1 := ⟨_, rfl⟩
  have hs1 : (w.alloc (.cells q.cells 23)).heap.size = w.heap.size + 1 := heap_alloc_size w _
  obtain ⟨V, hV⟩ : ∃ V, V = valueQ q ⟨n1, a1, l1, u1, v1⟩ := ⟨_, rfl⟩
  rw [← hV] at HZe HOne HTwo HTv HEq
  obtain ⟨Q, hQ⟩ : ∃ Q, Q = q := ⟨_, rfl⟩
  have H1 : Hid (RowQ w1 qb Q ∧ RowA w1 b1 n1 a1 tv1 z1 ∧ Below w.heap.size w w1) := by
    have h := box_qa w q n1 a1 tv1 z1
    rw [hw1, hqb, hb1, hQ]
    exact Lib.hid h
  clear hP h1 k1 hn1 hr1 hV
  obtain ⟨kind, size, slide, late, agg, kq⟩ := q
  have HQd : Hid (∀ w', RowQ w' qb Q → D6 w' qb kind size slide late agg kq) := by
    rw [hQ]
    exact Lib.hid (fun w' h => h.d6)
  clear hQ
  unfold QueryL.cells at hw1 hs1 HC1 ⊢
  unfold aggC at hw1 ⊢
  simp only at HEq HF
  obtain ⟨d0, d1, d2, d3, d4, d5⟩ := HQd.out w1 H1.out.1
  obtain ⟨f0, f1, f2, f3⟩ := H1.out.2.1.d4
  go_enter Tryz.func19, Tryz.ntmps19
  go_upto_region 1 with (fail)
  rw [← hw1, ← hb1, ← hqb]
  clear hw1 hqb hb1 hs1
  go_wp2_with (fail)
  refine (HC1.out w1 H1.out.2.2).mono ?_
  rintro e w2 ⟨rfl, hB⟩
  have H2 : Hid (RowQ w2 qb Q ∧ RowA w2 b1 n1 a1 tv1 z1 ∧ Below w.heap.size w w2) := by
    obtain ⟨j1, j2, j3⟩ := H1.out
    exact Lib.hid ⟨j1.below hB, j2.below hB, j3.trans (hB.mono j3.size)⟩
  clear hB d0 d1 d2 d3 d4 d5 f0 f1 f2 f3 H1 HC1
  dsimp only
  obtain ⟨d0, d1, d2, d3, d4, d5⟩ := HQd.out w2 H2.out.1
  obtain ⟨f0, f1, f2, f3⟩ := H2.out.2.1.d4
  cases r1 with
  | false =>
    have HZ := Lib.hid (HZe.out w2 H2.out.2.2 (by rw [HEq.out]; simp))
    go_wp2_with (fail)
    exact HZ.out
  | true =>
  by_cases hn : n1 = 0
  · subst hn
    have HZ := Lib.hid (HZe.out w2 H2.out.2.2 (by rw [HEq.out]; simp))
    go_wp2_with (fail)
    exact HZ.out
  obtain ⟨HF1, ⟨hn0, hn2⟩, ha0, ha1⟩ := HF.out (by simp)
  have hnb := Lib.hid (And.intro hn (And.intro hn0 (And.intro hn2 (And.intro ha0 ha1))))
  clear HF HF1 hn0 hn2 ha0 ha1
  have en : (n1 == 0) = false := by simpa using hn
  by_cases e1 : agg = 1
  · subst e1
    have HZ := Lib.hid (HOne.out w2 n1 H2.out.2.2 (by rw [HEq.out]; simp [hnb.out.1]))
    go_wp2_with (fail)
    exact HZ.out
  have g1 : (agg == 1) = false := by simpa using e1
  by_cases e5 : agg = 5
  · subst e5
    have HZ := Lib.hid (HOne.out w2 (downQ a1 n1) H2.out.2.2 (by rw [HEq.out]; simp [hnb.out.1]))
    have HD := Lib.hid (adown_any w2 a1 n1 ⟨hnb.out.2.2.2.1, hnb.out.2.2.2.2⟩ (by have := hnb.out; omega))
    go_upto_region 7 with (fail)
    refine wp_region_lit ?_
    iterate 12 go_step
    refine wpList_plain rfl fun K hK => ?_
    go_step
    refine HD.out.mono ?_
    rintro e w' ⟨rfl, hw'⟩
    subst w'
    refine hK _ _ ?_
    clear hK
    iterate 6 go_step
    go_wp2_with (fail)
    exact HZ.out
  have g5 : (agg == 5) = false := by simpa using e5
  by_cases e6 : agg = 6
  · subst e6
    go_wp2_with (fail)
    refine (HCl.out w2 H2.out.2.2).mono ?_
    rintro e w3 ⟨v', rfl, hI, hB, hN⟩
    have HZ := Lib.hid (HTv.out w3 v' hI (H2.out.2.2.trans (hB.mono H2.out.2.2.size)) (fun a n c e => Nat.le_trans H2.out.2.2.size (hN a n c e)) (by rw [HEq.out]; simp [hnb.out.1]))
    clear hI hB hN
    go_wp2_with (fail)
    exact HZ.out
  have g6 : (agg == 6) = false := by simpa using e6
  by_cases e7 : agg = 7
  · subst e7
    have HZ := Lib.hid (HTwo.out w2 u1 v1 H2.out.2.2 (by rw [HEq.out]; simp [hnb.out.1]))
    go_wp2_with (fail)
    refine (HPa.out w2).mono ?_
    rintro e w' ⟨rfl, hw'⟩
    subst w'
    dsimp only
    go_wp2_with (fail)
    exact HZ.out
  have g7 : (agg == 7) = false := by simpa using e7
  have HZ := Lib.hid (HOne.out w2 a1 H2.out.2.2 (by rw [HEq.out]; simp [hnb.out.1, e1, e5, e6, e7]))
  go_wp2_with (fail)
  exact HZ.out
end Go.Proofs.YtjeeghafachebaaGreat
namespace Go.Proofs.YtjeeghafachebaaGreat
open Go Go.RowKit
structure PaneL where
  w : WindowL
  a : AggL
  r : Int
deriving DecidableEq
def zeroP : PaneL := ⟨zeroW, zeroA, 0⟩
structure StateL where
  mark : Int
  panes : List PaneL
deriving DecidableEq
structure OutE where
  late : Bool
  item : ItemL
  w : WindowL
  r : Int
  v : List Int
def newS : StateL := ⟨-1, []⟩
def wsP (l : List PaneL) : List WindowL := l.map PaneL.w
def madeB (q : QueryL) (w : WindowL) : Bool := if q.kind = 3 then decide (q.size ≤ w.hi - w.lo) else decide (w ∈ ofW q w.key w.lo)
def wholeB (q : QueryL) (p : PaneL) : Bool := p.w.rightB && (madeB q p.w && (decide (0 < p.a.n) && p.a.rightB q))
def openB (q : QueryL) (p : PaneL) (mark : Int) : Bool := !goneW q p.w mark && (decide (0 ≤ p.r ∧ p.r ≤ 1073741824) && (ripeW p.w mark == decide (0 < p.r)))
def placedB (q : QueryL) (l : List PaneL) : Bool := if q.kind = 3 then decide (Settled (wsP l)) else decide ((wsP l).Pairwise aheadP)
def rightS (q : QueryL) (s : StateL) : Bool :=
  q.rightB && (decide (-1 ≤ s.mark ∧ s.mark ≤ 1099511627776) && (decide (s.panes.length ≤ 256) && (s.panes.all (fun p => wholeB q p && openB q p s.mark) && placedB q s.panes)))
def givesB (q : QueryL) (w : WindowL) (p : PaneL) : Bool := if q.kind = 3 then joinsB p.w w else decide (p.w = w)
def gaveP (q : QueryL) (l : List PaneL) (w : WindowL) : List PaneL := l.filter (givesB q w)
def restP (q : QueryL) (l : List PaneL) (w : WindowL) : List PaneL := l.filter fun p => !givesB q w p
def becQ (q : QueryL) (l : List PaneL) (w : WindowL) : WindowL := if q.kind = 3 then became (wsP l) w else w
def insP : List PaneL → PaneL → List PaneL
  | [], p => [p]
  | x :: l, p => if aheadP p.w x.w then p :: x :: l else x :: insP l p
def growQ (q : QueryL) (b : WindowL) : List PaneL → AggL × Int → AggL × Int × Int
  | [], p => (p.1, p.2, 0)
  | o :: l, p => if (mergeQ q p.1 o.a).2 = 0 then growQ q b l ((mergeQ q p.1 o.a).1, if o.w = b then o.r else p.2) else (zeroA, 0, (mergeQ q p.1 o.a).2)
def grownQ (q : QueryL) (b : WindowL) (gave : List PaneL) (v : Int) : PaneL × Int :=
  if (growQ q b gave (zeroA, 0)).2.2 = 0 then
    (if (addQ q (growQ q b gave (zeroA, 0)).1 v).2 = 0 then (⟨b, (addQ q (growQ q b gave (zeroA, 0)).1 v).1, (growQ q b gave (zeroA, 0)).2.1⟩, 0) else (zeroP, (addQ q (growQ q b gave (zeroA, 0)).1 v).2))
  else (zeroP, (growQ q b gave (zeroA, 0)).2.2)
def toldQ (q : QueryL) (p : PaneL) : OutE := ⟨false, zeroI, p.w, p.r, valueQ q p.a⟩
def lateO (x : ItemL) : OutE := ⟨true, x, zeroW, 0, []⟩
structure ComeL where
  panes : List PaneL
  outs : List OutE
  late : Bool
  e : Int
def fireP (p : PaneL) (mark : Int) : PaneL := if ripeW p.w mark = true then ⟨p.w, p.a, p.r + 1⟩ else p
def winQ (q : QueryL) (mark v : Int) (c : ComeL) (w : WindowL) : ComeL :=
  if goneW q (becQ q c.panes w) mark = true then c
  else if (grownQ q (becQ q c.panes w) (gaveP q c.panes w) v).2 ≠ 0 then ⟨[], [], false, (grownQ q (becQ q c.panes w) (gaveP q c.panes w) v).2⟩
  else if 1073741824 < (fireP (grownQ q (becQ q c.panes w) (gaveP q c.panes w) v).1 mark).r then ⟨[], [], false, 20⟩
  else ⟨insP (restP q c.panes w) (fireP (grownQ q (becQ q c.panes w) (gaveP q c.panes w) v).1 mark), c.outs ++ (if ripeW (becQ q c.panes w) mark = true then [toldQ q (fireP (grownQ q (becQ q c.panes w) (gaveP q c.panes w) v).1 mark)] else []), false, 0⟩
def winsQ (q : QueryL) (mark v : Int) : List WindowL → ComeL → ComeL
  | [], c => c
  | w :: l, c => if (winQ q mark v c w).e = 0 then winsQ q mark v l (winQ q mark v c w) else winQ q mark v c w
def zeroS : StateL := ⟨0, []⟩
def comeQ (q : QueryL) (s : StateL) (x : ItemL) : StateL × List OutE × Int :=
  if (winsQ q s.mark x.value (ofW q x.key x.time) ⟨s.panes, [], true, 0⟩).e ≠ 0 then (zeroS, [], (winsQ q s.mark x.value (ofW q x.key x.time) ⟨s.panes, [], true, 0⟩).e)
  else if (winsQ q s.mark x.value (ofW q x.key x.time) ⟨s.panes, [], true, 0⟩).late = true then (s, [lateO x], 0)
  else if 256 < (winsQ q s.mark x.value (ofW q x.key x.time) ⟨s.panes, [], true, 0⟩).panes.length then (zeroS, [], 30)
  else (⟨s.mark, (winsQ q s.mark x.value (ofW q x.key x.time) ⟨s.panes, [], true, 0⟩).panes⟩, (winsQ q s.mark x.value (ofW q x.key x.time) ⟨s.panes, [], true, 0⟩).outs, 0)
def firesB (t : Int) (p : PaneL) : Bool := decide (p.r = 0) && ripeW p.w t
def firedP (t : Int) (p : PaneL) : PaneL := if firesB t p = true then ⟨p.w, p.a, 1⟩ else p
def insO : List OutE → OutE → List OutE
  | [], p => [p]
  | x :: l, p => if cmpW p.w x.w < 0 then p :: x :: l else x :: insO l p
def sortO (l : List OutE) : List OutE := l.foldl insO []
def marksO (q : QueryL) (t : Int) (l : List PaneL) : List OutE := (l.filter (firesB t)).map fun p => toldQ q (firedP t p)
def marksP (q : QueryL) (t : Int) (l : List PaneL) : List PaneL := (l.map (firedP t)).filter fun p => !goneW q p.w t
def markQ (q : QueryL) (s : StateL) (t : Int) : StateL × List OutE :=
  if t ≤ s.mark then (s, []) else (⟨t, marksP q t s.panes⟩, sortO (marksO q t s.panes))
def stepS (q : QueryL) (s : StateL) (x : ItemL) : StateL × List OutE × Int :=
  if x.rightB = true then (if x.kind = 1 then comeQ q s x else ((markQ q s x.time).1, (markQ q s x.time).2, 0)) else (zeroS, [], 2)
structure RunL where
  s : StateL
  outs : List OutE
  n : Int
  e : Int
def runS (q : QueryL) : StateL → List OutE → Int → List ItemL → RunL
  | s, o, n, [] => ⟨s, o, n, 0⟩
  | s, o, n, x :: l => if (stepS q s x).2.2 = 0 then runS q (stepS q s x).1 (o ++ (stepS q s x).2.1) (n + 1) l else ⟨s, o, n, (stepS q s x).2.2⟩
def runQ (q : QueryL) (s : StateL) (l : List ItemL) : RunL := if l ≠ [] ∧ rightS q s = false then ⟨s, [], 0, 2⟩ else runS q s [] 0 l
end Go.Proofs.YtjeeghafachebaaGreat
