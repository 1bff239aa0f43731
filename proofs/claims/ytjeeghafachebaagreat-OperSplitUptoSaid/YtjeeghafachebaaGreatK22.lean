/-
  Part 22 of 56 of what the proof leans on.
-/
import Derived.Test.YtjeeghafachebaaGreatK20
import Derived.Test.YtjeeghafachebaaGreatK21
namespace Go.Proofs.YtjeeghafachebaaGreat
open Go Go.RowKit
def togA (q : QueryL) (x y : AggL) : Int := if q.agg = 2 ∨ q.agg = 5 then x.a + y.a else if q.agg = 3 ∨ q.agg = 4 then edgeQ q.agg x.n x.a y.n y.a else 0
def togOver (q : QueryL) (x y : AggL) : Bool := decide (q.agg = 7) && !decide (InP (x.u + y.u) (x.v + y.v))
def togL (q : QueryL) (x y : AggL) : AggL :=
  ⟨x.n + y.n, togA q x y, if q.agg = 6 then topL q.k.toNat (x.top ++ y.top) else [], if q.agg = 7 ∧ togOver q x y = false then x.u + y.u else 0, if q.agg = 7 ∧ togOver q x y = false then x.v + y.v else 0⟩
def togE (q : QueryL) (x y : AggL) : Int := if togOver q x y = true then 20 else 0
def AggEnd (w : World) (m : AggL) (er : Int) (e : Ending) (w' : World) : Prop := ∃ tv z, e = .returned (.tuple #[.agg (aggC m.n m.a tv z), .int .i64 er]) ∧ IntsAt w' tv m.top ∧ WholeZ z m.u m.v ∧ Below w.heap.size w w' ∧ ∀ a n c, tv = .slice (some a) n c → w.heap.size ≤ a.block
theorem agg_oneW {w : World} {n a : Int} {tv z : Value} {l : List Int} {u v : Int} (h1 : IntsAt w tv l) (h2 : WholeZ z u v) : (aggC n a tv z).all (·.oneCell') = true := agg_one h1.one h2.1.one
theorem ofV_whole (a b : Int) : ∃ u v, WholeZ (ofV a b) u v ∧ (InP a b → u = a ∧ v = b) ∧ (¬ InP a b → u = 0 ∧ v = 0) := by
  unfold ofV
  by_cases h : InP a b
  · rw [if_pos h]
    exact ⟨a, b, numZ_whole h, fun _ => ⟨rfl, rfl⟩, fun h' => absurd h h'⟩
  · rw [if_neg h]
    exact ⟨0, 0, zeroZ_whole, fun h' => absurd h' h, fun _ => ⟨rfl, rfl⟩⟩
theorem stored_agg (w : World) (n a : Int) (tv z : Value) : RowA ((w.alloc (Obj.cells zeroC 53)).setRow w.heap.size (aggC n a tv z)) w.heap.size n a tv z ∧ Below w.heap.size w ((w.alloc (Obj.cells zeroC 53)).setRow w.heap.size (aggC n a tv z)) :=
  ⟨setRow_heap _ _ _ _ _ _ (heap_alloc_new w _), ((Below.refl _ w).alloc (Nat.le_refl _) _).trans ⟨rfl, rfl, rfl, by simp [World.setRow], fun k hk => setRow_other _ _ _ _ (by omega)⟩⟩
def TogSt (w : World) (qb b1 b2 b6 b8 : Nat) (Q : QueryL) (n1 a1 : Int) (tv1 z1 : Value) (n2 a2 : Int) (tv2 z2 : Value) (n a : Int) (tv z : Value) (w' : World) : Prop :=
  (w.heap.size ≤ qb ∧ qb < b8 ∧ b1 < b8 ∧ b2 < b8 ∧ b6 < b8 ∧ w.heap.size ≤ b6 ∧ w.heap.size ≤ b8) ∧ RowQ w' qb Q ∧ RowA w' b1 n1 a1 tv1 z1 ∧ RowA w' b2 n2 a2 tv2 z2 ∧ RowA w' b6 0 0 nilV zeroZ ∧ RowA w' b8 n a tv z ∧ Below w.heap.size w w'
theorem TogSt.below {w : World} {qb b1 b2 b6 b8 : Nat} {Q : QueryL} {n1 a1 : Int} {tv1 z1 : Value} {n2 a2 : Int} {tv2 z2 : Value} {n a : Int} {tv z : Value} {w' w'' : World} (h : TogSt w qb b1 b2 b6 b8 Q n1 a1 tv1 z1 n2 a2 tv2 z2 n a tv z w') (hB : Below w'.heap.size w' w'') : TogSt w qb b1 b2 b6 b8 Q n1 a1 tv1 z1 n2 a2 tv2 z2 n a tv z w'' := by
  obtain ⟨h0, h1, h2, h3, h4, h5, h6⟩ := h
  exact ⟨h0, h1.below hB, h2.below hB, h3.below hB, h4.below hB, h5.below hB, h6.trans (hB.mono h6.size)⟩
theorem TogSt.turn {w : World} {qb b1 b2 b6 b8 : Nat} {Q : QueryL} {n1 a1 : Int} {tv1 z1 : Value} {n2 a2 : Int} {tv2 z2 : Value} {n a : Int} {tv z : Value} {w' w'' : World} {n' a' : Int} {tv' z' : Value} (h : TogSt w qb b1 b2 b6 b8 Q n1 a1 tv1 z1 n2 a2 tv2 z2 n a tv z w') (hg : w'.grownBy w'' (some b8)) (hr : RowA w'' b8 n' a' tv' z') : TogSt w qb b1 b2 b6 b8 Q n1 a1 tv1 z1 n2 a2 tv2 z2 n' a' tv' z' w'' := by
  obtain ⟨h0, h1, h2, h3, h4, h5, h6⟩ := h
  have hq : RowQ w'' qb Q := (hg.block qb h1.lt (by simp; omega)).trans h1
  exact ⟨h0, hq, h2.grown hg (by simp; omega), h3.grown hg (by simp; omega), h4.grown hg (by simp; omega), hr, h6.trans (below_set hg (by omega) h6.size)⟩
theorem IntsAt.grown {w w' : World} {v : Value} {l : List Int} {b : Nat} (h : IntsAt w v l) (hg : w.grownBy w' (some b)) (hn : ∀ a n c, v = .slice (some a) n c → l ≠ [] → a.block ≠ b) : IntsAt w' v l := by
  obtain ⟨a, c, e, hc, h⟩ := h
  refine ⟨a, c, e, hc, ?_⟩
  rcases h with h | ⟨b', o, ha, ht, h'⟩
  · exact .inl h
  · refine .inr ⟨b', o, ha, ?_, fun i x hx => ?_⟩
    · by_cases hl : l = []
      · exact .inl hl
      · rcases ht with ht | ht
        · exact absurd ht hl
        · have hlt := ht.lt
          obtain ⟨cur, ht⟩ := ht
          have hne : b' ≠ b := hn ⟨b', o, none⟩ l.length c (by rw [e, ha]) hl
          exact .inr ⟨cur, (hg.block b' hlt (by simpa using hne)).trans ht⟩
    have hlt := block_lt_of_cell (h' i x hx)
    have hne : b' ≠ b := hn ⟨b', o, none⟩ l.length c (by rw [e, ha]) (fun e' => by rw [e'] at hx; simp at hx)
    have hbl := hg.block b' hlt (by simpa using hne)
    rw [← h' i x hx]
    unfold World.cell?
    simp only
    rw [hbl]
set_option maxRecDepth 100000 in
set_option maxHeartbeats 2000000 in
theorem atogether_any (w : World) (q : QueryL) (x y : AggL) (tv1 z1 tv2 z2 : Value) (h1 : IntsAt w tv1 x.top) (h2 : IntsAt w tv2 y.top) (k1 : WholeZ z1 x.u x.v) (k2 : WholeZ z2 y.u y.v) (hn : x.top.length + y.top.length ≤ 1000)
    (hk : 0 ≤ q.k ∧ q.k ≤ 1000) (hb : (0 ≤ x.n ∧ x.n ≤ 1073741824) ∧ (0 ≤ y.n ∧ y.n ≤ 1073741824) ∧ (-4398046511104 ≤ x.a ∧ x.a ≤ 4398046511104) ∧ (-4398046511104 ≤ y.a ∧ y.a ≤ 4398046511104)) :
    Calls Tryz.prog 122 #[.agg q.cells, .agg (aggC x.n x.a tv1 z1), .agg (aggC y.n y.a tv2 z2)] w (AggEnd w (togL q x y) (togE q x y)) := by
  obtain ⟨P, hP⟩ : ∃ P, P = AggEnd w (togL q x y) (togE q x y) := ⟨_, rfl⟩
  rw [← hP]
  obtain ⟨n1, a1, l1, u1, v1⟩ := x
  obtain ⟨n2, a2, l2, u2, v2⟩ := y
  simp only at h1 h2 k1 k2 hn hb ⊢
  have H0 := Lib.hid (And.intro h1 (And.intro h2 (And.intro k1 (And.intro k2 (And.intro hn hk)))))
  have HPz : Hid (∀ w' tv z a l u v er, IntsAt w' tv l → WholeZ z u v → Below w.heap.size w w' → (∀ a n c, tv = .slice (some a) n c → w.heap.size ≤ a.block) → togL q ⟨n1, a1, l1, u1, v1⟩ ⟨n2, a2, l2, u2, v2⟩ = ⟨n1 + n2, a, l, u, v⟩ → togE q ⟨n1, a1, l1, u1, v1⟩ ⟨n2, a2, l2, u2, v2⟩ = er → P (.returned (.tuple #[.agg #[.int .i64 (n1 + n2), .int .i64 a, tv, z], .int .i64 er])) w') := by
    refine Lib.hid (fun w' tv z a l u v er j1 j2 j3 j6 j4 j5 => ?_)
    rw [hP, j4, j5]
    exact ⟨tv, z, rfl, j1, j2, j3, j6⟩
  obtain ⟨Q, hQ⟩ : ∃ Q, Q = q := ⟨_, rfl⟩
  have HTop : Hid (∀ w', Below w.heap.size w w' → Calls Tryz.prog 143 #[.agg Q.cells, .agg #[.int .i64 n1, .int .i64 a1, tv1, z1], .agg #[.int .i64 n2, .int .i64 a2, tv2, z2]] w' (fun e w'' => ∃ v, e = .returned v ∧ IntsAt w'' v (topL q.k.toNat (l1 ++ l2)) ∧ (∀ a n c, v = .slice (some a) n c → w'.heap.size ≤ a.block) ∧ Below w'.heap.size w' w'')) := by
    rw [hQ]
    exact Lib.hid (fun w' h => atop_any w' q n1 a1 tv1 z1 l1 n2 a2 tv2 z2 l2 (h1.below h) (h2.below h) hn hk)
  have HEd : Hid (∀ w', Calls Tryz.prog 142 #[.agg Q.cells, .agg #[.int .i64 n1, .int .i64 a1, tv1, z1], .agg #[.int .i64 n2, .int .i64 a2, tv2, z2]] w' (Below0 w' (.int .i64 (edgeQ q.agg n1 a1 n2 a2)))) := by
    rw [hQ]
    exact Lib.hid (fun w' => aedge_any w' q n1 a1 tv1 z1 n2 a2 tv2 z2)
  have HAd : Hid (∀ w', Calls Tryz.prog 144 #[z1, z2] w' (OpEnd w' (u1 + u2) (v1 + v2))) := Lib.hid (fun w' => add_yes w' z1 z2 u1 v1 u2 v2 k1 k2)
  obtain ⟨w1, hw1⟩ : ∃ W, W = (((w.alloc (.cells q.cells 23)).alloc (.cells (aggC n1 a1 tv1 z1) 53)).alloc (.cells (aggC n2 a2 tv2 z2) 53)).alloc (.cells zeroC 53) := ⟨_, rfl⟩
  obtain ⟨qb, hqb⟩ : ∃ b, b = w.heap.size := ⟨_, rfl⟩
  obtain ⟨b1, hb1⟩ : ∃ b, b = w.heap.size + 1 := ⟨_, rfl⟩
  obtain ⟨b2, hb2⟩ : ∃ b, b = w.heap.size + 2 := ⟨_, rfl⟩
  obtain ⟨b6, hb6⟩ : ∃ b, b = w.heap.size + 3 := ⟨_, rfl⟩
  have hs1 : (w.alloc (.cells q.cells 23)).heap.size = w.heap.size + 1 := heap_alloc_size w _
  have hs2 : ((w.alloc (.cells q.cells 23)).alloc (.cells (aggC n1 a1 tv1 z1) 53)).heap.size = w.heap.size + 2 := by rw [heap_alloc_size, heap_alloc_size]
  have hs3 : (((w.alloc (.cells q.cells 23)).alloc (.cells (aggC n1 a1 tv1 z1) 53)).alloc (.cells (aggC n2 a2 tv2 z2) 53)).heap.size = w.heap.size + 3 := by rw [heap_alloc_size, heap_alloc_size, heap_alloc_size]
  have H1 : Hid (RowQ w1 qb Q ∧ RowA w1 b1 n1 a1 tv1 z1 ∧ RowA w1 b2 n2 a2 tv2 z2 ∧ RowA w1 b6 0 0 nilV zeroZ ∧ Below w.heap.size w w1 ∧ w.heap.size ≤ b6 ∧ b6 < w1.heap.size) := by
    have h := box_qaa w q n1 a1 tv1 z1 n2 a2 tv2 z2
    have hB := (Below.refl _ (((w.alloc (.cells q.cells 23)).alloc (.cells (aggC n1 a1 tv1 z1) 53)).alloc (.cells (aggC n2 a2 tv2 z2) 53))).alloc (Nat.le_refl _) (.cells zeroC 53)
    rw [← hw1] at hB
    have hz : RowA w1 b6 0 0 nilV zeroZ := by rw [hw1, hb6, ← hs3]; exact heap_alloc_new _ _
    rw [hqb, hb1, hb2, hQ]
    exact Lib.hid ⟨h.1.below hB, h.2.1.below hB, h.2.2.1.below hB, hz, h.2.2.2.1.trans (hB.mono h.2.2.2.1.size), by omega, hz.lt⟩
  have hbn := And.intro hb.1 (And.intro hb.2.1 (And.intro hb.2.2.1 hb.2.2.2))
  clear hP h1 h2 k1 k2 hn hk hb
  obtain ⟨kind, size, slide, late, agg, k⟩ := q
  have HQe : Hid (Q.cells = #[.int .i64 kind, .int .i64 size, .int .i64 slide, .int .i64 late, .int .i64 agg, .int .i64 k]) := Lib.hid (by rw [hQ]; rfl)
  unfold QueryL.cells at hw1 hs1 hs2 hs3 ⊢
  unfold aggC zeroC at *
  unfold aggC at *
  simp only [nilV, zeroZ] at hw1 hs1 hs2 hs3 HPz HTop HEd
  obtain ⟨d0, d1, d2, d3, d4, d5⟩ : D6 w1 qb kind size slide late agg k := by
    have h := H1.out.1.d6
    rw [hQ] at h
    exact h
  obtain ⟨f0, f1, f2, f3⟩ := H1.out.2.1.d4
  obtain ⟨g0, g1, g2, g3⟩ := H1.out.2.2.1.d4
  have hn12 : 0 ≤ n1 + n2 ∧ n1 + n2 ≤ 2147483648 := by omega
  have HQf : Hid (Q = ⟨kind, size, slide, late, agg, k⟩) := Lib.hid hQ
  have Hqb : Hid (w.heap.size ≤ qb) := Lib.hid (by omega)
  clear hQ
  go_enter Tryz.func122, Tryz.ntmps122
  go_upto_region 1 with (fail)
  rw [← hw1, ← hb6, ← hb2, ← hb1, ← hqb]
  clear hw1 hqb hb1 hb2 hb6 hs1 hs2 hs3
  refine wp_region_lit ?_
  iterate 21 go_step
  refine wpList_store_row rfl _ _ _ rfl w1.heap.size (aggC (n1 + n2) 0 nilV zeroZ) rfl rfl 53 zeroC (heap_alloc_new w1 _) agg_size rfl (agg_one rfl rfl) ?_
  obtain ⟨w2, hw2⟩ : ∃ W, W = (w1.alloc (Obj.cells #[.int .i64 0, .int .i64 0, .slice none 0 0, .complex .f64 0 0] 53)).setRow w1.heap.size (aggC (n1 + n2) 0 nilV zeroZ) := ⟨_, rfl⟩
  obtain ⟨b8, hb8⟩ : ∃ b, b = w1.heap.size := ⟨_, rfl⟩
  have H2 : Hid (TogSt w qb b1 b2 b6 b8 Q n1 a1 tv1 z1 n2 a2 tv2 z2 (n1 + n2) 0 (.slice none 0 0) (.complex .f64 0 0) w2) := by
    obtain ⟨k1, k2⟩ := stored_agg w1 (n1 + n2) 0 nilV zeroZ
    obtain ⟨j1, j2, j3, j4, j5, j6, j7⟩ := H1.out
    rw [hw2, hb8]
    exact Lib.hid ⟨⟨Hqb.out, j1.lt, j2.lt, j3.lt, j4.lt, j6, j5.size⟩, j1.below k2, j2.below k2, j3.below k2, j4.below k2, k1, j5.trans (k2.mono j5.size)⟩
  rw [← hw2, ← hb8]
  clear hw2 hb8 d0 d1 d2 d3 d4 d5 f0 f1 f2 f3 g0 g1 g2 g3 H1 hn12
  have HZw : Hid (WholeZ (.complex .f64 0 0) 0 0) := Lib.hid zeroZ_whole
  have HI0 : Hid (IntsAt w (.slice none 0 0) []) := Lib.hid (IntsAt.nil _)
  have HN6 : Hid (∀ a n c, Value.slice none 0 0 = .slice (some a) n c → ([] : List Int) ≠ [] → a.block ≠ b6) := Lib.hid (fun _ _ _ h => by cases h)
  have HNW : Hid (∀ a n c, Value.slice none 0 0 = .slice (some a) n c → w.heap.size ≤ a.block) := Lib.hid (fun _ _ _ h => by cases h)
  obtain ⟨d0, d1, d2, d3, d4, d5⟩ : D6 w2 qb kind size slide late agg k := by
    have h := H2.out.2.1.d6
    rw [HQf.out] at h
    exact h
  obtain ⟨f0, f1, f2, f3⟩ := H2.out.2.2.1.d4
  obtain ⟨g0, g1, g2, g3⟩ := H2.out.2.2.2.1.d4
  obtain ⟨x0, x1, x2, x3⟩ := H2.out.2.2.2.2.2.1.d4
  have hbn' := hbn
  by_cases h2 : agg = 2
  · subst h2
    have HI2 : Hid (IntsAt w2 (.slice none 0 0) []) := Lib.hid (IntsAt.nil _)
    have hab : -8796093022208 ≤ a1 + a2 ∧ a1 + a2 ≤ 8796093022208 := by omega
    clear hbn hbn'
    go_upto_region 5 with (fail)
    refine wp_region_lit ?_
    iterate 18 go_step
    refine wpList_store1 rfl _ (.tmp 26) (.tmp 25) rfl ⟨b8, 1, none⟩ (.int .i64 (a1 + a2)) (.int .i64 0) rfl rfl rfl rfl Tryz.sizeOf3 x1 (RowA.fro H2.out.2.2.2.2.2.1 1) ?_
    obtain ⟨w3, hw⟩ : ∃ W, W = (w2).setCell ⟨b8, 1, none⟩ (.int .i64 (a1 + a2)) := ⟨_, rfl⟩
    have H3 : Hid (TogSt w qb b1 b2 b6 b8 Q n1 a1 tv1 z1 n2 a2 tv2 z2 (n1 + n2) (a1 + a2) (.slice none 0 0) (.complex .f64 0 0) w3) := by
      have hg : (w2).grownBy w3 (some b8) := by rw [hw]; exact grown_setCell _ _ _ _
      exact Lib.hid (H2.out.turn hg (by rw [hw]; exact RowA.set1 H2.out.2.2.2.2.2.1 (a1 + a2)))
    have HGw : Hid ((w2).grownBy w3 (some b8)) := by rw [hw]; exact Lib.hid (grown_setCell _ _ _ _)
    rw [← hw]
    clear hw
    have HI3 : Hid (IntsAt w3 (.slice none 0 0) []) := Lib.hid (IntsAt.nil _)
    clear d0 d1 d2 d3 d4 d5 f0 f1 f2 f3 g0 g1 g2 g3 x0 x1 x2 x3 hab
    obtain ⟨y0, y1, y2, y3⟩ := H3.out.2.2.2.2.2.1.d4
    go_upto_region 13 with (fail)
    refine wp_region_lit ?_
    iterate 6 go_step
    refine wpList_store_row rfl _ _ _ rfl b6 (aggC (n1 + n2) (a1 + a2) (.slice none 0 0) (.complex .f64 0 0)) rfl rfl 53 zeroC H3.out.2.2.2.2.1 agg_size rfl (agg_oneW HI3.out HZw.out) ?_
    obtain ⟨wy, hwy⟩ : ∃ W, W = w3.setRow b6 (aggC (n1 + n2) (a1 + a2) (.slice none 0 0) (.complex .f64 0 0)) := ⟨_, rfl⟩
    have HZ : Hid (RowA wy b6 (n1 + n2) (a1 + a2) (.slice none 0 0) (.complex .f64 0 0) ∧ P (.returned (.tuple #[.agg #[.int .i64 (n1 + n2), .int .i64 (a1 + a2), (.slice none 0 0), (.complex .f64 0 0)], .int .i64 0])) wy) := by
      have hg := grown_setRow w3 b6 (aggC (n1 + n2) (a1 + a2) (.slice none 0 0) (.complex .f64 0 0))
      obtain ⟨h0, h1, h2, h3, h4, h5, h6⟩ := H3.out
      rw [hwy]
      refine Lib.hid ⟨h4.reset _ _ _ _, HPz.out _ (.slice none 0 0) (.complex .f64 0 0) (a1 + a2) [] 0 0 0 (HI3.out.grown hg HN6.out) HZw.out (h6.trans (below_set hg (by omega) h6.size)) HNW.out ?_ ?_⟩
      · simp [togL, togA]
      · simp [togE, togOver]
    rw [← hwy]
    clear hwy y0 y1 y2 y3
    go_wp2_with (fail)
    exact bodyPost_ret (v := .tuple #[.agg (aggC (n1 + n2) (a1 + a2) (.slice none 0 0) (.complex .f64 0 0)), .int .i64 0]) ((results_cell_row_tmp (p := 6) (u := 7) (ty := 53) rfl _ _ b6 53 (aggC (n1 + n2) (a1 + a2) (.slice none 0 0) (.complex .f64 0 0)) (0, 0) _ rfl HZ.out.1 Tryz.underlying53 rfl agg_size).trans rfl) rfl HZ.out.2
  have e2 : (agg == 2) = false := by simpa using h2
  by_cases h5 : agg = 5
  · subst h5
    clear h2
    have HI2 : Hid (IntsAt w2 (.slice none 0 0) []) := Lib.hid (IntsAt.nil _)
    have hab : -8796093022208 ≤ a1 + a2 ∧ a1 + a2 ≤ 8796093022208 := by omega
    clear hbn hbn'
    go_upto_region 5 with (fail)
    refine wp_region_lit ?_
    iterate 18 go_step
    refine wpList_store1 rfl _ (.tmp 26) (.tmp 25) rfl ⟨b8, 1, none⟩ (.int .i64 (a1 + a2)) (.int .i64 0) rfl rfl rfl rfl Tryz.sizeOf3 x1 (RowA.fro H2.out.2.2.2.2.2.1 1) ?_
    obtain ⟨w3, hw⟩ : ∃ W, W = (w2).setCell ⟨b8, 1, none⟩ (.int .i64 (a1 + a2)) := ⟨_, rfl⟩
    have H3 : Hid (TogSt w qb b1 b2 b6 b8 Q n1 a1 tv1 z1 n2 a2 tv2 z2 (n1 + n2) (a1 + a2) (.slice none 0 0) (.complex .f64 0 0) w3) := by
      have hg : (w2).grownBy w3 (some b8) := by rw [hw]; exact grown_setCell _ _ _ _
      exact Lib.hid (H2.out.turn hg (by rw [hw]; exact RowA.set1 H2.out.2.2.2.2.2.1 (a1 + a2)))
    have HGw : Hid ((w2).grownBy w3 (some b8)) := by rw [hw]; exact Lib.hid (grown_setCell _ _ _ _)
    rw [← hw]
    clear hw
    have HI3 : Hid (IntsAt w3 (.slice none 0 0) []) := Lib.hid (IntsAt.nil _)
    clear d0 d1 d2 d3 d4 d5 f0 f1 f2 f3 g0 g1 g2 g3 x0 x1 x2 x3 hab
    obtain ⟨y0, y1, y2, y3⟩ := H3.out.2.2.2.2.2.1.d4
    go_upto_region 13 with (fail)
    refine wp_region_lit ?_
    iterate 6 go_step
    refine wpList_store_row rfl _ _ _ rfl b6 (aggC (n1 + n2) (a1 + a2) (.slice none 0 0) (.complex .f64 0 0)) rfl rfl 53 zeroC H3.out.2.2.2.2.1 agg_size rfl (agg_oneW HI3.out HZw.out) ?_
    obtain ⟨wy, hwy⟩ : ∃ W, W = w3.setRow b6 (aggC (n1 + n2) (a1 + a2) (.slice none 0 0) (.complex .f64 0 0)) := ⟨_, rfl⟩
    have HZ : Hid (RowA wy b6 (n1 + n2) (a1 + a2) (.slice none 0 0) (.complex .f64 0 0) ∧ P (.returned (.tuple #[.agg #[.int .i64 (n1 + n2), .int .i64 (a1 + a2), (.slice none 0 0), (.complex .f64 0 0)], .int .i64 0])) wy) := by
      have hg := grown_setRow w3 b6 (aggC (n1 + n2) (a1 + a2) (.slice none 0 0) (.complex .f64 0 0))
      obtain ⟨h0, h1, h2, h3, h4, h5, h6⟩ := H3.out
      rw [hwy]
      refine Lib.hid ⟨h4.reset _ _ _ _, HPz.out _ (.slice none 0 0) (.complex .f64 0 0) (a1 + a2) [] 0 0 0 (HI3.out.grown hg HN6.out) HZw.out (h6.trans (below_set hg (by omega) h6.size)) HNW.out ?_ ?_⟩
      · simp [togL, togA]
      · simp [togE, togOver]
    rw [← hwy]
    clear hwy y0 y1 y2 y3
    go_wp2_with (fail)
    exact bodyPost_ret (v := .tuple #[.agg (aggC (n1 + n2) (a1 + a2) (.slice none 0 0) (.complex .f64 0 0)), .int .i64 0]) ((results_cell_row_tmp (p := 6) (u := 7) (ty := 53) rfl _ _ b6 53 (aggC (n1 + n2) (a1 + a2) (.slice none 0 0) (.complex .f64 0 0)) (0, 0) _ rfl HZ.out.1 Tryz.underlying53 rfl agg_size).trans rfl) rfl HZ.out.2
  have e5 : (agg == 5) = false := by simpa using h5
  by_cases h3 : agg = 3
  · subst h3
    clear h2 h5 hbn hbn'
    obtain ⟨E, hE⟩ : ∃ E, E = edgeQ 3 n1 a1 n2 a2 := ⟨_, rfl⟩
    have HE := Lib.hid hE
    have HEd' : Hid (∀ w', Calls Tryz.prog 142 #[.agg #[.int .i64 kind, .int .i64 size, .int .i64 slide, .int .i64 late, .int .i64 3, .int .i64 k], .agg #[.int .i64 n1, .int .i64 a1, tv1, z1], .agg #[.int .i64 n2, .int .i64 a2, tv2, z2]] w' (Below0 w' (.int .i64 E))) := by
      have h := HEd.out
      rw [HQe.out] at h
      rw [hE]
      exact Lib.hid h
    clear hE
    go_upto_region 8 with (fail)
    refine wp_region_lit ?_
    iterate 9 go_step
    refine wpList_plain rfl fun K hK => ?_
    go_step
    refine (HEd'.out w2).mono ?_
    rintro e w3 ⟨rfl, hB⟩
    refine hK _ _ ?_
    have H3 : Hid (TogSt w qb b1 b2 b6 b8 Q n1 a1 tv1 z1 n2 a2 tv2 z2 (n1 + n2) 0 (.slice none 0 0) (.complex .f64 0 0) w3) := Lib.hid (H2.out.below hB)
    clear hK hB d0 d1 d2 d3 d4 d5 f0 f1 f2 f3 g0 g1 g2 g3 x0 x1 x2 x3
    obtain ⟨x0, x1, x2, x3⟩ := H3.out.2.2.2.2.2.1.d4
    iterate 3 go_step
    refine wpList_store1 rfl _ (.tmp 34) (.tmp 33) rfl ⟨b8, 1, none⟩ (.int .i64 E) (.int .i64 0) rfl rfl rfl rfl Tryz.sizeOf3 x1 (RowA.fro H3.out.2.2.2.2.2.1 1) ?_
    obtain ⟨w4, hw⟩ : ∃ W, W = (w3).setCell ⟨b8, 1, none⟩ (.int .i64 E) := ⟨_, rfl⟩
    have H4 : Hid (TogSt w qb b1 b2 b6 b8 Q n1 a1 tv1 z1 n2 a2 tv2 z2 (n1 + n2) E (.slice none 0 0) (.complex .f64 0 0) w4) := by
      have hg : (w3).grownBy w4 (some b8) := by rw [hw]; exact grown_setCell _ _ _ _
      exact Lib.hid (H3.out.turn hg (by rw [hw]; exact RowA.set1 H3.out.2.2.2.2.2.1 E))
    have HGw : Hid ((w3).grownBy w4 (some b8)) := by rw [hw]; exact Lib.hid (grown_setCell _ _ _ _)
    rw [← hw]
    clear hw
    have HI4 : Hid (IntsAt w4 (.slice none 0 0) []) := Lib.hid (IntsAt.nil _)
    clear x0 x1 x2 x3
    obtain ⟨y0, y1, y2, y3⟩ := H4.out.2.2.2.2.2.1.d4
    go_upto_region 13 with (fail)
    refine wp_region_lit ?_
    iterate 6 go_step
    refine wpList_store_row rfl _ _ _ rfl b6 (aggC (n1 + n2) E (.slice none 0 0) (.complex .f64 0 0)) rfl rfl 53 zeroC H4.out.2.2.2.2.1 agg_size rfl (agg_oneW HI4.out HZw.out) ?_
    obtain ⟨wy, hwy⟩ : ∃ W, W = w4.setRow b6 (aggC (n1 + n2) E (.slice none 0 0) (.complex .f64 0 0)) := ⟨_, rfl⟩
    have HZ : Hid (RowA wy b6 (n1 + n2) E (.slice none 0 0) (.complex .f64 0 0) ∧ P (.returned (.tuple #[.agg #[.int .i64 (n1 + n2), .int .i64 E, (.slice none 0 0), (.complex .f64 0 0)], .int .i64 0])) wy) := by
      have hg := grown_setRow w4 b6 (aggC (n1 + n2) E (.slice none 0 0) (.complex .f64 0 0))
      obtain ⟨h0, h1, h2, h3, h4, h5, h6⟩ := H4.out
      rw [hwy]
      refine Lib.hid ⟨h4.reset _ _ _ _, HPz.out _ (.slice none 0 0) (.complex .f64 0 0) E [] 0 0 0 (HI4.out.grown hg HN6.out) HZw.out (h6.trans (below_set hg (by omega) h6.size)) HNW.out ?_ ?_⟩
      · (simp [togL, togA]; exact HE.out.symm)
      · simp [togE, togOver]
    rw [← hwy]
    clear hwy y0 y1 y2 y3
    go_wp2_with (fail)
    exact bodyPost_ret (v := .tuple #[.agg (aggC (n1 + n2) E (.slice none 0 0) (.complex .f64 0 0)), .int .i64 0]) ((results_cell_row_tmp (p := 6) (u := 7) (ty := 53) rfl _ _ b6 53 (aggC (n1 + n2) E (.slice none 0 0) (.complex .f64 0 0)) (0, 0) _ rfl HZ.out.1 Tryz.underlying53 rfl agg_size).trans rfl) rfl HZ.out.2
  have e3 : (agg == 3) = false := by simpa using h3
  by_cases h4 : agg = 4
  · subst h4
    clear h2 h5 h3 hbn hbn'
    obtain ⟨E, hE⟩ : ∃ E, E = edgeQ 4 n1 a1 n2 a2 := ⟨_, rfl⟩
    have HE := Lib.hid hE
    have HEd' : Hid (∀ w', Calls Tryz.prog 142 #[.agg #[.int .i64 kind, .int .i64 size, .int .i64 slide, .int .i64 late, .int .i64 4, .int .i64 k], .agg #[.int .i64 n1, .int .i64 a1, tv1, z1], .agg #[.int .i64 n2, .int .i64 a2, tv2, z2]] w' (Below0 w' (.int .i64 E))) := by
      have h := HEd.out
      rw [HQe.out] at h
      rw [hE]
      exact Lib.hid h
    clear hE
    go_upto_region 8 with (fail)
    refine wp_region_lit ?_
    iterate 9 go_step
    refine wpList_plain rfl fun K hK => ?_
    go_step
    refine (HEd'.out w2).mono ?_
    rintro e w3 ⟨rfl, hB⟩
    refine hK _ _ ?_
    have H3 : Hid (TogSt w qb b1 b2 b6 b8 Q n1 a1 tv1 z1 n2 a2 tv2 z2 (n1 + n2) 0 (.slice none 0 0) (.complex .f64 0 0) w3) := Lib.hid (H2.out.below hB)
    clear hK hB d0 d1 d2 d3 d4 d5 f0 f1 f2 f3 g0 g1 g2 g3 x0 x1 x2 x3
    obtain ⟨x0, x1, x2, x3⟩ := H3.out.2.2.2.2.2.1.d4
    iterate 3 go_step
    refine wpList_store1 rfl _ (.tmp 34) (.tmp 33) rfl ⟨b8, 1, none⟩ (.int .i64 E) (.int .i64 0) rfl rfl rfl rfl Tryz.sizeOf3 x1 (RowA.fro H3.out.2.2.2.2.2.1 1) ?_
    obtain ⟨w4, hw⟩ : ∃ W, W = (w3).setCell ⟨b8, 1, none⟩ (.int .i64 E) := ⟨_, rfl⟩
    have H4 : Hid (TogSt w qb b1 b2 b6 b8 Q n1 a1 tv1 z1 n2 a2 tv2 z2 (n1 + n2) E (.slice none 0 0) (.complex .f64 0 0) w4) := by
      have hg : (w3).grownBy w4 (some b8) := by rw [hw]; exact grown_setCell _ _ _ _
      exact Lib.hid (H3.out.turn hg (by rw [hw]; exact RowA.set1 H3.out.2.2.2.2.2.1 E))
    have HGw : Hid ((w3).grownBy w4 (some b8)) := by rw [hw]; exact Lib.hid (grown_setCell _ _ _ _)
    rw [← hw]
    clear hw
    have HI4 : Hid (IntsAt w4 (.slice none 0 0) []) := Lib.hid (IntsAt.nil _)
    clear x0 x1 x2 x3
    obtain ⟨y0, y1, y2, y3⟩ := H4.out.2.2.2.2.2.1.d4
    go_upto_region 13 with (fail)
    refine wp_region_lit ?_
    iterate 6 go_step
    refine wpList_store_row rfl _ _ _ rfl b6 (aggC (n1 + n2) E (.slice none 0 0) (.complex .f64 0 0)) rfl rfl 53 zeroC H4.out.2.2.2.2.1 agg_size rfl (agg_oneW HI4.out HZw.out) ?_
    obtain ⟨wy, hwy⟩ : ∃ W, W = w4.setRow b6 (aggC (n1 + n2) E (.slice none 0 0) (.complex .f64 0 0)) := ⟨_, rfl⟩
    have HZ : Hid (RowA wy b6 (n1 + n2) E (.slice none 0 0) (.complex .f64 0 0) ∧ P (.returned (.tuple #[.agg #[.int .i64 (n1 + n2), .int .i64 E, (.slice none 0 0), (.complex .f64 0 0)], .int .i64 0])) wy) := by
      have hg := grown_setRow w4 b6 (aggC (n1 + n2) E (.slice none 0 0) (.complex .f64 0 0))
      obtain ⟨h0, h1, h2, h3, h4, h5, h6⟩ := H4.out
      rw [hwy]
      refine Lib.hid ⟨h4.reset _ _ _ _, HPz.out _ (.slice none 0 0) (.complex .f64 0 0) E [] 0 0 0 (HI4.out.grown hg HN6.out) HZw.out (h6.trans (below_set hg (by omega) h6.size)) HNW.out ?_ ?_⟩
      · (simp [togL, togA]; exact HE.out.symm)
      · simp [togE, togOver]
    rw [← hwy]
    clear hwy y0 y1 y2 y3
    go_wp2_with (fail)
    exact bodyPost_ret (v := .tuple #[.agg (aggC (n1 + n2) E (.slice none 0 0) (.complex .f64 0 0)), .int .i64 0]) ((results_cell_row_tmp (p := 6) (u := 7) (ty := 53) rfl _ _ b6 53 (aggC (n1 + n2) E (.slice none 0 0) (.complex .f64 0 0)) (0, 0) _ rfl HZ.out.1 Tryz.underlying53 rfl agg_size).trans rfl) rfl HZ.out.2
  have e4 : (agg == 4) = false := by simpa using h4
  by_cases h6 : agg = 6
  · subst h6
    clear h2 h5 h3 h4 hbn hbn'
    have HTop' : Hid (∀ w', Below w.heap.size w w' → Calls Tryz.prog 143 #[.agg #[.int .i64 kind, .int .i64 size, .int .i64 slide, .int .i64 late, .int .i64 6, .int .i64 k], .agg #[.int .i64 n1, .int .i64 a1, tv1, z1], .agg #[.int .i64 n2, .int .i64 a2, tv2, z2]] w' (fun e w'' => ∃ v, e = .returned v ∧ IntsAt w'' v (topL k.toNat (l1 ++ l2)) ∧ (∀ a n c, v = .slice (some a) n c → w'.heap.size ≤ a.block) ∧ Below w'.heap.size w' w'')) := by
      have h := HTop.out
      rw [HQe.out] at h
      exact Lib.hid h
    go_upto_region 10 with (fail)
    refine wp_region_lit ?_
    iterate 9 go_step
    refine wpList_plain rfl fun K hK => ?_
    go_step
    refine (HTop'.out w2 H2.out.2.2.2.2.2.2).mono ?_
    rintro e w3 ⟨v, rfl, hI, hnb, hB⟩
    refine hK _ _ ?_
    have H3 : Hid (TogSt w qb b1 b2 b6 b8 Q n1 a1 tv1 z1 n2 a2 tv2 z2 (n1 + n2) 0 (.slice none 0 0) (.complex .f64 0 0) w3) := Lib.hid (H2.out.below hB)
    have HI3 := Lib.hid hI
    obtain ⟨ta, tc, rfl, _, hIc⟩ := hI
    obtain ⟨N, hN⟩ : ∃ N, N = (topL k.toNat (l1 ++ l2)).length := ⟨_, rfl⟩
    rw [← hN] at HI3
    rw [← hN] at hnb
    rw [← hN]
    have Hnw : Hid (∀ a n c, Value.slice ta N tc = .slice (some a) n c → w.heap.size ≤ a.block) := by
      have hs := H2.out.2.2.2.2.2.2.size
      exact Lib.hid (fun a n c e => by have := hnb a n c e; omega)
    have Hblk : Hid ((∀ a n c, Value.slice ta N tc = .slice (some a) n c → topL k.toNat (l1 ++ l2) ≠ [] → a.block ≠ b8) ∧ ∀ a n c, Value.slice ta N tc = .slice (some a) n c → topL k.toNat (l1 ++ l2) ≠ [] → a.block ≠ b6) := by
      have l8 := H2.out.2.2.2.2.2.1.lt
      have l6 := H2.out.2.2.2.2.1.lt
      exact Lib.hid ⟨fun a n c e _ => by have := hnb a n c e; omega, fun a n c e _ => by have := hnb a n c e; omega⟩
    clear hK hB d0 d1 d2 d3 d4 d5 f0 f1 f2 f3 g0 g1 g2 g3 x0 x1 x2 x3 hN hIc hnb
    obtain ⟨x0, x1, x2, x3⟩ := H3.out.2.2.2.2.2.1.d4
    iterate 3 go_step
    refine wpList_store1 rfl _ (.tmp 41) (.tmp 40) rfl ⟨b8, 2, none⟩ (.slice ta N tc) (.slice none 0 0) rfl rfl rfl rfl Tryz.sizeOf48 x2 (RowA.fro H3.out.2.2.2.2.2.1 2) ?_
    obtain ⟨w4, hw⟩ : ∃ W, W = (w3).setCell ⟨b8, 2, none⟩ (.slice ta N tc) := ⟨_, rfl⟩
    have H4 : Hid (TogSt w qb b1 b2 b6 b8 Q n1 a1 tv1 z1 n2 a2 tv2 z2 (n1 + n2) 0 (.slice ta N tc) (.complex .f64 0 0) w4) := by
      have hg : (w3).grownBy w4 (some b8) := by rw [hw]; exact grown_setCell _ _ _ _
      exact Lib.hid (H3.out.turn hg (by rw [hw]; exact RowA.set2 H3.out.2.2.2.2.2.1 (.slice ta N tc)))
    have HGw : Hid ((w3).grownBy w4 (some b8)) := by rw [hw]; exact Lib.hid (grown_setCell _ _ _ _)
    rw [← hw]
    clear hw
    have HI4 : Hid (IntsAt w4 (.slice ta N tc) (topL k.toNat (l1 ++ l2))) := by
      exact Lib.hid (HI3.out.grown HGw.out Hblk.out.1)
    clear x0 x1 x2 x3
    obtain ⟨y0, y1, y2, y3⟩ := H4.out.2.2.2.2.2.1.d4
    go_upto_region 13 with (fail)
    refine wp_region_lit ?_
    iterate 6 go_step
    refine wpList_store_row rfl _ _ _ rfl b6 (aggC (n1 + n2) 0 (.slice ta N tc) (.complex .f64 0 0)) rfl rfl 53 zeroC H4.out.2.2.2.2.1 agg_size rfl (agg_oneW HI4.out HZw.out) ?_
    obtain ⟨wy, hwy⟩ : ∃ W, W = w4.setRow b6 (aggC (n1 + n2) 0 (.slice ta N tc) (.complex .f64 0 0)) := ⟨_, rfl⟩
    have HZ : Hid (RowA wy b6 (n1 + n2) 0 (.slice ta N tc) (.complex .f64 0 0) ∧ P (.returned (.tuple #[.agg #[.int .i64 (n1 + n2), .int .i64 0, (.slice ta N tc), (.complex .f64 0 0)], .int .i64 0])) wy) := by
      have hg := grown_setRow w4 b6 (aggC (n1 + n2) 0 (.slice ta N tc) (.complex .f64 0 0))
      obtain ⟨h0, h1, h2, h3, h4, h5, h6⟩ := H4.out
      rw [hwy]
      refine Lib.hid ⟨h4.reset _ _ _ _, HPz.out _ (.slice ta N tc) (.complex .f64 0 0) 0 (topL k.toNat (l1 ++ l2)) 0 0 0 (HI4.out.grown hg Hblk.out.2) HZw.out (h6.trans (below_set hg (by omega) h6.size)) Hnw.out ?_ ?_⟩
      · simp [togL, togA]
      · simp [togE, togOver]
    rw [← hwy]
    clear hwy y0 y1 y2 y3
    go_wp2_with (fail)
    exact bodyPost_ret (v := .tuple #[.agg (aggC (n1 + n2) 0 (.slice ta N tc) (.complex .f64 0 0)), .int .i64 0]) ((results_cell_row_tmp (p := 6) (u := 7) (ty := 53) rfl _ _ b6 53 (aggC (n1 + n2) 0 (.slice ta N tc) (.complex .f64 0 0)) (0, 0) _ rfl HZ.out.1 Tryz.underlying53 rfl agg_size).trans rfl) rfl HZ.out.2
  have e6 : (agg == 6) = false := by simpa using h6
  by_cases h7 : agg = 7
  · subst h7
    clear h2 h5 h3 h4 h6 hbn hbn'
    obtain ⟨Zr, hZr⟩ : ∃ Z, Z = ofV (u1 + u2) (v1 + v2) := ⟨_, rfl⟩
    obtain ⟨er, her⟩ : ∃ e, e = ofE (u1 + u2) (v1 + v2) := ⟨_, rfl⟩
    have HAd' : Hid (Calls Tryz.prog 144 #[z1, z2] w2 (fun e w' => e = .returned (.tuple #[Zr, .int .i64 er]) ∧ w' = w2)) := by
      have h := HAd.out w2
      unfold OpEnd at h
      rw [← hZr, ← her] at h
      exact Lib.hid h
    obtain ⟨ru, rv, hW, hW1, hW2⟩ := ofV_whole (u1 + u2) (v1 + v2)
    rw [← hZr] at hW
    have HWr := Lib.hid (And.intro hW (And.intro hW1 (And.intro hW2 her)))
    obtain ⟨p, q, hZe, _, _⟩ := hW.1
    subst hZe
    clear hZr her hW hW1 hW2
    go_upto_region 12 with (fail)
    refine wp_region_lit ?_
    iterate 12 go_step
    refine wpList_plain rfl fun K hK => ?_
    go_step
    refine HAd'.out.mono ?_
    rintro e w' ⟨rfl, hw'⟩
    subst w'
    refine hK _ _ ?_
    clear hK
    iterate 12 go_step
    refine wpList_store1 rfl _ (.tmp 52) (.tmp 50) rfl ⟨b8, 3, none⟩ (.complex .f64 p q) (.complex .f64 0 0) rfl rfl rfl rfl Tryz.sizeOf51 x3 (RowA.fro H2.out.2.2.2.2.2.1 3) ?_
    obtain ⟨w3, hw⟩ : ∃ W, W = (w2).setCell ⟨b8, 3, none⟩ (.complex .f64 p q) := ⟨_, rfl⟩
    have H3 : Hid (TogSt w qb b1 b2 b6 b8 Q n1 a1 tv1 z1 n2 a2 tv2 z2 (n1 + n2) 0 (.slice none 0 0) (.complex .f64 p q) w3) := by
      have hg : (w2).grownBy w3 (some b8) := by rw [hw]; exact grown_setCell _ _ _ _
      exact Lib.hid (H2.out.turn hg (by rw [hw]; exact RowA.set3 H2.out.2.2.2.2.2.1 (.complex .f64 p q)))
    have HGw : Hid ((w2).grownBy w3 (some b8)) := by rw [hw]; exact Lib.hid (grown_setCell _ _ _ _)
    rw [← hw]
    clear hw
    have HI3 : Hid (IntsAt w3 (.slice none 0 0) []) := Lib.hid (IntsAt.nil _)
    have HWz : Hid (WholeZ (.complex .f64 p q) ru rv) := Lib.hid HWr.out.1
    clear d0 d1 d2 d3 d4 d5 f0 f1 f2 f3 g0 g1 g2 g3 x0 x1 x2 x3
    have HEq1 : Hid (togL ⟨kind, size, slide, late, 7, k⟩ ⟨n1, a1, l1, u1, v1⟩ ⟨n2, a2, l2, u2, v2⟩ = ⟨n1 + n2, 0, [], ru, rv⟩) := by
      refine Lib.hid ?_
      by_cases h : InP (u1 + u2) (v1 + v2)
      · obtain ⟨rfl, rfl⟩ := HWr.out.2.1 h
        simp [togL, togA, togOver, h]
      · obtain ⟨rfl, rfl⟩ := HWr.out.2.2.1 h
        simp [togL, togA, togOver, h]
    have HEq2 : Hid (togE ⟨kind, size, slide, late, 7, k⟩ ⟨n1, a1, l1, u1, v1⟩ ⟨n2, a2, l2, u2, v2⟩ = er) := by
      refine Lib.hid ?_
      rw [HWr.out.2.2.2, togE, togOver, ofE]
      by_cases h : InP (u1 + u2) (v1 + v2) <;> simp [h]
    obtain ⟨y0, y1, y2, y3⟩ := H3.out.2.2.2.2.2.1.d4
    go_upto_region 13 with (fail)
    refine wp_region_lit ?_
    iterate 6 go_step
    refine wpList_store_row rfl _ _ _ rfl b6 (aggC (n1 + n2) 0 (.slice none 0 0) (.complex .f64 p q)) rfl rfl 53 zeroC H3.out.2.2.2.2.1 agg_size rfl (agg_oneW HI3.out HWz.out) ?_
    obtain ⟨wy, hwy⟩ : ∃ W, W = w3.setRow b6 (aggC (n1 + n2) 0 (.slice none 0 0) (.complex .f64 p q)) := ⟨_, rfl⟩
    have HZ : Hid (RowA wy b6 (n1 + n2) 0 (.slice none 0 0) (.complex .f64 p q) ∧ P (.returned (.tuple #[.agg #[.int .i64 (n1 + n2), .int .i64 0, (.slice none 0 0), (.complex .f64 p q)], .int .i64 er])) wy) := by
      have hg := grown_setRow w3 b6 (aggC (n1 + n2) 0 (.slice none 0 0) (.complex .f64 p q))
      obtain ⟨h0, h1, h2, h3, h4, h5, h6⟩ := H3.out
      rw [hwy]
      refine Lib.hid ⟨h4.reset _ _ _ _, HPz.out _ (.slice none 0 0) (.complex .f64 p q) 0 [] ru rv er (HI3.out.grown hg HN6.out) HWz.out (h6.trans (below_set hg (by omega) h6.size)) HNW.out ?_ ?_⟩
      · exact HEq1.out
      · exact HEq2.out
    rw [← hwy]
    clear hwy y0 y1 y2 y3
    go_wp2_with (fail)
    exact bodyPost_ret (v := .tuple #[.agg (aggC (n1 + n2) 0 (.slice none 0 0) (.complex .f64 p q)), .int .i64 er]) ((results_cell_row_tmp (p := 6) (u := 7) (ty := 53) rfl _ _ b6 53 (aggC (n1 + n2) 0 (.slice none 0 0) (.complex .f64 p q)) (0, 0) _ rfl HZ.out.1 Tryz.underlying53 rfl agg_size).trans rfl) rfl HZ.out.2
  have e7 : (agg == 7) = false := by simpa using h7
  have HEq1 : Hid (togL ⟨kind, size, slide, late, agg, k⟩ ⟨n1, a1, l1, u1, v1⟩ ⟨n2, a2, l2, u2, v2⟩ = ⟨n1 + n2, 0, [], 0, 0⟩) := by
    refine Lib.hid ?_
    simp [togL, togA, h2, h5, h3, h4, h6, h7]
  have HEq2 : Hid (togE ⟨kind, size, slide, late, agg, k⟩ ⟨n1, a1, l1, u1, v1⟩ ⟨n2, a2, l2, u2, v2⟩ = 0) := Lib.hid (by simp [togE, togOver, h7])
  have HI2 : Hid (IntsAt w2 (.slice none 0 0) []) := Lib.hid (IntsAt.nil _)
  clear h2 h5 h3 h4 h6 h7 hbn hbn' f0 f1 f2 f3 g0 g1 g2 g3 x0 x1 x2 x3
  obtain ⟨y0, y1, y2, y3⟩ := H2.out.2.2.2.2.2.1.d4
  go_upto_region 13 with (fail)
  refine wp_region_lit ?_
  iterate 6 go_step
  refine wpList_store_row rfl _ _ _ rfl b6 (aggC (n1 + n2) 0 (.slice none 0 0) (.complex .f64 0 0)) rfl rfl 53 zeroC H2.out.2.2.2.2.1 agg_size rfl (agg_oneW HI2.out HZw.out) ?_
  obtain ⟨wy, hwy⟩ : ∃ W, W = w2.setRow b6 (aggC (n1 + n2) 0 (.slice none 0 0) (.complex .f64 0 0)) := ⟨_, rfl⟩
  have HZ : Hid (RowA wy b6 (n1 + n2) 0 (.slice none 0 0) (.complex .f64 0 0) ∧ P (.returned (.tuple #[.agg #[.int .i64 (n1 + n2), .int .i64 0, (.slice none 0 0), (.complex .f64 0 0)], .int .i64 0])) wy) := by
    have hg := grown_setRow w2 b6 (aggC (n1 + n2) 0 (.slice none 0 0) (.complex .f64 0 0))
    obtain ⟨h0, h1, h2, h3, h4, h5, h6⟩ := H2.out
    rw [hwy]
    refine Lib.hid ⟨h4.reset _ _ _ _, HPz.out _ (.slice none 0 0) (.complex .f64 0 0) 0 [] 0 0 0 (HI2.out.grown hg HN6.out) HZw.out (h6.trans (below_set hg (by omega) h6.size)) HNW.out ?_ ?_⟩
    · exact HEq1.out
    · exact HEq2.out
  rw [← hwy]
  clear hwy y0 y1 y2 y3
  go_wp2_with (fail)
  exact bodyPost_ret (v := .tuple #[.agg (aggC (n1 + n2) 0 (.slice none 0 0) (.complex .f64 0 0)), .int .i64 0]) ((results_cell_row_tmp (p := 6) (u := 7) (ty := 53) rfl _ _ b6 53 (aggC (n1 + n2) 0 (.slice none 0 0) (.complex .f64 0 0)) (0, 0) _ rfl HZ.out.1 Tryz.underlying53 rfl agg_size).trans rfl) rfl HZ.out.2
end Go.Proofs.YtjeeghafachebaaGreat
namespace Go.Proofs.YtjeeghafachebaaGreat
open Go Go.RowKit
def oneA (agg v : Int) : Int := if agg = 2 ∨ agg = 3 ∨ agg = 4 ∨ agg = 5 then v else 0
def oneL (agg v : Int) : AggL := ⟨1, oneA agg v, if agg = 6 then [v] else [], if agg = 7 then (turnP v).1 else 0, if agg = 7 then (turnP v).2 else 0⟩
def AggOne (w : World) (m : AggL) (e : Ending) (w' : World) : Prop := ∃ tv z, e = .returned (.agg (aggC m.n m.a tv z)) ∧ IntsAt w' tv m.top ∧ WholeZ z m.u m.v ∧ Below w.heap.size w w'
def OneSt (w : World) (qb b4 b5 : Nat) (Q : QueryL) (a : Int) (tv z : Value) (w' : World) : Prop :=
  (w.heap.size ≤ b4 ∧ b4 < b5 ∧ qb < b5 ∧ w.heap.size ≤ b5) ∧ RowQ w' qb Q ∧ RowA w' b4 0 0 nilV zeroZ ∧ RowA w' b5 1 a tv z ∧ Below w.heap.size w w'
theorem OneSt.below {w : World} {qb b4 b5 : Nat} {Q : QueryL} {a : Int} {tv z : Value} {w' w'' : World} (h : OneSt w qb b4 b5 Q a tv z w') (hB : Below w'.heap.size w' w'') : OneSt w qb b4 b5 Q a tv z w'' := by
  obtain ⟨h0, h1, h2, h3, h4⟩ := h
  exact ⟨h0, h1.below hB, h2.below hB, h3.below hB, h4.trans (hB.mono h4.size)⟩
theorem OneSt.turn {w : World} {qb b4 b5 : Nat} {Q : QueryL} {a : Int} {tv z : Value} {w' w'' : World} {a' : Int} {tv' z' : Value} (h : OneSt w qb b4 b5 Q a tv z w') (hg : w'.grownBy w'' (some b5)) (hr : RowA w'' b5 1 a' tv' z') : OneSt w qb b4 b5 Q a' tv' z' w'' := by
  obtain ⟨h0, h1, h2, h3, h4⟩ := h
  exact ⟨h0, (hg.block qb h1.lt (by simp; omega)).trans h1, h2.grown hg (by simp; omega), hr, h4.trans (below_set hg (by omega) h4.size)⟩
set_option maxRecDepth 100000 in
set_option maxHeartbeats 2000000 in
theorem aone_any (w : World) (q : QueryL) (v : Int) : Calls Tryz.prog 123 #[.agg q.cells, .int .i64 v] w (AggOne w (oneL q.agg v)) := by
  obtain ⟨P, hP⟩ : ∃ P, P = AggOne w (oneL q.agg v) := ⟨_, rfl⟩
  rw [← hP]
  have HPz : Hid (∀ w' tv z a l u v', IntsAt w' tv l → WholeZ z u v' → Below w.heap.size w w' → oneL q.agg v = ⟨1, a, l, u, v'⟩ → P (.returned (.agg #[.int .i64 1, .int .i64 a, tv, z])) w') := by
    refine Lib.hid (fun w' tv z a l u v' j1 j2 j3 j4 => ?_)
    rw [hP, j4]
    exact ⟨tv, z, rfl, j1, j2, j3⟩
  obtain ⟨w1, hw1⟩ : ∃ W, W = (w.alloc (.cells q.cells 23)).alloc (.cells zeroC 53) := ⟨_, rfl⟩
  obtain ⟨qb, hqb⟩ : ∃ b, b = w.heap.size := ⟨_, rfl⟩
  obtain ⟨b4, hb4⟩ : ∃ b, b = w.heap.size + 1 := ⟨_, rfl⟩
  have H1 : Hid (RowQ w1 qb q ∧ RowA w1 b4 0 0 nilV zeroZ ∧ Below w.heap.size w w1 ∧ w.heap.size ≤ b4) := by
    have h := box_qa w q 0 0 nilV zeroZ
    rw [hw1, hqb, hb4]
    exact Lib.hid ⟨h.1, h.2.1, h.2.2, by omega⟩
  have hs1 : (w.alloc (.cells q.cells 23)).heap.size = w.heap.size + 1 := heap_alloc_size w _
  obtain ⟨Q, hQ⟩ : ∃ Q, Q = q := ⟨_, rfl⟩
  rw [← hQ] at H1
  clear hP
  obtain ⟨kind, size, slide, late, agg, k⟩ := q
  unfold QueryL.cells at hw1 hs1 ⊢
  unfold zeroC aggC at hw1
  simp only [nilV, zeroZ] at hw1 hs1 HPz
  have HQf : Hid (Q = ⟨kind, size, slide, late, agg, k⟩) := Lib.hid hQ
  clear hQ
  go_enter Tryz.func123, Tryz.ntmps123
  go_upto_region 1 with (fail)
  rw [← hw1, ← hb4, ← hqb]
  clear hw1 hqb hb4 hs1
  refine wp_region_lit ?_
  iterate 6 go_step
  refine wpList_store_row rfl _ _ _ rfl w1.heap.size (aggC 1 0 nilV zeroZ) rfl rfl 53 zeroC (heap_alloc_new w1 _) agg_size rfl (agg_one rfl rfl) ?_
  obtain ⟨w2, hw2⟩ : ∃ W, W = (w1.alloc (Obj.cells #[.int .i64 0, .int .i64 0, .slice none 0 0, .complex .f64 0 0] 53)).setRow w1.heap.size (aggC 1 0 nilV zeroZ) := ⟨_, rfl⟩
  obtain ⟨b5, hb5⟩ : ∃ b, b = w1.heap.size := ⟨_, rfl⟩
  have H2 : Hid (OneSt w qb b4 b5 Q 0 (.slice none 0 0) (.complex .f64 0 0) w2) := by
    obtain ⟨k1, k2⟩ := stored_agg w1 1 0 nilV zeroZ
    obtain ⟨j1, j2, j3, j4⟩ := H1.out
    rw [hw2, hb5]
    exact Lib.hid ⟨⟨j4, j2.lt, j1.lt, j3.size⟩, j1.below k2, j2.below k2, k1, j3.trans (k2.mono j3.size)⟩
  rw [← hw2, ← hb5]
  clear hw2 hb5 H1
  have HZw : Hid (WholeZ (.complex .f64 0 0) 0 0) := Lib.hid zeroZ_whole
  have HN4 : Hid (∀ a n c, Value.slice none 0 0 = .slice (some a) n c → ([] : List Int) ≠ [] → a.block ≠ b4) := Lib.hid (fun _ _ _ h => by cases h)
  obtain ⟨d0, d1, d2, d3, d4, d5⟩ : D6 w2 qb kind size slide late agg k := by
    have h := H2.out.2.1.d6
    rw [HQf.out] at h
    exact h
  obtain ⟨x0, x1, x2, x3⟩ := H2.out.2.2.2.1.d4
  by_cases h2 : agg = 2
  · subst h2
    go_upto_region 7 with (fail)
    refine wp_region_lit ?_
    iterate 6 go_step
    refine wpList_store1 rfl _ (.tmp 15) (.tmp 14) rfl ⟨b5, 1, none⟩ (.int .i64 v) (.int .i64 0) rfl rfl rfl rfl Tryz.sizeOf3 x1 (RowA.fro H2.out.2.2.2.1 1) ?_
    obtain ⟨w3, hw⟩ : ∃ W, W = (w2).setCell ⟨b5, 1, none⟩ (.int .i64 v) := ⟨_, rfl⟩
    have H3 : Hid (OneSt w qb b4 b5 Q v (.slice none 0 0) (.complex .f64 0 0) w3 ∧ (w2).grownBy w3 (some b5)) := by
      have hg : (w2).grownBy w3 (some b5) := by rw [hw]; exact grown_setCell _ _ _ _
      exact Lib.hid ⟨H2.out.turn hg (by rw [hw]; exact RowA.set1 H2.out.2.2.2.1 v), hg⟩
    rw [← hw]
    clear hw
    have HI3 : Hid (IntsAt w3 (.slice none 0 0) []) := Lib.hid (IntsAt.nil _)
    have H3a := Lib.hid H3.out.1
    clear d0 d1 d2 d3 d4 d5 x0 x1 x2 x3
    obtain ⟨y0, y1, y2, y3⟩ := H3a.out.2.2.2.1.d4
    go_upto_region 12 with (fail)
    refine wp_region_lit ?_
    iterate 3 go_step
    refine wpList_store_row rfl _ _ _ rfl b4 (aggC 1 v (.slice none 0 0) (.complex .f64 0 0)) rfl rfl 53 zeroC H3a.out.2.2.1 agg_size rfl (agg_oneW HI3.out HZw.out) ?_
    obtain ⟨wy, hwy⟩ : ∃ W, W = w3.setRow b4 (aggC 1 v (.slice none 0 0) (.complex .f64 0 0)) := ⟨_, rfl⟩
    have HZ : Hid (RowA wy b4 1 v (.slice none 0 0) (.complex .f64 0 0) ∧ P (.returned (.agg #[.int .i64 1, .int .i64 v, (.slice none 0 0), (.complex .f64 0 0)])) wy) := by
      have hg := grown_setRow w3 b4 (aggC 1 v (.slice none 0 0) (.complex .f64 0 0))
      obtain ⟨h0, h1, h2, h3, h4⟩ := H3a.out
      rw [hwy]
      refine Lib.hid ⟨h2.reset _ _ _ _, HPz.out _ (.slice none 0 0) (.complex .f64 0 0) v [] 0 0 (HI3.out.grown hg HN4.out) HZw.out (h4.trans (below_set hg (by omega) h4.size)) ?_⟩
      simp [oneL, oneA]
    rw [← hwy]
    clear hwy y0 y1 y2 y3
    go_wp2_with (fail)
    exact bodyPost_ret (v := .agg (aggC 1 v (.slice none 0 0) (.complex .f64 0 0))) (results_cell_row (p := 4) (ty := 53) rfl _ _ b4 53 (aggC 1 v (.slice none 0 0) (.complex .f64 0 0)) (0, 0) _ rfl HZ.out.1 Tryz.underlying53 rfl agg_size) rfl HZ.out.2
  have e2 : (agg == 2) = false := by simpa using h2
  by_cases h3 : agg = 3
  · subst h3
    clear h2
    go_upto_region 7 with (fail)
    refine wp_region_lit ?_
    iterate 6 go_step
    refine wpList_store1 rfl _ (.tmp 15) (.tmp 14) rfl ⟨b5, 1, none⟩ (.int .i64 v) (.int .i64 0) rfl rfl rfl rfl Tryz.sizeOf3 x1 (RowA.fro H2.out.2.2.2.1 1) ?_
    obtain ⟨w3, hw⟩ : ∃ W, W = (w2).setCell ⟨b5, 1, none⟩ (.int .i64 v) := ⟨_, rfl⟩
    have H3 : Hid (OneSt w qb b4 b5 Q v (.slice none 0 0) (.complex .f64 0 0) w3 ∧ (w2).grownBy w3 (some b5)) := by
      have hg : (w2).grownBy w3 (some b5) := by rw [hw]; exact grown_setCell _ _ _ _
      exact Lib.hid ⟨H2.out.turn hg (by rw [hw]; exact RowA.set1 H2.out.2.2.2.1 v), hg⟩
    rw [← hw]
    clear hw
    have HI3 : Hid (IntsAt w3 (.slice none 0 0) []) := Lib.hid (IntsAt.nil _)
    have H3a := Lib.hid H3.out.1
    clear d0 d1 d2 d3 d4 d5 x0 x1 x2 x3
    obtain ⟨y0, y1, y2, y3⟩ := H3a.out.2.2.2.1.d4
    go_upto_region 12 with (fail)
    refine wp_region_lit ?_
    iterate 3 go_step
    refine wpList_store_row rfl _ _ _ rfl b4 (aggC 1 v (.slice none 0 0) (.complex .f64 0 0)) rfl rfl 53 zeroC H3a.out.2.2.1 agg_size rfl (agg_oneW HI3.out HZw.out) ?_
    obtain ⟨wy, hwy⟩ : ∃ W, W = w3.setRow b4 (aggC 1 v (.slice none 0 0) (.complex .f64 0 0)) := ⟨_, rfl⟩
    have HZ : Hid (RowA wy b4 1 v (.slice none 0 0) (.complex .f64 0 0) ∧ P (.returned (.agg #[.int .i64 1, .int .i64 v, (.slice none 0 0), (.complex .f64 0 0)])) wy) := by
      have hg := grown_setRow w3 b4 (aggC 1 v (.slice none 0 0) (.complex .f64 0 0))
      obtain ⟨h0, h1, h2, h3, h4⟩ := H3a.out
      rw [hwy]
      refine Lib.hid ⟨h2.reset _ _ _ _, HPz.out _ (.slice none 0 0) (.complex .f64 0 0) v [] 0 0 (HI3.out.grown hg HN4.out) HZw.out (h4.trans (below_set hg (by omega) h4.size)) ?_⟩
      simp [oneL, oneA]
    rw [← hwy]
    clear hwy y0 y1 y2 y3
    go_wp2_with (fail)
    exact bodyPost_ret (v := .agg (aggC 1 v (.slice none 0 0) (.complex .f64 0 0))) (results_cell_row (p := 4) (ty := 53) rfl _ _ b4 53 (aggC 1 v (.slice none 0 0) (.complex .f64 0 0)) (0, 0) _ rfl HZ.out.1 Tryz.underlying53 rfl agg_size) rfl HZ.out.2
  have e3 : (agg == 3) = false := by simpa using h3
  by_cases h4 : agg = 4
  · subst h4
    clear h2 h3
    go_upto_region 7 with (fail)
    refine wp_region_lit ?_
    iterate 6 go_step
    refine wpList_store1 rfl _ (.tmp 15) (.tmp 14) rfl ⟨b5, 1, none⟩ (.int .i64 v) (.int .i64 0) rfl rfl rfl rfl Tryz.sizeOf3 x1 (RowA.fro H2.out.2.2.2.1 1) ?_
    obtain ⟨w3, hw⟩ : ∃ W, W = (w2).setCell ⟨b5, 1, none⟩ (.int .i64 v) := ⟨_, rfl⟩
    have H3 : Hid (OneSt w qb b4 b5 Q v (.slice none 0 0) (.complex .f64 0 0) w3 ∧ (w2).grownBy w3 (some b5)) := by
      have hg : (w2).grownBy w3 (some b5) := by rw [hw]; exact grown_setCell _ _ _ _
      exact Lib.hid ⟨H2.out.turn hg (by rw [hw]; exact RowA.set1 H2.out.2.2.2.1 v), hg⟩
    rw [← hw]
    clear hw
    have HI3 : Hid (IntsAt w3 (.slice none 0 0) []) := Lib.hid (IntsAt.nil _)
    have H3a := Lib.hid H3.out.1
    clear d0 d1 d2 d3 d4 d5 x0 x1 x2 x3
    obtain ⟨y0, y1, y2, y3⟩ := H3a.out.2.2.2.1.d4
    go_upto_region 12 with (fail)
    refine wp_region_lit ?_
    iterate 3 go_step
    refine wpList_store_row rfl _ _ _ rfl b4 (aggC 1 v (.slice none 0 0) (.complex .f64 0 0)) rfl rfl 53 zeroC H3a.out.2.2.1 agg_size rfl (agg_oneW HI3.out HZw.out) ?_
    obtain ⟨wy, hwy⟩ : ∃ W, W = w3.setRow b4 (aggC 1 v (.slice none 0 0) (.complex .f64 0 0)) := ⟨_, rfl⟩
    have HZ : Hid (RowA wy b4 1 v (.slice none 0 0) (.complex .f64 0 0) ∧ P (.returned (.agg #[.int .i64 1, .int .i64 v, (.slice none 0 0), (.complex .f64 0 0)])) wy) := by
      have hg := grown_setRow w3 b4 (aggC 1 v (.slice none 0 0) (.complex .f64 0 0))
      obtain ⟨h0, h1, h2, h3, h4⟩ := H3a.out
      rw [hwy]
      refine Lib.hid ⟨h2.reset _ _ _ _, HPz.out _ (.slice none 0 0) (.complex .f64 0 0) v [] 0 0 (HI3.out.grown hg HN4.out) HZw.out (h4.trans (below_set hg (by omega) h4.size)) ?_⟩
      simp [oneL, oneA]
    rw [← hwy]
    clear hwy y0 y1 y2 y3
    go_wp2_with (fail)
    exact bodyPost_ret (v := .agg (aggC 1 v (.slice none 0 0) (.complex .f64 0 0))) (results_cell_row (p := 4) (ty := 53) rfl _ _ b4 53 (aggC 1 v (.slice none 0 0) (.complex .f64 0 0)) (0, 0) _ rfl HZ.out.1 Tryz.underlying53 rfl agg_size) rfl HZ.out.2
  have e4 : (agg == 4) = false := by simpa using h4
  by_cases h5 : agg = 5
  · subst h5
    clear h2 h3 h4
    go_upto_region 7 with (fail)
    refine wp_region_lit ?_
    iterate 6 go_step
    refine wpList_store1 rfl _ (.tmp 15) (.tmp 14) rfl ⟨b5, 1, none⟩ (.int .i64 v) (.int .i64 0) rfl rfl rfl rfl Tryz.sizeOf3 x1 (RowA.fro H2.out.2.2.2.1 1) ?_
    obtain ⟨w3, hw⟩ : ∃ W, W = (w2).setCell ⟨b5, 1, none⟩ (.int .i64 v) := ⟨_, rfl⟩
    have H3 : Hid (OneSt w qb b4 b5 Q v (.slice none 0 0) (.complex .f64 0 0) w3 ∧ (w2).grownBy w3 (some b5)) := by
      have hg : (w2).grownBy w3 (some b5) := by rw [hw]; exact grown_setCell _ _ _ _
      exact Lib.hid ⟨H2.out.turn hg (by rw [hw]; exact RowA.set1 H2.out.2.2.2.1 v), hg⟩
    rw [← hw]
    clear hw
    have HI3 : Hid (IntsAt w3 (.slice none 0 0) []) := Lib.hid (IntsAt.nil _)
    have H3a := Lib.hid H3.out.1
    clear d0 d1 d2 d3 d4 d5 x0 x1 x2 x3
    obtain ⟨y0, y1, y2, y3⟩ := H3a.out.2.2.2.1.d4
    go_upto_region 12 with (fail)
    refine wp_region_lit ?_
    iterate 3 go_step
    refine wpList_store_row rfl _ _ _ rfl b4 (aggC 1 v (.slice none 0 0) (.complex .f64 0 0)) rfl rfl 53 zeroC H3a.out.2.2.1 agg_size rfl (agg_oneW HI3.out HZw.out) ?_
    obtain ⟨wy, hwy⟩ : ∃ W, W = w3.setRow b4 (aggC 1 v (.slice none 0 0) (.complex .f64 0 0)) := ⟨_, rfl⟩
    have HZ : Hid (RowA wy b4 1 v (.slice none 0 0) (.complex .f64 0 0) ∧ P (.returned (.agg #[.int .i64 1, .int .i64 v, (.slice none 0 0), (.complex .f64 0 0)])) wy) := by
      have hg := grown_setRow w3 b4 (aggC 1 v (.slice none 0 0) (.complex .f64 0 0))
      obtain ⟨h0, h1, h2, h3, h4⟩ := H3a.out
      rw [hwy]
      refine Lib.hid ⟨h2.reset _ _ _ _, HPz.out _ (.slice none 0 0) (.complex .f64 0 0) v [] 0 0 (HI3.out.grown hg HN4.out) HZw.out (h4.trans (below_set hg (by omega) h4.size)) ?_⟩
      simp [oneL, oneA]
    rw [← hwy]
    clear hwy y0 y1 y2 y3
    go_wp2_with (fail)
    exact bodyPost_ret (v := .agg (aggC 1 v (.slice none 0 0) (.complex .f64 0 0))) (results_cell_row (p := 4) (ty := 53) rfl _ _ b4 53 (aggC 1 v (.slice none 0 0) (.complex .f64 0 0)) (0, 0) _ rfl HZ.out.1 Tryz.underlying53 rfl agg_size) rfl HZ.out.2
  have e5 : (agg == 5) = false := by simpa using h5
  by_cases h6 : agg = 6
  · subst h6
    clear h2 h3 h4 h5
    go_upto_region 9 with (fail)
    refine wp_region_lit ?_
    iterate 6 go_step
    obtain ⟨w3, hw3⟩ : ∃ W, W = w2.alloc (.cells #[.int .i64 v] 3) := ⟨_, rfl⟩
    obtain ⟨gb, hgb⟩ : ∃ b, b = w2.heap.size := ⟨_, rfl⟩
    have H3 : Hid (OneSt w qb b4 b5 Q 0 (.slice none 0 0) (.complex .f64 0 0) w3) := by
      rw [hw3]
      exact Lib.hid (H2.out.below ((Below.refl _ w2).alloc (Nat.le_refl _) _))
    have HI3 : Hid (IntsAt w3 (.slice (some ⟨gb, 0, none⟩) 1 1) [v] ∧ b5 < gb) := by
      refine Lib.hid ⟨⟨_, 1, rfl, Nat.le_refl _, .inr ⟨gb, 0, rfl, .inr ⟨_, by rw [hw3, hgb]; exact heap_alloc_new w2 _⟩, fun i x hx => ?_⟩⟩, by rw [hgb]; exact H2.out.2.2.2.1.lt⟩
      cases i with
      | zero =>
        simp only [List.getElem?_cons_zero, Option.some.injEq] at hx
        subst hx
        rw [hw3, hgb, cell_of_row _ _ _ _ _ _ (heap_alloc_new w2 _)]
        rfl
      | succ i => simp at hx
    rw [← hw3, ← hgb]
    clear hw3 hgb d0 d1 d2 d3 d4 d5 x0 x1 x2 x3
    obtain ⟨x0, x1, x2, x3⟩ := H3.out.2.2.2.1.d4
    iterate 3 go_step
    refine wpList_store1 rfl _ (.tmp 20) (.tmp 19) rfl ⟨b5, 2, none⟩ (.slice (some ⟨gb, 0, none⟩) 1 1) (.slice none 0 0) rfl rfl rfl rfl Tryz.sizeOf48 x2 (RowA.fro H3.out.2.2.2.1 2) ?_
    obtain ⟨w4, hw⟩ : ∃ W, W = (w3).setCell ⟨b5, 2, none⟩ (.slice (some ⟨gb, 0, none⟩) 1 1) := ⟨_, rfl⟩
    have H4 : Hid (OneSt w qb b4 b5 Q 0 (.slice (some ⟨gb, 0, none⟩) 1 1) (.complex .f64 0 0) w4 ∧ (w3).grownBy w4 (some b5)) := by
      have hg : (w3).grownBy w4 (some b5) := by rw [hw]; exact grown_setCell _ _ _ _
      exact Lib.hid ⟨H3.out.turn hg (by rw [hw]; exact RowA.set2 H3.out.2.2.2.1 (.slice (some ⟨gb, 0, none⟩) 1 1)), hg⟩
    rw [← hw]
    clear hw
    have HI4 : Hid (IntsAt w4 (.slice (some ⟨gb, 0, none⟩) 1 1) [v]) := Lib.hid (HI3.out.1.grown H4.out.2 (fun a n c e _ => by injection e with e1; injection e1 with e1; rw [← e1]; have := HI3.out.2; show gb ≠ b5; omega))
    have HN4' : Hid (∀ a n c, Value.slice (some ⟨gb, 0, none⟩) 1 1 = .slice (some a) n c → [v] ≠ [] → a.block ≠ b4) := Lib.hid (fun a n c e _ => by injection e with e1; injection e1 with e1; rw [← e1]; have := HI3.out.2; have := H3.out.1; show gb ≠ b4; omega)
    have H4a := Lib.hid H4.out.1
    clear x0 x1 x2 x3
    obtain ⟨y0, y1, y2, y3⟩ := H4a.out.2.2.2.1.d4
    go_upto_region 12 with (fail)
    refine wp_region_lit ?_
    iterate 3 go_step
    refine wpList_store_row rfl _ _ _ rfl b4 (aggC 1 0 (.slice (some ⟨gb, 0, none⟩) 1 1) (.complex .f64 0 0)) rfl rfl 53 zeroC H4a.out.2.2.1 agg_size rfl (agg_oneW HI4.out HZw.out) ?_
    obtain ⟨wy, hwy⟩ : ∃ W, W = w4.setRow b4 (aggC 1 0 (.slice (some ⟨gb, 0, none⟩) 1 1) (.complex .f64 0 0)) := ⟨_, rfl⟩
    have HZ : Hid (RowA wy b4 1 0 (.slice (some ⟨gb, 0, none⟩) 1 1) (.complex .f64 0 0) ∧ P (.returned (.agg #[.int .i64 1, .int .i64 0, (.slice (some ⟨gb, 0, none⟩) 1 1), (.complex .f64 0 0)])) wy) := by
      have hg := grown_setRow w4 b4 (aggC 1 0 (.slice (some ⟨gb, 0, none⟩) 1 1) (.complex .f64 0 0))
      obtain ⟨h0, h1, h2, h3, h4⟩ := H4a.out
      rw [hwy]
      refine Lib.hid ⟨h2.reset _ _ _ _, HPz.out _ (.slice (some ⟨gb, 0, none⟩) 1 1) (.complex .f64 0 0) 0 [v] 0 0 (HI4.out.grown hg HN4'.out) HZw.out (h4.trans (below_set hg (by omega) h4.size)) ?_⟩
      simp [oneL, oneA]
    rw [← hwy]
    clear hwy y0 y1 y2 y3
    go_wp2_with (fail)
    exact bodyPost_ret (v := .agg (aggC 1 0 (.slice (some ⟨gb, 0, none⟩) 1 1) (.complex .f64 0 0))) (results_cell_row (p := 4) (ty := 53) rfl _ _ b4 53 (aggC 1 0 (.slice (some ⟨gb, 0, none⟩) 1 1) (.complex .f64 0 0)) (0, 0) _ rfl HZ.out.1 Tryz.underlying53 rfl agg_size) rfl HZ.out.2
  have e6 : (agg == 6) = false := by simpa using h6
  by_cases h7 : agg = 7
  · subst h7
    clear h2 h3 h4 h5 h6
    obtain ⟨tu, htu⟩ : ∃ x, x = (turnP v).1 := ⟨_, rfl⟩
    obtain ⟨tw, htw⟩ : ∃ x, x = (turnP v).2 := ⟨_, rfl⟩
    have HTu : Hid (oneL 7 v = ⟨1, 0, [], tu, tw⟩ ∧ InP tu tw) := by
      refine Lib.hid ⟨by rw [htu, htw]; simp [oneL, oneA], ?_⟩
      have := turnP_bd v
      unfold InP
      omega
    have HCt : Hid (Calls Tryz.prog 145 #[.int .i64 v] w2 (fun e w' => ∃ z, e = .returned z ∧ CRep z tu tw ∧ w' = w2)) := by
      rw [htu, htw]
      exact Lib.hid (turn_any w2 v)
    clear htu htw
    go_upto_region 11 with (fail)
    refine wp_region_lit ?_
    iterate 3 go_step
    refine wpList_plain rfl fun K hK => ?_
    go_step
    refine HCt.out.mono ?_
    rintro e w' ⟨z, rfl, hz, hw'⟩
    subst w'
    refine hK _ _ ?_
    have HWz : Hid (WholeZ z tu tw) := Lib.hid ⟨hz, HTu.out.2⟩
    obtain ⟨p, q, rfl, _, _⟩ := hz
    clear hK
    iterate 3 go_step
    refine wpList_store1 rfl _ (.tmp 25) (.tmp 24) rfl ⟨b5, 3, none⟩ (.complex .f64 p q) (.complex .f64 0 0) rfl rfl rfl rfl Tryz.sizeOf51 x3 (RowA.fro H2.out.2.2.2.1 3) ?_
    obtain ⟨w3, hw⟩ : ∃ W, W = (w2).setCell ⟨b5, 3, none⟩ (.complex .f64 p q) := ⟨_, rfl⟩
    have H3 : Hid (OneSt w qb b4 b5 Q 0 (.slice none 0 0) (.complex .f64 p q) w3 ∧ (w2).grownBy w3 (some b5)) := by
      have hg : (w2).grownBy w3 (some b5) := by rw [hw]; exact grown_setCell _ _ _ _
      exact Lib.hid ⟨H2.out.turn hg (by rw [hw]; exact RowA.set3 H2.out.2.2.2.1 (.complex .f64 p q)), hg⟩
    rw [← hw]
    clear hw
    have HI3 : Hid (IntsAt w3 (.slice none 0 0) []) := Lib.hid (IntsAt.nil _)
    have H3a := Lib.hid H3.out.1
    clear d0 d1 d2 d3 d4 d5 x0 x1 x2 x3
    obtain ⟨y0, y1, y2, y3⟩ := H3a.out.2.2.2.1.d4
    go_upto_region 12 with (fail)
    refine wp_region_lit ?_
    iterate 3 go_step
    refine wpList_store_row rfl _ _ _ rfl b4 (aggC 1 0 (.slice none 0 0) (.complex .f64 p q)) rfl rfl 53 zeroC H3a.out.2.2.1 agg_size rfl (agg_oneW HI3.out HWz.out) ?_
    obtain ⟨wy, hwy⟩ : ∃ W, W = w3.setRow b4 (aggC 1 0 (.slice none 0 0) (.complex .f64 p q)) := ⟨_, rfl⟩
    have HZ : Hid (RowA wy b4 1 0 (.slice none 0 0) (.complex .f64 p q) ∧ P (.returned (.agg #[.int .i64 1, .int .i64 0, (.slice none 0 0), (.complex .f64 p q)])) wy) := by
      have hg := grown_setRow w3 b4 (aggC 1 0 (.slice none 0 0) (.complex .f64 p q))
      obtain ⟨h0, h1, h2, h3, h4⟩ := H3a.out
      rw [hwy]
      refine Lib.hid ⟨h2.reset _ _ _ _, HPz.out _ (.slice none 0 0) (.complex .f64 p q) 0 [] tu tw (HI3.out.grown hg HN4.out) HWz.out (h4.trans (below_set hg (by omega) h4.size)) ?_⟩
      exact HTu.out.1
    rw [← hwy]
    clear hwy y0 y1 y2 y3
    go_wp2_with (fail)
    exact bodyPost_ret (v := .agg (aggC 1 0 (.slice none 0 0) (.complex .f64 p q))) (results_cell_row (p := 4) (ty := 53) rfl _ _ b4 53 (aggC 1 0 (.slice none 0 0) (.complex .f64 p q)) (0, 0) _ rfl HZ.out.1 Tryz.underlying53 rfl agg_size) rfl HZ.out.2
  have e7 : (agg == 7) = false := by simpa using h7
  have HEq : Hid (oneL agg v = ⟨1, 0, [], 0, 0⟩) := Lib.hid (by simp [oneL, oneA, h2, h3, h4, h5, h6, h7])
  have HI2 : Hid (IntsAt w2 (.slice none 0 0) []) := Lib.hid (IntsAt.nil _)
  clear h2 h3 h4 h5 h6 h7 x0 x1 x2 x3
  obtain ⟨y0, y1, y2, y3⟩ := H2.out.2.2.2.1.d4
  go_upto_region 12 with (fail)
  refine wp_region_lit ?_
  iterate 3 go_step
  refine wpList_store_row rfl _ _ _ rfl b4 (aggC 1 0 (.slice none 0 0) (.complex .f64 0 0)) rfl rfl 53 zeroC H2.out.2.2.1 agg_size rfl (agg_oneW HI2.out HZw.out) ?_
  obtain ⟨wy, hwy⟩ : ∃ W, W = w2.setRow b4 (aggC 1 0 (.slice none 0 0) (.complex .f64 0 0)) := ⟨_, rfl⟩
  have HZ : Hid (RowA wy b4 1 0 (.slice none 0 0) (.complex .f64 0 0) ∧ P (.returned (.agg #[.int .i64 1, .int .i64 0, (.slice none 0 0), (.complex .f64 0 0)])) wy) := by
    have hg := grown_setRow w2 b4 (aggC 1 0 (.slice none 0 0) (.complex .f64 0 0))
    obtain ⟨h0, h1, h2, h3, h4⟩ := H2.out
    rw [hwy]
    refine Lib.hid ⟨h2.reset _ _ _ _, HPz.out _ (.slice none 0 0) (.complex .f64 0 0) 0 [] 0 0 (HI2.out.grown hg HN4.out) HZw.out (h4.trans (below_set hg (by omega) h4.size)) ?_⟩
    exact HEq.out
  rw [← hwy]
  clear hwy y0 y1 y2 y3
  go_wp2_with (fail)
  exact bodyPost_ret (v := .agg (aggC 1 0 (.slice none 0 0) (.complex .f64 0 0))) (results_cell_row (p := 4) (ty := 53) rfl _ _ b4 53 (aggC 1 0 (.slice none 0 0) (.complex .f64 0 0)) (0, 0) _ rfl HZ.out.1 Tryz.underlying53 rfl agg_size) rfl HZ.out.2
end Go.Proofs.YtjeeghafachebaaGreat
