/-
  Part 22 of 53 of what the proof leans on.
-/
import Derived.Test.YtjeeghafachebaaGreatG20
import Derived.Test.YtjeeghafachebaaGreatG21
import Derived.Test.YtjeeghafachebaaGreatG19
import Derived.Test.YtjeeghafachebaaGreatG3
namespace Go.Proofs.YtjeeghafachebaaGreat
open Go Go.RowKit
def togA (q : QueryL) (x y : AggL) : Int := if q.agg = 2 ∨ q.agg = 5 then x.a + y.a else if q.agg = 3 ∨ q.agg = 4 then edgeQ q.agg x.n x.a y.n y.a else 0
def togOver (q : QueryL) (x y : AggL) : Bool := decide (q.agg = 7) && !decide (InP (x.u + y.u) (x.v + y.v))
def togL (q : QueryL) (x y : AggL) : AggL :=
  ⟨x.n + y.n, togA q x y, if q.agg = 6 then topL q.k.toNat (x.top ++ y.top) else [], if q.agg = 7 ∧ togOver q x y = false then x.u + y.u else 0, if q.agg = 7 ∧ togOver q x y = false then x.v + y.v else 0⟩
def togE (q : QueryL) (x y : AggL) : Int := if togOver q x y = true then 20 else 0
def AggEnd (w : World) (m : AggL) (er : Int) (e : Ending) (w' : World) : Prop := ∃ tv z, e = .returned (.tuple #[.agg (aggC m.n m.a tv z), .int .i64 er]) ∧ IntsAt w' tv m.top ∧ WholeZ z m.u m.v ∧ Below w.heap.size w w' ∧ ∀ a n c, tv = .slice (some a) n c → w.heap.size ≤ a.block
theorem agg_oneW {w : World} {n a : Int} {tv z : Value} {l : List Int} {u v : Int} (h1 : IntsAt w tv l) (h2 : WholeZ z u v) : (aggC n a tv z).all (·.oneCell') = true := agg_one h1.one h2.1.one
theorem ofV_whole (a b : Int) : ∃ u v, WholeZ (ofV a b) u v ∧ (InP a b → u = a ∧ v = b) ∧ (¬ InP a b → u = 0 ∧ v = 0) := by
  unfold ofV
  by_cases h : InP a b
  · rw [if_pos h]; exact ⟨a, b, numZ_whole h, fun _ => ⟨rfl, rfl⟩, fun h' => absurd h h'⟩
  · rw [if_neg h]; exact ⟨0, 0, zeroZ_whole, fun h' => absurd h' h, fun _ => ⟨rfl, rfl⟩⟩
theorem stored_agg (w : World) (n a : Int) (tv z : Value) : RowA ((w.alloc (Obj.cells zeroC 53)).setRow w.heap.size (aggC n a tv z)) w.heap.size n a tv z ∧ Below w.heap.size w ((w.alloc (Obj.cells zeroC 53)).setRow w.heap.size (aggC n a tv z)) :=
  ⟨setRow_heap _ _ _ _ _ _ (heap_alloc_new w _), ((Below.refl _ w).alloc (Nat.le_refl _) _).trans ⟨rfl, rfl, rfl, by simp [World.setRow], fun k hk => setRow_other _ _ _ _ (by omega)⟩⟩
def TogSt (w : World) (qb b1 b2 b6 b8 : Nat) (Q : QueryL) (n1 a1 : Int) (tv1 z1 : Value) (n2 a2 : Int) (tv2 z2 : Value) (n a : Int) (tv z : Value) (w' : World) : Prop :=
  (w.heap.size ≤ qb ∧ qb < b8 ∧ b1 < b8 ∧ b2 < b8 ∧ b6 < b8 ∧ w.heap.size ≤ b6 ∧ w.heap.size ≤ b8) ∧ RowQ w' qb Q ∧ RowA w' b1 n1 a1 tv1 z1 ∧ RowA w' b2 n2 a2 tv2 z2 ∧ RowA w' b6 0 0 nilV zeroZ ∧ RowA w' b8 n a tv z ∧ Below w.heap.size w w'
theorem TogSt.below {w : World} {qb b1 b2 b6 b8 : Nat} {Q : QueryL} {n1 a1 : Int} {tv1 z1 : Value} {n2 a2 : Int} {tv2 z2 : Value} {n a : Int} {tv z : Value} {w' w'' : World} (h : TogSt w qb b1 b2 b6 b8 Q n1 a1 tv1 z1 n2 a2 tv2 z2 n a tv z w') (hB : Below w'.heap.size w' w'') : TogSt w qb b1 b2 b6 b8 Q n1 a1 tv1 z1 n2 a2 tv2 z2 n a tv z w'' := by
  obtain ⟨h0, h1, h2, h3, h4, h5, h6⟩ := h; exact ⟨h0, h1.below hB, h2.below hB, h3.below hB, h4.below hB, h5.below hB, h6.trans (hB.mono h6.size)⟩
theorem TogSt.turn {w : World} {qb b1 b2 b6 b8 : Nat} {Q : QueryL} {n1 a1 : Int} {tv1 z1 : Value} {n2 a2 : Int} {tv2 z2 : Value} {n a : Int} {tv z : Value} {w' w'' : World} {n' a' : Int} {tv' z' : Value} (h : TogSt w qb b1 b2 b6 b8 Q n1 a1 tv1 z1 n2 a2 tv2 z2 n a tv z w') (hg : w'.grownBy w'' (some b8)) (hr : RowA w'' b8 n' a' tv' z') : TogSt w qb b1 b2 b6 b8 Q n1 a1 tv1 z1 n2 a2 tv2 z2 n' a' tv' z' w'' := by
  obtain ⟨h0, h1, h2, h3, h4, h5, h6⟩ := h
  have hq : RowQ w'' qb Q := (hg.block qb h1.lt (by simp; omega)).trans h1
  exact ⟨h0, hq, h2.grown hg (by simp; omega), h3.grown hg (by simp; omega), h4.grown hg (by simp; omega), hr, h6.trans (below_set hg (by omega) h6.size)⟩
theorem IntsAt.grown {w w' : World} {v : Value} {l : List Int} {b : Nat} (h : IntsAt w v l) (hg : w.grownBy w' (some b)) (hn : ∀ a n c, v = .slice (some a) n c → l ≠ [] → a.block ≠ b) : IntsAt w' v l := by
  obtain ⟨a, c, e, hc, h⟩ := h; refine ⟨a, c, e, hc, ?_⟩
  rcases h with h | ⟨b', o, ha, ht, h'⟩
  · exact .inl h
  · refine .inr ⟨b', o, ha, ?_, fun i x hx => ?_⟩
    · by_cases hl : l = []
      · exact .inl hl
      · rcases ht with ht | ht
        · exact absurd ht hl
        · have hlt := ht.lt; obtain ⟨cur, ht⟩ := ht
          have hne : b' ≠ b := hn ⟨b', o, none⟩ l.length c (by rw [e, ha]) hl
          exact .inr ⟨cur, (hg.block b' hlt (by simpa using hne)).trans ht⟩
    have hlt := block_lt_of_cell (h' i x hx)
    have hne : b' ≠ b := hn ⟨b', o, none⟩ l.length c (by rw [e, ha]) (fun e' => by rw [e'] at hx; simp at hx)
    have hbl := hg.block b' hlt (by simpa using hne)
    rw [← h' i x hx]; unfold World.cell?; simp only; rw [hbl]
set_option maxRecDepth 100000 in
set_option maxHeartbeats 2000000 in
theorem atogether_any (w : World) (q : QueryL) (x y : AggL) (tv1 z1 tv2 z2 : Value) (h1 : IntsAt w tv1 x.top) (h2 : IntsAt w tv2 y.top) (k1 : WholeZ z1 x.u x.v) (k2 : WholeZ z2 y.u y.v) (hn : x.top.length + y.top.length ≤ 1000)
    (hk : 0 ≤ q.k ∧ q.k ≤ 1000) (hb : (0 ≤ x.n ∧ x.n ≤ 1073741824) ∧ (0 ≤ y.n ∧ y.n ≤ 1073741824) ∧ (-4398046511104 ≤ x.a ∧ x.a ≤ 4398046511104) ∧ (-4398046511104 ≤ y.a ∧ y.a ≤ 4398046511104)) :
    Calls Tryz.prog 122 #[.agg q.cells, .agg (aggC x.n x.a tv1 z1), .agg (aggC y.n y.a tv2 z2)] w (AggEnd w (togL q x y) (togE q x y)) := by
  obtain ⟨P, hP⟩ : ∃ P, P = AggEnd w (togL q x y) (togE q x y) := ⟨_, rfl⟩; rw [← hP]; obtain ⟨n1, a1, l1, u1, v1⟩ := x; obtain ⟨n2, a2, l2, u2, v2⟩ := y; simp only at h1 h2 k1 k2 hn hb ⊢; have H0 := Lib.hid (And.intro h1 (And.intro h2 (And.intro k1 (And.intro k2 (And.intro hn hk)))))
  have HPz : Hid (∀ w' tv z a l u v er, IntsAt w' tv l → WholeZ z u v → Below w.heap.size w w' → (∀ a n c, tv = .slice (some a) n c → w.heap.size ≤ a.block) → togL q ⟨n1, a1, l1, u1, v1⟩ ⟨n2, a2, l2, u2, v2⟩ = ⟨n1 + n2, a, l, u, v⟩ → togE q ⟨n1, a1, l1, u1, v1⟩ ⟨n2, a2, l2, u2, v2⟩ = er → P (.returned (.tuple #[.agg #[.int .i64 (n1 + n2), .int .i64 a, tv, z], .int .i64 er])) w') := by
    refine Lib.hid (fun w' tv z a l u v er j1 j2 j3 j6 j4 j5 => ?_); rw [hP, j4, j5]; exact ⟨tv, z, rfl, j1, j2, j3, j6⟩
  obtain ⟨Q, hQ⟩ : ∃ Q, Q = q := ⟨_, rfl⟩
  have HTop : Hid (∀ w', Below w.heap.size w w' → Calls Tryz.prog 143 #[.agg Q.cells, .agg #[.int .i64 n1, .int .i64 a1, tv1, z1], .agg #[.int .i64 n2, .int .i64 a2, tv2, z2]] w' (fun e w'' => ∃ v, e = .returned v ∧ IntsAt w'' v (topL q.k.toNat (l1 ++ l2)) ∧ (∀ a n c, v = .slice (some a) n c → w'.heap.size ≤ a.block) ∧ Below w'.heap.size w' w'')) := by
    rw [hQ]; exact Lib.hid (fun w' h => atop_any w' q n1 a1 tv1 z1 l1 n2 a2 tv2 z2 l2 (h1.below h) (h2.below h) hn hk)
  have HEd : Hid (∀ w', Calls Tryz.prog 142 #[.agg Q.cells, .agg #[.int .i64 n1, .int .i64 a1, tv1, z1], .agg #[.int .i64 n2, .int .i64 a2, tv2, z2]] w' (Below0 w' (.int .i64 (edgeQ q.agg n1 a1 n2 a2)))) := by
    rw [hQ]; exact Lib.hid (fun w' => aedge_any w' q n1 a1 tv1 z1 n2 a2 tv2 z2)
  have HAd : Hid (∀ w', Calls Tryz.prog 144 #[z1, z2] w' (OpEnd w' (u1 + u2) (v1 + v2))) := Lib.hid (fun w' => add_yes w' z1 z2 u1 v1 u2 v2 k1 k2); obtain ⟨w1, hw1⟩ : ∃ W, W = (((w.alloc (.cells q.cells 23)).alloc (.cells (aggC n1 a1 tv1 z1) 53)).alloc (.cells (aggC n2 a2 tv2 z2) 53)).alloc (.cells zeroC 53) := ⟨_, rfl⟩; obtain ⟨qb, hqb⟩ : ∃ b, b = w.heap.size := ⟨_, rfl⟩; obtain ⟨b1, hb1⟩ : ∃ b, b = w.heap.size + 1 := ⟨_, rfl⟩; obtain ⟨b2, hb2⟩ : ∃ b, b = w.heap.size + 2 := ⟨_, rfl⟩; obtain ⟨b6, hb6⟩ : ∃ b, b = w.heap.size + 3 := ⟨_, rfl⟩; have hs1 : (w.alloc (.cells q.cells 23)).heap.size = w.heap.size + 1 := heap_alloc_size w _
  have hs2 : ((w.alloc (.cells q.cells 23)).alloc (.cells (aggC n1 a1 tv1 z1) 53)).heap.size = w.heap.size + 2 := by rw [heap_alloc_size, heap_alloc_size]
  have hs3 : (((w.alloc (.cells q.cells 23)).alloc (.cells (aggC n1 a1 tv1 z1) 53)).alloc (.cells (aggC n2 a2 tv2 z2) 53)).heap.size = w.heap.size + 3 := by rw [heap_alloc_size, heap_alloc_size, heap_alloc_size]
  have H1 : Hid (RowQ w1 qb Q ∧ RowA w1 b1 n1 a1 tv1 z1 ∧ RowA w1 b2 n2 a2 tv2 z2 ∧ RowA w1 b6 0 0 nilV zeroZ ∧ Below w.heap.size w w1 ∧ w.heap.size ≤ b6 ∧ b6 < w1.heap.size) := by
    have h := box_qaa w q n1 a1 tv1 z1 n2 a2 tv2 z2; have hB := (Below.refl _ (((w.alloc (.cells q.cells 23)).alloc (.cells (aggC n1 a1 tv1 z1) 53)).alloc (.cells (aggC n2 a2 tv2 z2) 53))).alloc (Nat.le_refl _) (.cells zeroC 53); rw [← hw1] at hB
    have hz : RowA w1 b6 0 0 nilV zeroZ := by rw [hw1, hb6, ← hs3]; exact heap_alloc_new _ _
    rw [hqb, hb1, hb2, hQ]
    exact Lib.hid ⟨h.1.below hB, h.2.1.below hB, h.2.2.1.below hB, hz, h.2.2.2.1.trans (hB.mono h.2.2.2.1.size), by omega, hz.lt⟩
  have hbn := And.intro hb.1 (And.intro hb.2.1 (And.intro hb.2.2.1 hb.2.2.2)); clear hP h1 h2 k1 k2 hn hk hb; obtain ⟨kind, size, slide, late, agg, k⟩ := q
  have HQe : Hid (Q.cells = #[.int .i64 kind, .int .i64 size, .int .i64 slide, .int .i64 late, .int .i64 agg, .int .i64 k]) := Lib.hid (by rw [hQ]; rfl)
  unfold QueryL.cells at hw1 hs1 hs2 hs3 ⊢; unfold aggC zeroC at *; unfold aggC at *; simp only [nilV, zeroZ] at hw1 hs1 hs2 hs3 HPz HTop HEd
  obtain ⟨d0, d1, d2, d3, d4, d5⟩ : D6 w1 qb kind size slide late agg k := by
    have h := H1.out.1.d6; rw [hQ] at h; exact h
  obtain ⟨f0, f1, f2, f3⟩ := H1.out.2.1.d4; obtain ⟨g0, g1, g2, g3⟩ := H1.out.2.2.1.d4
  have hn12 : 0 ≤ n1 + n2 ∧ n1 + n2 ≤ 2147483648 := by omega
  have HQf : Hid (Q = ⟨kind, size, slide, late, agg, k⟩) := Lib.hid hQ
  have Hqb : Hid (w.heap.size ≤ qb) := Lib.hid (by omega)
  clear hQ
  go_enter Tryz.func122, Tryz.ntmps122
  go_upto_region 1 with (fail)
  rw [← hw1, ← hb6, ← hb2, ← hb1, ← hqb]; clear hw1 hqb hb1 hb2 hb6 hs1 hs2 hs3; refine wp_region_lit ?_
  iterate 21 go_step
  refine wpList_store_row rfl _ _ _ rfl w1.heap.size (aggC (n1 + n2) 0 nilV zeroZ) rfl rfl 53 zeroC (heap_alloc_new w1 _) agg_size rfl (agg_one rfl rfl) ?_; obtain ⟨w2, hw2⟩ : ∃ W, W = (w1.alloc (Obj.cells #[.int .i64 0, .int .i64 0, .slice none 0 0, .complex .f64 0 0] 53)).setRow w1.heap.size (aggC (n1 + n2) 0 nilV zeroZ) := ⟨_, rfl⟩; obtain ⟨b8, hb8⟩ : ∃ b, b = w1.heap.size := ⟨_, rfl⟩
  have H2 : Hid (TogSt w qb b1 b2 b6 b8 Q n1 a1 tv1 z1 n2 a2 tv2 z2 (n1 + n2) 0 (.slice none 0 0) (.complex .f64 0 0) w2) := by
    obtain ⟨k1, k2⟩ := stored_agg w1 (n1 + n2) 0 nilV zeroZ; obtain ⟨j1, j2, j3, j4, j5, j6, j7⟩ := H1.out; rw [hw2, hb8]; exact Lib.hid ⟨⟨Hqb.out, j1.lt, j2.lt, j3.lt, j4.lt, j6, j5.size⟩, j1.below k2, j2.below k2, j3.below k2, j4.below k2, k1, j5.trans (k2.mono j5.size)⟩
  rw [← hw2, ← hb8]; clear hw2 hb8 d0 d1 d2 d3 d4 d5 f0 f1 f2 f3 g0 g1 g2 g3 H1 hn12; have HZw : Hid (WholeZ (.complex .f64 0 0) 0 0) := Lib.hid zeroZ_whole; have HI0 : Hid (IntsAt w (.slice none 0 0) []) := Lib.hid (IntsAt.nil _)
  have HN6 : Hid (∀ a n c, Value.slice none 0 0 = .slice (some a) n c → ([] : List Int) ≠ [] → a.block ≠ b6) := Lib.hid (fun _ _ _ h => by cases h)
  have HNW : Hid (∀ a n c, Value.slice none 0 0 = .slice (some a) n c → w.heap.size ≤ a.block) := Lib.hid (fun _ _ _ h => by cases h)
  obtain ⟨d0, d1, d2, d3, d4, d5⟩ : D6 w2 qb kind size slide late agg k := by
    have h := H2.out.2.1.d6; rw [HQf.out] at h; exact h
  obtain ⟨f0, f1, f2, f3⟩ := H2.out.2.2.1.d4; obtain ⟨g0, g1, g2, g3⟩ := H2.out.2.2.2.1.d4; obtain ⟨x0, x1, x2, x3⟩ := H2.out.2.2.2.2.2.1.d4; have hbn' := hbn
  by_cases h2 : agg = 2
  · subst h2; have HI2 : Hid (IntsAt w2 (.slice none 0 0) []) := Lib.hid (IntsAt.nil _)
    have hab : -8796093022208 ≤ a1 + a2 ∧ a1 + a2 ≤ 8796093022208 := by omega
    clear hbn hbn'
    go_upto_region 5 with (fail)
    refine wp_region_lit ?_
    iterate 18 go_step
    refine wpList_store1 rfl _ (.tmp 26) (.tmp 25) rfl ⟨b8, 1, none⟩ (.int .i64 (a1 + a2)) (.int .i64 0) rfl rfl rfl rfl Tryz.sizeOf3 x1 (RowA.fro H2.out.2.2.2.2.2.1 1) ?_; obtain ⟨w3, hw⟩ : ∃ W, W = (w2).setCell ⟨b8, 1, none⟩ (.int .i64 (a1 + a2)) := ⟨_, rfl⟩
    have H3 : Hid (TogSt w qb b1 b2 b6 b8 Q n1 a1 tv1 z1 n2 a2 tv2 z2 (n1 + n2) (a1 + a2) (.slice none 0 0) (.complex .f64 0 0) w3) := by
      have hg : (w2).grownBy w3 (some b8) := by rw [hw]; exact grown_setCell _ _ _ _
      exact Lib.hid (H2.out.turn hg (by rw [hw]; exact RowA.set1 H2.out.2.2.2.2.2.1 (a1 + a2)))
    have HGw : Hid ((w2).grownBy w3 (some b8)) := by rw [hw]; exact Lib.hid (grown_setCell _ _ _ _)
    rw [← hw]; clear hw; have HI3 : Hid (IntsAt w3 (.slice none 0 0) []) := Lib.hid (IntsAt.nil _); clear d0 d1 d2 d3 d4 d5 f0 f1 f2 f3 g0 g1 g2 g3 x0 x1 x2 x3 hab; obtain ⟨y0, y1, y2, y3⟩ := H3.out.2.2.2.2.2.1.d4
    go_upto_region 13 with (fail)
    refine wp_region_lit ?_
    iterate 6 go_step
    refine wpList_store_row rfl _ _ _ rfl b6 (aggC (n1 + n2) (a1 + a2) (.slice none 0 0) (.complex .f64 0 0)) rfl rfl 53 zeroC H3.out.2.2.2.2.1 agg_size rfl (agg_oneW HI3.out HZw.out) ?_; obtain ⟨wy, hwy⟩ : ∃ W, W = w3.setRow b6 (aggC (n1 + n2) (a1 + a2) (.slice none 0 0) (.complex .f64 0 0)) := ⟨_, rfl⟩
    have HZ : Hid (RowA wy b6 (n1 + n2) (a1 + a2) (.slice none 0 0) (.complex .f64 0 0) ∧ P (.returned (.tuple #[.agg #[.int .i64 (n1 + n2), .int .i64 (a1 + a2), (.slice none 0 0), (.complex .f64 0 0)], .int .i64 0])) wy) := by
      have hg := grown_setRow w3 b6 (aggC (n1 + n2) (a1 + a2) (.slice none 0 0) (.complex .f64 0 0)); obtain ⟨h0, h1, h2, h3, h4, h5, h6⟩ := H3.out; rw [hwy]
      refine Lib.hid ⟨h4.reset _ _ _ _, HPz.out _ (.slice none 0 0) (.complex .f64 0 0) (a1 + a2) [] 0 0 0 (HI3.out.grown hg HN6.out) HZw.out (h6.trans (below_set hg (by omega) h6.size)) HNW.out ?_ ?_⟩
      · simp [togL, togA]
      · simp [togE, togOver]
    rw [← hwy]; clear hwy y0 y1 y2 y3; go_wp2_with (fail); exact bodyPost_ret (v := .tuple #[.agg (aggC (n1 + n2) (a1 + a2) (.slice none 0 0) (.complex .f64 0 0)), .int .i64 0]) ((results_cell_row_tmp (p := 6) (u := 7) (ty := 53) rfl _ _ b6 53 (aggC (n1 + n2) (a1 + a2) (.slice none 0 0) (.complex .f64 0 0)) (0, 0) _ rfl HZ.out.1 Tryz.underlying53 rfl agg_size).trans rfl) rfl HZ.out.2
  have e2 : (agg == 2) = false := by simpa using h2
  by_cases h5 : agg = 5
  · subst h5; clear h2; have HI2 : Hid (IntsAt w2 (.slice none 0 0) []) := Lib.hid (IntsAt.nil _)
    have hab : -8796093022208 ≤ a1 + a2 ∧ a1 + a2 ≤ 8796093022208 := by omega
    clear hbn hbn'
    go_upto_region 5 with (fail)
    refine wp_region_lit ?_
    iterate 18 go_step
    refine wpList_store1 rfl _ (.tmp 26) (.tmp 25) rfl ⟨b8, 1, none⟩ (.int .i64 (a1 + a2)) (.int .i64 0) rfl rfl rfl rfl Tryz.sizeOf3 x1 (RowA.fro H2.out.2.2.2.2.2.1 1) ?_; obtain ⟨w3, hw⟩ : ∃ W, W = (w2).setCell ⟨b8, 1, none⟩ (.int .i64 (a1 + a2)) := ⟨_, rfl⟩
    have H3 : Hid (TogSt w qb b1 b2 b6 b8 Q n1 a1 tv1 z1 n2 a2 tv2 z2 (n1 + n2) (a1 + a2) (.slice none 0 0) (.complex .f64 0 0) w3) := by
      have hg : (w2).grownBy w3 (some b8) := by rw [hw]; exact grown_setCell _ _ _ _
      exact Lib.hid (H2.out.turn hg (by rw [hw]; exact RowA.set1 H2.out.2.2.2.2.2.1 (a1 + a2)))
    have HGw : Hid ((w2).grownBy w3 (some b8)) := by rw [hw]; exact Lib.hid (grown_setCell _ _ _ _)
    rw [← hw]; clear hw; have HI3 : Hid (IntsAt w3 (.slice none 0 0) []) := Lib.hid (IntsAt.nil _); clear d0 d1 d2 d3 d4 d5 f0 f1 f2 f3 g0 g1 g2 g3 x0 x1 x2 x3 hab; obtain ⟨y0, y1, y2, y3⟩ := H3.out.2.2.2.2.2.1.d4
    go_upto_region 13 with (fail)
    refine wp_region_lit ?_
    iterate 6 go_step
    refine wpList_store_row rfl _ _ _ rfl b6 (aggC (n1 + n2) (a1 + a2) (.slice none 0 0) (.complex .f64 0 0)) rfl rfl 53 zeroC H3.out.2.2.2.2.1 agg_size rfl (agg_oneW HI3.out HZw.out) ?_; obtain ⟨wy, hwy⟩ : ∃ W, W = w3.setRow b6 (aggC (n1 + n2) (a1 + a2) (.slice none 0 0) (.complex .f64 0 0)) := ⟨_, rfl⟩
    have HZ : Hid (RowA wy b6 (n1 + n2) (a1 + a2) (.slice none 0 0) (.complex .f64 0 0) ∧ P (.returned (.tuple #[.agg #[.int .i64 (n1 + n2), .int .i64 (a1 + a2), (.slice none 0 0), (.complex .f64 0 0)], .int .i64 0])) wy) := by
      have hg := grown_setRow w3 b6 (aggC (n1 + n2) (a1 + a2) (.slice none 0 0) (.complex .f64 0 0)); obtain ⟨h0, h1, h2, h3, h4, h5, h6⟩ := H3.out; rw [hwy]
      refine Lib.hid ⟨h4.reset _ _ _ _, HPz.out _ (.slice none 0 0) (.complex .f64 0 0) (a1 + a2) [] 0 0 0 (HI3.out.grown hg HN6.out) HZw.out (h6.trans (below_set hg (by omega) h6.size)) HNW.out ?_ ?_⟩
      · simp [togL, togA]
      · simp [togE, togOver]
    rw [← hwy]; clear hwy y0 y1 y2 y3; go_wp2_with (fail); exact bodyPost_ret (v := .tuple #[.agg (aggC (n1 + n2) (a1 + a2) (.slice none 0 0) (.complex .f64 0 0)), .int .i64 0]) ((results_cell_row_tmp (p := 6) (u := 7) (ty := 53) rfl _ _ b6 53 (aggC (n1 + n2) (a1 + a2) (.slice none 0 0) (.complex .f64 0 0)) (0, 0) _ rfl HZ.out.1 Tryz.underlying53 rfl agg_size).trans rfl) rfl HZ.out.2
  have e5 : (agg == 5) = false := by simpa using h5
  by_cases h3 : agg = 3
  · subst h3; clear h2 h5 hbn hbn'; obtain ⟨E, hE⟩ : ∃ E, E = edgeQ 3 n1 a1 n2 a2 := ⟨_, rfl⟩; have HE := Lib.hid hE
    have HEd' : Hid (∀ w', Calls Tryz.prog 142 #[.agg #[.int .i64 kind, .int .i64 size, .int .i64 slide, .int .i64 late, .int .i64 3, .int .i64 k], .agg #[.int .i64 n1, .int .i64 a1, tv1, z1], .agg #[.int .i64 n2, .int .i64 a2, tv2, z2]] w' (Below0 w' (.int .i64 E))) := by
      have h := HEd.out; rw [HQe.out] at h; rw [hE]; exact Lib.hid h
    clear hE
    go_upto_region 8 with (fail)
    refine wp_region_lit ?_
    iterate 9 go_step
    refine wpList_plain rfl fun K hK => ?_; go_step; refine (HEd'.out w2).mono ?_; rintro e w3 ⟨rfl, hB⟩; refine hK _ _ ?_; have H3 : Hid (TogSt w qb b1 b2 b6 b8 Q n1 a1 tv1 z1 n2 a2 tv2 z2 (n1 + n2) 0 (.slice none 0 0) (.complex .f64 0 0) w3) := Lib.hid (H2.out.below hB); clear hK hB d0 d1 d2 d3 d4 d5 f0 f1 f2 f3 g0 g1 g2 g3 x0 x1 x2 x3; obtain ⟨x0, x1, x2, x3⟩ := H3.out.2.2.2.2.2.1.d4
    iterate 3 go_step
    refine wpList_store1 rfl _ (.tmp 34) (.tmp 33) rfl ⟨b8, 1, none⟩ (.int .i64 E) (.int .i64 0) rfl rfl rfl rfl Tryz.sizeOf3 x1 (RowA.fro H3.out.2.2.2.2.2.1 1) ?_; obtain ⟨w4, hw⟩ : ∃ W, W = (w3).setCell ⟨b8, 1, none⟩ (.int .i64 E) := ⟨_, rfl⟩
    have H4 : Hid (TogSt w qb b1 b2 b6 b8 Q n1 a1 tv1 z1 n2 a2 tv2 z2 (n1 + n2) E (.slice none 0 0) (.complex .f64 0 0) w4) := by
      have hg : (w3).grownBy w4 (some b8) := by rw [hw]; exact grown_setCell _ _ _ _
      exact Lib.hid (H3.out.turn hg (by rw [hw]; exact RowA.set1 H3.out.2.2.2.2.2.1 E))
    have HGw : Hid ((w3).grownBy w4 (some b8)) := by rw [hw]; exact Lib.hid (grown_setCell _ _ _ _)
    rw [← hw]; clear hw; have HI4 : Hid (IntsAt w4 (.slice none 0 0) []) := Lib.hid (IntsAt.nil _); clear x0 x1 x2 x3; obtain ⟨y0, y1, y2, y3⟩ := H4.out.2.2.2.2.2.1.d4
    go_upto_region 13 with (fail)
    refine wp_region_lit ?_
    iterate 6 go_step
    refine wpList_store_row rfl _ _ _ rfl b6 (aggC (n1 + n2) E (.slice none 0 0) (.complex .f64 0 0)) rfl rfl 53 zeroC H4.out.2.2.2.2.1 agg_size rfl (agg_oneW HI4.out HZw.out) ?_; obtain ⟨wy, hwy⟩ : ∃ W, W = w4.setRow b6 (aggC (n1 + n2) E (.slice none 0 0) (.complex .f64 0 0)) := ⟨_, rfl⟩
    have HZ : Hid (RowA wy b6 (n1 + n2) E (.slice none 0 0) (.complex .f64 0 0) ∧ P (.returned (.tuple #[.agg #[.int .i64 (n1 + n2), .int .i64 E, (.slice none 0 0), (.complex .f64 0 0)], .int .i64 0])) wy) := by
      have hg := grown_setRow w4 b6 (aggC (n1 + n2) E (.slice none 0 0) (.complex .f64 0 0)); obtain ⟨h0, h1, h2, h3, h4, h5, h6⟩ := H4.out; rw [hwy]
      refine Lib.hid ⟨h4.reset _ _ _ _, HPz.out _ (.slice none 0 0) (.complex .f64 0 0) E [] 0 0 0 (HI4.out.grown hg HN6.out) HZw.out (h6.trans (below_set hg (by omega) h6.size)) HNW.out ?_ ?_⟩
      · (simp [togL, togA]; exact HE.out.symm)
      · simp [togE, togOver]
    rw [← hwy]; clear hwy y0 y1 y2 y3; go_wp2_with (fail); exact bodyPost_ret (v := .tuple #[.agg (aggC (n1 + n2) E (.slice none 0 0) (.complex .f64 0 0)), .int .i64 0]) ((results_cell_row_tmp (p := 6) (u := 7) (ty := 53) rfl _ _ b6 53 (aggC (n1 + n2) E (.slice none 0 0) (.complex .f64 0 0)) (0, 0) _ rfl HZ.out.1 Tryz.underlying53 rfl agg_size).trans rfl) rfl HZ.out.2
  have e3 : (agg == 3) = false := by simpa using h3
  by_cases h4 : agg = 4
  · subst h4; clear h2 h5 h3 hbn hbn'; obtain ⟨E, hE⟩ : ∃ E, E = edgeQ 4 n1 a1 n2 a2 := ⟨_, rfl⟩; have HE := Lib.hid hE
    have HEd' : Hid (∀ w', Calls Tryz.prog 142 #[.agg #[.int .i64 kind, .int .i64 size, .int .i64 slide, .int .i64 late, .int .i64 4, .int .i64 k], .agg #[.int .i64 n1, .int .i64 a1, tv1, z1], .agg #[.int .i64 n2, .int .i64 a2, tv2, z2]] w' (Below0 w' (.int .i64 E))) := by
      have h := HEd.out; rw [HQe.out] at h; rw [hE]; exact Lib.hid h
    clear hE
    go_upto_region 8 with (fail)
    refine wp_region_lit ?_
    iterate 9 go_step
    refine wpList_plain rfl fun K hK => ?_; go_step; refine (HEd'.out w2).mono ?_; rintro e w3 ⟨rfl, hB⟩; refine hK _ _ ?_; have H3 : Hid (TogSt w qb b1 b2 b6 b8 Q n1 a1 tv1 z1 n2 a2 tv2 z2 (n1 + n2) 0 (.slice none 0 0) (.complex .f64 0 0) w3) := Lib.hid (H2.out.below hB); clear hK hB d0 d1 d2 d3 d4 d5 f0 f1 f2 f3 g0 g1 g2 g3 x0 x1 x2 x3; obtain ⟨x0, x1, x2, x3⟩ := H3.out.2.2.2.2.2.1.d4
    iterate 3 go_step
    refine wpList_store1 rfl _ (.tmp 34) (.tmp 33) rfl ⟨b8, 1, none⟩ (.int .i64 E) (.int .i64 0) rfl rfl rfl rfl Tryz.sizeOf3 x1 (RowA.fro H3.out.2.2.2.2.2.1 1) ?_; obtain ⟨w4, hw⟩ : ∃ W, W = (w3).setCell ⟨b8, 1, none⟩ (.int .i64 E) := ⟨_, rfl⟩
    have H4 : Hid (TogSt w qb b1 b2 b6 b8 Q n1 a1 tv1 z1 n2 a2 tv2 z2 (n1 + n2) E (.slice none 0 0) (.complex .f64 0 0) w4) := by
      have hg : (w3).grownBy w4 (some b8) := by rw [hw]; exact grown_setCell _ _ _ _
      exact Lib.hid (H3.out.turn hg (by rw [hw]; exact RowA.set1 H3.out.2.2.2.2.2.1 E))
    have HGw : Hid ((w3).grownBy w4 (some b8)) := by rw [hw]; exact Lib.hid (grown_setCell _ _ _ _)
    rw [← hw]; clear hw; have HI4 : Hid (IntsAt w4 (.slice none 0 0) []) := Lib.hid (IntsAt.nil _); clear x0 x1 x2 x3; obtain ⟨y0, y1, y2, y3⟩ := H4.out.2.2.2.2.2.1.d4
    go_upto_region 13 with (fail)
    refine wp_region_lit ?_
    iterate 6 go_step
    refine wpList_store_row rfl _ _ _ rfl b6 (aggC (n1 + n2) E (.slice none 0 0) (.complex .f64 0 0)) rfl rfl 53 zeroC H4.out.2.2.2.2.1 agg_size rfl (agg_oneW HI4.out HZw.out) ?_; obtain ⟨wy, hwy⟩ : ∃ W, W = w4.setRow b6 (aggC (n1 + n2) E (.slice none 0 0) (.complex .f64 0 0)) := ⟨_, rfl⟩
    have HZ : Hid (RowA wy b6 (n1 + n2) E (.slice none 0 0) (.complex .f64 0 0) ∧ P (.returned (.tuple #[.agg #[.int .i64 (n1 + n2), .int .i64 E, (.slice none 0 0), (.complex .f64 0 0)], .int .i64 0])) wy) := by
      have hg := grown_setRow w4 b6 (aggC (n1 + n2) E (.slice none 0 0) (.complex .f64 0 0)); obtain ⟨h0, h1, h2, h3, h4, h5, h6⟩ := H4.out; rw [hwy]
      refine Lib.hid ⟨h4.reset _ _ _ _, HPz.out _ (.slice none 0 0) (.complex .f64 0 0) E [] 0 0 0 (HI4.out.grown hg HN6.out) HZw.out (h6.trans (below_set hg (by omega) h6.size)) HNW.out ?_ ?_⟩
      · (simp [togL, togA]; exact HE.out.symm)
      · simp [togE, togOver]
    rw [← hwy]; clear hwy y0 y1 y2 y3; go_wp2_with (fail); exact bodyPost_ret (v := .tuple #[.agg (aggC (n1 + n2) E (.slice none 0 0) (.complex .f64 0 0)), .int .i64 0]) ((results_cell_row_tmp (p := 6) (u := 7) (ty := 53) rfl _ _ b6 53 (aggC (n1 + n2) E (.slice none 0 0) (.complex .f64 0 0)) (0, 0) _ rfl HZ.out.1 Tryz.underlying53 rfl agg_size).trans rfl) rfl HZ.out.2
  have e4 : (agg == 4) = false := by simpa using h4
  by_cases h6 : agg = 6
  · subst h6; clear h2 h5 h3 h4 hbn hbn'
    have HTop' : Hid (∀ w', Below w.heap.size w w' → Calls Tryz.prog 143 #[.agg #[.int .i64 kind, .int .i64 size, .int .i64 slide, .int .i64 late, .int .i64 6, .int .i64 k], .agg #[.int .i64 n1, .int .i64 a1, tv1, z1], .agg #[.int .i64 n2, .int .i64 a2, tv2, z2]] w' (fun e w'' => ∃ v, e = .returned v ∧ IntsAt w'' v (topL k.toNat (l1 ++ l2)) ∧ (∀ a n c, v = .slice (some a) n c → w'.heap.size ≤ a.block) ∧ Below w'.heap.size w' w'')) := by
      have h := HTop.out; rw [HQe.out] at h; exact Lib.hid h
    go_upto_region 10 with (fail)
    refine wp_region_lit ?_
    iterate 9 go_step
    refine wpList_plain rfl fun K hK => ?_; go_step; refine (HTop'.out w2 H2.out.2.2.2.2.2.2).mono ?_; rintro e w3 ⟨v, rfl, hI, hnb, hB⟩; refine hK _ _ ?_; have H3 : Hid (TogSt w qb b1 b2 b6 b8 Q n1 a1 tv1 z1 n2 a2 tv2 z2 (n1 + n2) 0 (.slice none 0 0) (.complex .f64 0 0) w3) := Lib.hid (H2.out.below hB); have HI3 := Lib.hid hI; obtain ⟨ta, tc, rfl, _, hIc⟩ := hI; obtain ⟨N, hN⟩ : ∃ N, N = (topL k.toNat (l1 ++ l2)).length := ⟨_, rfl⟩; rw [← hN] at HI3; rw [← hN] at hnb; rw [← hN]
    have Hnw : Hid (∀ a n c, Value.slice ta N tc = .slice (some a) n c → w.heap.size ≤ a.block) := by
      have hs := H2.out.2.2.2.2.2.2.size
      exact Lib.hid (fun a n c e => by have := hnb a n c e; omega)
    have Hblk : Hid ((∀ a n c, Value.slice ta N tc = .slice (some a) n c → topL k.toNat (l1 ++ l2) ≠ [] → a.block ≠ b8) ∧ ∀ a n c, Value.slice ta N tc = .slice (some a) n c → topL k.toNat (l1 ++ l2) ≠ [] → a.block ≠ b6) := by
      have l8 := H2.out.2.2.2.2.2.1.lt; have l6 := H2.out.2.2.2.2.1.lt
      exact Lib.hid ⟨fun a n c e _ => by have := hnb a n c e; omega, fun a n c e _ => by have := hnb a n c e; omega⟩
    clear hK hB d0 d1 d2 d3 d4 d5 f0 f1 f2 f3 g0 g1 g2 g3 x0 x1 x2 x3 hN hIc hnb; obtain ⟨x0, x1, x2, x3⟩ := H3.out.2.2.2.2.2.1.d4
    iterate 3 go_step
    refine wpList_store1 rfl _ (.tmp 41) (.tmp 40) rfl ⟨b8, 2, none⟩ (.slice ta N tc) (.slice none 0 0) rfl rfl rfl rfl Tryz.sizeOf48 x2 (RowA.fro H3.out.2.2.2.2.2.1 2) ?_; obtain ⟨w4, hw⟩ : ∃ W, W = (w3).setCell ⟨b8, 2, none⟩ (.slice ta N tc) := ⟨_, rfl⟩
    have H4 : Hid (TogSt w qb b1 b2 b6 b8 Q n1 a1 tv1 z1 n2 a2 tv2 z2 (n1 + n2) 0 (.slice ta N tc) (.complex .f64 0 0) w4) := by
      have hg : (w3).grownBy w4 (some b8) := by rw [hw]; exact grown_setCell _ _ _ _
      exact Lib.hid (H3.out.turn hg (by rw [hw]; exact RowA.set2 H3.out.2.2.2.2.2.1 (.slice ta N tc)))
    have HGw : Hid ((w3).grownBy w4 (some b8)) := by rw [hw]; exact Lib.hid (grown_setCell _ _ _ _)
    rw [← hw]; clear hw
    have HI4 : Hid (IntsAt w4 (.slice ta N tc) (topL k.toNat (l1 ++ l2))) := by
      exact Lib.hid (HI3.out.grown HGw.out Hblk.out.1)
    clear x0 x1 x2 x3; obtain ⟨y0, y1, y2, y3⟩ := H4.out.2.2.2.2.2.1.d4
    go_upto_region 13 with (fail)
    refine wp_region_lit ?_
    iterate 6 go_step
    refine wpList_store_row rfl _ _ _ rfl b6 (aggC (n1 + n2) 0 (.slice ta N tc) (.complex .f64 0 0)) rfl rfl 53 zeroC H4.out.2.2.2.2.1 agg_size rfl (agg_oneW HI4.out HZw.out) ?_; obtain ⟨wy, hwy⟩ : ∃ W, W = w4.setRow b6 (aggC (n1 + n2) 0 (.slice ta N tc) (.complex .f64 0 0)) := ⟨_, rfl⟩
    have HZ : Hid (RowA wy b6 (n1 + n2) 0 (.slice ta N tc) (.complex .f64 0 0) ∧ P (.returned (.tuple #[.agg #[.int .i64 (n1 + n2), .int .i64 0, (.slice ta N tc), (.complex .f64 0 0)], .int .i64 0])) wy) := by
      have hg := grown_setRow w4 b6 (aggC (n1 + n2) 0 (.slice ta N tc) (.complex .f64 0 0)); obtain ⟨h0, h1, h2, h3, h4, h5, h6⟩ := H4.out; rw [hwy]
      refine Lib.hid ⟨h4.reset _ _ _ _, HPz.out _ (.slice ta N tc) (.complex .f64 0 0) 0 (topL k.toNat (l1 ++ l2)) 0 0 0 (HI4.out.grown hg Hblk.out.2) HZw.out (h6.trans (below_set hg (by omega) h6.size)) Hnw.out ?_ ?_⟩
      · simp [togL, togA]
      · simp [togE, togOver]
    rw [← hwy]; clear hwy y0 y1 y2 y3; go_wp2_with (fail); exact bodyPost_ret (v := .tuple #[.agg (aggC (n1 + n2) 0 (.slice ta N tc) (.complex .f64 0 0)), .int .i64 0]) ((results_cell_row_tmp (p := 6) (u := 7) (ty := 53) rfl _ _ b6 53 (aggC (n1 + n2) 0 (.slice ta N tc) (.complex .f64 0 0)) (0, 0) _ rfl HZ.out.1 Tryz.underlying53 rfl agg_size).trans rfl) rfl HZ.out.2
  have e6 : (agg == 6) = false := by simpa using h6
  by_cases h7 : agg = 7
  · subst h7; clear h2 h5 h3 h4 h6 hbn hbn'; obtain ⟨Zr, hZr⟩ : ∃ Z, Z = ofV (u1 + u2) (v1 + v2) := ⟨_, rfl⟩; obtain ⟨er, her⟩ : ∃ e, e = ofE (u1 + u2) (v1 + v2) := ⟨_, rfl⟩
    have HAd' : Hid (Calls Tryz.prog 144 #[z1, z2] w2 (fun e w' => e = .returned (.tuple #[Zr, .int .i64 er]) ∧ w' = w2)) := by
      have h := HAd.out w2; unfold OpEnd at h; rw [← hZr, ← her] at h; exact Lib.hid h
    obtain ⟨ru, rv, hW, hW1, hW2⟩ := ofV_whole (u1 + u2) (v1 + v2); rw [← hZr] at hW; have HWr := Lib.hid (And.intro hW (And.intro hW1 (And.intro hW2 her))); obtain ⟨p, q, hZe, _, _⟩ := hW.1; subst hZe; clear hZr her hW hW1 hW2
    go_upto_region 12 with (fail)
    refine wp_region_lit ?_
    iterate 12 go_step
    refine wpList_plain rfl fun K hK => ?_; go_step; refine HAd'.out.mono ?_; rintro e w' ⟨rfl, hw'⟩; subst w'; refine hK _ _ ?_; clear hK
    iterate 12 go_step
    refine wpList_store1 rfl _ (.tmp 52) (.tmp 50) rfl ⟨b8, 3, none⟩ (.complex .f64 p q) (.complex .f64 0 0) rfl rfl rfl rfl Tryz.sizeOf51 x3 (RowA.fro H2.out.2.2.2.2.2.1 3) ?_; obtain ⟨w3, hw⟩ : ∃ W, W = (w2).setCell ⟨b8, 3, none⟩ (.complex .f64 p q) := ⟨_, rfl⟩
    have H3 : Hid (TogSt w qb b1 b2 b6 b8 Q n1 a1 tv1 z1 n2 a2 tv2 z2 (n1 + n2) 0 (.slice none 0 0) (.complex .f64 p q) w3) := by
      have hg : (w2).grownBy w3 (some b8) := by rw [hw]; exact grown_setCell _ _ _ _
      exact Lib.hid (H2.out.turn hg (by rw [hw]; exact RowA.set3 H2.out.2.2.2.2.2.1 (.complex .f64 p q)))
    have HGw : Hid ((w2).grownBy w3 (some b8)) := by rw [hw]; exact Lib.hid (grown_setCell _ _ _ _)
    rw [← hw]; clear hw; have HI3 : Hid (IntsAt w3 (.slice none 0 0) []) := Lib.hid (IntsAt.nil _); have HWz : Hid (WholeZ (.complex .f64 p q) ru rv) := Lib.hid HWr.out.1; clear d0 d1 d2 d3 d4 d5 f0 f1 f2 f3 g0 g1 g2 g3 x0 x1 x2 x3
    have HEq1 : Hid (togL ⟨kind, size, slide, late, 7, k⟩ ⟨n1, a1, l1, u1, v1⟩ ⟨n2, a2, l2, u2, v2⟩ = ⟨n1 + n2, 0, [], ru, rv⟩) := by
      refine Lib.hid ?_
      by_cases h : InP (u1 + u2) (v1 + v2)
      · obtain ⟨rfl, rfl⟩ := HWr.out.2.1 h; simp [togL, togA, togOver, h]
      · obtain ⟨rfl, rfl⟩ := HWr.out.2.2.1 h; simp [togL, togA, togOver, h]
    have HEq2 : Hid (togE ⟨kind, size, slide, late, 7, k⟩ ⟨n1, a1, l1, u1, v1⟩ ⟨n2, a2, l2, u2, v2⟩ = er) := by
      refine Lib.hid ?_; rw [HWr.out.2.2.2, togE, togOver, ofE]
      by_cases h : InP (u1 + u2) (v1 + v2) <;> simp [h]
    obtain ⟨y0, y1, y2, y3⟩ := H3.out.2.2.2.2.2.1.d4
    go_upto_region 13 with (fail)
    refine wp_region_lit ?_
    iterate 6 go_step
    refine wpList_store_row rfl _ _ _ rfl b6 (aggC (n1 + n2) 0 (.slice none 0 0) (.complex .f64 p q)) rfl rfl 53 zeroC H3.out.2.2.2.2.1 agg_size rfl (agg_oneW HI3.out HWz.out) ?_; obtain ⟨wy, hwy⟩ : ∃ W, W = w3.setRow b6 (aggC (n1 + n2) 0 (.slice none 0 0) (.complex .f64 p q)) := ⟨_, rfl⟩
    have HZ : Hid (RowA wy b6 (n1 + n2) 0 (.slice none 0 0) (.complex .f64 p q) ∧ P (.returned (.tuple #[.agg #[.int .i64 (n1 + n2), .int .i64 0, (.slice none 0 0), (.complex .f64 p q)], .int .i64 er])) wy) := by
      have hg := grown_setRow w3 b6 (aggC (n1 + n2) 0 (.slice none 0 0) (.complex .f64 p q)); obtain ⟨h0, h1, h2, h3, h4, h5, h6⟩ := H3.out; rw [hwy]
      refine Lib.hid ⟨h4.reset _ _ _ _, HPz.out _ (.slice none 0 0) (.complex .f64 p q) 0 [] ru rv er (HI3.out.grown hg HN6.out) HWz.out (h6.trans (below_set hg (by omega) h6.size)) HNW.out ?_ ?_⟩
      · exact HEq1.out
      · exact HEq2.out
    rw [← hwy]; clear hwy y0 y1 y2 y3; go_wp2_with (fail); exact bodyPost_ret (v := .tuple #[.agg (aggC (n1 + n2) 0 (.slice none 0 0) (.complex .f64 p q)), .int .i64 er]) ((results_cell_row_tmp (p := 6) (u := 7) (ty := 53) rfl _ _ b6 53 (aggC (n1 + n2) 0 (.slice none 0 0) (.complex .f64 p q)) (0, 0) _ rfl HZ.out.1 Tryz.underlying53 rfl agg_size).trans rfl) rfl HZ.out.2
  have e7 : (agg == 7) = false := by simpa using h7
  have HEq1 : Hid (togL ⟨kind, size, slide, late, agg, k⟩ ⟨n1, a1, l1, u1, v1⟩ ⟨n2, a2, l2, u2, v2⟩ = ⟨n1 + n2, 0, [], 0, 0⟩) := by
    refine Lib.hid ?_; simp [togL, togA, h2, h5, h3, h4, h6, h7]
  have HEq2 : Hid (togE ⟨kind, size, slide, late, agg, k⟩ ⟨n1, a1, l1, u1, v1⟩ ⟨n2, a2, l2, u2, v2⟩ = 0) := Lib.hid (by simp [togE, togOver, h7])
  have HI2 : Hid (IntsAt w2 (.slice none 0 0) []) := Lib.hid (IntsAt.nil _); clear h2 h5 h3 h4 h6 h7 hbn hbn' f0 f1 f2 f3 g0 g1 g2 g3 x0 x1 x2 x3; obtain ⟨y0, y1, y2, y3⟩ := H2.out.2.2.2.2.2.1.d4
  go_upto_region 13 with (fail)
  refine wp_region_lit ?_
  iterate 6 go_step
  refine wpList_store_row rfl _ _ _ rfl b6 (aggC (n1 + n2) 0 (.slice none 0 0) (.complex .f64 0 0)) rfl rfl 53 zeroC H2.out.2.2.2.2.1 agg_size rfl (agg_oneW HI2.out HZw.out) ?_; obtain ⟨wy, hwy⟩ : ∃ W, W = w2.setRow b6 (aggC (n1 + n2) 0 (.slice none 0 0) (.complex .f64 0 0)) := ⟨_, rfl⟩
  have HZ : Hid (RowA wy b6 (n1 + n2) 0 (.slice none 0 0) (.complex .f64 0 0) ∧ P (.returned (.tuple #[.agg #[.int .i64 (n1 + n2), .int .i64 0, (.slice none 0 0), (.complex .f64 0 0)], .int .i64 0])) wy) := by
    have hg := grown_setRow w2 b6 (aggC (n1 + n2) 0 (.slice none 0 0) (.complex .f64 0 0)); obtain ⟨h0, h1, h2, h3, h4, h5, h6⟩ := H2.out; rw [hwy]
    refine Lib.hid ⟨h4.reset _ _ _ _, HPz.out _ (.slice none 0 0) (.complex .f64 0 0) 0 [] 0 0 0 (HI2.out.grown hg HN6.out) HZw.out (h6.trans (below_set hg (by omega) h6.size)) HNW.out ?_ ?_⟩
    · exact HEq1.out
    · exact HEq2.out
  rw [← hwy]; clear hwy y0 y1 y2 y3; go_wp2_with (fail); exact bodyPost_ret (v := .tuple #[.agg (aggC (n1 + n2) 0 (.slice none 0 0) (.complex .f64 0 0)), .int .i64 0]) ((results_cell_row_tmp (p := 6) (u := 7) (ty := 53) rfl _ _ b6 53 (aggC (n1 + n2) 0 (.slice none 0 0) (.complex .f64 0 0)) (0, 0) _ rfl HZ.out.1 Tryz.underlying53 rfl agg_size).trans rfl) rfl HZ.out.2
end Go.Proofs.YtjeeghafachebaaGreat
namespace Go.Proofs.YtjeeghafachebaaGreat
open Go Go.RowKit
def oneA (agg v : Int) : Int := if agg = 2 ∨ agg = 3 ∨ agg = 4 ∨ agg = 5 then v else 0
def oneL (agg v : Int) : AggL := ⟨1, oneA agg v, if agg = 6 then [v] else [], if agg = 7 then (turnP v).1 else 0, if agg = 7 then (turnP v).2 else 0⟩
def AggOne (w : World) (m : AggL) (e : Ending) (w' : World) : Prop := ∃ tv z, e = .returned (.agg (aggC m.n m.a tv z)) ∧ IntsAt w' tv m.top ∧ WholeZ z m.u m.v ∧ Below w.heap.size w w'
def OneSt (w : World) (qb b4 b5 : Nat) (Q : QueryL) (a : Int) (tv z : Value) (w' : World) : Prop :=
  (w.heap.size ≤ b4 ∧ b4 < b5 ∧ qb < b5 ∧ w.heap.size ≤ b5) ∧ RowQ w' qb Q ∧ RowA w' b4 0 0 nilV zeroZ ∧ RowA w' b5 1 a tv z ∧ Below w.heap.size w w'
theorem OneSt.below {w : World} {qb b4 b5 : Nat} {Q : QueryL} {a : Int} {tv z : Value} {w' w'' : World} (h : OneSt w qb b4 b5 Q a tv z w') (hB : Below w'.heap.size w' w'') : OneSt w qb b4 b5 Q a tv z w'' := by
  obtain ⟨h0, h1, h2, h3, h4⟩ := h; exact ⟨h0, h1.below hB, h2.below hB, h3.below hB, h4.trans (hB.mono h4.size)⟩
theorem OneSt.turn {w : World} {qb b4 b5 : Nat} {Q : QueryL} {a : Int} {tv z : Value} {w' w'' : World} {a' : Int} {tv' z' : Value} (h : OneSt w qb b4 b5 Q a tv z w') (hg : w'.grownBy w'' (some b5)) (hr : RowA w'' b5 1 a' tv' z') : OneSt w qb b4 b5 Q a' tv' z' w'' := by
  obtain ⟨h0, h1, h2, h3, h4⟩ := h
  exact ⟨h0, (hg.block qb h1.lt (by simp; omega)).trans h1, h2.grown hg (by simp; omega), hr, h4.trans (below_set hg (by omega) h4.size)⟩
set_option maxRecDepth 100000 in
set_option maxHeartbeats 2000000 in
theorem aone_any (w : World) (q : QueryL) (v : Int) : Calls Tryz.prog 123 #[.agg q.cells, .int .i64 v] w (AggOne w (oneL q.agg v)) := by
  obtain ⟨P, hP⟩ : ∃ P, P = AggOne w (oneL q.agg v) := ⟨_, rfl⟩; rw [← hP]
  have HPz : Hid (∀ w' tv z a l u v', IntsAt w' tv l → WholeZ z u v' → Below w.heap.size w w' → oneL q.agg v = ⟨1, a, l, u, v'⟩ → P (.returned (.agg #[.int .i64 1, .int .i64 a, tv, z])) w') := by
    refine Lib.hid (fun w' tv z a l u v' j1 j2 j3 j4 => ?_); rw [hP, j4]; exact ⟨tv, z, rfl, j1, j2, j3⟩
  obtain ⟨w1, hw1⟩ : ∃ W, W = (w.alloc (.cells q.cells 23)).alloc (.cells zeroC 53) := ⟨_, rfl⟩; obtain ⟨qb, hqb⟩ : ∃ b, b = w.heap.size := ⟨_, rfl⟩; obtain ⟨b4, hb4⟩ : ∃ b, b = w.heap.size + 1 := ⟨_, rfl⟩
  have H1 : Hid (RowQ w1 qb q ∧ RowA w1 b4 0 0 nilV zeroZ ∧ Below w.heap.size w w1 ∧ w.heap.size ≤ b4) := by
    have h := box_qa w q 0 0 nilV zeroZ; rw [hw1, hqb, hb4]
    exact Lib.hid ⟨h.1, h.2.1, h.2.2, by omega⟩
  have hs1 : (w.alloc (.cells q.cells 23)).heap.size = w.heap.size + 1 := heap_alloc_size w _; obtain ⟨Q, hQ⟩ : ∃ Q, Q = q := ⟨_, rfl⟩; rw [← hQ] at H1; clear hP; obtain ⟨kind, size, slide, late, agg, k⟩ := q; unfold QueryL.cells at hw1 hs1 ⊢; unfold zeroC aggC at hw1; simp only [nilV, zeroZ] at hw1 hs1 HPz; have HQf : Hid (Q = ⟨kind, size, slide, late, agg, k⟩) := Lib.hid hQ; clear hQ
  go_enter Tryz.func123, Tryz.ntmps123
  go_upto_region 1 with (fail)
  rw [← hw1, ← hb4, ← hqb]; clear hw1 hqb hb4 hs1; refine wp_region_lit ?_
  iterate 6 go_step
  refine wpList_store_row rfl _ _ _ rfl w1.heap.size (aggC 1 0 nilV zeroZ) rfl rfl 53 zeroC (heap_alloc_new w1 _) agg_size rfl (agg_one rfl rfl) ?_; obtain ⟨w2, hw2⟩ : ∃ W, W = (w1.alloc (Obj.cells #[.int .i64 0, .int .i64 0, .slice none 0 0, .complex .f64 0 0] 53)).setRow w1.heap.size (aggC 1 0 nilV zeroZ) := ⟨_, rfl⟩; obtain ⟨b5, hb5⟩ : ∃ b, b = w1.heap.size := ⟨_, rfl⟩
  have H2 : Hid (OneSt w qb b4 b5 Q 0 (.slice none 0 0) (.complex .f64 0 0) w2) := by
    obtain ⟨k1, k2⟩ := stored_agg w1 1 0 nilV zeroZ; obtain ⟨j1, j2, j3, j4⟩ := H1.out; rw [hw2, hb5]; exact Lib.hid ⟨⟨j4, j2.lt, j1.lt, j3.size⟩, j1.below k2, j2.below k2, k1, j3.trans (k2.mono j3.size)⟩
  rw [← hw2, ← hb5]; clear hw2 hb5 H1; have HZw : Hid (WholeZ (.complex .f64 0 0) 0 0) := Lib.hid zeroZ_whole
  have HN4 : Hid (∀ a n c, Value.slice none 0 0 = .slice (some a) n c → ([] : List Int) ≠ [] → a.block ≠ b4) := Lib.hid (fun _ _ _ h => by cases h)
  obtain ⟨d0, d1, d2, d3, d4, d5⟩ : D6 w2 qb kind size slide late agg k := by
    have h := H2.out.2.1.d6; rw [HQf.out] at h; exact h
  obtain ⟨x0, x1, x2, x3⟩ := H2.out.2.2.2.1.d4
  by_cases h2 : agg = 2
  · subst h2
    go_upto_region 7 with (fail)
    refine wp_region_lit ?_
    iterate 6 go_step
    refine wpList_store1 rfl _ (.tmp 15) (.tmp 14) rfl ⟨b5, 1, none⟩ (.int .i64 v) (.int .i64 0) rfl rfl rfl rfl Tryz.sizeOf3 x1 (RowA.fro H2.out.2.2.2.1 1) ?_; obtain ⟨w3, hw⟩ : ∃ W, W = (w2).setCell ⟨b5, 1, none⟩ (.int .i64 v) := ⟨_, rfl⟩
    have H3 : Hid (OneSt w qb b4 b5 Q v (.slice none 0 0) (.complex .f64 0 0) w3 ∧ (w2).grownBy w3 (some b5)) := by
      have hg : (w2).grownBy w3 (some b5) := by rw [hw]; exact grown_setCell _ _ _ _
      exact Lib.hid ⟨H2.out.turn hg (by rw [hw]; exact RowA.set1 H2.out.2.2.2.1 v), hg⟩
    rw [← hw]; clear hw; have HI3 : Hid (IntsAt w3 (.slice none 0 0) []) := Lib.hid (IntsAt.nil _); have H3a := Lib.hid H3.out.1; clear d0 d1 d2 d3 d4 d5 x0 x1 x2 x3; obtain ⟨y0, y1, y2, y3⟩ := H3a.out.2.2.2.1.d4
    go_upto_region 12 with (fail)
    refine wp_region_lit ?_
    iterate 3 go_step
    refine wpList_store_row rfl _ _ _ rfl b4 (aggC 1 v (.slice none 0 0) (.complex .f64 0 0)) rfl rfl 53 zeroC H3a.out.2.2.1 agg_size rfl (agg_oneW HI3.out HZw.out) ?_; obtain ⟨wy, hwy⟩ : ∃ W, W = w3.setRow b4 (aggC 1 v (.slice none 0 0) (.complex .f64 0 0)) := ⟨_, rfl⟩
    have HZ : Hid (RowA wy b4 1 v (.slice none 0 0) (.complex .f64 0 0) ∧ P (.returned (.agg #[.int .i64 1, .int .i64 v, (.slice none 0 0), (.complex .f64 0 0)])) wy) := by
      have hg := grown_setRow w3 b4 (aggC 1 v (.slice none 0 0) (.complex .f64 0 0)); obtain ⟨h0, h1, h2, h3, h4⟩ := H3a.out; rw [hwy]
      refine Lib.hid ⟨h2.reset _ _ _ _, HPz.out _ (.slice none 0 0) (.complex .f64 0 0) v [] 0 0 (HI3.out.grown hg HN4.out) HZw.out (h4.trans (below_set hg (by omega) h4.size)) ?_⟩
      simp [oneL, oneA]
    rw [← hwy]; clear hwy y0 y1 y2 y3; go_wp2_with (fail); exact bodyPost_ret (v := .agg (aggC 1 v (.slice none 0 0) (.complex .f64 0 0))) (results_cell_row (p := 4) (ty := 53) rfl _ _ b4 53 (aggC 1 v (.slice none 0 0) (.complex .f64 0 0)) (0, 0) _ rfl HZ.out.1 Tryz.underlying53 rfl agg_size) rfl HZ.out.2
  have e2 : (agg == 2) = false := by simpa using h2
  by_cases h3 : agg = 3
  · subst h3; clear h2
    go_upto_region 7 with (fail)
    refine wp_region_lit ?_
    iterate 6 go_step
    refine wpList_store1 rfl _ (.tmp 15) (.tmp 14) rfl ⟨b5, 1, none⟩ (.int .i64 v) (.int .i64 0) rfl rfl rfl rfl Tryz.sizeOf3 x1 (RowA.fro H2.out.2.2.2.1 1) ?_; obtain ⟨w3, hw⟩ : ∃ W, W = (w2).setCell ⟨b5, 1, none⟩ (.int .i64 v) := ⟨_, rfl⟩
    have H3 : Hid (OneSt w qb b4 b5 Q v (.slice none 0 0) (.complex .f64 0 0) w3 ∧ (w2).grownBy w3 (some b5)) := by
      have hg : (w2).grownBy w3 (some b5) := by rw [hw]; exact grown_setCell _ _ _ _
      exact Lib.hid ⟨H2.out.turn hg (by rw [hw]; exact RowA.set1 H2.out.2.2.2.1 v), hg⟩
    rw [← hw]; clear hw; have HI3 : Hid (IntsAt w3 (.slice none 0 0) []) := Lib.hid (IntsAt.nil _); have H3a := Lib.hid H3.out.1; clear d0 d1 d2 d3 d4 d5 x0 x1 x2 x3; obtain ⟨y0, y1, y2, y3⟩ := H3a.out.2.2.2.1.d4
    go_upto_region 12 with (fail)
    refine wp_region_lit ?_
    iterate 3 go_step
    refine wpList_store_row rfl _ _ _ rfl b4 (aggC 1 v (.slice none 0 0) (.complex .f64 0 0)) rfl rfl 53 zeroC H3a.out.2.2.1 agg_size rfl (agg_oneW HI3.out HZw.out) ?_; obtain ⟨wy, hwy⟩ : ∃ W, W = w3.setRow b4 (aggC 1 v (.slice none 0 0) (.complex .f64 0 0)) := ⟨_, rfl⟩
    have HZ : Hid (RowA wy b4 1 v (.slice none 0 0) (.complex .f64 0 0) ∧ P (.returned (.agg #[.int .i64 1, .int .i64 v, (.slice none 0 0), (.complex .f64 0 0)])) wy) := by
      have hg := grown_setRow w3 b4 (aggC 1 v (.slice none 0 0) (.complex .f64 0 0)); obtain ⟨h0, h1, h2, h3, h4⟩ := H3a.out; rw [hwy]
      refine Lib.hid ⟨h2.reset _ _ _ _, HPz.out _ (.slice none 0 0) (.complex .f64 0 0) v [] 0 0 (HI3.out.grown hg HN4.out) HZw.out (h4.trans (below_set hg (by omega) h4.size)) ?_⟩
      simp [oneL, oneA]
    rw [← hwy]; clear hwy y0 y1 y2 y3; go_wp2_with (fail); exact bodyPost_ret (v := .agg (aggC 1 v (.slice none 0 0) (.complex .f64 0 0))) (results_cell_row (p := 4) (ty := 53) rfl _ _ b4 53 (aggC 1 v (.slice none 0 0) (.complex .f64 0 0)) (0, 0) _ rfl HZ.out.1 Tryz.underlying53 rfl agg_size) rfl HZ.out.2
  have e3 : (agg == 3) = false := by simpa using h3
  by_cases h4 : agg = 4
  · subst h4; clear h2 h3
    go_upto_region 7 with (fail)
    refine wp_region_lit ?_
    iterate 6 go_step
    refine wpList_store1 rfl _ (.tmp 15) (.tmp 14) rfl ⟨b5, 1, none⟩ (.int .i64 v) (.int .i64 0) rfl rfl rfl rfl Tryz.sizeOf3 x1 (RowA.fro H2.out.2.2.2.1 1) ?_; obtain ⟨w3, hw⟩ : ∃ W, W = (w2).setCell ⟨b5, 1, none⟩ (.int .i64 v) := ⟨_, rfl⟩
    have H3 : Hid (OneSt w qb b4 b5 Q v (.slice none 0 0) (.complex .f64 0 0) w3 ∧ (w2).grownBy w3 (some b5)) := by
      have hg : (w2).grownBy w3 (some b5) := by rw [hw]; exact grown_setCell _ _ _ _
      exact Lib.hid ⟨H2.out.turn hg (by rw [hw]; exact RowA.set1 H2.out.2.2.2.1 v), hg⟩
    rw [← hw]; clear hw; have HI3 : Hid (IntsAt w3 (.slice none 0 0) []) := Lib.hid (IntsAt.nil _); have H3a := Lib.hid H3.out.1; clear d0 d1 d2 d3 d4 d5 x0 x1 x2 x3; obtain ⟨y0, y1, y2, y3⟩ := H3a.out.2.2.2.1.d4
    go_upto_region 12 with (fail)
    refine wp_region_lit ?_
    iterate 3 go_step
    refine wpList_store_row rfl _ _ _ rfl b4 (aggC 1 v (.slice none 0 0) (.complex .f64 0 0)) rfl rfl 53 zeroC H3a.out.2.2.1 agg_size rfl (agg_oneW HI3.out HZw.out) ?_; obtain ⟨wy, hwy⟩ : ∃ W, W = w3.setRow b4 (aggC 1 v (.slice none 0 0) (.complex .f64 0 0)) := ⟨_, rfl⟩
    have HZ : Hid (RowA wy b4 1 v (.slice none 0 0) (.complex .f64 0 0) ∧ P (.returned (.agg #[.int .i64 1, .int .i64 v, (.slice none 0 0), (.complex .f64 0 0)])) wy) := by
      have hg := grown_setRow w3 b4 (aggC 1 v (.slice none 0 0) (.complex .f64 0 0)); obtain ⟨h0, h1, h2, h3, h4⟩ := H3a.out; rw [hwy]
      refine Lib.hid ⟨h2.reset _ _ _ _, HPz.out _ (.slice none 0 0) (.complex .f64 0 0) v [] 0 0 (HI3.out.grown hg HN4.out) HZw.out (h4.trans (below_set hg (by omega) h4.size)) ?_⟩
      simp [oneL, oneA]
    rw [← hwy]; clear hwy y0 y1 y2 y3; go_wp2_with (fail); exact bodyPost_ret (v := .agg (aggC 1 v (.slice none 0 0) (.complex .f64 0 0))) (results_cell_row (p := 4) (ty := 53) rfl _ _ b4 53 (aggC 1 v (.slice none 0 0) (.complex .f64 0 0)) (0, 0) _ rfl HZ.out.1 Tryz.underlying53 rfl agg_size) rfl HZ.out.2
  have e4 : (agg == 4) = false := by simpa using h4
  by_cases h5 : agg = 5
  · subst h5; clear h2 h3 h4
    go_upto_region 7 with (fail)
    refine wp_region_lit ?_
    iterate 6 go_step
    refine wpList_store1 rfl _ (.tmp 15) (.tmp 14) rfl ⟨b5, 1, none⟩ (.int .i64 v) (.int .i64 0) rfl rfl rfl rfl Tryz.sizeOf3 x1 (RowA.fro H2.out.2.2.2.1 1) ?_; obtain ⟨w3, hw⟩ : ∃ W, W = (w2).setCell ⟨b5, 1, none⟩ (.int .i64 v) := ⟨_, rfl⟩
    have H3 : Hid (OneSt w qb b4 b5 Q v (.slice none 0 0) (.complex .f64 0 0) w3 ∧ (w2).grownBy w3 (some b5)) := by
      have hg : (w2).grownBy w3 (some b5) := by rw [hw]; exact grown_setCell _ _ _ _
      exact Lib.hid ⟨H2.out.turn hg (by rw [hw]; exact RowA.set1 H2.out.2.2.2.1 v), hg⟩
    rw [← hw]; clear hw; have HI3 : Hid (IntsAt w3 (.slice none 0 0) []) := Lib.hid (IntsAt.nil _); have H3a := Lib.hid H3.out.1; clear d0 d1 d2 d3 d4 d5 x0 x1 x2 x3; obtain ⟨y0, y1, y2, y3⟩ := H3a.out.2.2.2.1.d4
    go_upto_region 12 with (fail)
    refine wp_region_lit ?_
    iterate 3 go_step
    refine wpList_store_row rfl _ _ _ rfl b4 (aggC 1 v (.slice none 0 0) (.complex .f64 0 0)) rfl rfl 53 zeroC H3a.out.2.2.1 agg_size rfl (agg_oneW HI3.out HZw.out) ?_; obtain ⟨wy, hwy⟩ : ∃ W, W = w3.setRow b4 (aggC 1 v (.slice none 0 0) (.complex .f64 0 0)) := ⟨_, rfl⟩
    have HZ : Hid (RowA wy b4 1 v (.slice none 0 0) (.complex .f64 0 0) ∧ P (.returned (.agg #[.int .i64 1, .int .i64 v, (.slice none 0 0), (.complex .f64 0 0)])) wy) := by
      have hg := grown_setRow w3 b4 (aggC 1 v (.slice none 0 0) (.complex .f64 0 0)); obtain ⟨h0, h1, h2, h3, h4⟩ := H3a.out; rw [hwy]
      refine Lib.hid ⟨h2.reset _ _ _ _, HPz.out _ (.slice none 0 0) (.complex .f64 0 0) v [] 0 0 (HI3.out.grown hg HN4.out) HZw.out (h4.trans (below_set hg (by omega) h4.size)) ?_⟩
      simp [oneL, oneA]
    rw [← hwy]; clear hwy y0 y1 y2 y3; go_wp2_with (fail); exact bodyPost_ret (v := .agg (aggC 1 v (.slice none 0 0) (.complex .f64 0 0))) (results_cell_row (p := 4) (ty := 53) rfl _ _ b4 53 (aggC 1 v (.slice none 0 0) (.complex .f64 0 0)) (0, 0) _ rfl HZ.out.1 Tryz.underlying53 rfl agg_size) rfl HZ.out.2
  have e5 : (agg == 5) = false := by simpa using h5
  by_cases h6 : agg = 6
  · subst h6; clear h2 h3 h4 h5
    go_upto_region 9 with (fail)
    refine wp_region_lit ?_
    iterate 6 go_step
    obtain ⟨w3, hw3⟩ : ∃ W, W = w2.alloc (.cells #[.int .i64 v] 3) := ⟨_, rfl⟩; obtain ⟨gb, hgb⟩ : ∃ b, b = w2.heap.size := ⟨_, rfl⟩
    have H3 : Hid (OneSt w qb b4 b5 Q 0 (.slice none 0 0) (.complex .f64 0 0) w3) := by
      rw [hw3]; exact Lib.hid (H2.out.below ((Below.refl _ w2).alloc (Nat.le_refl _) _))
    have HI3 : Hid (IntsAt w3 (.slice (some ⟨gb, 0, none⟩) 1 1) [v] ∧ b5 < gb) := by
      refine Lib.hid ⟨⟨_, 1, rfl, Nat.le_refl _, .inr ⟨gb, 0, rfl, .inr ⟨_, by rw [hw3, hgb]; exact heap_alloc_new w2 _⟩, fun i x hx => ?_⟩⟩, by rw [hgb]; exact H2.out.2.2.2.1.lt⟩
      cases i with
      | zero =>
        simp only [List.getElem?_cons_zero, Option.some.injEq] at hx; subst hx; rw [hw3, hgb, cell_of_row _ _ _ _ _ _ (heap_alloc_new w2 _)]; rfl
      | succ i => simp at hx
    rw [← hw3, ← hgb]; clear hw3 hgb d0 d1 d2 d3 d4 d5 x0 x1 x2 x3; obtain ⟨x0, x1, x2, x3⟩ := H3.out.2.2.2.1.d4
    iterate 3 go_step
    refine wpList_store1 rfl _ (.tmp 20) (.tmp 19) rfl ⟨b5, 2, none⟩ (.slice (some ⟨gb, 0, none⟩) 1 1) (.slice none 0 0) rfl rfl rfl rfl Tryz.sizeOf48 x2 (RowA.fro H3.out.2.2.2.1 2) ?_; obtain ⟨w4, hw⟩ : ∃ W, W = (w3).setCell ⟨b5, 2, none⟩ (.slice (some ⟨gb, 0, none⟩) 1 1) := ⟨_, rfl⟩
    have H4 : Hid (OneSt w qb b4 b5 Q 0 (.slice (some ⟨gb, 0, none⟩) 1 1) (.complex .f64 0 0) w4 ∧ (w3).grownBy w4 (some b5)) := by
      have hg : (w3).grownBy w4 (some b5) := by rw [hw]; exact grown_setCell _ _ _ _
      exact Lib.hid ⟨H3.out.turn hg (by rw [hw]; exact RowA.set2 H3.out.2.2.2.1 (.slice (some ⟨gb, 0, none⟩) 1 1)), hg⟩
    rw [← hw]; clear hw
    have HI4 : Hid (IntsAt w4 (.slice (some ⟨gb, 0, none⟩) 1 1) [v]) := Lib.hid (HI3.out.1.grown H4.out.2 (fun a n c e _ => by injection e with e1; injection e1 with e1; rw [← e1]; have := HI3.out.2; show gb ≠ b5; omega))
    have HN4' : Hid (∀ a n c, Value.slice (some ⟨gb, 0, none⟩) 1 1 = .slice (some a) n c → [v] ≠ [] → a.block ≠ b4) := Lib.hid (fun a n c e _ => by injection e with e1; injection e1 with e1; rw [← e1]; have := HI3.out.2; have := H3.out.1; show gb ≠ b4; omega)
    have H4a := Lib.hid H4.out.1; clear x0 x1 x2 x3; obtain ⟨y0, y1, y2, y3⟩ := H4a.out.2.2.2.1.d4
    go_upto_region 12 with (fail)
    refine wp_region_lit ?_
    iterate 3 go_step
    refine wpList_store_row rfl _ _ _ rfl b4 (aggC 1 0 (.slice (some ⟨gb, 0, none⟩) 1 1) (.complex .f64 0 0)) rfl rfl 53 zeroC H4a.out.2.2.1 agg_size rfl (agg_oneW HI4.out HZw.out) ?_; obtain ⟨wy, hwy⟩ : ∃ W, W = w4.setRow b4 (aggC 1 0 (.slice (some ⟨gb, 0, none⟩) 1 1) (.complex .f64 0 0)) := ⟨_, rfl⟩
    have HZ : Hid (RowA wy b4 1 0 (.slice (some ⟨gb, 0, none⟩) 1 1) (.complex .f64 0 0) ∧ P (.returned (.agg #[.int .i64 1, .int .i64 0, (.slice (some ⟨gb, 0, none⟩) 1 1), (.complex .f64 0 0)])) wy) := by
      have hg := grown_setRow w4 b4 (aggC 1 0 (.slice (some ⟨gb, 0, none⟩) 1 1) (.complex .f64 0 0)); obtain ⟨h0, h1, h2, h3, h4⟩ := H4a.out; rw [hwy]
      refine Lib.hid ⟨h2.reset _ _ _ _, HPz.out _ (.slice (some ⟨gb, 0, none⟩) 1 1) (.complex .f64 0 0) 0 [v] 0 0 (HI4.out.grown hg HN4'.out) HZw.out (h4.trans (below_set hg (by omega) h4.size)) ?_⟩
      simp [oneL, oneA]
    rw [← hwy]; clear hwy y0 y1 y2 y3; go_wp2_with (fail); exact bodyPost_ret (v := .agg (aggC 1 0 (.slice (some ⟨gb, 0, none⟩) 1 1) (.complex .f64 0 0))) (results_cell_row (p := 4) (ty := 53) rfl _ _ b4 53 (aggC 1 0 (.slice (some ⟨gb, 0, none⟩) 1 1) (.complex .f64 0 0)) (0, 0) _ rfl HZ.out.1 Tryz.underlying53 rfl agg_size) rfl HZ.out.2
  have e6 : (agg == 6) = false := by simpa using h6
  by_cases h7 : agg = 7
  · subst h7; clear h2 h3 h4 h5 h6; obtain ⟨tu, htu⟩ : ∃ x, x = (turnP v).1 := ⟨_, rfl⟩; obtain ⟨tw, htw⟩ : ∃ x, x = (turnP v).2 := ⟨_, rfl⟩
    have HTu : Hid (oneL 7 v = ⟨1, 0, [], tu, tw⟩ ∧ InP tu tw) := by
      refine Lib.hid ⟨by rw [htu, htw]; simp [oneL, oneA], ?_⟩
      have := turnP_bd v; unfold InP; omega
    have HCt : Hid (Calls Tryz.prog 145 #[.int .i64 v] w2 (fun e w' => ∃ z, e = .returned z ∧ CRep z tu tw ∧ w' = w2)) := by
      rw [htu, htw]; exact Lib.hid (turn_any w2 v)
    clear htu htw
    go_upto_region 11 with (fail)
    refine wp_region_lit ?_
    iterate 3 go_step
    refine wpList_plain rfl fun K hK => ?_; go_step; refine HCt.out.mono ?_; rintro e w' ⟨z, rfl, hz, hw'⟩; subst w'; refine hK _ _ ?_; have HWz : Hid (WholeZ z tu tw) := Lib.hid ⟨hz, HTu.out.2⟩; obtain ⟨p, q, rfl, _, _⟩ := hz; clear hK
    iterate 3 go_step
    refine wpList_store1 rfl _ (.tmp 25) (.tmp 24) rfl ⟨b5, 3, none⟩ (.complex .f64 p q) (.complex .f64 0 0) rfl rfl rfl rfl Tryz.sizeOf51 x3 (RowA.fro H2.out.2.2.2.1 3) ?_; obtain ⟨w3, hw⟩ : ∃ W, W = (w2).setCell ⟨b5, 3, none⟩ (.complex .f64 p q) := ⟨_, rfl⟩
    have H3 : Hid (OneSt w qb b4 b5 Q 0 (.slice none 0 0) (.complex .f64 p q) w3 ∧ (w2).grownBy w3 (some b5)) := by
      have hg : (w2).grownBy w3 (some b5) := by rw [hw]; exact grown_setCell _ _ _ _
      exact Lib.hid ⟨H2.out.turn hg (by rw [hw]; exact RowA.set3 H2.out.2.2.2.1 (.complex .f64 p q)), hg⟩
    rw [← hw]; clear hw; have HI3 : Hid (IntsAt w3 (.slice none 0 0) []) := Lib.hid (IntsAt.nil _); have H3a := Lib.hid H3.out.1; clear d0 d1 d2 d3 d4 d5 x0 x1 x2 x3; obtain ⟨y0, y1, y2, y3⟩ := H3a.out.2.2.2.1.d4
    go_upto_region 12 with (fail)
    refine wp_region_lit ?_
    iterate 3 go_step
    refine wpList_store_row rfl _ _ _ rfl b4 (aggC 1 0 (.slice none 0 0) (.complex .f64 p q)) rfl rfl 53 zeroC H3a.out.2.2.1 agg_size rfl (agg_oneW HI3.out HWz.out) ?_; obtain ⟨wy, hwy⟩ : ∃ W, W = w3.setRow b4 (aggC 1 0 (.slice none 0 0) (.complex .f64 p q)) := ⟨_, rfl⟩
    have HZ : Hid (RowA wy b4 1 0 (.slice none 0 0) (.complex .f64 p q) ∧ P (.returned (.agg #[.int .i64 1, .int .i64 0, (.slice none 0 0), (.complex .f64 p q)])) wy) := by
      have hg := grown_setRow w3 b4 (aggC 1 0 (.slice none 0 0) (.complex .f64 p q)); obtain ⟨h0, h1, h2, h3, h4⟩ := H3a.out; rw [hwy]
      refine Lib.hid ⟨h2.reset _ _ _ _, HPz.out _ (.slice none 0 0) (.complex .f64 p q) 0 [] tu tw (HI3.out.grown hg HN4.out) HWz.out (h4.trans (below_set hg (by omega) h4.size)) ?_⟩
      exact HTu.out.1
    rw [← hwy]; clear hwy y0 y1 y2 y3; go_wp2_with (fail); exact bodyPost_ret (v := .agg (aggC 1 0 (.slice none 0 0) (.complex .f64 p q))) (results_cell_row (p := 4) (ty := 53) rfl _ _ b4 53 (aggC 1 0 (.slice none 0 0) (.complex .f64 p q)) (0, 0) _ rfl HZ.out.1 Tryz.underlying53 rfl agg_size) rfl HZ.out.2
  have e7 : (agg == 7) = false := by simpa using h7
  have HEq : Hid (oneL agg v = ⟨1, 0, [], 0, 0⟩) := Lib.hid (by simp [oneL, oneA, h2, h3, h4, h5, h6, h7])
  have HI2 : Hid (IntsAt w2 (.slice none 0 0) []) := Lib.hid (IntsAt.nil _); clear h2 h3 h4 h5 h6 h7 x0 x1 x2 x3; obtain ⟨y0, y1, y2, y3⟩ := H2.out.2.2.2.1.d4
  go_upto_region 12 with (fail)
  refine wp_region_lit ?_
  iterate 3 go_step
  refine wpList_store_row rfl _ _ _ rfl b4 (aggC 1 0 (.slice none 0 0) (.complex .f64 0 0)) rfl rfl 53 zeroC H2.out.2.2.1 agg_size rfl (agg_oneW HI2.out HZw.out) ?_; obtain ⟨wy, hwy⟩ : ∃ W, W = w2.setRow b4 (aggC 1 0 (.slice none 0 0) (.complex .f64 0 0)) := ⟨_, rfl⟩
  have HZ : Hid (RowA wy b4 1 0 (.slice none 0 0) (.complex .f64 0 0) ∧ P (.returned (.agg #[.int .i64 1, .int .i64 0, (.slice none 0 0), (.complex .f64 0 0)])) wy) := by
    have hg := grown_setRow w2 b4 (aggC 1 0 (.slice none 0 0) (.complex .f64 0 0)); obtain ⟨h0, h1, h2, h3, h4⟩ := H2.out; rw [hwy]
    refine Lib.hid ⟨h2.reset _ _ _ _, HPz.out _ (.slice none 0 0) (.complex .f64 0 0) 0 [] 0 0 (HI2.out.grown hg HN4.out) HZw.out (h4.trans (below_set hg (by omega) h4.size)) ?_⟩
    exact HEq.out
  rw [← hwy]; clear hwy y0 y1 y2 y3; go_wp2_with (fail); exact bodyPost_ret (v := .agg (aggC 1 0 (.slice none 0 0) (.complex .f64 0 0))) (results_cell_row (p := 4) (ty := 53) rfl _ _ b4 53 (aggC 1 0 (.slice none 0 0) (.complex .f64 0 0)) (0, 0) _ rfl HZ.out.1 Tryz.underlying53 rfl agg_size) rfl HZ.out.2
end Go.Proofs.YtjeeghafachebaaGreat
namespace Go.Proofs.YtjeeghafachebaaGreat
open Go Go.RowKit
def mergeQ (q : QueryL) (x y : AggL) : AggL × Int :=
  if x.rightB q = true ∧ y.rightB q = true then (if togOver q x y = false ∧ (togL q x y).rightB q = true then (togL q x y, 0) else (zeroA, 20)) else (zeroA, 2)
theorem right_facts {q : QueryL} {x : AggL} (h : x.rightB q = true) : q.rightB = true ∧ (0 ≤ x.n ∧ x.n ≤ 1073741824) ∧ (-4398046511104 ≤ x.a ∧ x.a ≤ 4398046511104) ∧ x.top.length ≤ 8 ∧ (0 ≤ q.k ∧ q.k ≤ 8) := by
  rw [rightA_parts] at h; simp only [Bool.and_eq_true, decide_eq_true_eq] at h; obtain ⟨h1, h2, h3, h4, h5, h6⟩ := h; obtain ⟨_, _, _, _, _, ha, hk, hk0⟩ := rightQ_cases h1
  have hkb : 0 ≤ q.k ∧ q.k ≤ 8 := by
    by_cases h : q.agg = 6
    · have := hk h; omega
    · have := hk0 h; omega
  have hm := mostA_bd q.agg; refine ⟨h1, h2, ?_, ?_, hkb⟩
  · unfold mostN at h3
    split at h3 <;> omega
  · unfold topsN at h4
    split at h4 <;> omega
def MgSt (w : World) (qb b1 b2 b6 : Nat) (Q : QueryL) (n1 a1 : Int) (tv1 z1 : Value) (n2 a2 : Int) (tv2 z2 : Value) (w' : World) : Prop :=
  w.heap.size ≤ b6 ∧ RowQ w' qb Q ∧ RowA w' b1 n1 a1 tv1 z1 ∧ RowA w' b2 n2 a2 tv2 z2 ∧ RowA w' b6 0 0 nilV zeroZ ∧ Below w.heap.size w w'
theorem MgSt.below {w : World} {qb b1 b2 b6 : Nat} {Q : QueryL} {n1 a1 : Int} {tv1 z1 : Value} {n2 a2 : Int} {tv2 z2 : Value} {w' w'' : World} (h : MgSt w qb b1 b2 b6 Q n1 a1 tv1 z1 n2 a2 tv2 z2 w') (hB : Below w'.heap.size w' w'') : MgSt w qb b1 b2 b6 Q n1 a1 tv1 z1 n2 a2 tv2 z2 w'' := by
  obtain ⟨h0, h1, h2, h3, h4, h5⟩ := h; exact ⟨h0, h1.below hB, h2.below hB, h3.below hB, h4.below hB, h5.trans (hB.mono h5.size)⟩
set_option maxRecDepth 100000 in
set_option maxHeartbeats 2000000 in
theorem amerge_any (w : World) (q : QueryL) (x y : AggL) (tv1 z1 tv2 z2 : Value) (h1 : IntsAt w tv1 x.top) (h2 : IntsAt w tv2 y.top) (k1 : WholeZ z1 x.u x.v) (k2 : WholeZ z2 y.u y.v) (hn1 : x.top.length ≤ 1000000) (hn2 : y.top.length ≤ 1000000) :
    Calls Tryz.prog 99 #[.agg q.cells, .agg (aggC x.n x.a tv1 z1), .agg (aggC y.n y.a tv2 z2)] w (AggEnd w (mergeQ q x y).1 (mergeQ q x y).2) := by
  obtain ⟨P, hP⟩ : ∃ P, P = AggEnd w (mergeQ q x y).1 (mergeQ q x y).2 := ⟨_, rfl⟩; rw [← hP]; obtain ⟨r1, hr1⟩ : ∃ b, b = x.rightB q := ⟨_, rfl⟩; obtain ⟨r2, hr2⟩ : ∃ b, b = y.rightB q := ⟨_, rfl⟩; obtain ⟨m, hm⟩ : ∃ m, m = togL q x y := ⟨_, rfl⟩; obtain ⟨er, her⟩ : ∃ e, e = togE q x y := ⟨_, rfl⟩; obtain ⟨r3, hr3⟩ : ∃ b, b = m.rightB q := ⟨_, rfl⟩
  have HZe : Hid (∀ w' er', Below w.heap.size w w' → mergeQ q x y = (zeroA, er') → P (.returned (.tuple #[.agg #[.int .i64 0, .int .i64 0, .slice none 0 0, .complex .f64 0 0], .int .i64 er'])) w') := by
    refine Lib.hid (fun w' er' hB hq => ?_); rw [hP, hq]
    exact ⟨_, _, rfl, IntsAt.nil _, zeroZ_whole, hB, fun _ _ _ h => by cases h⟩
  have HYe : Hid (∀ w' tv z, IntsAt w' tv m.top → WholeZ z m.u m.v → Below w.heap.size w w' → (∀ a n c, tv = .slice (some a) n c → w.heap.size ≤ a.block) → mergeQ q x y = (m, 0) → P (.returned (.tuple #[.agg #[.int .i64 m.n, .int .i64 m.a, tv, z], .int .i64 0])) w') := by
    refine Lib.hid (fun w' tv z j1 j2 j3 j6 hq => ?_); rw [hP, hq]; exact ⟨tv, z, rfl, j1, j2, j3, j6⟩
  have HEq : Hid (mergeQ q x y = if r1 = true ∧ r2 = true then (if er = 0 ∧ r3 = true then (m, 0) else (zeroA, 20)) else (zeroA, 2)) := by
    rw [mergeQ, ← hr1, ← hr2, ← hm, ← hr3, her, togE]; refine Lib.hid ?_
    cases togOver q x y <;> simp
  obtain ⟨Q, hQ⟩ : ∃ Q, Q = q := ⟨_, rfl⟩
  have HC1 : Hid (∀ w', Below w.heap.size w w' → Calls Tryz.prog 32 #[.agg Q.cells, .agg #[.int .i64 x.n, .int .i64 x.a, tv1, z1]] w' (Below0 w' (.bool r1))) := by
    rw [hr1, hQ]; exact Lib.hid (fun w' h => aright_any w' q x tv1 z1 (h1.below h) k1 hn1)
  have HC2 : Hid (∀ w', Below w.heap.size w w' → Calls Tryz.prog 32 #[.agg Q.cells, .agg #[.int .i64 y.n, .int .i64 y.a, tv2, z2]] w' (Below0 w' (.bool r2))) := by
    rw [hr2, hQ]; exact Lib.hid (fun w' h => aright_any w' q y tv2 z2 (h2.below h) k2 hn2)
  have HC3 : Hid (r1 = true → r2 = true → ∀ w', Below w.heap.size w w' → Calls Tryz.prog 122 #[.agg Q.cells, .agg #[.int .i64 x.n, .int .i64 x.a, tv1, z1], .agg #[.int .i64 y.n, .int .i64 y.a, tv2, z2]] w' (AggEnd w' m er)) := by
    rw [hm, her, hQ]; refine Lib.hid (fun e1 e2 w' h => ?_); obtain ⟨_, f2, f3, f4, f5⟩ := right_facts (hr1.symm.trans e1); obtain ⟨_, g2, g3, g4, _⟩ := right_facts (hr2.symm.trans e2)
    exact atogether_any w' q x y tv1 z1 tv2 z2 (h1.below h) (h2.below h) k1 k2 (by omega) (by omega) ⟨f2, g2, f3, g3⟩
  have HC4 : Hid (r1 = true → r2 = true → ∀ w' tv z, IntsAt w' tv m.top → WholeZ z m.u m.v → Calls Tryz.prog 32 #[.agg Q.cells, .agg #[.int .i64 m.n, .int .i64 m.a, tv, z]] w' (Below0 w' (.bool r3))) := by
    rw [hr3, hQ]; refine Lib.hid (fun e1 e2 w' tv z j1 j2 => aright_any w' q m tv z j1 j2 ?_); obtain ⟨_, _, _, f4, f5⟩ := right_facts (hr1.symm.trans e1); obtain ⟨_, _, _, g4, _⟩ := right_facts (hr2.symm.trans e2); rw [hm, togL]; simp only
    split
    · rw [top_length]; omega
    · simp
  have Her : Hid (er = 0 ∨ er = 20) := by
    rw [her, togE]
    split
    · exact Lib.hid (.inr rfl)
    · exact Lib.hid (.inl rfl)
  obtain ⟨n1, a1, l1, u1, v1⟩ := x; obtain ⟨n2, a2, l2, u2, v2⟩ := y; simp only at HC1 HC2 HC3 ⊢; obtain ⟨w1, hw1⟩ : ∃ W, W = (((w.alloc (.cells q.cells 23)).alloc (.cells (aggC n1 a1 tv1 z1) 53)).alloc (.cells (aggC n2 a2 tv2 z2) 53)).alloc (.cells zeroC 53) := ⟨_, rfl⟩; obtain ⟨qb, hqb⟩ : ∃ b, b = w.heap.size := ⟨_, rfl⟩; obtain ⟨b1, hb1⟩ : ∃ b, b = w.heap.size + 1 := ⟨_, rfl⟩; obtain ⟨b2, hb2⟩ : ∃ b, b = w.heap.size + 2 := ⟨_, rfl⟩; obtain ⟨b6, hb6⟩ : ∃ b, b = w.heap.size + 3 := ⟨_, rfl⟩; have hs1 : (w.alloc (.cells q.cells 23)).heap.size = w.heap.size + 1 := heap_alloc_size w _
  have hs2 : ((w.alloc (.cells q.cells 23)).alloc (.cells (aggC n1 a1 tv1 z1) 53)).heap.size = w.heap.size + 2 := by rw [heap_alloc_size, heap_alloc_size]
  have hs3 : (((w.alloc (.cells q.cells 23)).alloc (.cells (aggC n1 a1 tv1 z1) 53)).alloc (.cells (aggC n2 a2 tv2 z2) 53)).heap.size = w.heap.size + 3 := by rw [heap_alloc_size, heap_alloc_size, heap_alloc_size]
  have H1 : Hid (MgSt w qb b1 b2 b6 Q n1 a1 tv1 z1 n2 a2 tv2 z2 w1) := by
    have h := box_qaa w q n1 a1 tv1 z1 n2 a2 tv2 z2; have hB := (Below.refl _ (((w.alloc (.cells q.cells 23)).alloc (.cells (aggC n1 a1 tv1 z1) 53)).alloc (.cells (aggC n2 a2 tv2 z2) 53))).alloc (Nat.le_refl _) (.cells zeroC 53); rw [← hw1] at hB
    have hz : RowA w1 b6 0 0 nilV zeroZ := by rw [hw1, hb6, ← hs3]; exact heap_alloc_new _ _
    rw [hqb, hb1, hb2, hQ]
    exact Lib.hid ⟨by omega, h.1.below hB, h.2.1.below hB, h.2.2.1.below hB, hz, h.2.2.2.1.trans (hB.mono h.2.2.2.1.size)⟩
  have Hm := Lib.hid hm; clear hP h1 h2 k1 k2 hn1 hn2 hr1 hr2 hr3 hm her; obtain ⟨kind, size, slide, late, agg, k⟩ := q
  have HQe : Hid (Q.cells = #[.int .i64 kind, .int .i64 size, .int .i64 slide, .int .i64 late, .int .i64 agg, .int .i64 k] ∧ ∀ w', RowQ w' qb Q → D6 w' qb kind size slide late agg k) := by
    rw [hQ]; exact Lib.hid ⟨rfl, fun w' h => h.d6⟩
  unfold QueryL.cells at hw1 hs1 hs2 hs3 ⊢; unfold zeroC at hw1; unfold aggC at hw1 hs2 hs3 ⊢; simp only [nilV, zeroZ] at hw1 hs1 hs2 hs3; rw [HQe.out.1] at HC1 HC2 HC3 HC4; obtain ⟨mn, ma, ml, mu, mv⟩ := m; simp only at HYe HC4; clear hQ; obtain ⟨d0, d1, d2, d3, d4, d5⟩ := HQe.out.2 w1 H1.out.2.1; obtain ⟨f0, f1, f2, f3⟩ := H1.out.2.2.1.d4
  go_enter Tryz.func99, Tryz.ntmps99
  go_upto_region 1 with (fail)
  rw [← hw1, ← hb6, ← hb2, ← hb1, ← hqb]; clear hw1 hqb hb1 hb2 hb6 hs1 hs2 hs3; go_wp2_with (fail); refine (HC1.out w1 H1.out.2.2.2.2.2).mono ?_; rintro e w2 ⟨rfl, hB⟩; have H2 : Hid (MgSt w qb b1 b2 b6 Q n1 a1 tv1 z1 n2 a2 tv2 z2 w2) := Lib.hid (H1.out.below hB); clear hB d0 d1 d2 d3 d4 d5 f0 f1 f2 f3 H1 HC1; dsimp only
  cases r1 with
  | false =>
    have hq : mergeQ ⟨kind, size, slide, late, agg, k⟩ ⟨n1, a1, l1, u1, v1⟩ ⟨n2, a2, l2, u2, v2⟩ = (zeroA, 2) := by rw [HEq.out]; simp
    go_upto_region 2 with (fail)
    refine wp_region_lit ?_
    iterate 3 go_step
    refine wpList_store_row rfl _ _ _ rfl b6 zeroC rfl rfl 53 zeroC H2.out.2.2.2.2.1 agg_size rfl (agg_one rfl rfl) ?_; obtain ⟨wy, hwy⟩ : ∃ W, W = w2.setRow b6 zeroC := ⟨_, rfl⟩
    have HZ : Hid (RowA wy b6 0 0 nilV zeroZ ∧ P (.returned (.tuple #[.agg #[.int .i64 0, .int .i64 0, .slice none 0 0, .complex .f64 0 0], .int .i64 2])) wy) := by
      have hg := grown_setRow w2 b6 zeroC; obtain ⟨h0, h1, h2, h3, h4, h5⟩ := H2.out; rw [hwy]; exact Lib.hid ⟨h4.reset _ _ _ _, HZe.out _ 2 (h5.trans (below_set hg h0 h5.size)) hq⟩
    rw [← hwy]; clear hwy hq; go_wp2_with (fail); exact bodyPost_ret (v := .tuple #[.agg zeroC, .int .i64 2]) ((results_cell_row_tmp (p := 6) (u := 7) (ty := 53) rfl _ _ b6 53 zeroC (0, 0) _ rfl HZ.out.1 Tryz.underlying53 rfl agg_size).trans rfl) rfl HZ.out.2
  | true =>
  obtain ⟨d0, d1, d2, d3, d4, d5⟩ := HQe.out.2 w2 H2.out.2.1; obtain ⟨g0, g1, g2, g3⟩ := H2.out.2.2.2.1.d4; go_wp2_with (fail); refine (HC2.out w2 H2.out.2.2.2.2.2).mono ?_; rintro e w3 ⟨rfl, hB⟩; have H3 : Hid (MgSt w qb b1 b2 b6 Q n1 a1 tv1 z1 n2 a2 tv2 z2 w3) := Lib.hid (H2.out.below hB); clear hB d0 d1 d2 d3 d4 d5 g0 g1 g2 g3 H2 HC2; dsimp only
  cases r2 with
  | false =>
    have hq : mergeQ ⟨kind, size, slide, late, agg, k⟩ ⟨n1, a1, l1, u1, v1⟩ ⟨n2, a2, l2, u2, v2⟩ = (zeroA, 2) := by rw [HEq.out]; simp
    go_upto_region 2 with (fail)
    refine wp_region_lit ?_
    iterate 3 go_step
    refine wpList_store_row rfl _ _ _ rfl b6 zeroC rfl rfl 53 zeroC H3.out.2.2.2.2.1 agg_size rfl (agg_one rfl rfl) ?_; obtain ⟨wy, hwy⟩ : ∃ W, W = w3.setRow b6 zeroC := ⟨_, rfl⟩
    have HZ : Hid (RowA wy b6 0 0 nilV zeroZ ∧ P (.returned (.tuple #[.agg #[.int .i64 0, .int .i64 0, .slice none 0 0, .complex .f64 0 0], .int .i64 2])) wy) := by
      have hg := grown_setRow w3 b6 zeroC; obtain ⟨h0, h1, h2, h3, h4, h5⟩ := H3.out; rw [hwy]; exact Lib.hid ⟨h4.reset _ _ _ _, HZe.out _ 2 (h5.trans (below_set hg h0 h5.size)) hq⟩
    rw [← hwy]; clear hwy hq; go_wp2_with (fail); exact bodyPost_ret (v := .tuple #[.agg zeroC, .int .i64 2]) ((results_cell_row_tmp (p := 6) (u := 7) (ty := 53) rfl _ _ b6 53 zeroC (0, 0) _ rfl HZ.out.1 Tryz.underlying53 rfl agg_size).trans rfl) rfl HZ.out.2
  | true =>
  obtain ⟨d0, d1, d2, d3, d4, d5⟩ := HQe.out.2 w3 H3.out.2.1; obtain ⟨f0, f1, f2, f3⟩ := H3.out.2.2.1.d4; obtain ⟨g0, g1, g2, g3⟩ := H3.out.2.2.2.1.d4
  go_upto_region 3 with (fail)
  refine wp_region_lit ?_
  iterate 9 go_step
  refine wpList_plain rfl fun K hK => ?_; go_step
  refine (HC3.out (by simp) (by simp) w3 H3.out.2.2.2.2.2).mono ?_
  rintro e w4 ⟨tv, z, rfl, hI, hW, hB, hnb⟩
  have HNb : Hid ((∀ a n c, tv = .slice (some a) n c → w.heap.size ≤ a.block) ∧ ∀ a n c, tv = .slice (some a) n c → ml ≠ [] → a.block ≠ b6) := by
    have l6 := H3.out.2.2.2.2.1.lt; have l0 := H3.out.1
    exact Lib.hid ⟨fun a n c e => by have := hnb a n c e; omega, fun a n c e _ => by have := hnb a n c e; omega⟩
  refine hK _ _ ?_; have H4 : Hid (MgSt w qb b1 b2 b6 Q n1 a1 tv1 z1 n2 a2 tv2 z2 w4 ∧ IntsAt w4 tv ml ∧ WholeZ z mu mv) := Lib.hid ⟨H3.out.below hB, hI, hW⟩; unfold aggC; simp only; clear hK hB hI hW hnb d0 d1 d2 d3 d4 d5 f0 f1 f2 f3 g0 g1 g2 g3 H3 HC3
  iterate 12 go_step
  refine wpList_store_row rfl _ _ _ rfl w4.heap.size (aggC mn ma tv z) rfl rfl 53 zeroC (heap_alloc_new w4 _) agg_size rfl (agg_oneW H4.out.2.1 H4.out.2.2) ?_; obtain ⟨w5, hw5⟩ : ∃ W, W = (w4.alloc (Obj.cells #[.int .i64 0, .int .i64 0, .slice none 0 0, .complex .f64 0 0] 53)).setRow w4.heap.size (aggC mn ma tv z) := ⟨_, rfl⟩; obtain ⟨b8, hb8⟩ : ∃ b, b = w4.heap.size := ⟨_, rfl⟩
  have H5 : Hid (MgSt w qb b1 b2 b6 Q n1 a1 tv1 z1 n2 a2 tv2 z2 w5 ∧ IntsAt w5 tv ml ∧ WholeZ z mu mv ∧ RowA w5 b8 mn ma tv z ∧ b6 < b8) := by
    obtain ⟨k1, k2⟩ := stored_agg w4 mn ma tv z; rw [hw5, hb8]; exact Lib.hid ⟨H4.out.1.below k2, H4.out.2.1.below k2, H4.out.2.2, k1, H4.out.1.2.2.2.2.1.lt⟩
  rw [← hw5, ← hb8]; clear hw5 hb8 H4
  rcases Her.out with rfl | rfl
  · obtain ⟨d0, d1, d2, d3, d4, d5⟩ := HQe.out.2 w5 H5.out.1.2.1; obtain ⟨f0, f1, f2, f3⟩ := H5.out.2.2.2.1.d4; go_wp2_with (fail)
    refine (HC4.out (by simp) (by simp) w5 tv z H5.out.2.1 H5.out.2.2.1).mono ?_
    rintro e w6 ⟨rfl, hB⟩
    have H6 : Hid (MgSt w qb b1 b2 b6 Q n1 a1 tv1 z1 n2 a2 tv2 z2 w6 ∧ IntsAt w6 tv ml ∧ WholeZ z mu mv ∧ RowA w6 b8 mn ma tv z ∧ b6 < b8) := by
      obtain ⟨j1, j2, j3, j4, j5⟩ := H5.out; exact Lib.hid ⟨j1.below hB, j2.below hB, j3, j4.below hB, j5⟩
    clear hB d0 d1 d2 d3 d4 d5 f0 f1 f2 f3 H5 HC4; dsimp only
    cases r3 with
    | false =>
      have H6' := Lib.hid H6.out.1
      have hq : mergeQ ⟨kind, size, slide, late, agg, k⟩ ⟨n1, a1, l1, u1, v1⟩ ⟨n2, a2, l2, u2, v2⟩ = (zeroA, 20) := by rw [HEq.out]; simp
      go_upto_region 5 with (fail)
      refine wp_region_lit ?_
      iterate 3 go_step
      refine wpList_store_row rfl _ _ _ rfl b6 zeroC rfl rfl 53 zeroC H6'.out.2.2.2.2.1 agg_size rfl (agg_one rfl rfl) ?_; obtain ⟨wy, hwy⟩ : ∃ W, W = w6.setRow b6 zeroC := ⟨_, rfl⟩
      have HZ : Hid (RowA wy b6 0 0 nilV zeroZ ∧ P (.returned (.tuple #[.agg #[.int .i64 0, .int .i64 0, .slice none 0 0, .complex .f64 0 0], .int .i64 20])) wy) := by
        have hg := grown_setRow w6 b6 zeroC; obtain ⟨h0, h1, h2, h3, h4, h5⟩ := H6'.out; rw [hwy]; exact Lib.hid ⟨h4.reset _ _ _ _, HZe.out _ 20 (h5.trans (below_set hg h0 h5.size)) hq⟩
      rw [← hwy]; clear hwy hq; go_wp2_with (fail); exact bodyPost_ret (v := .tuple #[.agg zeroC, .int .i64 20]) ((results_cell_row_tmp (p := 6) (u := 7) (ty := 53) rfl _ _ b6 53 zeroC (0, 0) _ rfl HZ.out.1 Tryz.underlying53 rfl agg_size).trans rfl) rfl HZ.out.2
    | true =>
      have hq : mergeQ ⟨kind, size, slide, late, agg, k⟩ ⟨n1, a1, l1, u1, v1⟩ ⟨n2, a2, l2, u2, v2⟩ = (⟨mn, ma, ml, mu, mv⟩, 0) := by rw [HEq.out]; rfl
      obtain ⟨f0, f1, f2, f3⟩ := H6.out.2.2.2.1.d4
      go_upto_region 6 with (fail)
      refine wp_region_lit ?_
      iterate 3 go_step
      refine wpList_store_row rfl _ _ _ rfl b6 (aggC mn ma tv z) rfl rfl 53 zeroC H6.out.1.2.2.2.2.1 agg_size rfl (agg_oneW H6.out.2.1 H6.out.2.2.1) ?_; obtain ⟨wy, hwy⟩ : ∃ W, W = w6.setRow b6 (aggC mn ma tv z) := ⟨_, rfl⟩
      have HZ : Hid (RowA wy b6 mn ma tv z ∧ P (.returned (.tuple #[.agg #[.int .i64 mn, .int .i64 ma, tv, z], .int .i64 0])) wy) := by
        have hg := grown_setRow w6 b6 (aggC mn ma tv z); obtain ⟨⟨h0, h1, h2, h3, h4, h5⟩, j2, j3, j4, j5⟩ := H6.out; rw [hwy]; refine Lib.hid ⟨h4.reset _ _ _ _, HYe.out _ tv z (j2.grown hg HNb.out.2) j3 (h5.trans (below_set hg h0 h5.size)) HNb.out.1 hq⟩
      rw [← hwy]; clear hwy f0 f1 f2 f3 hq; go_wp2_with (fail); exact bodyPost_ret (v := .tuple #[.agg (aggC mn ma tv z), .int .i64 0]) ((results_cell_row_tmp (p := 6) (u := 7) (ty := 53) rfl _ _ b6 53 (aggC mn ma tv z) (0, 0) _ rfl HZ.out.1 Tryz.underlying53 rfl agg_size).trans rfl) rfl HZ.out.2
  · have H5' := Lib.hid H5.out.1
    have hq : mergeQ ⟨kind, size, slide, late, agg, k⟩ ⟨n1, a1, l1, u1, v1⟩ ⟨n2, a2, l2, u2, v2⟩ = (zeroA, 20) := by rw [HEq.out]; simp
    go_upto_region 5 with (fail)
    refine wp_region_lit ?_
    iterate 3 go_step
    refine wpList_store_row rfl _ _ _ rfl b6 zeroC rfl rfl 53 zeroC H5'.out.2.2.2.2.1 agg_size rfl (agg_one rfl rfl) ?_; obtain ⟨wy, hwy⟩ : ∃ W, W = w5.setRow b6 zeroC := ⟨_, rfl⟩
    have HZ : Hid (RowA wy b6 0 0 nilV zeroZ ∧ P (.returned (.tuple #[.agg #[.int .i64 0, .int .i64 0, .slice none 0 0, .complex .f64 0 0], .int .i64 20])) wy) := by
      have hg := grown_setRow w5 b6 zeroC; obtain ⟨h0, h1, h2, h3, h4, h5⟩ := H5'.out; rw [hwy]; exact Lib.hid ⟨h4.reset _ _ _ _, HZe.out _ 20 (h5.trans (below_set hg h0 h5.size)) hq⟩
    rw [← hwy]; clear hwy hq; go_wp2_with (fail); exact bodyPost_ret (v := .tuple #[.agg zeroC, .int .i64 20]) ((results_cell_row_tmp (p := 6) (u := 7) (ty := 53) rfl _ _ b6 53 zeroC (0, 0) _ rfl HZ.out.1 Tryz.underlying53 rfl agg_size).trans rfl) rfl HZ.out.2
end Go.Proofs.YtjeeghafachebaaGreat
namespace Go.Proofs.YtjeeghafachebaaGreat
open Go Go.RowKit
def addQ (q : QueryL) (x : AggL) (v : Int) : AggL × Int := if withinB v 1099511627776 = true then mergeQ q x (oneL q.agg v) else (zeroA, 2)
def AdSt (w : World) (qb b1 b6 : Nat) (q : QueryL) (x : AggL) (tv1 z1 : Value) (w' : World) : Prop :=
  (w.heap.size ≤ b6 ∧ qb < b6 ∧ b1 < b6) ∧ RowQ w' qb q ∧ RowA w' b1 x.n x.a tv1 z1 ∧ RowA w' b6 0 0 nilV zeroZ ∧ Below w.heap.size w w'
theorem AdSt.below {w : World} {qb b1 b6 : Nat} {q : QueryL} {x : AggL} {tv1 z1 : Value} {w' w'' : World} (h : AdSt w qb b1 b6 q x tv1 z1 w') (hB : Below w'.heap.size w' w'') : AdSt w qb b1 b6 q x tv1 z1 w'' := by
  obtain ⟨h0, h1, h2, h3, h4⟩ := h; exact ⟨h0, h1.below hB, h2.below hB, h3.below hB, h4.trans (hB.mono h4.size)⟩
def AdV (b6 : Nat) (m : AggL) (w' : World) (tv z : Value) : Prop := IntsAt w' tv m.top ∧ WholeZ z m.u m.v ∧ ∀ a n c, tv = .slice (some a) n c → b6 < a.block
def AdG (w : World) (qb b1 b6 : Nat) (q : QueryL) (x : AggL) (tv1 z1 : Value) (m : AggL) : Nat → World → Prop
  | 0, w' => AdSt w qb b1 b6 q x tv1 z1 w'
  | 1, w' => AdSt w qb b1 b6 q x tv1 z1 w'
  | 2, w' => AdSt w qb b1 b6 q x tv1 z1 w'
  | _ + 3, w' => ∃ tv z, RowA w' b6 m.n m.a tv z ∧ AdV b6 m w' tv z ∧ Below w.heap.size w w' ∧ RowQ w' qb q ∧ RowA w' b1 x.n x.a tv1 z1
set_option maxRecDepth 100000 in
set_option maxHeartbeats 2000000 in
theorem aadd_any (w : World) (q : QueryL) (x : AggL) (tv1 z1 : Value) (v : Int) (h1 : IntsAt w tv1 x.top) (k1 : WholeZ z1 x.u x.v) (hn1 : x.top.length ≤ 1000000) :
    Calls Tryz.prog 100 #[.agg q.cells, .agg (aggC x.n x.a tv1 z1), .int .i64 v] w (AggEnd w (addQ q x v).1 (addQ q x v).2) := by
  obtain ⟨P, hP⟩ : ∃ P, P = AggEnd w (addQ q x v).1 (addQ q x v).2 := ⟨_, rfl⟩; rw [← hP]; obtain ⟨r1, hr1⟩ : ∃ b, b = withinB v 1099511627776 := ⟨_, rfl⟩; obtain ⟨o, ho⟩ : ∃ m, m = oneL q.agg v := ⟨_, rfl⟩; obtain ⟨m, hm⟩ : ∃ m, m = (mergeQ q x o).1 := ⟨_, rfl⟩; obtain ⟨er, her⟩ : ∃ e, e = (mergeQ q x o).2 := ⟨_, rfl⟩
  have HZe : Hid (∀ w' er', Below w.heap.size w w' → addQ q x v = (zeroA, er') → P (.returned (.tuple #[.agg #[.int .i64 0, .int .i64 0, .slice none 0 0, .complex .f64 0 0], .int .i64 er'])) w') := by
    refine Lib.hid (fun w' er' hB hq => ?_); rw [hP, hq]
    exact ⟨_, _, rfl, IntsAt.nil _, zeroZ_whole, hB, fun _ _ _ h => by cases h⟩
  have HEq : Hid (addQ q x v = if r1 = true then (m, er) else (zeroA, 2)) := by
    rw [addQ, ← hr1, ← ho, hm, her]; exact Lib.hid rfl
  have HYe : Hid (∀ w' tv z b6, w.heap.size ≤ b6 → AdV b6 m w' tv z → Below w.heap.size w w' → r1 = true → P (.returned (.tuple #[.agg (aggC m.n m.a tv z), .int .i64 er])) w') := by
    refine Lib.hid (fun w' tv z b6 j0 j1 j2 j3 => ?_); rw [hP, HEq.out, if_pos j3]
    exact ⟨tv, z, rfl, j1.1, j1.2.1, j2, fun a n c e => by have := j1.2.2 a n c e; omega⟩
  have HC1 : Hid (∀ w', Calls Tryz.prog 55 #[.int .i64 v, .int .i64 1099511627776] w' (fun e w'' => e = .returned (.bool r1) ∧ w'' = w')) := by
    rw [hr1]
    exact Lib.hid (fun w' => awithin_any w' v _ (by decide))
  obtain ⟨VQ, hVQ⟩ : ∃ V, V = Value.agg q.cells := ⟨_, rfl⟩; obtain ⟨VA, hVA⟩ : ∃ V, V = Value.agg (aggC x.n x.a tv1 z1) := ⟨_, rfl⟩
  have HC2 : Hid (∀ w', Calls Tryz.prog 123 #[VQ, .int .i64 v] w' (AggOne w' o)) := by
    rw [ho, hVQ]; exact Lib.hid (fun w' => aone_any w' q v)
  have HC3 : Hid (∀ w' tv z, Below w.heap.size w w' → IntsAt w' tv o.top → WholeZ z o.u o.v → Calls Tryz.prog 99 #[VQ, VA, .agg (aggC o.n o.a tv z)] w' (AggEnd w' m er)) := by
    rw [hm, her, hVQ, hVA]; refine Lib.hid (fun w' tv z hB j1 j2 => amerge_any w' q x o tv1 z1 tv z (h1.below hB) j1 k1 j2 hn1 ?_); rw [ho, oneL]; simp only
    split <;> simp
  obtain ⟨w1, hw1⟩ : ∃ W, W = ((w.alloc (.cells q.cells 23)).alloc (.cells (aggC x.n x.a tv1 z1) 53)).alloc (.cells zeroC 53) := ⟨_, rfl⟩; obtain ⟨qb, hqb⟩ : ∃ b, b = w.heap.size := ⟨_, rfl⟩; obtain ⟨b1, hb1⟩ : ∃ b, b = w.heap.size + 1 := ⟨_, rfl⟩; obtain ⟨b6, hb6⟩ : ∃ b, b = w.heap.size + 2 := ⟨_, rfl⟩; have hs1 : (w.alloc (.cells q.cells 23)).heap.size = w.heap.size + 1 := heap_alloc_size w _
  have hs2 : ((w.alloc (.cells q.cells 23)).alloc (.cells (aggC x.n x.a tv1 z1) 53)).heap.size = w.heap.size + 2 := by rw [heap_alloc_size, heap_alloc_size]
  have H1 : Hid (AdSt w qb b1 b6 q x tv1 z1 w1) := by
    have h := box_qa w q x.n x.a tv1 z1; have hB := (Below.refl _ ((w.alloc (.cells q.cells 23)).alloc (.cells (aggC x.n x.a tv1 z1) 53))).alloc (Nat.le_refl _) (.cells zeroC 53); rw [← hw1] at hB
    have hz : RowA w1 b6 0 0 nilV zeroZ := by rw [hw1, hb6, ← hs2]; exact heap_alloc_new _ _
    rw [hqb, hb1]
    exact Lib.hid ⟨⟨by omega, by omega, by omega⟩, h.1.below hB, h.2.1.below hB, hz, h.2.2.trans (hB.mono h.2.2.size)⟩
  clear hP h1 k1 hn1 hr1 hm her ho; obtain ⟨kind, size, slide, late, agg, kq⟩ := q; obtain ⟨n1, a1, l1, u1, v1⟩ := x; have HVQ : Hid (VQ = .agg #[.int .i64 kind, .int .i64 size, .int .i64 slide, .int .i64 late, .int .i64 agg, .int .i64 kq]) := Lib.hid hVQ; have HVA : Hid (VA = .agg #[.int .i64 n1, .int .i64 a1, tv1, z1]) := Lib.hid hVA; clear hVQ hVA; obtain ⟨Q, hQ⟩ : ∃ Q, Q = QueryL.mk kind size slide late agg kq := ⟨_, rfl⟩; obtain ⟨X, hX⟩ : ∃ X, X = AggL.mk n1 a1 l1 u1 v1 := ⟨_, rfl⟩
  have HRq : Hid (∀ w', RowQ w' qb Q → D6 w' qb kind size slide late agg kq) := by
    rw [hQ]; exact Lib.hid (fun w' h => h.d6)
  have HRa : Hid (∀ w', RowA w' b1 X.n X.a tv1 z1 → D4 w' b1 n1 a1 tv1 z1) := by
    rw [hX]; exact Lib.hid (fun w' h => h.d4)
  rw [← hQ, ← hX] at H1 HEq HZe; simp only at hw1 hs2; clear hQ hX; unfold QueryL.cells at hw1 hs1 hs2 ⊢; unfold zeroC at hw1; unfold aggC at hw1 hs2 ⊢; simp only [nilV, zeroZ] at hw1 hs1 hs2 ⊢
  go_enter Tryz.func100, Tryz.ntmps100
  go_upto_region 1 with (fail)
  rw [← hw1, ← hb6, ← hb1, ← hqb]; clear hw1 hqb hb1 hb6 hs1 hs2; go_wp2_with (fail); refine (HC1.out w1).mono ?_; rintro e w2 ⟨rfl, hw2⟩; subst w2; clear HC1; dsimp only
  cases r1 with
  | false =>
    have hq : addQ Q X v = (zeroA, 2) := by rw [HEq.out]; simp
    go_upto_region 2 with (fail)
    refine wp_region_lit ?_
    iterate 3 go_step
    refine wpList_store_row rfl _ _ _ rfl b6 zeroC rfl rfl 53 zeroC H1.out.2.2.2.1 agg_size rfl (agg_one rfl rfl) ?_; obtain ⟨wy, hwy⟩ : ∃ W, W = w1.setRow b6 zeroC := ⟨_, rfl⟩
    have HZ : Hid (RowA wy b6 0 0 nilV zeroZ ∧ P (.returned (.tuple #[.agg #[.int .i64 0, .int .i64 0, .slice none 0 0, .complex .f64 0 0], .int .i64 2])) wy) := by
      have hg := grown_setRow w1 b6 zeroC; obtain ⟨h0, h1, h2, h3, h4⟩ := H1.out; rw [hwy]; exact Lib.hid ⟨h3.reset _ _ _ _, HZe.out _ 2 (h4.trans (below_set hg h0.1 h4.size)) hq⟩
    rw [← hwy]; clear hwy hq; go_wp2_with (fail); exact bodyPost_ret (v := .tuple #[.agg zeroC, .int .i64 2]) ((results_cell_row_tmp (p := 6) (u := 7) (ty := 53) rfl _ _ b6 53 zeroC (0, 0) _ rfl HZ.out.1 Tryz.underlying53 rfl agg_size).trans rfl) rfl HZ.out.2
  | true =>
  have HG0 : Hid (AdG w qb b1 b6 Q X tv1 z1 m 0 w1.drew) := Lib.hid (H1.out.below (Below.refl _ w1).drew)
  have HGq : Hid (∀ k w', AdG w qb b1 b6 Q X tv1 z1 m k w' → RowQ w' qb Q) := Lib.hid (fun k w' h => match k, h with
    | 0, h => h.2.1
    | 1, h => h.2.1
    | 2, h => h.2.1
    | _ + 3, ⟨_, _, _, _, _, h, _⟩ => h)
  have HGa : Hid (∀ k w', AdG w qb b1 b6 Q X tv1 z1 m k w' → RowA w' b1 X.n X.a tv1 z1) := Lib.hid (fun k w' h => match k, h with
    | 0, h => h.2.2.1
    | 1, h => h.2.2.1
    | 2, h => h.2.2.1
    | _ + 3, ⟨_, _, _, _, _, _, h⟩ => h)
  have HBd : Hid (w.heap.size ≤ b6) := Lib.hid H1.out.1.1; clear H1
  go_upto_region 3 with (fail)
  refine wp_region_skip_frame (fun i => ([] : List Nat).contains i) (by kernel_rfl) [none, none, none, none, some 0, some 1, none, none, some 2, none] [4, 5, 8] (V4 (VQ :: VA :: VQ :: (Value.int .i64 v) :: undef :: undef :: undef :: (Value.int .i64 er) :: undef :: (Value.int .i64 er) :: ([] : List Value)) 4 (fun k w' v => k = 1 → ∃ tv z, v = .agg (aggC o.n o.a tv z) ∧ IntsAt w' tv o.top ∧ WholeZ z o.u o.v) 5 (fun k w' v => 2 ≤ k ∧ ∃ tv z, v = .tuple #[.agg (aggC m.n m.a tv z), .int .i64 er] ∧ (k = 2 → AdV b6 m w' tv z)) 6 (fun k w' v => 2 ≤ k ∧ ∃ tv z, v = .agg (aggC m.n m.a tv z) ∧ (k = 2 → AdV b6 m w' tv z)) 99 (fun _ _ _ => True)) (AdG w qb b1 b6 Q X tv1 z1 m) (fun w w' => Below w.heap.size w w') (V4_le _ (fun k w w' v h ha hk => by obtain ⟨tv, z, h1, h2, h3⟩ := ha hk; exact ⟨tv, z, h1, h2.below h, h3⟩) (fun k w_ w' v h ha => by obtain ⟨hk, tv, z, h1, h2⟩ := ha; exact ⟨hk, tv, z, h1, fun e => ⟨(h2 e).1.below h, (h2 e).2⟩⟩) (fun k w_ w' v h ha => by obtain ⟨hk, tv, z, h1, h2⟩ := ha; exact ⟨hk, tv, z, h1, fun e => ⟨(h2 e).1.below h, (h2 e).2⟩⟩) (fun _ _ _ _ _ h => h)) (by kernel_rfl) (by kernel_rfl) (by kernel_rfl) HG0.out (fun _ => ⟨rfl, rfl, rfl, rfl, rfl, rfl, rfl, rfl, rfl, rfl, trivial⟩) (fun _ h => by simp at h) ?_ ?_
  · refine ⟨?_, ?_, ?_, ?_, ?_, ?_, ?_, ?_, ?_, ?_, trivial⟩
    · intro _ kk a w' hG hout hpre K hK; have q3 := ev_of ((hout 3 rfl).trans (show _ = .pointer (some ⟨qb, 0, none⟩) from rfl)); obtain ⟨d0, d1, d2, d3, d4, d5⟩ := HRq.out _ (HGq.out _ _ hG); clear hout hpre; go_step; exact hK _ _ HVQ.out.symm hG (Below.refl _ _)
    · intro _ kk a w' hG hout hpre K hK; have q4 := ev_of ((hout 4 rfl).trans (show _ = .pointer (some ⟨b1, 0, none⟩) from rfl)); obtain ⟨d0, d1, d2, d3⟩ := HRa.out _ (HGa.out _ _ hG); clear hout hpre; go_step; exact hK _ _ HVA.out.symm hG (Below.refl _ _)
    · intro _ kk a w' hG hout hpre K hK; have q3 := ev_of ((hout 3 rfl).trans (show _ = .pointer (some ⟨qb, 0, none⟩) from rfl)); obtain ⟨d0, d1, d2, d3, d4, d5⟩ := HRq.out _ (HGq.out _ _ hG); clear hout hpre; go_step; exact hK _ _ HVQ.out.symm hG (Below.refl _ _)
    · intro _ kk a w' hG hout hpre K hK; have q2 := ev_of ((hout 2 rfl).trans (show _ = .int .i64 v from rfl)); clear hout hpre; go_step; exact hK _ _ rfl hG (Below.refl _ _)
    · intro _ a w' hG hout hpre K hK; obtain ⟨p0, p1, _⟩ := hpre; have q14 := ev_of (show a.eval (.tmp 14) = VQ from p0); have q15 := ev_of (show a.eval (.tmp 15) = .int .i64 v from p1); have hG1 : AdSt w qb b1 b6 Q X tv1 z1 w' := hG; have HG1 := Lib.hid hG1; clear hout p0 p1 hG hG1; go_step; refine (HC2.out w').mono ?_; rintro e w3 ⟨tv, z, rfl, k1, k2, hB⟩
      exact hK _ _ (fun _ => ⟨tv, z, rfl, k1, k2⟩) (HG1.out.below hB) (V4_keep (.inl rfl) (.inr fun u h => absurd h.1 (by decide)) (.inr fun u h => absurd h.1 (by decide)) (.inr fun _ h => h))
    · intro _ a w' hG hout hpre K hK; obtain ⟨p0, p1, p2, _⟩ := hpre; have q12 := ev_of (show a.eval (.tmp 12) = VQ from p0); have q13 := ev_of (show a.eval (.tmp 13) = VA from p1); obtain ⟨tv, z, hv, k1, k2⟩ := (show (1 = 1) → (∃ tv z, a.eval (.tmp 16) = .agg (aggC o.n o.a tv z) ∧ IntsAt w' tv o.top ∧ WholeZ z o.u o.v) from p2) rfl; have q16 := ev_of hv; have hG1 : AdSt w qb b1 b6 Q X tv1 z1 w' := hG; have HS2 := Lib.hid (HC3.out w' tv z hG1.2.2.2.2 k1 k2); have HG1 := Lib.hid hG1; clear hout p0 p1 p2 hv hG hG1; go_step; refine HS2.out.mono ?_; rintro e w3 ⟨tv3, z3, rfl, j1, j2, hB, hnb⟩
      exact hK _ _ ⟨by decide, tv3, z3, rfl, fun _ => ⟨j1, j2, fun a n c e => Nat.lt_of_lt_of_le HG1.out.2.2.2.1.lt (hnb a n c e)⟩⟩ (HG1.out.below hB) (V4_keep (.inr fun u _ h => absurd h (by decide)) (.inl rfl) (.inr fun u h => absurd h.1 (by decide)) (.inr fun _ h => h))
    · intro _ kk a w' hG hout hpre K hK; obtain ⟨p0, _⟩ := hpre; obtain ⟨hk2, tv, z, hv, hz⟩ := (show 2 ≤ kk ∧ ∃ tv z, a.eval (.tmp 17) = .tuple #[.agg (aggC m.n m.a tv z), .int .i64 er] ∧ (kk = 2 → AdV b6 m w' tv z) from p0); have q17 := ev_of hv; clear hout p0 hv; go_step; exact hK _ _ ⟨hk2, tv, z, rfl, hz⟩ hG (Below.refl _ _)
    · intro _ kk a w' hG hout hpre K hK; obtain ⟨p0, _⟩ := hpre; obtain ⟨hk2, tv, z, hv, hz⟩ := (show 2 ≤ kk ∧ ∃ tv z, a.eval (.tmp 17) = .tuple #[.agg (aggC m.n m.a tv z), .int .i64 er] ∧ (kk = 2 → AdV b6 m w' tv z) from p0); have q17 := ev_of hv; clear hout p0 hv; go_step; exact hK _ _ rfl hG (Below.refl _ _)
    · intro _ a w' hG hout hpre K hK; obtain ⟨p0, _⟩ := hpre; obtain ⟨_, tv, z, hv, hz⟩ := (show 2 ≤ 2 ∧ ∃ tv z, a.eval (.tmp 18) = .agg (aggC m.n m.a tv z) ∧ (2 = 2 → AdV b6 m w' tv z) from p0); obtain ⟨j1, j2, j3⟩ := hz rfl; have q6 := ((hout 6 rfl).trans (show _ = Value.pointer (some ⟨b6, 0, none⟩) from rfl)); obtain ⟨g0, g1, g2, g3, g4⟩ : AdSt w qb b1 b6 Q X tv1 z1 w' := hG; clear hout p0 hz; refine wp_store_row _ (.tmp 6) (.tmp 18) rfl b6 (aggC m.n m.a tv z) q6 hv _ zeroC g3 agg_size rfl (agg_oneW j1 j2) ?_; have hg := grown_setRow w' b6 (aggC m.n m.a tv z); have l6 := g3.lt
      exact hK _ _ rfl ⟨tv, z, g3.reset _ _ _ _, ⟨j1.grown hg (fun a n c e _ => by have := j3 a n c e; omega), j2, j3⟩, g4.trans (below_set hg g0.1 g4.size), (hg.block qb g1.lt (by simp; omega)).trans g1, g2.grown hg (by simp; omega)⟩ (V4_keep (.inr fun u _ h => absurd h (by decide)) (.inr fun u h => ⟨by decide, h.2.imp fun tv h => h.imp fun z h => ⟨h.1, fun e => absurd e (by decide)⟩⟩) (.inr fun u h => ⟨by decide, h.2.imp fun tv h => h.imp fun z h => ⟨h.1, fun e => absurd e (by decide)⟩⟩) (.inr fun _ h => h))
    · intro _ kk a w' hG hout hpre K hK; obtain ⟨p0, _⟩ := hpre; have q19 := ev_of (show a.eval (.tmp 19) = .int .i64 er from p0); clear hout p0; go_step; exact hK _ _ rfl hG (Below.refl _ _)
  · intro vs w2_ hG hlen hV
    match vs, hlen, hV with
    | [v0, v1, v2, v3, v4, v5, v6, v7, v8, v9], _, hV =>
      obtain rfl : v9 = .int .i64 er := hV 9 7 v9 rfl rfl; obtain ⟨tv, z, hr, hv, hB, _⟩ : ∃ tv z, RowA w2_ b6 m.n m.a tv z ∧ AdV b6 m w2_ tv z ∧ Below w.heap.size w w2_ ∧ _ := hG; have HZ : Hid (RowA w2_ b6 m.n m.a tv z ∧ P (.returned (.tuple #[.agg (aggC m.n m.a tv z), .int .i64 er])) w2_) := Lib.hid ⟨hr, HYe.out w2_ tv z b6 HBd.out hv hB rfl⟩; clear hV hr hv hB; simp only [putsL, List.tail_cons, List.headD_cons]; simp only [Act.put, List.setIfInBounds_toArray, List.set_cons_succ, List.set_cons_zero]; go_wp2_with (fail); exact bodyPost_ret (v := .tuple #[.agg (aggC m.n m.a tv z), .int .i64 er]) ((results_cell_row_tmp (p := 6) (u := 7) (ty := 53) rfl _ _ b6 53 (aggC m.n m.a tv z) (0, 0) _ rfl HZ.out.1 Tryz.underlying53 rfl agg_size).trans rfl) rfl HZ.out.2
end Go.Proofs.YtjeeghafachebaaGreat
namespace Go.Proofs.YtjeeghafachebaaGreat
open Go Go.RowKit
def valueQ (q : QueryL) (x : AggL) : List Int :=
  if x.rightB q = true ∧ x.n ≠ 0 then (if q.agg = 1 then [x.n] else if q.agg = 5 then [downQ x.a x.n] else if q.agg = 6 then x.top else if q.agg = 7 then [x.u, x.v] else [x.a]) else []
def IntsEnd (w : World) (l : List Int) (e : Ending) (w' : World) : Prop := ∃ tv, e = .returned tv ∧ IntsAt w' tv l ∧ Below w.heap.size w w' ∧ ∀ a n c, tv = .slice (some a) n c → w.heap.size ≤ a.block
theorem IntsAt.cell1 {w : World} {g : Nat} {x : Int} (h : w.heap[g]? = some (.cells #[.int .i64 x] 3 (0, 0))) : IntsAt w (.slice (some ⟨g, 0, none⟩) 1 1) [x] := by
  refine ⟨_, 1, rfl, Nat.le_refl _, .inr ⟨g, 0, rfl, .inr ⟨_, h⟩, fun i y hy => ?_⟩⟩
  match i, hy with
  | 0, hy =>
    simp only [List.getElem?_cons_zero, Option.some.injEq] at hy; subst hy; rw [cell_of_row _ _ _ _ _ _ h]; rfl
  | i + 1, hy => simp at hy
theorem IntsAt.cell2 {w : World} {g : Nat} {x y : Int} (h : w.heap[g]? = some (.cells #[.int .i64 x, .int .i64 y] 3 (0, 0))) : IntsAt w (.slice (some ⟨g, 0, none⟩) 2 2) [x, y] := by
  refine ⟨_, 2, rfl, Nat.le_refl _, .inr ⟨g, 0, rfl, .inr ⟨_, h⟩, fun i z hz => ?_⟩⟩
  match i, hz with
  | 0, hz =>
    simp only [List.getElem?_cons_zero, Option.some.injEq] at hz; subst hz; rw [cell_of_row _ _ _ _ _ _ h]; rfl
  | 1, hz =>
    simp only [List.getElem?_cons_succ, List.getElem?_cons_zero, Option.some.injEq] at hz; subst hz; rw [cell_of_row _ _ _ _ _ _ h]; rfl
  | i + 2, hz => simp at hz
theorem right_list {q : QueryL} {x : AggL} (h : x.rightB q = true) : x.top.length ≤ 8 := (right_facts h).2.2.2.1
set_option maxRecDepth 100000 in
set_option maxHeartbeats 2000000 in
theorem avalue_any (w : World) (q : QueryL) (x : AggL) (tv1 z1 : Value) (h1 : IntsAt w tv1 x.top) (k1 : WholeZ z1 x.u x.v) (hn1 : x.top.length ≤ 1000000) :
    Calls Tryz.prog 19 #[.agg q.cells, .agg (aggC x.n x.a tv1 z1)] w (IntsEnd w (valueQ q x)) := by
  obtain ⟨P, hP⟩ : ∃ P, P = IntsEnd w (valueQ q x) := ⟨_, rfl⟩; rw [← hP]; obtain ⟨r1, hr1⟩ : ∃ b, b = x.rightB q := ⟨_, rfl⟩
  have HZe : Hid (∀ w', Below w.heap.size w w' → valueQ q x = [] → P (.returned (.slice none 0 0)) w') := by
    refine Lib.hid (fun w' hB hq => ?_); rw [hP, hq]
    exact ⟨_, rfl, IntsAt.nil _, hB, fun _ _ _ h => by cases h⟩
  have HOne : Hid (∀ w' n, Below w.heap.size w w' → valueQ q x = [n] → P (.returned (.slice (some ⟨w'.heap.size, 0, none⟩) 1 1)) (w'.alloc (.cells #[.int .i64 n] 3))) := by
    refine Lib.hid (fun w' n hB hq => ?_); rw [hP, hq]
    exact ⟨_, rfl, IntsAt.cell1 (heap_alloc_new w' _), hB.trans (((Below.refl _ w').alloc (Nat.le_refl _) _).mono hB.size), fun a k c h => by cases h; exact hB.size⟩
  have HTwo : Hid (∀ w' n m, Below w.heap.size w w' → valueQ q x = [n, m] → P (.returned (.slice (some ⟨w'.heap.size, 0, none⟩) 2 2)) (w'.alloc (.cells #[.int .i64 n, .int .i64 m] 3))) := by
    refine Lib.hid (fun w' n m hB hq => ?_); rw [hP, hq]
    exact ⟨_, rfl, IntsAt.cell2 (heap_alloc_new w' _), hB.trans (((Below.refl _ w').alloc (Nat.le_refl _) _).mono hB.size), fun a k c h => by cases h; exact hB.size⟩
  have HTv : Hid (∀ w' tv, IntsAt w' tv x.top → Below w.heap.size w w' → (∀ a n c, tv = .slice (some a) n c → w.heap.size ≤ a.block) → valueQ q x = x.top → P (.returned tv) w') := by
    refine Lib.hid (fun w' tv hI hB hN hq => ?_); rw [hP, hq]; exact ⟨tv, rfl, hI, hB, hN⟩
  have HC1 : Hid (∀ w', Below w.heap.size w w' → Calls Tryz.prog 32 #[.agg q.cells, .agg #[.int .i64 x.n, .int .i64 x.a, tv1, z1]] w' (Below0 w' (.bool r1))) := by
    rw [hr1]; exact Lib.hid (fun w' h => aright_any w' q x tv1 z1 (h1.below h) k1 hn1)
  have HF : Hid (r1 = true → q.rightB = true ∧ (0 ≤ x.n ∧ x.n ≤ 1073741824) ∧ (-4398046511104 ≤ x.a ∧ x.a ≤ 4398046511104)) := Lib.hid (fun e => by
    obtain ⟨f1, f2, f3, _⟩ := right_facts (hr1.symm.trans e)
    exact ⟨f1, f2, f3⟩)
  have HCl : Hid (∀ w', Below w.heap.size w w' → Calls Tryz.prog 34 #[tv1] w' (fun e w'' => ∃ v', e = .returned v' ∧ IntsAt w'' v' x.top ∧ Below w'.heap.size w' w'' ∧ ∀ a n c, v' = .slice (some a) n c → w'.heap.size ≤ a.block)) := Lib.hid (fun w' h => cloneI_any w' tv1 x.top (h1.below h) hn1); have HPa : Hid (∀ w', Calls Tryz.prog 35 #[z1] w' fun e w'' => e = .returned (.tuple #[.int .i64 x.u, .int .i64 x.v]) ∧ w'' = w') := Lib.hid (fun w' => parts_yes w' z1 x.u x.v k1)
  have HEq : Hid (valueQ q x = if r1 = true ∧ x.n ≠ 0 then (if q.agg = 1 then [x.n] else if q.agg = 5 then [downQ x.a x.n] else if q.agg = 6 then x.top else if q.agg = 7 then [x.u, x.v] else [x.a]) else []) := by
    rw [valueQ, ← hr1]; exact Lib.hid rfl
  obtain ⟨n1, a1, l1, u1, v1⟩ := x; simp only at HC1 HOne HTv HF HCl HPa HEq ⊢; obtain ⟨w1, hw1⟩ : ∃ W, W = (w.alloc (.cells q.cells 23)).alloc (.cells (aggC n1 a1 tv1 z1) 53) := ⟨_, rfl⟩; obtain ⟨qb, hqb⟩ : ∃ b, b = w.heap.size := ⟨_, rfl⟩; obtain ⟨b1, hb1⟩ : ∃ b, b = w.heap.size + 1 := ⟨_, rfl⟩; have hs1 : (w.alloc (.cells q.cells 23)).heap.size = w.heap.size + 1 := heap_alloc_size w _; obtain ⟨V, hV⟩ : ∃ V, V = valueQ q ⟨n1, a1, l1, u1, v1⟩ := ⟨_, rfl⟩; rw [← hV] at HZe HOne HTwo HTv HEq; obtain ⟨Q, hQ⟩ : ∃ Q, Q = q := ⟨_, rfl⟩
  have H1 : Hid (RowQ w1 qb Q ∧ RowA w1 b1 n1 a1 tv1 z1 ∧ Below w.heap.size w w1) := by
    have h := box_qa w q n1 a1 tv1 z1; rw [hw1, hqb, hb1, hQ]; exact Lib.hid h
  clear hP h1 k1 hn1 hr1 hV; obtain ⟨kind, size, slide, late, agg, kq⟩ := q
  have HQd : Hid (∀ w', RowQ w' qb Q → D6 w' qb kind size slide late agg kq) := by
    rw [hQ]; exact Lib.hid (fun w' h => h.d6)
  clear hQ; unfold QueryL.cells at hw1 hs1 HC1 ⊢; unfold aggC at hw1 ⊢; simp only at HEq HF; obtain ⟨d0, d1, d2, d3, d4, d5⟩ := HQd.out w1 H1.out.1; obtain ⟨f0, f1, f2, f3⟩ := H1.out.2.1.d4
  go_enter Tryz.func19, Tryz.ntmps19
  go_upto_region 1 with (fail)
  rw [← hw1, ← hb1, ← hqb]; clear hw1 hqb hb1 hs1; go_wp2_with (fail); refine (HC1.out w1 H1.out.2.2).mono ?_; rintro e w2 ⟨rfl, hB⟩
  have H2 : Hid (RowQ w2 qb Q ∧ RowA w2 b1 n1 a1 tv1 z1 ∧ Below w.heap.size w w2) := by
    obtain ⟨j1, j2, j3⟩ := H1.out; exact Lib.hid ⟨j1.below hB, j2.below hB, j3.trans (hB.mono j3.size)⟩
  clear hB d0 d1 d2 d3 d4 d5 f0 f1 f2 f3 H1 HC1; dsimp only; obtain ⟨d0, d1, d2, d3, d4, d5⟩ := HQd.out w2 H2.out.1; obtain ⟨f0, f1, f2, f3⟩ := H2.out.2.1.d4
  cases r1 with
  | false =>
    have HZ := Lib.hid (HZe.out w2 H2.out.2.2 (by rw [HEq.out]; simp))
    go_wp2_with (fail); exact HZ.out
  | true =>
  by_cases hn : n1 = 0
  · subst hn
    have HZ := Lib.hid (HZe.out w2 H2.out.2.2 (by rw [HEq.out]; simp))
    go_wp2_with (fail); exact HZ.out
  obtain ⟨HF1, ⟨hn0, hn2⟩, ha0, ha1⟩ := HF.out (by simp)
  have hnb := Lib.hid (And.intro hn (And.intro hn0 (And.intro hn2 (And.intro ha0 ha1)))); clear HF HF1 hn0 hn2 ha0 ha1
  have en : (n1 == 0) = false := by simpa using hn
  by_cases e1 : agg = 1
  · subst e1
    have HZ := Lib.hid (HOne.out w2 n1 H2.out.2.2 (by rw [HEq.out]; simp [hnb.out.1]))
    go_wp2_with (fail); exact HZ.out
  have g1 : (agg == 1) = false := by simpa using e1
  by_cases e5 : agg = 5
  · subst e5
    have HZ := Lib.hid (HOne.out w2 (downQ a1 n1) H2.out.2.2 (by rw [HEq.out]; simp [hnb.out.1]))
    have HD := Lib.hid (adown_any w2 a1 n1 ⟨hnb.out.2.2.2.1, hnb.out.2.2.2.2⟩ (by have := hnb.out; omega))
    go_upto_region 7 with (fail)
    refine wp_region_lit ?_
    iterate 12 go_step
    refine wpList_plain rfl fun K hK => ?_; go_step; refine HD.out.mono ?_; rintro e w' ⟨rfl, hw'⟩; subst w'; refine hK _ _ ?_; clear hK
    iterate 6 go_step
    go_wp2_with (fail); exact HZ.out
  have g5 : (agg == 5) = false := by simpa using e5
  by_cases e6 : agg = 6
  · subst e6; go_wp2_with (fail); refine (HCl.out w2 H2.out.2.2).mono ?_; rintro e w3 ⟨v', rfl, hI, hB, hN⟩
    have HZ := Lib.hid (HTv.out w3 v' hI (H2.out.2.2.trans (hB.mono H2.out.2.2.size)) (fun a n c e => Nat.le_trans H2.out.2.2.size (hN a n c e)) (by rw [HEq.out]; simp [hnb.out.1]))
    clear hI hB hN; go_wp2_with (fail); exact HZ.out
  have g6 : (agg == 6) = false := by simpa using e6
  by_cases e7 : agg = 7
  · subst e7
    have HZ := Lib.hid (HTwo.out w2 u1 v1 H2.out.2.2 (by rw [HEq.out]; simp [hnb.out.1]))
    go_wp2_with (fail); refine (HPa.out w2).mono ?_; rintro e w' ⟨rfl, hw'⟩; subst w'; dsimp only; go_wp2_with (fail); exact HZ.out
  have g7 : (agg == 7) = false := by simpa using e7
  have HZ := Lib.hid (HOne.out w2 a1 H2.out.2.2 (by rw [HEq.out]; simp [hnb.out.1, e1, e5, e6, e7]))
  go_wp2_with (fail); exact HZ.out
end Go.Proofs.YtjeeghafachebaaGreat
namespace Go.Proofs.YtjeeghafachebaaGreat
open Go Go.RowKit
structure PaneL where
  w : WindowL
  a : AggL
  r : Int
deriving DecidableEq
def zeroP : PaneL := ⟨zeroW, zeroA, 0⟩
structure StateL where
  mark : Int
  panes : List PaneL
deriving DecidableEq
structure OutE where
  late : Bool
  item : ItemL
  w : WindowL
  r : Int
  v : List Int
def newS : StateL := ⟨-1, []⟩
def wsP (l : List PaneL) : List WindowL := l.map PaneL.w
def madeB (q : QueryL) (w : WindowL) : Bool := if q.kind = 3 then decide (q.size ≤ w.hi - w.lo) else decide (w ∈ ofW q w.key w.lo)
def wholeB (q : QueryL) (p : PaneL) : Bool := p.w.rightB && (madeB q p.w && (decide (0 < p.a.n) && p.a.rightB q))
def openB (q : QueryL) (p : PaneL) (mark : Int) : Bool := !goneW q p.w mark && (decide (0 ≤ p.r ∧ p.r ≤ 1073741824) && (ripeW p.w mark == decide (0 < p.r)))
def placedB (q : QueryL) (l : List PaneL) : Bool := if q.kind = 3 then decide (Settled (wsP l)) else decide ((wsP l).Pairwise aheadP)
def rightS (q : QueryL) (s : StateL) : Bool :=
  q.rightB && (decide (-1 ≤ s.mark ∧ s.mark ≤ 1099511627776) && (decide (s.panes.length ≤ 256) && (s.panes.all (fun p => wholeB q p && openB q p s.mark) && placedB q s.panes)))
def givesB (q : QueryL) (w : WindowL) (p : PaneL) : Bool := if q.kind = 3 then joinsB p.w w else decide (p.w = w)
def gaveP (q : QueryL) (l : List PaneL) (w : WindowL) : List PaneL := l.filter (givesB q w)
def restP (q : QueryL) (l : List PaneL) (w : WindowL) : List PaneL := l.filter fun p => !givesB q w p
def becQ (q : QueryL) (l : List PaneL) (w : WindowL) : WindowL := if q.kind = 3 then became (wsP l) w else w
def insP : List PaneL → PaneL → List PaneL
  | [], p => [p]
  | x :: l, p => if aheadP p.w x.w then p :: x :: l else x :: insP l p
def growQ (q : QueryL) (b : WindowL) : List PaneL → AggL × Int → AggL × Int × Int
  | [], p => (p.1, p.2, 0)
  | o :: l, p => if (mergeQ q p.1 o.a).2 = 0 then growQ q b l ((mergeQ q p.1 o.a).1, if o.w = b then o.r else p.2) else (zeroA, 0, (mergeQ q p.1 o.a).2)
def grownQ (q : QueryL) (b : WindowL) (gave : List PaneL) (v : Int) : PaneL × Int :=
  if (growQ q b gave (zeroA, 0)).2.2 = 0 then
    (if (addQ q (growQ q b gave (zeroA, 0)).1 v).2 = 0 then (⟨b, (addQ q (growQ q b gave (zeroA, 0)).1 v).1, (growQ q b gave (zeroA, 0)).2.1⟩, 0) else (zeroP, (addQ q (growQ q b gave (zeroA, 0)).1 v).2))
  else (zeroP, (growQ q b gave (zeroA, 0)).2.2)
def toldQ (q : QueryL) (p : PaneL) : OutE := ⟨false, zeroI, p.w, p.r, valueQ q p.a⟩
def lateO (x : ItemL) : OutE := ⟨true, x, zeroW, 0, []⟩
structure ComeL where
  panes : List PaneL
  outs : List OutE
  late : Bool
  e : Int
def fireP (p : PaneL) (mark : Int) : PaneL := if ripeW p.w mark = true then ⟨p.w, p.a, p.r + 1⟩ else p
def winQ (q : QueryL) (mark v : Int) (c : ComeL) (w : WindowL) : ComeL :=
  if goneW q (becQ q c.panes w) mark = true then c
  else if (grownQ q (becQ q c.panes w) (gaveP q c.panes w) v).2 ≠ 0 then ⟨[], [], false, (grownQ q (becQ q c.panes w) (gaveP q c.panes w) v).2⟩
  else if 1073741824 < (fireP (grownQ q (becQ q c.panes w) (gaveP q c.panes w) v).1 mark).r then ⟨[], [], false, 20⟩
  else ⟨insP (restP q c.panes w) (fireP (grownQ q (becQ q c.panes w) (gaveP q c.panes w) v).1 mark), c.outs ++ (if ripeW (becQ q c.panes w) mark = true then [toldQ q (fireP (grownQ q (becQ q c.panes w) (gaveP q c.panes w) v).1 mark)] else []), false, 0⟩
def winsQ (q : QueryL) (mark v : Int) : List WindowL → ComeL → ComeL
  | [], c => c
  | w :: l, c => if (winQ q mark v c w).e = 0 then winsQ q mark v l (winQ q mark v c w) else winQ q mark v c w
def zeroS : StateL := ⟨0, []⟩
def comeQ (q : QueryL) (s : StateL) (x : ItemL) : StateL × List OutE × Int :=
  if (winsQ q s.mark x.value (ofW q x.key x.time) ⟨s.panes, [], true, 0⟩).e ≠ 0 then (zeroS, [], (winsQ q s.mark x.value (ofW q x.key x.time) ⟨s.panes, [], true, 0⟩).e)
  else if (winsQ q s.mark x.value (ofW q x.key x.time) ⟨s.panes, [], true, 0⟩).late = true then (s, [lateO x], 0)
  else if 256 < (winsQ q s.mark x.value (ofW q x.key x.time) ⟨s.panes, [], true, 0⟩).panes.length then (zeroS, [], 30)
  else (⟨s.mark, (winsQ q s.mark x.value (ofW q x.key x.time) ⟨s.panes, [], true, 0⟩).panes⟩, (winsQ q s.mark x.value (ofW q x.key x.time) ⟨s.panes, [], true, 0⟩).outs, 0)
def firesB (t : Int) (p : PaneL) : Bool := decide (p.r = 0) && ripeW p.w t
def firedP (t : Int) (p : PaneL) : PaneL := if firesB t p = true then ⟨p.w, p.a, 1⟩ else p
def insO : List OutE → OutE → List OutE
  | [], p => [p]
  | x :: l, p => if cmpW p.w x.w < 0 then p :: x :: l else x :: insO l p
def sortO (l : List OutE) : List OutE := l.foldl insO []
def marksO (q : QueryL) (t : Int) (l : List PaneL) : List OutE := (l.filter (firesB t)).map fun p => toldQ q (firedP t p)
def marksP (q : QueryL) (t : Int) (l : List PaneL) : List PaneL := (l.map (firedP t)).filter fun p => !goneW q p.w t
def markQ (q : QueryL) (s : StateL) (t : Int) : StateL × List OutE :=
  if t ≤ s.mark then (s, []) else (⟨t, marksP q t s.panes⟩, sortO (marksO q t s.panes))
def stepS (q : QueryL) (s : StateL) (x : ItemL) : StateL × List OutE × Int :=
  if x.rightB = true then (if x.kind = 1 then comeQ q s x else ((markQ q s x.time).1, (markQ q s x.time).2, 0)) else (zeroS, [], 2)
structure RunL where
  s : StateL
  outs : List OutE
  n : Int
  e : Int
def runS (q : QueryL) : StateL → List OutE → Int → List ItemL → RunL
  | s, o, n, [] => ⟨s, o, n, 0⟩
  | s, o, n, x :: l => if (stepS q s x).2.2 = 0 then runS q (stepS q s x).1 (o ++ (stepS q s x).2.1) (n + 1) l else ⟨s, o, n, (stepS q s x).2.2⟩
def runQ (q : QueryL) (s : StateL) (l : List ItemL) : RunL := if l ≠ [] ∧ rightS q s = false then ⟨s, [], 0, 2⟩ else runS q s [] 0 l
end Go.Proofs.YtjeeghafachebaaGreat
