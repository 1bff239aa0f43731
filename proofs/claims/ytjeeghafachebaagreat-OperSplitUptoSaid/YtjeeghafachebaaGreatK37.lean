/-
  Part 37 of 56 of what the proof leans on.
-/
import Derived.Test.YtjeeghafachebaaGreatK36
import Derived.Test.YtjeeghafachebaaGreatK23
namespace Go.Proofs.YtjeeghafachebaaGreat
open Go Go.RowKit
theorem built_pane (k : List (BitVec 8)) (a b : Int) : Tryz.prog.built 55 [(0, .agg #[Sv k, .int .i64 a, .int .i64 b])] = some #[Sv k, .int .i64 a, .int .i64 b, .int .i64 0, .int .i64 0, .slice none 0 0, .complex .f64 0 0, .int .i64 0] := by kernel_rfl
theorem built_pane0 : Tryz.prog.built 55 [] = some zeroPV.cells := by kernel_rfl
theorem mergeQ_top (q : QueryL) (x y : AggL) : (mergeQ q x y).1.top.length ≤ 8 := by
  unfold mergeQ
  split
  · split
    · rename_i h
      exact right_list h.2
    · simp [zeroA]
  · simp [zeroA]
theorem wpList_storeA {ops : Array Oper} {rest : List Oper} {o : Oper} {a : Act} {w : World} {Q : Exit → Act → World → Prop} (hgd : o.guard = none) (x y : Operand) (ho : o.op = .store 53 x y) (g : Nat) (u : PaneV) (m : AggL) (tv z : Value) (ht : tv.oneCell' = true) (hz : z.oneCell' = true)
    (hx : a.eval x = .pointer (some ⟨g, 3, none⟩)) (hy : a.eval y = .agg (aggC m.n m.a tv z)) (hg : RowP w g u)
    (h : ∀ w', RowP w' g ⟨⟨u.p.w, m, u.p.r⟩, tv, z, ht, hz⟩ → w.grownBy w' (some g) → wpList Tryz.prog ops Q rest (a.put o.dst undef) w') : wpList Tryz.prog ops Q (o :: rest) a w := by
  refine wpList_store_at hgd 53 x y ho g 3 [.int .i64 m.n, .int .i64 m.a, tv, z] hx hy 55 u.cells hg agg_size (by show 3 + 4 ≤ 8; decide) ?_ ?_
  · intro v hv
    simp only [List.mem_cons, List.not_mem_nil, or_false] at hv
    rcases hv with rfl | rfl | rfl | rfl
    · rfl
    · rfl
    · exact ht
    · exact hz
  · exact h _ (setRow_heap w g u.cells _ _ _ hg) (grown_setRow _ _ _)
theorem RowP.setR {w : World} {b : Nat} {x : PaneV} (h : RowP w b x) (r : Int) : RowP (w.setCell ⟨b, 7, none⟩ (.int .i64 r)) b ⟨⟨x.p.w, x.p.a, r⟩, x.tv, x.z, x.ht, x.hz⟩ := by
  unfold RowP at *
  rw [setCell_eq_setRow w b 7 _ _ (0, 0) _ h]
  exact setRow_heap w b _ _ _ _ h
def NewT (w : World) (tv : Value) : Prop := ∀ a n c, tv = .slice (some a) n c → w.heap.size ≤ a.block
def GrownEnd (w : World) (p : PaneL) (er : Int) (e : Ending) (w' : World) : Prop := ∃ x : PaneV, x.p = p ∧ e = .returned (.tuple #[.agg x.cells, .int .i64 er]) ∧ GoodP w' x ∧ Below w.heap.size w w' ∧ NewT w x.tv
def GrI (w : World) (qb wb rb gb : Nat) (Q : QueryL) (W : WindowL) (X : PaneV) (wr : World) : Prop := RowQ wr qb Q ∧ RowW wr wb W ∧ RowP wr rb zeroPV ∧ RowP wr gb X ∧ GoodP wr X ∧ NewT w X.tv ∧ (∀ a n c, X.tv = .slice (some a) n c → X.p.a.top ≠ [] → gb < a.block) ∧ Below w.heap.size w wr
theorem GrI.below {w : World} {qb wb rb gb : Nat} {Q : QueryL} {W : WindowL} {X : PaneV} {wr wz : World} (h : GrI w qb wb rb gb Q W X wr) (hB : Below wr.heap.size wr wz) : GrI w qb wb rb gb Q W X wz :=
  ⟨h.1.below hB, h.2.1.below hB, h.2.2.1.below hB, h.2.2.2.1.below hB, h.2.2.2.2.1.below hB, h.2.2.2.2.2.1, h.2.2.2.2.2.2.1, h.2.2.2.2.2.2.2.trans (hB.mono h.2.2.2.2.2.2.2.size)⟩
def GrRel (w : World) (qb wb rb gb : Nat) (q : QueryL) (W : WindowL) (l : List PaneL) (s11 s18 : Value) (wr : World) : Prop := ∃ i : Nat, i ≤ l.length ∧ s11 = .int .i64 0 ∧ s18 = .int .i64 (i : Int) ∧ ∃ X : PaneV, X.p.w = W ∧ X.p.a.top.length ≤ 8 ∧ growQ q W l (zeroA, 0) = growQ q W (l.drop i) (X.p.a, X.p.r) ∧ GrI w qb wb rb gb q W X wr
theorem growQ_at {q : QueryL} {b : WindowL} {l : List PaneL} {i : Nat} {x : PaneL} (h : l[i]? = some x) (p : AggL × Int) : growQ q b (l.drop i) p = if (mergeQ q p.1 x.a).2 = 0 then growQ q b (l.drop (i + 1)) ((mergeQ q p.1 x.a).1, if x.w = b then x.r else p.2) else (zeroA, 0, (mergeQ q p.1 x.a).2) := by
  have hi := (List.getElem?_eq_some_iff.1 h)
  rw [List.drop_eq_getElem_cons hi.1, hi.2]
  rfl
theorem box_grown (w : World) (q : QueryL) (x : WindowL) :
    let W := ((w.alloc (.cells q.cells 23)).alloc (.cells x.cells 47)).alloc (.cells #[.string ⟨#[]⟩, .int .i64 0, .int .i64 0, .int .i64 0, .int .i64 0, .slice none 0 0, .complex .f64 0 0, .int .i64 0] 55)
    RowQ W w.heap.size q ∧ RowW W (w.heap.size + 1) x ∧ RowP W (w.heap.size + 2) zeroPV ∧ Below w.heap.size w W ∧ W.heap.size = w.heap.size + 3 := by
  intro W
  obtain ⟨k1, k2, k3⟩ := box_qw w q x
  have hs : ((w.alloc (.cells q.cells 23)).alloc (.cells x.cells 47)).heap.size = w.heap.size + 2 := by rw [heap_alloc_size, heap_alloc_size]
  have k4 := (Below.refl _ ((w.alloc (.cells q.cells 23)).alloc (.cells x.cells 47))).alloc (Nat.le_refl _) (.cells #[.string ⟨#[]⟩, .int .i64 0, .int .i64 0, .int .i64 0, .int .i64 0, .slice none 0 0, .complex .f64 0 0, .int .i64 0] 55)
  refine ⟨k1.below k4, k2.below k4, ?_, k3.trans (k4.mono k3.size), by show (World.alloc _ _).heap.size = _; rw [heap_alloc_size, hs]⟩
  rw [← hs]
  exact heap_alloc_new _ _
set_option maxRecDepth 100000 in
set_option maxHeartbeats 8000000 in
theorem ogrown_any (w : World) (q : QueryL) (W : WindowL) (sa : Option Addr) (sc : Nat) (l : List PaneV) (v : Int) (hA : PanesAt w sa l) (hG : ∀ x ∈ l, GoodP w x) (hF : FitP l) :
    Calls Tryz.prog 64 #[.agg q.cells, .agg W.cells, .slice sa l.length sc, .int .i64 v] w (GrownEnd w (grownQ q W (l.map PaneV.p) v).1 (grownQ q W (l.map PaneV.p) v).2) := by
  obtain ⟨ps, hps⟩ : ∃ ps, ps = l.map PaneV.p := ⟨_, rfl⟩
  rw [← hps]
  obtain ⟨n, hN⟩ : ∃ n, n = l.length := ⟨_, rfl⟩
  obtain ⟨P, hP⟩ : ∃ P, P = GrownEnd w (grownQ q W ps v).1 (grownQ q W ps v).2 := ⟨_, rfl⟩
  rw [← hP, ← hN]
  have HErr : Hid (∀ wz er, grownQ q W ps v = (zeroP, er) → Below w.heap.size w wz → P (.returned (.tuple #[.agg zeroPV.cells, .int .i64 er])) wz) := Lib.hid (fun wz er h hB => by
    rw [hP, h]
    exact ⟨zeroPV, rfl, rfl, ⟨IntsAt.nil _, zeroZ_whole⟩, hB, fun a n c h => by cases h⟩)
  have HYes : Hid (∀ wz (x : PaneV), grownQ q W ps v = (x.p, 0) → GoodP wz x → NewT w x.tv → Below w.heap.size w wz → P (.returned (.tuple #[.agg x.cells, .int .i64 0])) wz) := Lib.hid (fun wz x h hG hN hB => by
    rw [hP, h]
    exact ⟨x, rfl, rfl, hG, hB, hN⟩)
  have HGq : Hid (grownQ q W ps v = if (growQ q W ps (zeroA, 0)).2.2 = 0 then (if (addQ q (growQ q W ps (zeroA, 0)).1 v).2 = 0 then (⟨W, (addQ q (growQ q W ps (zeroA, 0)).1 v).1, (growQ q W ps (zeroA, 0)).2.1⟩, 0) else (zeroP, (addQ q (growQ q W ps (zeroA, 0)).1 v).2)) else (zeroP, (growQ q W ps (zeroA, 0)).2.2)) := Lib.hid rfl
  obtain ⟨w1, hw1⟩ : ∃ W1, W1 = ((w.alloc (.cells q.cells 23)).alloc (.cells W.cells 47)).alloc (.cells #[.string ⟨#[]⟩, .int .i64 0, .int .i64 0, .int .i64 0, .int .i64 0, .slice none 0 0, .complex .f64 0 0, .int .i64 0] 55) := ⟨_, rfl⟩
  obtain ⟨qb, hqb⟩ : ∃ b, b = w.heap.size := ⟨_, rfl⟩
  obtain ⟨wb, hwb⟩ : ∃ b, b = w.heap.size + 1 := ⟨_, rfl⟩
  obtain ⟨rb, hrb⟩ : ∃ b, b = w.heap.size + 2 := ⟨_, rfl⟩
  have H1 : Hid (RowQ w1 qb q ∧ RowW w1 wb W ∧ RowP w1 rb zeroPV ∧ Below w.heap.size w w1 ∧ w1.heap.size = w.heap.size + 3) := by rw [hw1, hqb, hwb, hrb]; exact Lib.hid (box_grown w q W)
  have HBd : Hid (w.heap.size ≤ qb ∧ qb < wb ∧ wb < rb ∧ rb < w1.heap.size) := Lib.hid ⟨by omega, by omega, by omega, by have := H1.out.2.2.2.2; omega⟩
  have HA : Hid (PanesAt w sa l ∧ (∀ x ∈ l, GoodP w x) ∧ FitP l) := Lib.hid ⟨hA, hG, hF⟩
  have hn6 : n ≤ 1000000 := by have := hF.2; omega
  have HN : Hid (n = l.length ∧ ps.length = n) := Lib.hid ⟨hN, by rw [hps, List.length_map, hN]⟩
  have HPs : Hid (∀ (i : Nat) (x : PaneV), l[i]? = some x → ps[i]? = some x.p) := Lib.hid (fun i x h => by rw [hps, List.getElem?_map, h]; rfl)
  obtain ⟨VQ, hVQ⟩ : ∃ V, V = Value.agg q.cells := ⟨_, rfl⟩
  have HMg : Hid (∀ w' (x y : AggL) tv1 z1 tv2 z2, IntsAt w' tv1 x.top → WholeZ z1 x.u x.v → IntsAt w' tv2 y.top → WholeZ z2 y.u y.v → x.top.length ≤ 1000000 → y.top.length ≤ 1000000 → Calls Tryz.prog 99 #[VQ, .agg (aggC x.n x.a tv1 z1), .agg (aggC y.n y.a tv2 z2)] w' (AggEnd w' (mergeQ q x y).1 (mergeQ q x y).2)) := by
    rw [hVQ]
    exact Lib.hid (fun w' x y tv1 z1 tv2 z2 h1 h2 h3 h4 h5 h6 => amerge_any w' q x y tv1 z1 tv2 z2 h1 h3 h2 h4 h5 h6)
  have HAd : Hid (∀ w' (x : AggL) tv1 z1, IntsAt w' tv1 x.top → WholeZ z1 x.u x.v → x.top.length ≤ 1000000 → Calls Tryz.prog 100 #[VQ, .agg (aggC x.n x.a tv1 z1), .int .i64 v] w' (AggEnd w' (addQ q x v).1 (addQ q x v).2)) := by
    rw [hVQ]
    exact Lib.hid (fun w' x tv1 z1 h1 h2 h3 => aadd_any w' q x tv1 z1 v h1 h2 h3)
  obtain ⟨Q, hQ⟩ : ∃ Q, Q = q := ⟨_, rfl⟩
  rw [← hQ] at H1 HMg HAd HErr HYes HGq
  obtain ⟨kind, size, slide, late, agg, kq⟩ := q
  obtain ⟨wk, wl, wh⟩ := W
  have HVQ : Hid (VQ = .agg #[.int .i64 kind, .int .i64 size, .int .i64 slide, .int .i64 late, .int .i64 agg, .int .i64 kq]) := Lib.hid hVQ
  have HQd : Hid (∀ w', RowQ w' qb Q → D6 w' qb kind size slide late agg kq) := by rw [hQ]; exact Lib.hid (fun w' h => h.d6)
  clear hVQ hQ hA hG hF hP hN hps
  obtain ⟨W, hW⟩ : ∃ W, W = WindowL.mk wk wl wh := ⟨_, rfl⟩
  rw [← hW] at H1 HErr HYes HGq
  have HWd : Hid (∀ w', RowW w' wb W → D3 w' wb wk wl wh) := by rw [hW]; exact Lib.hid (fun w' h => h.d3)
  have HWv : Hid (W.key = wk ∧ W.lo = wl ∧ W.hi = wh ∧ W = ⟨wk, wl, wh⟩) := by rw [hW]; exact Lib.hid ⟨rfl, rfl, rfl, rfl⟩
  clear hW
  unfold QueryL.cells WindowL.cells at hw1 ⊢
  simp only at hw1
  have hs1 : (w.alloc (.cells #[.int .i64 kind, .int .i64 size, .int .i64 slide, .int .i64 late, .int .i64 agg, .int .i64 kq] 23)).heap.size = w.heap.size + 1 := heap_alloc_size w _
  have hs2 : ((w.alloc (.cells #[.int .i64 kind, .int .i64 size, .int .i64 slide, .int .i64 late, .int .i64 agg, .int .i64 kq] 23)).alloc (.cells #[Sv wk, .int .i64 wl, .int .i64 wh] 47)).heap.size = w.heap.size + 2 := by rw [heap_alloc_size, heap_alloc_size]
  go_enter Tryz.func64, Tryz.ntmps64
  go_upto_region 1 with (fail)
  rw [← hw1, ← hrb, ← hwb, ← hqb]
  clear hw1 hrb hwb hqb hs1 hs2
  obtain ⟨e0, e1, e2⟩ := HWd.out w1 H1.out.2.1
  refine wp_region_lit ?_
  iterate 3 go_step
  refine wpList_build_on (by rfl) 55 #[(0, .tmp 14)] rfl #[Sv wk, .int .i64 wl, .int .i64 wh, .int .i64 0, .int .i64 0, .slice none 0 0, .complex .f64 0 0, .int .i64 0] (by first | exact built_pane wk wl wh | (simp only [List.map_toArray, List.map_cons, List.map_nil]; exact built_pane wk wl wh) | kernel_rfl) ?_
  iterate 3 go_step
  obtain ⟨X0, hX0⟩ : ∃ X : PaneV, X = ⟨⟨⟨wk, wl, wh⟩, zeroA, 0⟩, nilV, zeroZ, rfl, rfl⟩ := ⟨_, rfl⟩
  have hXc : (#[Sv wk, .int .i64 wl, .int .i64 wh, .int .i64 0, .int .i64 0, .slice none 0 0, .complex .f64 0 0, .int .i64 0] : Array Value) = X0.cells := by rw [hX0]; rfl
  rw [hXc]
  refine wpList_store_row rfl _ _ _ rfl w1.heap.size X0.cells rfl rfl 55 zeroPV.cells (heap_alloc_new w1 _) pane_size rfl (pane_one _) ?_
  obtain ⟨w2, hw2⟩ : ∃ W, W = (w1.alloc (Obj.cells #[.string ⟨#[]⟩, .int .i64 0, .int .i64 0, .int .i64 0, .int .i64 0, .slice none 0 0, .complex .f64 0 0, .int .i64 0] 55)).setRow w1.heap.size X0.cells := ⟨_, rfl⟩
  obtain ⟨gb, hgb⟩ : ∃ b, b = w1.heap.size := ⟨_, rfl⟩
  have H2 : Hid (GrI w qb wb rb gb Q W X0 w2 ∧ rb < gb ∧ w1.heap.size ≤ w2.heap.size) := by
    obtain ⟨k1, k2⟩ := stored_pane w1 X0
    obtain ⟨j1, j2, j3, j4, j5⟩ := H1.out
    have hb := HBd.out
    rw [hw2, hgb]
    refine Lib.hid ⟨⟨j1.below k2, j2.below k2, j3.below k2, k1, ?_, ?_, ?_, j4.trans (k2.mono j4.size)⟩, by omega, k2.size⟩
    · rw [hX0]
      exact ⟨IntsAt.nil _, zeroZ_whole⟩
    · rw [hX0]
      exact fun a n c h => by cases h
    · rw [hX0]
      exact fun a n c h => by cases h
  have HX0 : Hid (X0.p.w = W ∧ X0.p.a = zeroA ∧ X0.p.r = 0) := by rw [hX0, HWv.out.2.2.2]; exact Lib.hid ⟨rfl, rfl, rfl⟩
  rw [← hw2, ← hgb]
  clear hw2 hgb hXc hX0 e0 e1 e2 H1
  go_wp2_with (fail)
  go_loopw [11, 18] (GrRel w qb wb rb gb Q W ps) (fun _ i _ => n - (intOf i).toNat)
  case atStart =>
    obtain ⟨x1, x2, x3⟩ := HX0.out
    exact ⟨0, Nat.zero_le _, rfl, rfl, X0, x1, by rw [x2]; simp [zeroA], by rw [x2, x3, List.drop_zero], H2.out.1⟩
  case round =>
    obtain ⟨i, hi, rfl, rfl, X, hXw, hXt, hgq, hI⟩ := hrel
    rw [HN.out.2] at hi
    have HO := Lib.hid (And.intro hXw (And.intro hXt (And.intro hgq hI)))
    clear hXw hXt hgq hI
    by_cases hlt : i < n
    · have hi0 : (0 : Int) ≤ (i : Int) ∧ (i : Int) < (n : Int) := by omega
      obtain ⟨x, pa, oa, hx, hsa, c0, c1, c2, c3, c4, c5, c6, c7⟩ := (HA.out.1.below HO.out.2.2.2.2.2.2.2.2.2.2).get (t := i) (by rw [← HN.out.1]; exact hlt)
      subst hsa
      have HX : Hid (x ∈ l ∧ ps[i]? = some x.p ∧ i < n) := Lib.hid ⟨List.mem_of_getElem? hx, HPs.out i x hx, hlt⟩
      clear hx hi hlt
      obtain ⟨x_, hxe⟩ : ∃ y : PaneV, y = x := ⟨_, rfl⟩
      rw [← hxe] at HX
      obtain ⟨⟨⟨xk, xl, xh⟩, ⟨xn, xa, xt, xu, xv⟩, xr⟩, xtv, xz, xht, xhz⟩ := x
      simp only at c0 c1 c2 c3 c4 c5 c6 c7
      go_upto_region 4 with (fail)
      refine wp_region_lit ?_
      iterate 9 go_step
      refine wpList_store_row rfl _ _ _ rfl wr.heap.size (PaneV.mk ⟨⟨xk, xl, xh⟩, ⟨xn, xa, xt, xu, xv⟩, xr⟩ xtv xz xht xhz).cells rfl rfl 55 zeroPV.cells (heap_alloc_new wr _) pane_size rfl (pane_one _) ?_
      obtain ⟨wx, hwx⟩ : ∃ W, W = (wr.alloc (Obj.cells #[.string ⟨#[]⟩, .int .i64 0, .int .i64 0, .int .i64 0, .int .i64 0, .slice none 0 0, .complex .f64 0 0, .int .i64 0] 55)).setRow wr.heap.size (PaneV.mk ⟨⟨xk, xl, xh⟩, ⟨xn, xa, xt, xu, xv⟩, xr⟩ xtv xz xht xhz).cells := ⟨_, rfl⟩
      obtain ⟨xb, hxb⟩ : ∃ b, b = wr.heap.size := ⟨_, rfl⟩
      have Hwx : Hid (RowP wx xb x_ ∧ GrI w qb wb rb gb Q W X wx ∧ xb ≠ gb ∧ GoodP wx x_) := by
        obtain ⟨k1, k2⟩ := stored_pane wr (PaneV.mk ⟨⟨xk, xl, xh⟩, ⟨xn, xa, xt, xu, xv⟩, xr⟩ xtv xz xht xhz)
        have h := HO.out.2.2.2
        have hl := h.2.2.2.1.lt
        rw [hwx, hxb, hxe]
        have hg := HA.out.2.1 _ (by rw [hxe] at HX; exact HX.out.1)
        exact Lib.hid ⟨k1, h.below k2, by omega, hg.below (h.2.2.2.2.2.2.2.trans (k2.mono h.2.2.2.2.2.2.2.size))⟩
      rw [← hwx, ← hxb]
      clear hwx hxb c0 c1 c2 c3 c4 c5 c6 c7
      obtain ⟨mg, hmg⟩ : ∃ m, m = (mergeQ Q X.p.a x_.p.a).1 := ⟨_, rfl⟩
      obtain ⟨er, her⟩ : ∃ e, e = (mergeQ Q X.p.a x_.p.a).2 := ⟨_, rfl⟩
      have hmt : mg.top.length ≤ 8 := by rw [hmg]; exact mergeQ_top _ _ _
      have HM : Hid (Calls Tryz.prog 99 #[VQ, .agg (aggC X.p.a.n X.p.a.a X.tv X.z), .agg (aggC x_.p.a.n x_.p.a.a x_.tv x_.z)] wx (AggEnd wx mg er)) := by
        obtain ⟨_, h2, _⟩ := Hwx.out
        rw [hmg, her]
        exact Lib.hid (HMg.out wx X.p.a x_.p.a X.tv X.z x_.tv x_.z h2.2.2.2.2.1.1 h2.2.2.2.2.1.2 Hwx.out.2.2.2.1 Hwx.out.2.2.2.2 (by have := HO.out.2.1; omega) (HA.out.2.2.1 _ HX.out.1).2)
      have HMe : Hid (growQ Q W ps (zeroA, 0) = (if er = 0 then growQ Q W (ps.drop (i + 1)) (mg, if x_.p.w = W then x_.p.r else X.p.r) else (zeroA, 0, er)) ∧ mg.top.length ≤ 8) := by
        rw [HO.out.2.2.1, growQ_at HX.out.2.1, hmg, her]
        refine Lib.hid ⟨rfl, ?_⟩
        rw [hmg] at hmt
        exact hmt
      clear hmg her hmt
      have HPx : Hid (∀ w', RowP w' xb x_ → D8 w' xb (PaneV.mk ⟨⟨xk, xl, xh⟩, ⟨xn, xa, xt, xu, xv⟩, xr⟩ xtv xz xht xhz)) := by rw [hxe]; exact Lib.hid (fun w' h => h.d8)
      have HXe : Hid (x_ = (PaneV.mk ⟨⟨xk, xl, xh⟩, ⟨xn, xa, xt, xu, xv⟩, xr⟩ xtv xz xht xhz)) := Lib.hid hxe
      clear hxe
      have HVx : Hid (Value.agg (aggC x_.p.a.n x_.p.a.a x_.tv x_.z) = .agg #[.int .i64 xn, .int .i64 xa, xtv, xz]) := by rw [HXe.out]; exact Lib.hid rfl
      have HXc := Lib.hid (And.intro HO.out.1 HO.out.2.1)
      obtain ⟨X_, hXe⟩ : ∃ y : PaneV, y = X := ⟨_, rfl⟩
      rw [← hXe] at Hwx HM HMe HXc
      obtain ⟨⟨⟨gk, gl, gh⟩, ⟨gn, ga, gt, gu, gv⟩, gr⟩, gtv, gz, ght, ghz⟩ := X
      have HPg : Hid (∀ w', RowP w' gb X_ → D8 w' gb ⟨⟨⟨gk, gl, gh⟩, ⟨gn, ga, gt, gu, gv⟩, gr⟩, gtv, gz, ght, ghz⟩) := by rw [hXe]; exact Lib.hid (fun w' h => h.d8)
      have HVg : Hid (Value.agg (aggC X_.p.a.n X_.p.a.a X_.tv X_.z) = .agg #[.int .i64 gn, .int .i64 ga, gtv, gz]) := by rw [hXe]; exact Lib.hid rfl
      clear hXe HO
      have HM2 : Hid (Calls Tryz.prog 99 #[.agg #[.int .i64 kind, .int .i64 size, .int .i64 slide, .int .i64 late, .int .i64 agg, .int .i64 kq], .agg #[.int .i64 gn, .int .i64 ga, gtv, gz], .agg #[.int .i64 xn, .int .i64 xa, xtv, xz]] wx (AggEnd wx mg er)) := by
        have h := HM.out
        rw [HVQ.out, HVx.out, HVg.out] at h
        exact Lib.hid h
      clear HM
      obtain ⟨d0, d1, d2, d3, d4, d5⟩ := HQd.out wx Hwx.out.2.1.1
      obtain ⟨e0, e1, e2, e3, e4, e5, e6, e7⟩ := HPg.out wx Hwx.out.2.1.2.2.2.1
      obtain ⟨f0, f1, f2, f3, f4, f5, f6, f7⟩ := HPx.out wx Hwx.out.1
      go_upto_region 5 with (fail)
      refine wp_region_lit ?_
      iterate 15 go_step
      refine wpList_plain rfl fun K hK => ?_
      go_step
      refine HM2.out.mono ?_
      rintro e w3 ⟨tv, z, rfl, hI, hZ, hB, hNw⟩
      refine hK _ _ ?_
      clear hK
      have H3 : Hid (RowP w3 xb x_ ∧ GrI w qb wb rb gb Q W X_ w3 ∧ xb ≠ gb ∧ IntsAt w3 tv mg.top ∧ WholeZ z mg.u mg.v ∧ ∀ a n c, tv = .slice (some a) n c → wx.heap.size ≤ a.block) := Lib.hid ⟨Hwx.out.1.below hB, Hwx.out.2.1.below hB, Hwx.out.2.2.1, hI, hZ, hNw⟩
      have HSz : Hid (gb < wx.heap.size ∧ w.heap.size ≤ wx.heap.size) := Lib.hid ⟨Hwx.out.2.1.2.2.2.1.lt, Hwx.out.2.1.2.2.2.2.2.2.2.size⟩
      obtain ⟨ht, hz⟩ : tv.oneCell' = true ∧ z.oneCell' = true := ⟨hI.one, hZ.1.one⟩
      clear hI hZ hB hNw d0 d1 d2 d3 d4 d5 e0 e1 e2 e3 e4 e5 e6 e7 f0 f1 f2 f3 f4 f5 f6 f7
      iterate 12 go_step
      refine wpList_storeA rfl (.tmp 31) (.tmp 29) rfl gb X_ mg tv z ht hz rfl rfl H3.out.2.1.2.2.2.1 ?_
      intro w4 hr4 hg4
      obtain ⟨X4, hX4⟩ : ∃ Y : PaneV, Y = ⟨⟨X_.p.w, mg, X_.p.r⟩, tv, z, ht, hz⟩ := ⟨_, rfl⟩
      rw [← hX4] at hr4
      have H4 : Hid (RowP w4 xb x_ ∧ GrI w qb wb rb gb Q W X4 w4) := by
        obtain ⟨j1, ⟨k1, k2, k3, k4, k5, k6, k7, k8⟩, j3, j4, j5, j6⟩ := H3.out
        have hb := HBd.out
        have hs := HSz.out
        have hgr := H2.out.2.1
        have hn : ∀ a n c, tv = .slice (some a) n c → gb < a.block ∧ w.heap.size ≤ a.block := fun a n c h => by have := j6 a n c h; omega
        refine Lib.hid ⟨j1.grown hg4 (by simp; exact j3), RowQ.below' k1 hg4 (by omega), k2.grown hg4 (by simp; omega), k3.grown hg4 (by simp; omega), hr4, ?_, ?_, ?_, k8.trans (below_set hg4 (by omega) k8.size)⟩
        · rw [hX4]
          exact ⟨j4.grown hg4 (fun a n c h _ => by have := (hn a n c h).1; omega), j5⟩
        · rw [hX4]
          exact fun a n c h => (hn a n c h).2
        · rw [hX4]
          exact fun a n c h _ => (hn a n c h).1
      have HX4 : Hid (X4.p.w = W ∧ X4.p.a = mg ∧ X4.p.r = X_.p.r) := by rw [hX4]; exact Lib.hid ⟨HXc.out.1, rfl, rfl⟩
      clear hX4 hr4 hg4 H3 HSz Hwx
      by_cases hz0 : er = 0
      · subst hz0
        have HMe2 : Hid (growQ Q W ps (zeroA, 0) = growQ Q W (ps.drop (i + 1)) (mg, if x_.p.w = W then x_.p.r else X_.p.r)) := Lib.hid (by have h := HMe.out.1; rwa [if_pos rfl] at h)
        go_upto_region 8 with (fail)
        obtain ⟨f0, f1, f2, f3, f4, f5, f6, f7⟩ := HPx.out w4 H4.out.1
        obtain ⟨e0, e1, e2⟩ := HWd.out w4 H4.out.2.2.1
        obtain ⟨rw_, hrw⟩ : ∃ r, r = sameW ⟨xk, xl, xh⟩ ⟨wk, wl, wh⟩ := ⟨_, rfl⟩
        have heq : ∀ w', (binOp .eql 47 (.agg #[Sv xk, .int .i64 xl, .int .i64 xh]) (.agg #[Sv wk, .int .i64 wl, .int .i64 wh])).run Tryz.prog w' = .ok (.bool rw_) w' := fun w' => by rw [hrw]; exact run_eql_window w' ⟨xk, xl, xh⟩ ⟨wk, wl, wh⟩
        have hgd : ∀ w' op o1 o2, (eqGuard op 47 o1 o2 (.agg #[Sv xk, .int .i64 xl, .int .i64 xh]) (.agg #[Sv wk, .int .i64 wl, .int .i64 wh])).run Tryz.prog w' = .ok () w' := fun w' op o1 o2 => run_guard_window w' op o1 o2 ⟨xk, xl, xh⟩ ⟨wk, wl, wh⟩
        have HRw : Hid (rw_ = true ↔ x_.p.w = W) := by
          rw [hrw, HXe.out, HWv.out.2.2.2]
          exact Lib.hid (sameW_iff _ _)
        clear hrw
        cases rw_ with
        | false =>
          go_wp2_with (fail)
          refine ⟨⟨i + 1, by rw [HN.out.2]; exact HX.out.2.2, rfl, rfl, X4, HX4.out.1, by rw [HX4.out.2.1]; exact HMe.out.2, ?_, H4.out.2⟩, by rw [intOf_i, intOf_i]; have := HX.out.2.2; omega⟩
          rw [HMe2.out, if_neg (fun h => by have := HRw.out.2 h; simp at this), HX4.out.2.1, HX4.out.2.2]
        | true =>
          go_upto_region 9 with (fail)
          have e7 := (H4.out.2.2.2.2.1.d8).2.2.2.2.2.2.2
          refine wp_region_lit ?_
          iterate 9 go_step
          refine wpList_store1 rfl _ (.tmp 42) (.tmp 41) rfl ⟨gb, 7, none⟩ (.int .i64 xr) _ rfl rfl rfl rfl Tryz.sizeOf3 e7 (RowP.fro H4.out.2.2.2.2.1 7) ?_
          obtain ⟨w5, hw5⟩ : ∃ W, W = w4.setCell ⟨gb, 7, none⟩ (.int .i64 xr) := ⟨_, rfl⟩
          obtain ⟨X5, hX5⟩ : ∃ Y : PaneV, Y = ⟨⟨X4.p.w, X4.p.a, xr⟩, X4.tv, X4.z, X4.ht, X4.hz⟩ := ⟨_, rfl⟩
          have H5 : Hid (GrI w qb wb rb gb Q W X5 w5) := by
            have hg : w4.grownBy w5 (some gb) := by rw [hw5]; exact grown_setCell _ _ _ _
            obtain ⟨k1, k2, k3, k4, k5, k6, k7, k8⟩ := H4.out.2
            have hb := HBd.out
            have hgr := H2.out.2.1
            refine Lib.hid ⟨RowQ.below' k1 hg (by omega), k2.grown hg (by simp; omega), k3.grown hg (by simp; omega), by rw [hX5, hw5]; exact k4.setR xr, ?_, by rw [hX5]; exact k6, by rw [hX5]; exact k7, k8.trans (below_set hg (by omega) k8.size)⟩
            rw [hX5]
            exact ⟨k5.1.grown hg (fun a n c h hne => by have := k7 a n c h hne; omega), k5.2⟩
          have HX5 : Hid (X5.p.w = W ∧ X5.p.a = mg ∧ X5.p.r = x_.p.r) := by rw [hX5, HXe.out]; exact Lib.hid ⟨HX4.out.1, HX4.out.2.1, rfl⟩
          rw [← hw5]
          clear hw5 hX5 e7 e0 e1 e2 f0 f1 f2 f3 f4 f5 f6 f7 heq hgd
          go_wp2_with (fail)
          refine ⟨⟨i + 1, by rw [HN.out.2]; exact HX.out.2.2, rfl, rfl, X5, HX5.out.1, by rw [HX5.out.2.1]; exact HMe.out.2, ?_, H5.out⟩, by rw [intOf_i, intOf_i]; have := HX.out.2.2; omega⟩
          rw [HMe2.out, if_pos (HRw.out.1 (by simp)), HX5.out.2.1, HX5.out.2.2]
      · have hz1 : (er != 0) = true := bne_iff_ne.2 hz0
        have HE : Hid (grownQ Q W ps v = (zeroP, er)) := by
          have h := HMe.out.1
          rw [if_neg hz0] at h
          rw [HGq.out, h]
          exact Lib.hid (if_neg hz0)
        clear hz0
        go_upto_region 7 with (fail)
        refine wp_region_lit ?_
        refine wpList_build_on (by rfl) 55 #[] rfl zeroPV.cells (by first | exact built_pane0 | (simp only [List.map_toArray, List.map_nil]; exact built_pane0) | kernel_rfl) ?_
        iterate 3 go_step
        refine wpList_store_row rfl _ _ _ rfl rb zeroPV.cells rfl rfl 55 zeroPV.cells H4.out.2.2.2.1 pane_size rfl (pane_one _) ?_
        obtain ⟨w9, hw9⟩ : ∃ W, W = w4.setRow rb zeroPV.cells := ⟨_, rfl⟩
        have H9 : Hid (RowP w9 rb zeroPV ∧ P (.returned (.tuple #[.agg zeroPV.cells, .int .i64 er])) w9) := by
          have hg : w4.grownBy w9 (some rb) := by rw [hw9]; exact grown_setRow _ _ _
          have hb := HBd.out
          have h8 := H4.out.2.2.2.2.2.2.2.2
          exact Lib.hid ⟨by rw [hw9]; exact RowP.reset H4.out.2.2.2.1 zeroPV, HErr.out w9 er HE.out (h8.trans (below_set hg (by omega) h8.size))⟩
        rw [← hw9]
        clear hw9
        go_wp2_with (fail)
        exact bodyPost_ret (v := .tuple #[.agg zeroPV.cells, .int .i64 er]) ((results_cell_row_tmp (p := 8) (u := 9) (ty := 55) rfl _ _ rb 55 zeroPV.cells (0, 0) _ rfl H9.out.1 Tryz.underlying55 rfl pane_size).trans rfl) rfl H9.out.2
    · obtain rfl : i = n := by omega
      clear hlt hi
      have hdr : ps.drop i = [] := by rw [List.drop_eq_nil_iff]; rw [HN.out.2]; exact Nat.le_refl _
      have HGa : Hid (growQ Q W ps (zeroA, 0) = (X.p.a, X.p.r, 0)) := by
        have h := HO.out.2.2.1
        rw [hdr] at h
        exact Lib.hid h
      clear hdr
      obtain ⟨ad, had⟩ : ∃ m, m = (addQ Q X.p.a v).1 := ⟨_, rfl⟩
      obtain ⟨er, her⟩ : ∃ e, e = (addQ Q X.p.a v).2 := ⟨_, rfl⟩
      have HI := Lib.hid HO.out.2.2.2
      have HC : Hid (Calls Tryz.prog 100 #[VQ, .agg (aggC X.p.a.n X.p.a.a X.tv X.z), .int .i64 v] wr (AggEnd wr ad er)) := by
        rw [had, her]
        exact Lib.hid (HAd.out wr X.p.a X.tv X.z HI.out.2.2.2.2.1.1 HI.out.2.2.2.2.1.2 (by have := HO.out.2.1; omega))
      have HRs : Hid (grownQ Q W ps v = if er = 0 then (⟨W, ad, X.p.r⟩, 0) else (zeroP, er)) := by
        rw [HGq.out, HGa.out, had, her]
        exact Lib.hid (if_pos rfl)
      have HXw := Lib.hid HO.out.1
      clear had her HGa HO
      obtain ⟨X_, hXe⟩ : ∃ y : PaneV, y = X := ⟨_, rfl⟩
      rw [← hXe] at HI HC HRs HXw
      obtain ⟨⟨⟨gk, gl, gh⟩, ⟨gn, ga, gt, gu, gv⟩, gr⟩, gtv, gz, ght, ghz⟩ := X
      have HPg : Hid (∀ w', RowP w' gb X_ → D8 w' gb ⟨⟨⟨gk, gl, gh⟩, ⟨gn, ga, gt, gu, gv⟩, gr⟩, gtv, gz, ght, ghz⟩) := by rw [hXe]; exact Lib.hid (fun w' h => h.d8)
      have HVg : Hid (Value.agg (aggC X_.p.a.n X_.p.a.a X_.tv X_.z) = .agg #[.int .i64 gn, .int .i64 ga, gtv, gz]) := by rw [hXe]; exact Lib.hid rfl
      have HC2 : Hid (Calls Tryz.prog 100 #[.agg #[.int .i64 kind, .int .i64 size, .int .i64 slide, .int .i64 late, .int .i64 agg, .int .i64 kq], .agg #[.int .i64 gn, .int .i64 ga, gtv, gz], .int .i64 v] wr (AggEnd wr ad er)) := by
        have h := HC.out
        rw [HVQ.out, HVg.out] at h
        exact Lib.hid h
      clear HC hXe
      obtain ⟨d0, d1, d2, d3, d4, d5⟩ := HQd.out wr HI.out.1
      obtain ⟨e0, e1, e2, e3, e4, e5, e6, e7⟩ := HPg.out wr HI.out.2.2.2.1
      go_upto_region 11 with (fail)
      refine wp_region_lit ?_
      iterate 12 go_step
      refine wpList_plain rfl fun K hK => ?_
      go_step
      refine HC2.out.mono ?_
      rintro e w3 ⟨tv, z, rfl, hI, hZ, hB, hNw⟩
      refine hK _ _ ?_
      clear hK
      have H3 : Hid (GrI w qb wb rb gb Q W X_ w3 ∧ IntsAt w3 tv ad.top ∧ WholeZ z ad.u ad.v ∧ ∀ a n c, tv = .slice (some a) n c → wr.heap.size ≤ a.block) := Lib.hid ⟨HI.out.below hB, hI, hZ, hNw⟩
      have HSz : Hid (gb < wr.heap.size ∧ w.heap.size ≤ wr.heap.size) := Lib.hid ⟨HI.out.2.2.2.1.lt, HI.out.2.2.2.2.2.2.2.size⟩
      obtain ⟨ht, hz⟩ : tv.oneCell' = true ∧ z.oneCell' = true := ⟨hI.one, hZ.1.one⟩
      clear hI hZ hB hNw d0 d1 d2 d3 d4 d5 e0 e1 e2 e3 e4 e5 e6 e7
      iterate 12 go_step
      refine wpList_storeA rfl (.tmp 52) (.tmp 50) rfl gb X_ ad tv z ht hz rfl rfl H3.out.1.2.2.2.1 ?_
      intro w4 hr4 hg4
      obtain ⟨X4, hX4⟩ : ∃ Y : PaneV, Y = ⟨⟨X_.p.w, ad, X_.p.r⟩, tv, z, ht, hz⟩ := ⟨_, rfl⟩
      rw [← hX4] at hr4
      have H4 : Hid (GrI w qb wb rb gb Q W X4 w4 ∧ ∀ a n c, X4.tv = .slice (some a) n c → wr.heap.size ≤ a.block) := by
        obtain ⟨⟨k1, k2, k3, k4, k5, k6, k7, k8⟩, j4, j5, j6⟩ := H3.out
        have hb := HBd.out
        have hs := HSz.out
        have hgr := H2.out.2.1
        have hn : ∀ a n c, tv = .slice (some a) n c → gb < a.block ∧ w.heap.size ≤ a.block := fun a n c h => by have := j6 a n c h; omega
        refine Lib.hid ⟨⟨RowQ.below' k1 hg4 (by omega), k2.grown hg4 (by simp; omega), k3.grown hg4 (by simp; omega), hr4, ?_, ?_, ?_, k8.trans (below_set hg4 (by omega) k8.size)⟩, ?_⟩
        · rw [hX4]
          exact ⟨j4.grown hg4 (fun a n c h _ => by have := (hn a n c h).1; omega), j5⟩
        · rw [hX4]
          exact fun a n c h => (hn a n c h).2
        · rw [hX4]
          exact fun a n c h _ => (hn a n c h).1
        · rw [hX4]
          exact j6
      have HX4 : Hid (X4.p = ⟨W, ad, X_.p.r⟩) := by rw [hX4, ← HXw.out]; exact Lib.hid rfl
      clear hX4 hr4 hg4 H3 HSz HI
      by_cases hz0 : er = 0
      · subst hz0
        have HE : Hid (grownQ Q W ps v = (X4.p, 0)) := by rw [HRs.out, if_pos rfl, HX4.out]; exact Lib.hid rfl
        go_upto_region 14 with (fail)
        obtain ⟨X5, hXe⟩ : ∃ y : PaneV, y = X4 := ⟨_, rfl⟩
        rw [← hXe] at H4 HE
        obtain ⟨⟨⟨gk, gl, gh⟩, ⟨gn, ga, gt, gu, gv⟩, gr⟩, gtv, gz, ght, ghz⟩ := X4
        have HPg : Hid (∀ w', RowP w' gb X5 → D8 w' gb ⟨⟨⟨gk, gl, gh⟩, ⟨gn, ga, gt, gu, gv⟩, gr⟩, gtv, gz, ght, ghz⟩) := by rw [hXe]; exact Lib.hid (fun w' h => h.d8)
        have hXc : X5.cells = #[Sv gk, .int .i64 gl, .int .i64 gh, .int .i64 gn, .int .i64 ga, gtv, gz, .int .i64 gr] := by rw [hXe]; rfl
        obtain ⟨e0, e1, e2, e3, e4, e5, e6, e7⟩ := HPg.out w4 H4.out.1.2.2.2.1
        refine wp_region_lit ?_
        iterate 3 go_step
        rw [← hXc]
        refine wpList_store_row rfl _ _ _ rfl rb X5.cells rfl rfl 55 zeroPV.cells H4.out.1.2.2.1 pane_size rfl (pane_one _) ?_
        obtain ⟨w9, hw9⟩ : ∃ W, W = w4.setRow rb X5.cells := ⟨_, rfl⟩
        have H9 : Hid (RowP w9 rb X5 ∧ P (.returned (.tuple #[.agg X5.cells, .int .i64 0])) w9) := by
          have hg : w4.grownBy w9 (some rb) := by rw [hw9]; exact grown_setRow _ _ _
          have hb := HBd.out
          have hgr := H2.out.2.1
          obtain ⟨k1, k2, k3, k4, k5, k6, k7, k8⟩ := H4.out.1
          exact Lib.hid ⟨by rw [hw9]; exact k3.reset X5, HYes.out w9 X5 HE.out ⟨k5.1.grown hg (fun a n c h hne => by have := k7 a n c h hne; omega), k5.2⟩ k6 (k8.trans (below_set hg (by omega) k8.size))⟩
        rw [← hw9]
        clear hw9 e0 e1 e2 e3 e4 e5 e6 e7
        go_wp2_with (fail)
        exact bodyPost_ret (v := .tuple #[.agg X5.cells, .int .i64 0]) ((results_cell_row_tmp (p := 8) (u := 9) (ty := 55) rfl _ _ rb 55 X5.cells (0, 0) _ rfl H9.out.1 Tryz.underlying55 rfl pane_size).trans rfl) rfl H9.out.2
      · have hz1 : (er != 0) = true := bne_iff_ne.2 hz0
        have HE : Hid (grownQ Q W ps v = (zeroP, er)) := by rw [HRs.out, if_neg hz0]; exact Lib.hid rfl
        clear hz0
        go_upto_region 13 with (fail)
        refine wp_region_lit ?_
        refine wpList_build_on (by rfl) 55 #[] rfl zeroPV.cells (by first | exact built_pane0 | (simp only [List.map_toArray, List.map_nil]; exact built_pane0) | kernel_rfl) ?_
        iterate 3 go_step
        refine wpList_store_row rfl _ _ _ rfl rb zeroPV.cells rfl rfl 55 zeroPV.cells H4.out.1.2.2.1 pane_size rfl (pane_one _) ?_
        obtain ⟨w9, hw9⟩ : ∃ W, W = w4.setRow rb zeroPV.cells := ⟨_, rfl⟩
        have H9 : Hid (RowP w9 rb zeroPV ∧ P (.returned (.tuple #[.agg zeroPV.cells, .int .i64 er])) w9) := by
          have hg : w4.grownBy w9 (some rb) := by rw [hw9]; exact grown_setRow _ _ _
          have hb := HBd.out
          have h8 := H4.out.1.2.2.2.2.2.2.2
          exact Lib.hid ⟨by rw [hw9]; exact RowP.reset H4.out.1.2.2.1 zeroPV, HErr.out w9 er HE.out (h8.trans (below_set hg (by omega) h8.size))⟩
        rw [← hw9]
        clear hw9
        go_wp2_with (fail)
        exact bodyPost_ret (v := .tuple #[.agg zeroPV.cells, .int .i64 er]) ((results_cell_row_tmp (p := 8) (u := 9) (ty := 55) rfl _ _ rb 55 zeroPV.cells (0, 0) _ rfl H9.out.1 Tryz.underlying55 rfl pane_size).trans rfl) rfl H9.out.2
end Go.Proofs.YtjeeghafachebaaGreat
