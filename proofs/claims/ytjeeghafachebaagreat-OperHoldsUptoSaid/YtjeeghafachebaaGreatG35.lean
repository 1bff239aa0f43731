/-
  Part 35 of 53 of what the proof leans on.
-/
import Derived.Test.YtjeeghafachebaaGreatG34
import Derived.Test.YtjeeghafachebaaGreatG22
import Derived.Test.YtjeeghafachebaaGreatG32
namespace Go.Proofs.YtjeeghafachebaaGreat
open Go Go.RowKit
theorem built_pane (k : List (BitVec 8)) (a b : Int) : Tryz.prog.built 55 [(0, .agg #[Sv k, .int .i64 a, .int .i64 b])] = some #[Sv k, .int .i64 a, .int .i64 b, .int .i64 0, .int .i64 0, .slice none 0 0, .complex .f64 0 0, .int .i64 0] := by kernel_rfl
theorem built_pane0 : Tryz.prog.built 55 [] = some zeroPV.cells := by kernel_rfl
theorem mergeQ_top (q : QueryL) (x y : AggL) : (mergeQ q x y).1.top.length ≤ 8 := by
  unfold mergeQ
  split
  · split
    · rename_i h
      exact right_list h.2
    · simp [zeroA]
  · simp [zeroA]
theorem wpList_storeA {ops : Array Oper} {rest : List Oper} {o : Oper} {a : Act} {w : World} {Q : Exit → Act → World → Prop} (hgd : o.guard = none) (x y : Operand) (ho : o.op = .store 53 x y) (g : Nat) (u : PaneV) (m : AggL) (tv z : Value) (ht : tv.oneCell' = true) (hz : z.oneCell' = true)
    (hx : a.eval x = .pointer (some ⟨g, 3, none⟩)) (hy : a.eval y = .agg (aggC m.n m.a tv z)) (hg : RowP w g u)
    (h : ∀ w', RowP w' g ⟨⟨u.p.w, m, u.p.r⟩, tv, z, ht, hz⟩ → w.grownBy w' (some g) → wpList Tryz.prog ops Q rest (a.put o.dst undef) w') : wpList Tryz.prog ops Q (o :: rest) a w := by
  refine wpList_store_at hgd 53 x y ho g 3 [.int .i64 m.n, .int .i64 m.a, tv, z] hx hy 55 u.cells hg agg_size (by show 3 + 4 ≤ 8; decide) ?_ ?_
  · intro v hv; simp only [List.mem_cons, List.not_mem_nil, or_false] at hv
    rcases hv with rfl | rfl | rfl | rfl
    · rfl
    · rfl
    · exact ht
    · exact hz
  · exact h _ (setRow_heap w g u.cells _ _ _ hg) (grown_setRow _ _ _)
theorem RowP.setR {w : World} {b : Nat} {x : PaneV} (h : RowP w b x) (r : Int) : RowP (w.setCell ⟨b, 7, none⟩ (.int .i64 r)) b ⟨⟨x.p.w, x.p.a, r⟩, x.tv, x.z, x.ht, x.hz⟩ := by
  unfold RowP at *; rw [setCell_eq_setRow w b 7 _ _ (0, 0) _ h]; exact setRow_heap w b _ _ _ _ h
def NewT (w : World) (tv : Value) : Prop := ∀ a n c, tv = .slice (some a) n c → w.heap.size ≤ a.block
def GrownEnd (w : World) (p : PaneL) (er : Int) (e : Ending) (w' : World) : Prop := ∃ x : PaneV, x.p = p ∧ e = .returned (.tuple #[.agg x.cells, .int .i64 er]) ∧ GoodP w' x ∧ Below w.heap.size w w' ∧ NewT w x.tv
def GrI (w : World) (qb wb rb gb : Nat) (Q : QueryL) (W : WindowL) (X : PaneV) (wr : World) : Prop := RowQ wr qb Q ∧ RowW wr wb W ∧ RowP wr rb zeroPV ∧ RowP wr gb X ∧ GoodP wr X ∧ NewT w X.tv ∧ (∀ a n c, X.tv = .slice (some a) n c → X.p.a.top ≠ [] → gb < a.block) ∧ Below w.heap.size w wr
theorem GrI.below {w : World} {qb wb rb gb : Nat} {Q : QueryL} {W : WindowL} {X : PaneV} {wr wz : World} (h : GrI w qb wb rb gb Q W X wr) (hB : Below wr.heap.size wr wz) : GrI w qb wb rb gb Q W X wz :=
  ⟨h.1.below hB, h.2.1.below hB, h.2.2.1.below hB, h.2.2.2.1.below hB, h.2.2.2.2.1.below hB, h.2.2.2.2.2.1, h.2.2.2.2.2.2.1, h.2.2.2.2.2.2.2.trans (hB.mono h.2.2.2.2.2.2.2.size)⟩
def GrRel (w : World) (qb wb rb gb : Nat) (q : QueryL) (W : WindowL) (l : List PaneL) (s11 s18 : Value) (wr : World) : Prop := ∃ i : Nat, i ≤ l.length ∧ s11 = .int .i64 0 ∧ s18 = .int .i64 (i : Int) ∧ ∃ X : PaneV, X.p.w = W ∧ X.p.a.top.length ≤ 8 ∧ growQ q W l (zeroA, 0) = growQ q W (l.drop i) (X.p.a, X.p.r) ∧ GrI w qb wb rb gb q W X wr
theorem growQ_at {q : QueryL} {b : WindowL} {l : List PaneL} {i : Nat} {x : PaneL} (h : l[i]? = some x) (p : AggL × Int) : growQ q b (l.drop i) p = if (mergeQ q p.1 x.a).2 = 0 then growQ q b (l.drop (i + 1)) ((mergeQ q p.1 x.a).1, if x.w = b then x.r else p.2) else (zeroA, 0, (mergeQ q p.1 x.a).2) := by
  have hi := (List.getElem?_eq_some_iff.1 h); rw [List.drop_eq_getElem_cons hi.1, hi.2]; rfl
theorem box_grown (w : World) (q : QueryL) (x : WindowL) :
    let W := ((w.alloc (.cells q.cells 23)).alloc (.cells x.cells 47)).alloc (.cells #[.string ⟨#[]⟩, .int .i64 0, .int .i64 0, .int .i64 0, .int .i64 0, .slice none 0 0, .complex .f64 0 0, .int .i64 0] 55)
    RowQ W w.heap.size q ∧ RowW W (w.heap.size + 1) x ∧ RowP W (w.heap.size + 2) zeroPV ∧ Below w.heap.size w W ∧ W.heap.size = w.heap.size + 3 := by
  intro W; obtain ⟨k1, k2, k3⟩ := box_qw w q x
  have hs : ((w.alloc (.cells q.cells 23)).alloc (.cells x.cells 47)).heap.size = w.heap.size + 2 := by rw [heap_alloc_size, heap_alloc_size]
  have k4 := (Below.refl _ ((w.alloc (.cells q.cells 23)).alloc (.cells x.cells 47))).alloc (Nat.le_refl _) (.cells #[.string ⟨#[]⟩, .int .i64 0, .int .i64 0, .int .i64 0, .int .i64 0, .slice none 0 0, .complex .f64 0 0, .int .i64 0] 55)
  refine ⟨k1.below k4, k2.below k4, ?_, k3.trans (k4.mono k3.size), by show (World.alloc _ _).heap.size = _; rw [heap_alloc_size, hs]⟩
  rw [← hs]; exact heap_alloc_new _ _
set_option maxRecDepth 100000 in
set_option maxHeartbeats 8000000 in
theorem ogrown_any (w : World) (q : QueryL) (W : WindowL) (sa : Option Addr) (sc : Nat) (l : List PaneV) (v : Int) (hA : PanesAt w sa l) (hG : ∀ x ∈ l, GoodP w x) (hF : FitP l) :
    Calls Tryz.prog 64 #[.agg q.cells, .agg W.cells, .slice sa l.length sc, .int .i64 v] w (GrownEnd w (grownQ q W (l.map PaneV.p) v).1 (grownQ q W (l.map PaneV.p) v).2) := by
  obtain ⟨ps, hps⟩ : ∃ ps, ps = l.map PaneV.p := ⟨_, rfl⟩; rw [← hps]; obtain ⟨n, hN⟩ : ∃ n, n = l.length := ⟨_, rfl⟩; obtain ⟨P, hP⟩ : ∃ P, P = GrownEnd w (grownQ q W ps v).1 (grownQ q W ps v).2 := ⟨_, rfl⟩; rw [← hP, ← hN]
  have HErr : Hid (∀ wz er, grownQ q W ps v = (zeroP, er) → Below w.heap.size w wz → P (.returned (.tuple #[.agg zeroPV.cells, .int .i64 er])) wz) := Lib.hid (fun wz er h hB => by
    rw [hP, h]
    exact ⟨zeroPV, rfl, rfl, ⟨IntsAt.nil _, zeroZ_whole⟩, hB, fun a n c h => by cases h⟩)
  have HYes : Hid (∀ wz (x : PaneV), grownQ q W ps v = (x.p, 0) → GoodP wz x → NewT w x.tv → Below w.heap.size w wz → P (.returned (.tuple #[.agg x.cells, .int .i64 0])) wz) := Lib.hid (fun wz x h hG hN hB => by
    rw [hP, h]
    exact ⟨x, rfl, rfl, hG, hB, hN⟩)
  have HGq : Hid (grownQ q W ps v = if (growQ q W ps (zeroA, 0)).2.2 = 0 then (if (addQ q (growQ q W ps (zeroA, 0)).1 v).2 = 0 then (⟨W, (addQ q (growQ q W ps (zeroA, 0)).1 v).1, (growQ q W ps (zeroA, 0)).2.1⟩, 0) else (zeroP, (addQ q (growQ q W ps (zeroA, 0)).1 v).2)) else (zeroP, (growQ q W ps (zeroA, 0)).2.2)) := Lib.hid rfl
  obtain ⟨w1, hw1⟩ : ∃ W1, W1 = ((w.alloc (.cells q.cells 23)).alloc (.cells W.cells 47)).alloc (.cells #[.string ⟨#[]⟩, .int .i64 0, .int .i64 0, .int .i64 0, .int .i64 0, .slice none 0 0, .complex .f64 0 0, .int .i64 0] 55) := ⟨_, rfl⟩; obtain ⟨qb, hqb⟩ : ∃ b, b = w.heap.size := ⟨_, rfl⟩; obtain ⟨wb, hwb⟩ : ∃ b, b = w.heap.size + 1 := ⟨_, rfl⟩; obtain ⟨rb, hrb⟩ : ∃ b, b = w.heap.size + 2 := ⟨_, rfl⟩
  have H1 : Hid (RowQ w1 qb q ∧ RowW w1 wb W ∧ RowP w1 rb zeroPV ∧ Below w.heap.size w w1 ∧ w1.heap.size = w.heap.size + 3) := by rw [hw1, hqb, hwb, hrb]; exact Lib.hid (box_grown w q W)
  have HBd : Hid (w.heap.size ≤ qb ∧ qb < wb ∧ wb < rb ∧ rb < w1.heap.size) := Lib.hid ⟨by omega, by omega, by omega, by have := H1.out.2.2.2.2; omega⟩
  have HA : Hid (PanesAt w sa l ∧ (∀ x ∈ l, GoodP w x) ∧ FitP l) := Lib.hid ⟨hA, hG, hF⟩
  have hn6 : n ≤ 1000000 := by have := hF.2; omega
  have HN : Hid (n = l.length ∧ ps.length = n) := Lib.hid ⟨hN, by rw [hps, List.length_map, hN]⟩
  have HPs : Hid (∀ (i : Nat) (x : PaneV), l[i]? = some x → ps[i]? = some x.p) := Lib.hid (fun i x h => by rw [hps, List.getElem?_map, h]; rfl)
  obtain ⟨VQ, hVQ⟩ : ∃ V, V = Value.agg q.cells := ⟨_, rfl⟩
  have HMg : Hid (∀ w' (x y : AggL) tv1 z1 tv2 z2, IntsAt w' tv1 x.top → WholeZ z1 x.u x.v → IntsAt w' tv2 y.top → WholeZ z2 y.u y.v → x.top.length ≤ 1000000 → y.top.length ≤ 1000000 → Calls Tryz.prog 99 #[VQ, .agg (aggC x.n x.a tv1 z1), .agg (aggC y.n y.a tv2 z2)] w' (AggEnd w' (mergeQ q x y).1 (mergeQ q x y).2)) := by
    rw [hVQ]; exact Lib.hid (fun w' x y tv1 z1 tv2 z2 h1 h2 h3 h4 h5 h6 => amerge_any w' q x y tv1 z1 tv2 z2 h1 h3 h2 h4 h5 h6)
  have HAd : Hid (∀ w' (x : AggL) tv1 z1, IntsAt w' tv1 x.top → WholeZ z1 x.u x.v → x.top.length ≤ 1000000 → Calls Tryz.prog 100 #[VQ, .agg (aggC x.n x.a tv1 z1), .int .i64 v] w' (AggEnd w' (addQ q x v).1 (addQ q x v).2)) := by
    rw [hVQ]; exact Lib.hid (fun w' x tv1 z1 h1 h2 h3 => aadd_any w' q x tv1 z1 v h1 h2 h3)
  obtain ⟨Q, hQ⟩ : ∃ Q, Q = q := ⟨_, rfl⟩; rw [← hQ] at H1 HMg HAd HErr HYes HGq; obtain ⟨kind, size, slide, late, agg, kq⟩ := q; obtain ⟨wk, wl, wh⟩ := W; have HVQ : Hid (VQ = .agg #[.int .i64 kind, .int .i64 size, .int .i64 slide, .int .i64 late, .int .i64 agg, .int .i64 kq]) := Lib.hid hVQ
  have HQd : Hid (∀ w', RowQ w' qb Q → D6 w' qb kind size slide late agg kq) := by rw [hQ]; exact Lib.hid (fun w' h => h.d6)
  clear hVQ hQ hA hG hF hP hN hps; obtain ⟨W, hW⟩ : ∃ W, W = WindowL.mk wk wl wh := ⟨_, rfl⟩; rw [← hW] at H1 HErr HYes HGq
  have HWd : Hid (∀ w', RowW w' wb W → D3 w' wb wk wl wh) := by rw [hW]; exact Lib.hid (fun w' h => h.d3)
  have HWv : Hid (W.key = wk ∧ W.lo = wl ∧ W.hi = wh ∧ W = ⟨wk, wl, wh⟩) := by rw [hW]; exact Lib.hid ⟨rfl, rfl, rfl, rfl⟩
  clear hW; unfold QueryL.cells WindowL.cells at hw1 ⊢; simp only at hw1; have hs1 : (w.alloc (.cells #[.int .i64 kind, .int .i64 size, .int .i64 slide, .int .i64 late, .int .i64 agg, .int .i64 kq] 23)).heap.size = w.heap.size + 1 := heap_alloc_size w _
  have hs2 : ((w.alloc (.cells #[.int .i64 kind, .int .i64 size, .int .i64 slide, .int .i64 late, .int .i64 agg, .int .i64 kq] 23)).alloc (.cells #[Sv wk, .int .i64 wl, .int .i64 wh] 47)).heap.size = w.heap.size + 2 := by rw [heap_alloc_size, heap_alloc_size]
  go_enter Tryz.func64, Tryz.ntmps64
  go_upto_region 1 with (fail)
  rw [← hw1, ← hrb, ← hwb, ← hqb]; clear hw1 hrb hwb hqb hs1 hs2; obtain ⟨e0, e1, e2⟩ := HWd.out w1 H1.out.2.1; refine wp_region_lit ?_
  iterate 3 go_step
  refine wpList_build_on (by rfl) 55 #[(0, .tmp 14)] rfl #[Sv wk, .int .i64 wl, .int .i64 wh, .int .i64 0, .int .i64 0, .slice none 0 0, .complex .f64 0 0, .int .i64 0] (by first | exact built_pane wk wl wh | (simp only [List.map_toArray, List.map_cons, List.map_nil]; exact built_pane wk wl wh) | kernel_rfl) ?_
  iterate 3 go_step
  obtain ⟨X0, hX0⟩ : ∃ X : PaneV, X = ⟨⟨⟨wk, wl, wh⟩, zeroA, 0⟩, nilV, zeroZ, rfl, rfl⟩ := ⟨_, rfl⟩
  have hXc : (#[Sv wk, .int .i64 wl, .int .i64 wh, .int .i64 0, .int .i64 0, .slice none 0 0, .complex .f64 0 0, .int .i64 0] : Array Value) = X0.cells := by rw [hX0]; rfl
  rw [hXc]; refine wpList_store_row rfl _ _ _ rfl w1.heap.size X0.cells rfl rfl 55 zeroPV.cells (heap_alloc_new w1 _) pane_size rfl (pane_one _) ?_; obtain ⟨w2, hw2⟩ : ∃ W, W = (w1.alloc (Obj.cells #[.string ⟨#[]⟩, .int .i64 0, .int .i64 0, .int .i64 0, .int .i64 0, .slice none 0 0, .complex .f64 0 0, .int .i64 0] 55)).setRow w1.heap.size X0.cells := ⟨_, rfl⟩; obtain ⟨gb, hgb⟩ : ∃ b, b = w1.heap.size := ⟨_, rfl⟩
  have H2 : Hid (GrI w qb wb rb gb Q W X0 w2 ∧ rb < gb ∧ w1.heap.size ≤ w2.heap.size) := by
    obtain ⟨k1, k2⟩ := stored_pane w1 X0; obtain ⟨j1, j2, j3, j4, j5⟩ := H1.out; have hb := HBd.out; rw [hw2, hgb]
    refine Lib.hid ⟨⟨j1.below k2, j2.below k2, j3.below k2, k1, ?_, ?_, ?_, j4.trans (k2.mono j4.size)⟩, by omega, k2.size⟩
    · rw [hX0]; exact ⟨IntsAt.nil _, zeroZ_whole⟩
    · rw [hX0]
      exact fun a n c h => by cases h
    · rw [hX0]
      exact fun a n c h => by cases h
  have HX0 : Hid (X0.p.w = W ∧ X0.p.a = zeroA ∧ X0.p.r = 0) := by rw [hX0, HWv.out.2.2.2]; exact Lib.hid ⟨rfl, rfl, rfl⟩
  rw [← hw2, ← hgb]; clear hw2 hgb hXc hX0 e0 e1 e2 H1; go_wp2_with (fail)
  go_loopw [11, 18] (GrRel w qb wb rb gb Q W ps) (fun _ i _ => n - (intOf i).toNat)
  case atStart =>
    obtain ⟨x1, x2, x3⟩ := HX0.out
    exact ⟨0, Nat.zero_le _, rfl, rfl, X0, x1, by rw [x2]; simp [zeroA], by rw [x2, x3, List.drop_zero], H2.out.1⟩
  case round =>
    obtain ⟨i, hi, rfl, rfl, X, hXw, hXt, hgq, hI⟩ := hrel; rw [HN.out.2] at hi; have HO := Lib.hid (And.intro hXw (And.intro hXt (And.intro hgq hI))); clear hXw hXt hgq hI
    by_cases hlt : i < n
    · have hi0 : (0 : Int) ≤ (i : Int) ∧ (i : Int) < (n : Int) := by omega
      obtain ⟨x, pa, oa, hx, hsa, c0, c1, c2, c3, c4, c5, c6, c7⟩ := (HA.out.1.below HO.out.2.2.2.2.2.2.2.2.2.2).get (t := i) (by rw [← HN.out.1]; exact hlt)
      subst hsa; have HX : Hid (x ∈ l ∧ ps[i]? = some x.p ∧ i < n) := Lib.hid ⟨List.mem_of_getElem? hx, HPs.out i x hx, hlt⟩; clear hx hi hlt; obtain ⟨x_, hxe⟩ : ∃ y : PaneV, y = x := ⟨_, rfl⟩; rw [← hxe] at HX; obtain ⟨⟨⟨xk, xl, xh⟩, ⟨xn, xa, xt, xu, xv⟩, xr⟩, xtv, xz, xht, xhz⟩ := x; simp only at c0 c1 c2 c3 c4 c5 c6 c7
      go_upto_region 4 with (fail)
      refine wp_region_lit ?_
      iterate 9 go_step
      refine wpList_store_row rfl _ _ _ rfl wr.heap.size (PaneV.mk ⟨⟨xk, xl, xh⟩, ⟨xn, xa, xt, xu, xv⟩, xr⟩ xtv xz xht xhz).cells rfl rfl 55 zeroPV.cells (heap_alloc_new wr _) pane_size rfl (pane_one _) ?_; obtain ⟨wx, hwx⟩ : ∃ W, W = (wr.alloc (Obj.cells #[.string ⟨#[]⟩, .int .i64 0, .int .i64 0, .int .i64 0, .int .i64 0, .slice none 0 0, .complex .f64 0 0, .int .i64 0] 55)).setRow wr.heap.size (PaneV.mk ⟨⟨xk, xl, xh⟩, ⟨xn, xa, xt, xu, xv⟩, xr⟩ xtv xz xht xhz).cells := ⟨_, rfl⟩; obtain ⟨xb, hxb⟩ : ∃ b, b = wr.heap.size := ⟨_, rfl⟩
      have Hwx : Hid (RowP wx xb x_ ∧ GrI w qb wb rb gb Q W X wx ∧ xb ≠ gb ∧ GoodP wx x_) := by
        obtain ⟨k1, k2⟩ := stored_pane wr (PaneV.mk ⟨⟨xk, xl, xh⟩, ⟨xn, xa, xt, xu, xv⟩, xr⟩ xtv xz xht xhz); have h := HO.out.2.2.2; have hl := h.2.2.2.1.lt; rw [hwx, hxb, hxe]
        have hg := HA.out.2.1 _ (by rw [hxe] at HX; exact HX.out.1)
        exact Lib.hid ⟨k1, h.below k2, by omega, hg.below (h.2.2.2.2.2.2.2.trans (k2.mono h.2.2.2.2.2.2.2.size))⟩
      rw [← hwx, ← hxb]; clear hwx hxb c0 c1 c2 c3 c4 c5 c6 c7; obtain ⟨mg, hmg⟩ : ∃ m, m = (mergeQ Q X.p.a x_.p.a).1 := ⟨_, rfl⟩; obtain ⟨er, her⟩ : ∃ e, e = (mergeQ Q X.p.a x_.p.a).2 := ⟨_, rfl⟩
      have hmt : mg.top.length ≤ 8 := by rw [hmg]; exact mergeQ_top _ _ _
      have HM : Hid (Calls Tryz.prog 99 #[VQ, .agg (aggC X.p.a.n X.p.a.a X.tv X.z), .agg (aggC x_.p.a.n x_.p.a.a x_.tv x_.z)] wx (AggEnd wx mg er)) := by
        obtain ⟨_, h2, _⟩ := Hwx.out; rw [hmg, her]
        exact Lib.hid (HMg.out wx X.p.a x_.p.a X.tv X.z x_.tv x_.z h2.2.2.2.2.1.1 h2.2.2.2.2.1.2 Hwx.out.2.2.2.1 Hwx.out.2.2.2.2 (by have := HO.out.2.1; omega) (HA.out.2.2.1 _ HX.out.1).2)
      have HMe : Hid (growQ Q W ps (zeroA, 0) = (if er = 0 then growQ Q W (ps.drop (i + 1)) (mg, if x_.p.w = W then x_.p.r else X.p.r) else (zeroA, 0, er)) ∧ mg.top.length ≤ 8) := by
        rw [HO.out.2.2.1, growQ_at HX.out.2.1, hmg, her]; refine Lib.hid ⟨rfl, ?_⟩; rw [hmg] at hmt; exact hmt
      clear hmg her hmt
      have HPx : Hid (∀ w', RowP w' xb x_ → D8 w' xb (PaneV.mk ⟨⟨xk, xl, xh⟩, ⟨xn, xa, xt, xu, xv⟩, xr⟩ xtv xz xht xhz)) := by rw [hxe]; exact Lib.hid (fun w' h => h.d8)
      have HXe : Hid (x_ = (PaneV.mk ⟨⟨xk, xl, xh⟩, ⟨xn, xa, xt, xu, xv⟩, xr⟩ xtv xz xht xhz)) := Lib.hid hxe; clear hxe
      have HVx : Hid (Value.agg (aggC x_.p.a.n x_.p.a.a x_.tv x_.z) = .agg #[.int .i64 xn, .int .i64 xa, xtv, xz]) := by rw [HXe.out]; exact Lib.hid rfl
      have HXc := Lib.hid (And.intro HO.out.1 HO.out.2.1); obtain ⟨X_, hXe⟩ : ∃ y : PaneV, y = X := ⟨_, rfl⟩; rw [← hXe] at Hwx HM HMe HXc; obtain ⟨⟨⟨gk, gl, gh⟩, ⟨gn, ga, gt, gu, gv⟩, gr⟩, gtv, gz, ght, ghz⟩ := X
      have HPg : Hid (∀ w', RowP w' gb X_ → D8 w' gb ⟨⟨⟨gk, gl, gh⟩, ⟨gn, ga, gt, gu, gv⟩, gr⟩, gtv, gz, ght, ghz⟩) := by rw [hXe]; exact Lib.hid (fun w' h => h.d8)
      have HVg : Hid (Value.agg (aggC X_.p.a.n X_.p.a.a X_.tv X_.z) = .agg #[.int .i64 gn, .int .i64 ga, gtv, gz]) := by rw [hXe]; exact Lib.hid rfl
      clear hXe HO
      have HM2 : Hid (Calls Tryz.prog 99 #[.agg #[.int .i64 kind, .int .i64 size, .int .i64 slide, .int .i64 late, .int .i64 agg, .int .i64 kq], .agg #[.int .i64 gn, .int .i64 ga, gtv, gz], .agg #[.int .i64 xn, .int .i64 xa, xtv, xz]] wx (AggEnd wx mg er)) := by
        have h := HM.out; rw [HVQ.out, HVx.out, HVg.out] at h; exact Lib.hid h
      clear HM; obtain ⟨d0, d1, d2, d3, d4, d5⟩ := HQd.out wx Hwx.out.2.1.1; obtain ⟨e0, e1, e2, e3, e4, e5, e6, e7⟩ := HPg.out wx Hwx.out.2.1.2.2.2.1; obtain ⟨f0, f1, f2, f3, f4, f5, f6, f7⟩ := HPx.out wx Hwx.out.1
      go_upto_region 5 with (fail)
      refine wp_region_lit ?_
      iterate 15 go_step
      refine wpList_plain rfl fun K hK => ?_; go_step; refine HM2.out.mono ?_; rintro e w3 ⟨tv, z, rfl, hI, hZ, hB, hNw⟩; refine hK _ _ ?_; clear hK; have H3 : Hid (RowP w3 xb x_ ∧ GrI w qb wb rb gb Q W X_ w3 ∧ xb ≠ gb ∧ IntsAt w3 tv mg.top ∧ WholeZ z mg.u mg.v ∧ ∀ a n c, tv = .slice (some a) n c → wx.heap.size ≤ a.block) := Lib.hid ⟨Hwx.out.1.below hB, Hwx.out.2.1.below hB, Hwx.out.2.2.1, hI, hZ, hNw⟩; have HSz : Hid (gb < wx.heap.size ∧ w.heap.size ≤ wx.heap.size) := Lib.hid ⟨Hwx.out.2.1.2.2.2.1.lt, Hwx.out.2.1.2.2.2.2.2.2.2.size⟩; obtain ⟨ht, hz⟩ : tv.oneCell' = true ∧ z.oneCell' = true := ⟨hI.one, hZ.1.one⟩; clear hI hZ hB hNw d0 d1 d2 d3 d4 d5 e0 e1 e2 e3 e4 e5 e6 e7 f0 f1 f2 f3 f4 f5 f6 f7
      iterate 12 go_step
      refine wpList_storeA rfl (.tmp 31) (.tmp 29) rfl gb X_ mg tv z ht hz rfl rfl H3.out.2.1.2.2.2.1 ?_; intro w4 hr4 hg4; obtain ⟨X4, hX4⟩ : ∃ Y : PaneV, Y = ⟨⟨X_.p.w, mg, X_.p.r⟩, tv, z, ht, hz⟩ := ⟨_, rfl⟩; rw [← hX4] at hr4
      have H4 : Hid (RowP w4 xb x_ ∧ GrI w qb wb rb gb Q W X4 w4) := by
        obtain ⟨j1, ⟨k1, k2, k3, k4, k5, k6, k7, k8⟩, j3, j4, j5, j6⟩ := H3.out; have hb := HBd.out; have hs := HSz.out; have hgr := H2.out.2.1
        have hn : ∀ a n c, tv = .slice (some a) n c → gb < a.block ∧ w.heap.size ≤ a.block := fun a n c h => by have := j6 a n c h; omega
        refine Lib.hid ⟨j1.grown hg4 (by simp; exact j3), RowQ.below' k1 hg4 (by omega), k2.grown hg4 (by simp; omega), k3.grown hg4 (by simp; omega), hr4, ?_, ?_, ?_, k8.trans (below_set hg4 (by omega) k8.size)⟩
        · rw [hX4]
          exact ⟨j4.grown hg4 (fun a n c h _ => by have := (hn a n c h).1; omega), j5⟩
        · rw [hX4]; exact fun a n c h => (hn a n c h).2
        · rw [hX4]; exact fun a n c h _ => (hn a n c h).1
      have HX4 : Hid (X4.p.w = W ∧ X4.p.a = mg ∧ X4.p.r = X_.p.r) := by rw [hX4]; exact Lib.hid ⟨HXc.out.1, rfl, rfl⟩
      clear hX4 hr4 hg4 H3 HSz Hwx
      by_cases hz0 : er = 0
      · subst hz0
        have HMe2 : Hid (growQ Q W ps (zeroA, 0) = growQ Q W (ps.drop (i + 1)) (mg, if x_.p.w = W then x_.p.r else X_.p.r)) := Lib.hid (by have h := HMe.out.1; rwa [if_pos rfl] at h)
        go_upto_region 8 with (fail)
        obtain ⟨f0, f1, f2, f3, f4, f5, f6, f7⟩ := HPx.out w4 H4.out.1; obtain ⟨e0, e1, e2⟩ := HWd.out w4 H4.out.2.2.1; obtain ⟨rw_, hrw⟩ : ∃ r, r = sameW ⟨xk, xl, xh⟩ ⟨wk, wl, wh⟩ := ⟨_, rfl⟩
        have heq : ∀ w', (binOp .eql 47 (.agg #[Sv xk, .int .i64 xl, .int .i64 xh]) (.agg #[Sv wk, .int .i64 wl, .int .i64 wh])).run Tryz.prog w' = .ok (.bool rw_) w' := fun w' => by rw [hrw]; exact run_eql_window w' ⟨xk, xl, xh⟩ ⟨wk, wl, wh⟩
        have hgd : ∀ w' op o1 o2, (eqGuard op 47 o1 o2 (.agg #[Sv xk, .int .i64 xl, .int .i64 xh]) (.agg #[Sv wk, .int .i64 wl, .int .i64 wh])).run Tryz.prog w' = .ok () w' := fun w' op o1 o2 => run_guard_window w' op o1 o2 ⟨xk, xl, xh⟩ ⟨wk, wl, wh⟩
        have HRw : Hid (rw_ = true ↔ x_.p.w = W) := by
          rw [hrw, HXe.out, HWv.out.2.2.2]; exact Lib.hid (sameW_iff _ _)
        clear hrw
        cases rw_ with
        | false =>
          go_wp2_with (fail)
          refine ⟨⟨i + 1, by rw [HN.out.2]; exact HX.out.2.2, rfl, rfl, X4, HX4.out.1, by rw [HX4.out.2.1]; exact HMe.out.2, ?_, H4.out.2⟩, by rw [intOf_i, intOf_i]; have := HX.out.2.2; omega⟩
          rw [HMe2.out, if_neg (fun h => by have := HRw.out.2 h; simp at this), HX4.out.2.1, HX4.out.2.2]
        | true =>
          go_upto_region 9 with (fail)
          have e7 := (H4.out.2.2.2.2.1.d8).2.2.2.2.2.2.2; refine wp_region_lit ?_
          iterate 9 go_step
          refine wpList_store1 rfl _ (.tmp 42) (.tmp 41) rfl ⟨gb, 7, none⟩ (.int .i64 xr) _ rfl rfl rfl rfl Tryz.sizeOf3 e7 (RowP.fro H4.out.2.2.2.2.1 7) ?_; obtain ⟨w5, hw5⟩ : ∃ W, W = w4.setCell ⟨gb, 7, none⟩ (.int .i64 xr) := ⟨_, rfl⟩; obtain ⟨X5, hX5⟩ : ∃ Y : PaneV, Y = ⟨⟨X4.p.w, X4.p.a, xr⟩, X4.tv, X4.z, X4.ht, X4.hz⟩ := ⟨_, rfl⟩
          have H5 : Hid (GrI w qb wb rb gb Q W X5 w5) := by
            have hg : w4.grownBy w5 (some gb) := by rw [hw5]; exact grown_setCell _ _ _ _
            obtain ⟨k1, k2, k3, k4, k5, k6, k7, k8⟩ := H4.out.2; have hb := HBd.out; have hgr := H2.out.2.1
            refine Lib.hid ⟨RowQ.below' k1 hg (by omega), k2.grown hg (by simp; omega), k3.grown hg (by simp; omega), by rw [hX5, hw5]; exact k4.setR xr, ?_, by rw [hX5]; exact k6, by rw [hX5]; exact k7, k8.trans (below_set hg (by omega) k8.size)⟩
            rw [hX5]
            exact ⟨k5.1.grown hg (fun a n c h hne => by have := k7 a n c h hne; omega), k5.2⟩
          have HX5 : Hid (X5.p.w = W ∧ X5.p.a = mg ∧ X5.p.r = x_.p.r) := by rw [hX5, HXe.out]; exact Lib.hid ⟨HX4.out.1, HX4.out.2.1, rfl⟩
          rw [← hw5]; clear hw5 hX5 e7 e0 e1 e2 f0 f1 f2 f3 f4 f5 f6 f7 heq hgd; go_wp2_with (fail)
          refine ⟨⟨i + 1, by rw [HN.out.2]; exact HX.out.2.2, rfl, rfl, X5, HX5.out.1, by rw [HX5.out.2.1]; exact HMe.out.2, ?_, H5.out⟩, by rw [intOf_i, intOf_i]; have := HX.out.2.2; omega⟩
          rw [HMe2.out, if_pos (HRw.out.1 (by simp)), HX5.out.2.1, HX5.out.2.2]
      · have hz1 : (er != 0) = true := bne_iff_ne.2 hz0
        have HE : Hid (grownQ Q W ps v = (zeroP, er)) := by
          have h := HMe.out.1; rw [if_neg hz0] at h; rw [HGq.out, h]; exact Lib.hid (if_neg hz0)
        clear hz0
        go_upto_region 7 with (fail)
        refine wp_region_lit ?_
        refine wpList_build_on (by rfl) 55 #[] rfl zeroPV.cells (by first | exact built_pane0 | (simp only [List.map_toArray, List.map_nil]; exact built_pane0) | kernel_rfl) ?_
        iterate 3 go_step
        refine wpList_store_row rfl _ _ _ rfl rb zeroPV.cells rfl rfl 55 zeroPV.cells H4.out.2.2.2.1 pane_size rfl (pane_one _) ?_; obtain ⟨w9, hw9⟩ : ∃ W, W = w4.setRow rb zeroPV.cells := ⟨_, rfl⟩
        have H9 : Hid (RowP w9 rb zeroPV ∧ P (.returned (.tuple #[.agg zeroPV.cells, .int .i64 er])) w9) := by
          have hg : w4.grownBy w9 (some rb) := by rw [hw9]; exact grown_setRow _ _ _
          have hb := HBd.out; have h8 := H4.out.2.2.2.2.2.2.2.2
          exact Lib.hid ⟨by rw [hw9]; exact RowP.reset H4.out.2.2.2.1 zeroPV, HErr.out w9 er HE.out (h8.trans (below_set hg (by omega) h8.size))⟩
        rw [← hw9]; clear hw9; go_wp2_with (fail); exact bodyPost_ret (v := .tuple #[.agg zeroPV.cells, .int .i64 er]) ((results_cell_row_tmp (p := 8) (u := 9) (ty := 55) rfl _ _ rb 55 zeroPV.cells (0, 0) _ rfl H9.out.1 Tryz.underlying55 rfl pane_size).trans rfl) rfl H9.out.2
    · obtain rfl : i = n := by omega
      clear hlt hi
      have hdr : ps.drop i = [] := by rw [List.drop_eq_nil_iff]; rw [HN.out.2]; exact Nat.le_refl _
      have HGa : Hid (growQ Q W ps (zeroA, 0) = (X.p.a, X.p.r, 0)) := by
        have h := HO.out.2.2.1; rw [hdr] at h; exact Lib.hid h
      clear hdr; obtain ⟨ad, had⟩ : ∃ m, m = (addQ Q X.p.a v).1 := ⟨_, rfl⟩; obtain ⟨er, her⟩ : ∃ e, e = (addQ Q X.p.a v).2 := ⟨_, rfl⟩; have HI := Lib.hid HO.out.2.2.2
      have HC : Hid (Calls Tryz.prog 100 #[VQ, .agg (aggC X.p.a.n X.p.a.a X.tv X.z), .int .i64 v] wr (AggEnd wr ad er)) := by
        rw [had, her]
        exact Lib.hid (HAd.out wr X.p.a X.tv X.z HI.out.2.2.2.2.1.1 HI.out.2.2.2.2.1.2 (by have := HO.out.2.1; omega))
      have HRs : Hid (grownQ Q W ps v = if er = 0 then (⟨W, ad, X.p.r⟩, 0) else (zeroP, er)) := by
        rw [HGq.out, HGa.out, had, her]; exact Lib.hid (if_pos rfl)
      have HXw := Lib.hid HO.out.1; clear had her HGa HO; obtain ⟨X_, hXe⟩ : ∃ y : PaneV, y = X := ⟨_, rfl⟩; rw [← hXe] at HI HC HRs HXw; obtain ⟨⟨⟨gk, gl, gh⟩, ⟨gn, ga, gt, gu, gv⟩, gr⟩, gtv, gz, ght, ghz⟩ := X
      have HPg : Hid (∀ w', RowP w' gb X_ → D8 w' gb ⟨⟨⟨gk, gl, gh⟩, ⟨gn, ga, gt, gu, gv⟩, gr⟩, gtv, gz, ght, ghz⟩) := by rw [hXe]; exact Lib.hid (fun w' h => h.d8)
      have HVg : Hid (Value.agg (aggC X_.p.a.n X_.p.a.a X_.tv X_.z) = .agg #[.int .i64 gn, .int .i64 ga, gtv, gz]) := by rw [hXe]; exact Lib.hid rfl
      have HC2 : Hid (Calls Tryz.prog 100 #[.agg #[.int .i64 kind, .int .i64 size, .int .i64 slide, .int .i64 late, .int .i64 agg, .int .i64 kq], .agg #[.int .i64 gn, .int .i64 ga, gtv, gz], .int .i64 v] wr (AggEnd wr ad er)) := by
        have h := HC.out; rw [HVQ.out, HVg.out] at h; exact Lib.hid h
      clear HC hXe; obtain ⟨d0, d1, d2, d3, d4, d5⟩ := HQd.out wr HI.out.1; obtain ⟨e0, e1, e2, e3, e4, e5, e6, e7⟩ := HPg.out wr HI.out.2.2.2.1
      go_upto_region 11 with (fail)
      refine wp_region_lit ?_
      iterate 12 go_step
      refine wpList_plain rfl fun K hK => ?_; go_step; refine HC2.out.mono ?_; rintro e w3 ⟨tv, z, rfl, hI, hZ, hB, hNw⟩; refine hK _ _ ?_; clear hK; have H3 : Hid (GrI w qb wb rb gb Q W X_ w3 ∧ IntsAt w3 tv ad.top ∧ WholeZ z ad.u ad.v ∧ ∀ a n c, tv = .slice (some a) n c → wr.heap.size ≤ a.block) := Lib.hid ⟨HI.out.below hB, hI, hZ, hNw⟩; have HSz : Hid (gb < wr.heap.size ∧ w.heap.size ≤ wr.heap.size) := Lib.hid ⟨HI.out.2.2.2.1.lt, HI.out.2.2.2.2.2.2.2.size⟩; obtain ⟨ht, hz⟩ : tv.oneCell' = true ∧ z.oneCell' = true := ⟨hI.one, hZ.1.one⟩; clear hI hZ hB hNw d0 d1 d2 d3 d4 d5 e0 e1 e2 e3 e4 e5 e6 e7
      iterate 12 go_step
      refine wpList_storeA rfl (.tmp 52) (.tmp 50) rfl gb X_ ad tv z ht hz rfl rfl H3.out.1.2.2.2.1 ?_; intro w4 hr4 hg4; obtain ⟨X4, hX4⟩ : ∃ Y : PaneV, Y = ⟨⟨X_.p.w, ad, X_.p.r⟩, tv, z, ht, hz⟩ := ⟨_, rfl⟩; rw [← hX4] at hr4
      have H4 : Hid (GrI w qb wb rb gb Q W X4 w4 ∧ ∀ a n c, X4.tv = .slice (some a) n c → wr.heap.size ≤ a.block) := by
        obtain ⟨⟨k1, k2, k3, k4, k5, k6, k7, k8⟩, j4, j5, j6⟩ := H3.out; have hb := HBd.out; have hs := HSz.out; have hgr := H2.out.2.1
        have hn : ∀ a n c, tv = .slice (some a) n c → gb < a.block ∧ w.heap.size ≤ a.block := fun a n c h => by have := j6 a n c h; omega
        refine Lib.hid ⟨⟨RowQ.below' k1 hg4 (by omega), k2.grown hg4 (by simp; omega), k3.grown hg4 (by simp; omega), hr4, ?_, ?_, ?_, k8.trans (below_set hg4 (by omega) k8.size)⟩, ?_⟩
        · rw [hX4]
          exact ⟨j4.grown hg4 (fun a n c h _ => by have := (hn a n c h).1; omega), j5⟩
        · rw [hX4]; exact fun a n c h => (hn a n c h).2
        · rw [hX4]; exact fun a n c h _ => (hn a n c h).1
        · rw [hX4]; exact j6
      have HX4 : Hid (X4.p = ⟨W, ad, X_.p.r⟩) := by rw [hX4, ← HXw.out]; exact Lib.hid rfl
      clear hX4 hr4 hg4 H3 HSz HI
      by_cases hz0 : er = 0
      · subst hz0
        have HE : Hid (grownQ Q W ps v = (X4.p, 0)) := by rw [HRs.out, if_pos rfl, HX4.out]; exact Lib.hid rfl
        go_upto_region 14 with (fail)
        obtain ⟨X5, hXe⟩ : ∃ y : PaneV, y = X4 := ⟨_, rfl⟩; rw [← hXe] at H4 HE; obtain ⟨⟨⟨gk, gl, gh⟩, ⟨gn, ga, gt, gu, gv⟩, gr⟩, gtv, gz, ght, ghz⟩ := X4
        have HPg : Hid (∀ w', RowP w' gb X5 → D8 w' gb ⟨⟨⟨gk, gl, gh⟩, ⟨gn, ga, gt, gu, gv⟩, gr⟩, gtv, gz, ght, ghz⟩) := by rw [hXe]; exact Lib.hid (fun w' h => h.d8)
        have hXc : X5.cells = #[Sv gk, .int .i64 gl, .int .i64 gh, .int .i64 gn, .int .i64 ga, gtv, gz, .int .i64 gr] := by rw [hXe]; rfl
        obtain ⟨e0, e1, e2, e3, e4, e5, e6, e7⟩ := HPg.out w4 H4.out.1.2.2.2.1; refine wp_region_lit ?_
        iterate 3 go_step
        rw [← hXc]; refine wpList_store_row rfl _ _ _ rfl rb X5.cells rfl rfl 55 zeroPV.cells H4.out.1.2.2.1 pane_size rfl (pane_one _) ?_; obtain ⟨w9, hw9⟩ : ∃ W, W = w4.setRow rb X5.cells := ⟨_, rfl⟩
        have H9 : Hid (RowP w9 rb X5 ∧ P (.returned (.tuple #[.agg X5.cells, .int .i64 0])) w9) := by
          have hg : w4.grownBy w9 (some rb) := by rw [hw9]; exact grown_setRow _ _ _
          have hb := HBd.out; have hgr := H2.out.2.1; obtain ⟨k1, k2, k3, k4, k5, k6, k7, k8⟩ := H4.out.1
          exact Lib.hid ⟨by rw [hw9]; exact k3.reset X5, HYes.out w9 X5 HE.out ⟨k5.1.grown hg (fun a n c h hne => by have := k7 a n c h hne; omega), k5.2⟩ k6 (k8.trans (below_set hg (by omega) k8.size))⟩
        rw [← hw9]; clear hw9 e0 e1 e2 e3 e4 e5 e6 e7; go_wp2_with (fail); exact bodyPost_ret (v := .tuple #[.agg X5.cells, .int .i64 0]) ((results_cell_row_tmp (p := 8) (u := 9) (ty := 55) rfl _ _ rb 55 X5.cells (0, 0) _ rfl H9.out.1 Tryz.underlying55 rfl pane_size).trans rfl) rfl H9.out.2
      · have hz1 : (er != 0) = true := bne_iff_ne.2 hz0
        have HE : Hid (grownQ Q W ps v = (zeroP, er)) := by rw [HRs.out, if_neg hz0]; exact Lib.hid rfl
        clear hz0
        go_upto_region 13 with (fail)
        refine wp_region_lit ?_
        refine wpList_build_on (by rfl) 55 #[] rfl zeroPV.cells (by first | exact built_pane0 | (simp only [List.map_toArray, List.map_nil]; exact built_pane0) | kernel_rfl) ?_
        iterate 3 go_step
        refine wpList_store_row rfl _ _ _ rfl rb zeroPV.cells rfl rfl 55 zeroPV.cells H4.out.1.2.2.1 pane_size rfl (pane_one _) ?_; obtain ⟨w9, hw9⟩ : ∃ W, W = w4.setRow rb zeroPV.cells := ⟨_, rfl⟩
        have H9 : Hid (RowP w9 rb zeroPV ∧ P (.returned (.tuple #[.agg zeroPV.cells, .int .i64 er])) w9) := by
          have hg : w4.grownBy w9 (some rb) := by rw [hw9]; exact grown_setRow _ _ _
          have hb := HBd.out; have h8 := H4.out.1.2.2.2.2.2.2.2
          exact Lib.hid ⟨by rw [hw9]; exact RowP.reset H4.out.1.2.2.1 zeroPV, HErr.out w9 er HE.out (h8.trans (below_set hg (by omega) h8.size))⟩
        rw [← hw9]; clear hw9; go_wp2_with (fail); exact bodyPost_ret (v := .tuple #[.agg zeroPV.cells, .int .i64 er]) ((results_cell_row_tmp (p := 8) (u := 9) (ty := 55) rfl _ _ rb 55 zeroPV.cells (0, 0) _ rfl H9.out.1 Tryz.underlying55 rfl pane_size).trans rfl) rfl H9.out.2
end Go.Proofs.YtjeeghafachebaaGreat
namespace Go.Proofs.YtjeeghafachebaaGreat
open Go Go.RowKit
theorem IntsAt.grownR {w w' : World} {v : Value} {l : List Int} {row : Option Nat} (h : IntsAt w v l) (hg : w.grownBy w' row) (hn : ∀ a n c, v = .slice (some a) n c → l ≠ [] → row ≠ some a.block) : IntsAt w' v l := by
  cases row with
  | none => exact h.below ⟨hg.os, hg.tape, hg.output, hg.size, fun k hk => hg.block k hk (by simp)⟩
  | some b => exact h.grown hg (fun a n c e hne he => hn a n c e hne (by rw [he]))
theorem IntsAt.lt {w : World} {v : Value} {l : List Int} (h : IntsAt w v l) {a : Addr} {n c : Nat} (e : v = .slice (some a) n c) (hne : l ≠ []) : a.block < w.heap.size := by
  obtain ⟨a', c', e', _, h'⟩ := h
  rcases h' with ⟨_, h'⟩ | ⟨b, o, ha, _, h'⟩
  · exact absurd h' hne
  · rw [e'] at e
    cases e
    cases ha
    cases l with
    | nil => exact absurd rfl hne
    | cons y t => exact block_lt_of_cell (h' 0 y rfl)
def OutsOwn (w : World) (base : Nat) (v : Value) (l : List OutV) : Prop := OwnO w base v l ∧ ∀ x ∈ l, GoodO w x ∧ ∀ a n c, x.tv = .slice (some a) n c → x.o.v ≠ [] → v.ownBlock ≠ some a.block
def PanesOwn (w : World) (base : Nat) (v : Value) (l : List PaneV) : Prop := OwnP w base v l ∧ ∀ x ∈ l, GoodP w x ∧ ∀ a n c, x.tv = .slice (some a) n c → x.p.a.top ≠ [] → v.ownBlock ≠ some a.block
theorem OutsOwn.push {w w' : World} {base : Nat} {v v' : Value} {l : List OutV} {y : OutV} (h : OutsOwn w base v l) (hy : GoodO w y) (hoff : ∀ a n c, y.tv = .slice (some a) n c → y.o.v ≠ [] → v.ownBlock ≠ some a.block) (ho : OwnO w' base v' (l ++ [y])) (hg : w.grownBy w' v.ownBlock) (hv : v'.ownBlock = v.ownBlock ∨ v'.ownBlock = some w.heap.size) : OutsOwn w' base v' (l ++ [y]) := by
  refine ⟨ho, fun x hx => ?_⟩
  have hx2 : GoodO w x ∧ ∀ a n c, x.tv = .slice (some a) n c → x.o.v ≠ [] → v.ownBlock ≠ some a.block := by
    rcases List.mem_append.1 hx with hx | hx
    · exact h.2 x hx
    · rw [List.mem_singleton.1 hx]; exact ⟨hy, hoff⟩
  refine ⟨IntsAt.grownR hx2.1 hg hx2.2, fun a n c e hne => ?_⟩
  rcases hv with hv | hv
  · rw [hv]; exact hx2.2 a n c e hne
  · rw [hv]; intro he; have := IntsAt.lt hx2.1 e hne; have he' := Option.some.inj he; omega
theorem PanesOwn.push {w w' : World} {base : Nat} {v v' : Value} {l : List PaneV} {y : PaneV} (h : PanesOwn w base v l) (hy : GoodP w y) (hoff : ∀ a n c, y.tv = .slice (some a) n c → y.p.a.top ≠ [] → v.ownBlock ≠ some a.block) (ho : OwnP w' base v' (l ++ [y])) (hg : w.grownBy w' v.ownBlock) (hv : v'.ownBlock = v.ownBlock ∨ v'.ownBlock = some w.heap.size) : PanesOwn w' base v' (l ++ [y]) := by
  refine ⟨ho, fun x hx => ?_⟩
  have hx2 : GoodP w x ∧ ∀ a n c, x.tv = .slice (some a) n c → x.p.a.top ≠ [] → v.ownBlock ≠ some a.block := by
    rcases List.mem_append.1 hx with hx | hx
    · exact h.2 x hx
    · rw [List.mem_singleton.1 hx]; exact ⟨hy, hoff⟩
  refine ⟨⟨IntsAt.grownR hx2.1.1 hg hx2.2, hx2.1.2⟩, fun a n c e hne => ?_⟩
  rcases hv with hv | hv
  · rw [hv]; exact hx2.2 a n c e hne
  · rw [hv]; intro he; have := IntsAt.lt hx2.1.1 e hne; have he' := Option.some.inj he; omega
theorem OutsOwn.keep {w w' : World} {base : Nat} {v : Value} {l : List OutV} {row : Option Nat} (h : OutsOwn w base v l) (hg : w.grownBy w' row) (hne : v.ownBlock = none ∨ v.ownBlock ≠ row) (hT : ∀ x ∈ l, ∀ a n c, x.tv = .slice (some a) n c → x.o.v ≠ [] → row ≠ some a.block) : OutsOwn w' base v l :=
  ⟨h.1.kept hg hne, fun x hx => ⟨IntsAt.grownR (h.2 x hx).1 hg (hT x hx), (h.2 x hx).2⟩⟩
theorem PanesOwn.keep {w w' : World} {base : Nat} {v : Value} {l : List PaneV} {row : Option Nat} (h : PanesOwn w base v l) (hg : w.grownBy w' row) (hne : v.ownBlock = none ∨ v.ownBlock ≠ row) (hT : ∀ x ∈ l, ∀ a n c, x.tv = .slice (some a) n c → x.p.a.top ≠ [] → row ≠ some a.block) : PanesOwn w' base v l :=
  ⟨h.1.kept hg hne, fun x hx => ⟨⟨IntsAt.grownR (h.2 x hx).1.1 hg (hT x hx), (h.2 x hx).1.2⟩, (h.2 x hx).2⟩⟩
theorem OutsOwn.far {w w' : World} {base : Nat} {v : Value} {l : List OutV} (h : OutsOwn w base v l) (hB : Below w.heap.size w w') : OutsOwn w' base v l := ⟨h.1.far hB, fun x hx => ⟨(h.2 x hx).1.below hB, (h.2 x hx).2⟩⟩
theorem PanesOwn.far {w w' : World} {base : Nat} {v : Value} {l : List PaneV} (h : PanesOwn w base v l) (hB : Below w.heap.size w w') : PanesOwn w' base v l := ⟨h.1.far hB, fun x hx => ⟨(h.2 x hx).1.below hB, (h.2 x hx).2⟩⟩
theorem rows_apartPO {w : World} {B B' : Nat} {v u : Value} {l : List PaneV} {m : List OutV} (h : OwnP w B v l) (h' : OwnO w B' u m) : v.ownBlock = none ∨ v.ownBlock ≠ u.ownBlock := by
  rcases h.2 with ⟨k1, _⟩ | ⟨a, c, cur, k1, _, k2, _⟩
  · exact .inl (by rw [k1]; rfl)
  · right
    rcases h'.2 with ⟨j1, _⟩ | ⟨a', c', cur', j1, _, j2, _⟩
    · rw [k1, j1]; simp [Value.ownBlock]
    · rw [k1, j1]; intro e; simp only [Value.ownBlock, Option.some.injEq] at e; rw [e, j2] at k2; simp only [Option.some.injEq, Obj.cells.injEq] at k2
      exact absurd k2.2.1 (by decide)
theorem rows_apartOP {w : World} {B B' : Nat} {v u : Value} {l : List PaneV} {m : List OutV} (h : OwnP w B v l) (h' : OwnO w B' u m) : u.ownBlock = none ∨ u.ownBlock ≠ v.ownBlock := by
  rcases h'.2 with ⟨j1, _⟩ | ⟨a', c', cur', j1, _, j2, _⟩
  · exact .inl (by rw [j1]; rfl)
  · right
    rcases h.2 with ⟨k1, _⟩ | ⟨a, c, cur, k1, _, k2, _⟩
    · rw [k1, j1]; simp [Value.ownBlock]
    · rw [k1, j1]; intro e; simp only [Value.ownBlock, Option.some.injEq] at e; rw [← e, j2] at k2; simp only [Option.some.injEq, Obj.cells.injEq] at k2
      exact absurd k2.2.1 (by decide)
def MkI (w : World) (qb sb rb bb : Nat) (q : QueryL) (m t : Int) (pv : Value) (ov : Value) (ol : List OutV) (bv : Value) (bl : List PaneV) (wr : World) : Prop :=
  RowQ wr qb q ∧ RowS wr sb m pv ∧ RowS wr rb 0 nilV ∧ RowS wr bb t bv ∧ PanesOwn wr (bb + 1) bv bl ∧ OutsOwn wr (bb + 1) ov ol ∧ Below w.heap.size w wr ∧ (∀ x ∈ ol, ∀ a n c, x.tv = .slice (some a) n c → bb < a.block) ∧ (∀ x ∈ ol, ∀ a n c, x.tv = .slice (some a) n c → x.o.v ≠ [] → bv.ownBlock ≠ some a.block) ∧ ∀ x ∈ bl, ∀ a n c, x.tv = .slice (some a) n c → x.p.a.top ≠ [] → a.block < w.heap.size
theorem MkI.below {w : World} {qb sb rb bb : Nat} {q : QueryL} {m t : Int} {pv ov : Value} {ol : List OutV} {bv : Value} {bl : List PaneV} {wr wz : World} (h : MkI w qb sb rb bb q m t pv ov ol bv bl wr) (hB : Below wr.heap.size wr wz) : MkI w qb sb rb bb q m t pv ov ol bv bl wz := by
  obtain ⟨h1, h2, h3, h4, h5, h6, h7, h8⟩ := h; exact ⟨h1.below hB, h2.below hB, h3.below hB, h4.below hB, h5.far hB, h6.far hB, h7.trans (hB.mono h7.size), h8⟩
def MkRel (w : World) (qb sb rb bb : Nat) (q : QueryL) (m t : Int) (pv : Value) (ps : List PaneL) (s9 s22 : Value) (wr : World) : Prop :=
  ∃ i : Nat, i ≤ ps.length ∧ s22 = .int .i64 (i : Int) ∧ ∃ ol bv bl, ol.length ≤ i ∧ bl.length ≤ i ∧ ol.map OutV.o = marksO q t (ps.take i) ∧ bl.map PaneV.p = marksP q t (ps.take i) ∧ MkI w qb sb rb bb q m t pv s9 ol bv bl wr
theorem marksO_at {q : QueryL} {t : Int} {ps : List PaneL} {i : Nat} {x : PaneL} (h : ps[i]? = some x) : marksO q t (ps.take (i + 1)) = marksO q t (ps.take i) ++ (if firesB t x = true then [toldQ q (firedP t x)] else []) := by
  rw [marksO, List.take_add_one, h, List.filter_append, List.map_append]
  congr 1
  by_cases hf : firesB t x = true <;> simp [hf]
theorem marksP_at {q : QueryL} {t : Int} {ps : List PaneL} {i : Nat} {x : PaneL} (h : ps[i]? = some x) : marksP q t (ps.take (i + 1)) = marksP q t (ps.take i) ++ (if goneW q x.w t = true then [] else [firedP t x]) := by
  have hw : (firedP t x).w = x.w := by unfold firedP; split <;> rfl
  rw [marksP, List.take_add_one, h, List.map_append, List.filter_append]
  congr 1
  by_cases hg : goneW q x.w t = true <;> simp [hg, hw]
def MarkEnd (w : World) (s : StateL) (o : List OutE) (e : Ending) (w' : World) : Prop := ∃ sv ov, e = .returned (.tuple #[sv, ov]) ∧ HasS w' sv s ∧ HasO w' ov o ∧ Below w.heap.size w w'
theorem box_mark (w : World) (q : QueryL) (m : Int) (pv : Value) :
    let W := ((w.alloc (.cells q.cells 23)).alloc (.cells #[.int .i64 m, pv] 29)).alloc (.cells #[.int .i64 0, nilV] 29)
    RowQ W w.heap.size q ∧ RowS W (w.heap.size + 1) m pv ∧ RowS W (w.heap.size + 2) 0 nilV ∧ Below w.heap.size w W ∧ W.heap.size = w.heap.size + 3 := by
  intro W; obtain ⟨k1, k2, k3⟩ := box_qs w q m pv
  have hs : ((w.alloc (.cells q.cells 23)).alloc (.cells #[.int .i64 m, pv] 29)).heap.size = w.heap.size + 2 := by rw [heap_alloc_size, heap_alloc_size]
  have k4 := (Below.refl _ ((w.alloc (.cells q.cells 23)).alloc (.cells #[.int .i64 m, pv] 29))).alloc (Nat.le_refl _) (.cells #[.int .i64 0, nilV] 29)
  refine ⟨k1.below k4, k2.below k4, ?_, k3.trans (k4.mono k3.size), by show (World.alloc _ _).heap.size = _; rw [heap_alloc_size, hs]⟩
  rw [← hs]; exact heap_alloc_new _ _
theorem stored_state (w : World) (m : Int) (pv : Value) : RowS ((w.alloc (Obj.cells #[.int .i64 0, nilV] 29)).setRow w.heap.size #[.int .i64 m, pv]) w.heap.size m pv ∧ Below w.heap.size w ((w.alloc (Obj.cells #[.int .i64 0, nilV] 29)).setRow w.heap.size #[.int .i64 m, pv]) :=
  ⟨setRow_heap _ _ _ _ _ _ (heap_alloc_new w _), ((Below.refl _ w).alloc (Nat.le_refl _) _).trans ⟨rfl, rfl, rfl, by simp [World.setRow], fun k hk => setRow_other _ _ _ _ (by omega)⟩⟩
theorem built_state1 (t : Int) : Tryz.prog.built 29 [(0, .int .i64 t)] = some #[.int .i64 t, .slice none 0 0] := by kernel_rfl
set_option maxRecDepth 100000 in
set_option maxHeartbeats 16000000 in
theorem omark_any (w : World) (q : QueryL) (m t : Int) (pv : Value) (l : List PaneV) (hA : PanesIn w pv l) (hG : ∀ x ∈ l, GoodP w x) (hF : FitP l) (hs : (wsP (l.map PaneV.p)).Pairwise aheadP) :
    Calls Tryz.prog 39 #[.agg q.cells, .agg #[.int .i64 m, pv], .int .i64 t] w (MarkEnd w (markQ q ⟨m, l.map PaneV.p⟩ t).1 (markQ q ⟨m, l.map PaneV.p⟩ t).2) := by
  obtain ⟨ps, hps⟩ : ∃ ps, ps = l.map PaneV.p := ⟨_, rfl⟩; rw [← hps] at hs ⊢; obtain ⟨P, hP⟩ : ∃ P, P = MarkEnd w (markQ q ⟨m, ps⟩ t).1 (markQ q ⟨m, ps⟩ t).2 := ⟨_, rfl⟩; rw [← hP]
  have HSame : Hid (t ≤ m → ∀ wz, PanesIn wz pv l → (∀ x ∈ l, GoodP wz x) → Below w.heap.size w wz → P (.returned (.tuple #[.agg #[.int .i64 m, pv], .slice none 0 0])) wz) := Lib.hid (fun h wz h1 h2 hB => by
    rw [hP, markQ, if_pos h]
    exact ⟨_, _, rfl, ⟨pv, l, rfl, h1, h2, hps⟩, HasO.nil _, hB⟩)
  have hnd : ((marksO q t ps).map OutE.w).Nodup := by
    have h1 : (marksO q t ps).map OutE.w = (ps.filter (firesB t)).map PaneL.w := by
      rw [marksO, List.map_map]
      apply List.map_congr_left
      intro x _
      show (firedP t x).w = x.w
      unfold firedP
      split <;> rfl
    rw [h1]; have h2 : ((ps.filter (firesB t)).map PaneL.w).Pairwise aheadP := List.Pairwise.sublist (List.filter_sublist.map _) hs
    exact h2.imp fun h e => by rw [e] at h; exact h.irrefl
  have HYes : Hid (¬ t ≤ m → ∀ wz bv bl ov ol, PanesIn wz bv bl → (∀ x ∈ bl, GoodP wz x) → bl.map PaneV.p = marksP q t ps → HasO wz ov ol → ol.Perm (marksO q t ps) → ol.Pairwise (fun a b => ¬ befO b a) → Below w.heap.size w wz → P (.returned (.tuple #[.agg #[.int .i64 t, bv], ov])) wz) := Lib.hid (fun h wz bv bl ov ol h1 h2 h3 h4 h5 h6 hB => by
    rw [hP, markQ, if_neg h]; refine ⟨_, _, rfl, ⟨bv, bl, rfl, h1, h2, h3.symm⟩, ?_, hB⟩; rw [← sortO_ext hnd h5 h6]
    exact h4)
  obtain ⟨sa, sc, hpv, hcap, hAt⟩ := hA.form; obtain ⟨n, hN⟩ : ∃ n, n = l.length := ⟨_, rfl⟩; obtain ⟨w1, hw1⟩ : ∃ W, W = ((w.alloc (.cells q.cells 23)).alloc (.cells #[.int .i64 m, pv] 29)).alloc (.cells #[.int .i64 0, .slice none 0 0] 29) := ⟨_, rfl⟩; obtain ⟨qb, hqb⟩ : ∃ b, b = w.heap.size := ⟨_, rfl⟩; obtain ⟨sb, hsb⟩ : ∃ b, b = w.heap.size + 1 := ⟨_, rfl⟩; obtain ⟨rb, hrb⟩ : ∃ b, b = w.heap.size + 2 := ⟨_, rfl⟩
  have H1 : Hid (RowQ w1 qb q ∧ RowS w1 sb m pv ∧ RowS w1 rb 0 nilV ∧ Below w.heap.size w w1 ∧ w1.heap.size = w.heap.size + 3) := by rw [hw1, hqb, hsb, hrb]; exact Lib.hid (box_mark w q m pv)
  have HBd : Hid (w.heap.size ≤ qb ∧ qb < sb ∧ sb < rb ∧ rb + 1 = w1.heap.size) := Lib.hid ⟨by omega, by omega, by omega, by have := H1.out.2.2.2.2; omega⟩
  have HA : Hid (PanesIn w pv l ∧ PanesAt w sa l ∧ (∀ x ∈ l, GoodP w x) ∧ FitP l) := Lib.hid ⟨hA, hAt, hG, hF⟩; have HLt : Hid (∀ x ∈ l, ∀ a n c, x.tv = .slice (some a) n c → x.p.a.top ≠ [] → a.block < w.heap.size) := Lib.hid (fun x hx a n c e hne => IntsAt.lt (hG x hx).1 e hne)
  have hn6 : n ≤ 1000000 := by have := hF.2; omega
  have HN : Hid (n = l.length ∧ ps.length = n) := Lib.hid ⟨hN, by rw [hps, List.length_map, hN]⟩
  have HPs : Hid (∀ (i : Nat) (x : PaneV), l[i]? = some x → ps[i]? = some x.p) := Lib.hid (fun i x h => by rw [hps, List.getElem?_map, h]; rfl)
  rw [← hN] at hpv; obtain ⟨VQ, hVQ⟩ : ∃ V, V = Value.agg q.cells := ⟨_, rfl⟩
  have HTo : Hid (∀ w' (x : PaneV), GoodP w' x → x.p.a.top.length ≤ 1000000 → Calls Tryz.prog 65 #[VQ, .agg x.cells] w' (OutEnd w' (toldQ q x.p))) := by
    rw [hVQ]; exact Lib.hid (fun w' x h hn => otold_any w' q x h hn)
  have HGo : Hid (∀ w' (x : PaneV), x.p.w.key.length ≤ 1000000 → Calls Tryz.prog 50 #[VQ, .agg x.p.w.cells, .int .i64 t] w' (Below0 w' (.bool (goneW q x.p.w t)))) := by
    rw [hVQ]; exact Lib.hid (fun w' x h => wgone_any w' q x.p.w t h)
  have HRi : Hid (∀ w' (x : PaneV), x.p.w.key.length ≤ 1000000 → Calls Tryz.prog 51 #[.agg x.p.w.cells, .int .i64 t] w' (Below0 w' (.bool (ripeW x.p.w t)))) := Lib.hid (fun w' x h => wripe_any w' x.p.w t h); clear hP hA hG hF hN hcap hAt hnd hs hps; subst hpv; obtain ⟨Q, hQ⟩ : ∃ Q, Q = q := ⟨_, rfl⟩; rw [← hQ] at H1 HTo HGo HYes; obtain ⟨kind, size, slide, late, agg, kq⟩ := q; have HVQ : Hid (VQ = .agg #[.int .i64 kind, .int .i64 size, .int .i64 slide, .int .i64 late, .int .i64 agg, .int .i64 kq]) := Lib.hid hVQ
  have HQd : Hid (∀ w', RowQ w' qb Q → D6 w' qb kind size slide late agg kq) := by rw [hQ]; exact Lib.hid (fun w' h => h.d6)
  clear hVQ hQ; unfold QueryL.cells at hw1 ⊢; simp only at hw1; have hs1 : (w.alloc (.cells #[.int .i64 kind, .int .i64 size, .int .i64 slide, .int .i64 late, .int .i64 agg, .int .i64 kq] 23)).heap.size = w.heap.size + 1 := heap_alloc_size w _
  have hs2 : ((w.alloc (.cells #[.int .i64 kind, .int .i64 size, .int .i64 slide, .int .i64 late, .int .i64 agg, .int .i64 kq] 23)).alloc (.cells #[.int .i64 m, .slice sa n sc] 29)).heap.size = w.heap.size + 2 := by rw [heap_alloc_size, heap_alloc_size]
  obtain ⟨e0, e1⟩ := H1.out.2.1.d2
  by_cases htm : t ≤ m
  · have HT := Lib.hid htm; have hd : decide (t ≤ m) = true := decide_eq_true htm; clear htm
    go_enter Tryz.func39, Tryz.ntmps39
    go_upto_region 1 with (fail)
    rw [← hw1, ← hrb, ← hsb, ← hqb]; clear hw1 hrb hsb hqb hs1 hs2
    go_upto_region 2 with (fail)
    refine wp_region_lit ?_
    iterate 3 go_step
    refine wpList_store_row rfl _ _ _ rfl rb #[.int .i64 m, .slice sa n sc] rfl rfl 29 #[.int .i64 0, nilV] H1.out.2.2.1 state_size rfl (state_one rfl) ?_; obtain ⟨w9, hw9⟩ : ∃ W, W = w1.setRow rb #[.int .i64 m, .slice sa n sc] := ⟨_, rfl⟩
    have H9 : Hid (RowS w9 rb m (.slice sa n sc) ∧ P (.returned (.tuple #[.agg #[.int .i64 m, .slice sa n sc], .slice none 0 0])) w9) := by
      have hg : w1.grownBy w9 (some rb) := by rw [hw9]; exact grown_setRow _ _ _
      have hb := HBd.out
      have hB := H1.out.2.2.2.1.trans (below_set hg (by omega) H1.out.2.2.2.1.size)
      exact Lib.hid ⟨by rw [hw9]; exact H1.out.2.2.1.reset m _, HSame.out HT.out w9 (HA.out.1.below hB) (fun x hx => (HA.out.2.2.1 x hx).below hB) hB⟩
    rw [← hw9]; clear hw9 e0 e1 hd; go_wp2_with (fail); exact bodyPost_ret (v := .tuple #[.agg #[.int .i64 m, .slice sa n sc], .slice none 0 0]) ((results_cell_row_tmp (p := 6) (u := 7) (ty := 29) rfl _ _ rb 29 #[.int .i64 m, .slice sa n sc] (0, 0) _ rfl H9.out.1 Tryz.underlying29 rfl state_size).trans rfl) rfl H9.out.2
  have HT := Lib.hid htm; have hd : decide (t ≤ m) = false := decide_eq_false htm; clear htm HSame
  go_enter Tryz.func39, Tryz.ntmps39
  go_upto_region 1 with (fail)
  rw [← hw1, ← hrb, ← hsb, ← hqb]; clear hw1 hrb hsb hqb hs1 hs2
  go_upto_region 3 with (fail)
  clear hd e0 e1; refine wp_region_lit ?_
  iterate 3 go_step
  refine wpList_build_on (by kernel_rfl) 29 _ rfl #[.int .i64 t, .slice none 0 0] (by simp only [List.map_toArray, List.map_cons, List.map_nil]; exact built_state1 t) ?_
  iterate 3 go_step
  refine wpList_store_row rfl _ _ _ rfl w1.heap.size #[.int .i64 t, .slice none 0 0] rfl rfl 29 #[.int .i64 0, nilV] (heap_alloc_new w1 _) state_size rfl (state_one rfl) ?_; obtain ⟨w2, hw2⟩ : ∃ W, W = (w1.alloc (Obj.cells #[.int .i64 0, .slice none 0 0] 29)).setRow w1.heap.size #[.int .i64 t, .slice none 0 0] := ⟨_, rfl⟩; obtain ⟨bb, hbb⟩ : ∃ b, b = w1.heap.size := ⟨_, rfl⟩
  have H2 : Hid (MkI w qb sb rb bb Q m t (.slice sa n sc) nilV [] nilV [] w2 ∧ rb < bb) := by
    obtain ⟨k1, k2⟩ := stored_state w1 t nilV; obtain ⟨j1, j2, j3, j4, j5⟩ := H1.out; have hb := HBd.out; have e : w2 = (w1.alloc (Obj.cells #[.int .i64 0, nilV] 29)).setRow w1.heap.size #[.int .i64 t, nilV] := hw2; rw [← e] at k1 k2; rw [hbb]
    exact Lib.hid ⟨⟨j1.below k2, j2.below k2, j3.below k2, k1, ⟨OwnP.nil _ _, fun x hx => by simp at hx⟩, ⟨OwnO.nil _ _, fun x hx => by simp at hx⟩, j4.trans (k2.mono j4.size), fun x hx => by simp at hx, fun x hx => by simp at hx, fun x hx => by simp at hx⟩, by omega⟩
  rw [← hw2, ← hbb]; clear hw2 hbb H1; obtain ⟨e0, e1⟩ := H2.out.1.2.1.d2; go_wp2_with (fail); clear e0 e1
  go_loopw [9, 22] (MkRel w qb sb rb bb Q m t (.slice sa n sc) ps) (fun _ i _ => n - (intOf i).toNat)
  case atStart => exact ⟨0, Nat.zero_le _, rfl, [], nilV, [], Nat.le_refl _, Nat.le_refl _, rfl, rfl, H2.out.1⟩
  case round =>
    obtain ⟨i, hi, rfl, ol, bv, bl, hol, hbl, hom, hbm, hI⟩ := hrel; rw [HN.out.2] at hi; have HO := Lib.hid (And.intro hol (And.intro hbl (And.intro hom (And.intro hbm hI))))
    rename_i s9 _
    obtain ⟨oa, oc, rfl, _, _⟩ := hI.2.2.2.2.2.1.1.form; clear hol hbl hom hbm hI
    by_cases hlt : i < n
    · have hi0 : (0 : Int) ≤ (i : Int) ∧ (i : Int) < (n : Int) := by omega
      obtain ⟨x, pa, pof, hx, hsa, c0, c1, c2, c3, c4, c5, c6, c7⟩ := (HA.out.2.1.below HO.out.2.2.2.2.2.2.2.2.2.2.1).get (t := i) (by rw [← HN.out.1]; exact hlt)
      subst hsa; have HX : Hid (x ∈ l ∧ ps[i]? = some x.p ∧ i < n) := Lib.hid ⟨List.mem_of_getElem? hx, HPs.out i x hx, hlt⟩; clear hx hi hlt; obtain ⟨x_, hxe⟩ : ∃ y : PaneV, y = x := ⟨_, rfl⟩; rw [← hxe] at HX; obtain ⟨⟨⟨xk, xl, xh⟩, ⟨xn, xa, xt, xu, xv⟩, xr⟩, xtv, xz, xht, xhz⟩ := x; simp only at c0 c1 c2 c3 c4 c5 c6 c7
      go_upto_region 7 with (fail)
      refine wp_region_lit ?_
      iterate 9 go_step
      refine wpList_store_row rfl _ _ _ rfl wr.heap.size (PaneV.mk ⟨⟨xk, xl, xh⟩, ⟨xn, xa, xt, xu, xv⟩, xr⟩ xtv xz xht xhz).cells rfl rfl 55 zeroPV.cells (heap_alloc_new wr _) pane_size rfl (pane_one _) ?_; obtain ⟨wx, hwx⟩ : ∃ W, W = (wr.alloc (Obj.cells #[.string ⟨#[]⟩, .int .i64 0, .int .i64 0, .int .i64 0, .int .i64 0, .slice none 0 0, .complex .f64 0 0, .int .i64 0] 55)).setRow wr.heap.size (PaneV.mk ⟨⟨xk, xl, xh⟩, ⟨xn, xa, xt, xu, xv⟩, xr⟩ xtv xz xht xhz).cells := ⟨_, rfl⟩; obtain ⟨xb, hxb⟩ : ∃ b, b = wr.heap.size := ⟨_, rfl⟩
      have Hwx : Hid (RowP wx xb x_ ∧ MkI w qb sb rb bb Q m t (.slice (some ⟨pa, pof, none⟩) n sc) (.slice oa ol.length oc) ol bv bl wx ∧ bb < xb ∧ GoodP wx x_ ∧ (∀ k, bv.ownBlock = some k → k ≠ xb) ∧ (∀ k, (Value.slice oa ol.length oc).ownBlock = some k → k ≠ xb) ∧ ∀ z ∈ ol, ∀ a n c, z.tv = .slice (some a) n c → z.o.v ≠ [] → a.block ≠ xb) := by
        obtain ⟨k1, k2⟩ := stored_pane wr (PaneV.mk ⟨⟨xk, xl, xh⟩, ⟨xn, xa, xt, xu, xv⟩, xr⟩ xtv xz xht xhz); have h := HO.out.2.2.2.2; have hl := h.2.2.2.1.lt; rw [hwx, hxb, hxe]
        have hg := HA.out.2.2.1 _ (by rw [hxe] at HX; exact HX.out.1)
        exact Lib.hid ⟨k1, h.below k2, by omega, hg.below (h.2.2.2.2.2.2.1.trans (k2.mono h.2.2.2.2.2.2.1.size)), fun k e => by have := (h.2.2.2.2.1.1.lt e).2; omega, fun k e => by have := (h.2.2.2.2.2.1.1.lt e).2; omega, fun z hz a n' c e hne => by have := IntsAt.lt (h.2.2.2.2.2.1.2 z hz).1 e hne; omega⟩
      rw [← hwx, ← hxb]; clear hwx hxb c0 c1 c2 c3 c4 c5 c6 c7; have HXe : Hid (x_ = (PaneV.mk ⟨⟨xk, xl, xh⟩, ⟨xn, xa, xt, xu, xv⟩, xr⟩ xtv xz xht xhz)) := Lib.hid hxe
      have HPx : Hid (∀ w', RowP w' xb x_ → D8 w' xb (PaneV.mk ⟨⟨xk, xl, xh⟩, ⟨xn, xa, xt, xu, xv⟩, xr⟩ xtv xz xht xhz)) := by rw [hxe]; exact Lib.hid (fun w' h => h.d8)
      have HTl := Lib.hid (HLt.out x_ HX.out.1); obtain ⟨rp, hrp⟩ : ∃ r, r = ripeW x_.p.w t := ⟨_, rfl⟩; obtain ⟨gn, hgn⟩ : ∃ r, r = goneW Q x_.p.w t := ⟨_, rfl⟩
      have HRp : Hid (∀ w', Calls Tryz.prog 51 #[.agg #[Sv xk, .int .i64 xl, .int .i64 xh], .int .i64 t] w' (Below0 w' (.bool rp))) := by
        have h := fun w' => HRi.out w' x_ (HA.out.2.2.2.1 _ HX.out.1).1; rw [← hrp, hxe] at h; exact Lib.hid h
      have HGp : Hid (∀ w', Calls Tryz.prog 50 #[.agg #[.int .i64 kind, .int .i64 size, .int .i64 slide, .int .i64 late, .int .i64 agg, .int .i64 kq], .agg #[Sv xk, .int .i64 xl, .int .i64 xh], .int .i64 t] w' (Below0 w' (.bool gn))) := by
        have h := fun w' => HGo.out w' x_ (HA.out.2.2.2.1 _ HX.out.1).1; rw [HVQ.out, ← hgn, hxe] at h; exact Lib.hid h
      have HMo : Hid (marksO Q t (ps.take (i + 1)) = marksO Q t (ps.take i) ++ (if firesB t x_.p = true then [toldQ Q (firedP t x_.p)] else [])) := Lib.hid (marksO_at HX.out.2.1)
      have HMp : Hid (marksP Q t (ps.take (i + 1)) = marksP Q t (ps.take i) ++ (if gn = true then [] else [firedP t x_.p])) := by rw [hgn]; exact Lib.hid (marksP_at HX.out.2.1)
      have HFi : Hid (firesB t x_.p = (decide (xr = 0) && rp)) := by rw [firesB, hrp, hxe]; exact Lib.hid rfl
      clear hrp hgn hxe; obtain ⟨f0, f1, f2, f3, f4, f5, f6, f7⟩ := HPx.out wx Hwx.out.1
      by_cases hr0 : xr = 0
      · subst hr0
        cases rp with
        | false =>
          have HF : Hid (firesB t x_.p = false) := by rw [HFi.out]; exact Lib.hid (by simp)
          go_wp2_with (fail); refine (HRp.out wx).mono ?_; rintro e w3 ⟨rfl, hB⟩; have H5 : Hid (MkI w qb sb rb bb Q m t (.slice (some ⟨pa, pof, none⟩) n sc) (.slice oa ol.length oc) ol bv bl w3 ∧ RowP w3 xb x_ ∧ GoodP w3 x_) := Lib.hid ⟨Hwx.out.2.1.below hB, Hwx.out.1.below hB, Hwx.out.2.2.2.1.below hB⟩; clear hB f0 f1 f2 f3 f4 f5 f6 f7; dsimp only; obtain ⟨d0, d1, d2, d3, d4, d5⟩ := HQd.out w3 (H5.out.1).1; obtain ⟨f0, f1, f2, f3, f4, f5, f6, f7⟩ := HPx.out w3 (H5.out.2.1)
          cases gn with
          | true =>
            go_wp2_with (fail); refine (HGp.out w3).mono ?_; rintro e w8 ⟨rfl, hB⟩; have HZ := Lib.hid ((H5.out.1).below hB); clear hB d0 d1 d2 d3 d4 d5 f0 f1 f2 f3 f4 f5 f6 f7; dsimp only; go_wp2_with (fail)
            refine ⟨⟨i + 1, by rw [HN.out.2]; exact HX.out.2.2, rfl, ol, bv, bl, by have := HO.out.1; omega, by have := HO.out.2.1; omega, (by rw [HMo.out, if_neg (by rw [HF.out]; simp), List.append_nil]; exact HO.out.2.2.1), ?_, HZ.out⟩, by rw [intOf_i, intOf_i]; have := HX.out.2.2; omega⟩
            rw [HMp.out, if_pos (by trivial), List.append_nil]
            exact HO.out.2.2.2.1
          | false =>
            go_wp2_with (fail); refine (HGp.out w3).mono ?_; rintro e w8 ⟨rfl, hB⟩; have H9 : Hid (MkI w qb sb rb bb Q m t (.slice (some ⟨pa, pof, none⟩) n sc) (.slice oa ol.length oc) ol bv bl w8 ∧ RowP w8 xb x_ ∧ GoodP w8 x_) := Lib.hid ⟨(H5.out.1).below hB, (H5.out.2.1).below hB, (H5.out.2.2).below hB⟩; clear hB d0 d1 d2 d3 d4 d5 f0 f1 f2 f3 f4 f5 f6 f7; dsimp only; obtain ⟨f0, f1, f2, f3, f4, f5, f6, f7⟩ := HPx.out w8 H9.out.2.1; obtain ⟨e0, e1⟩ := H9.out.1.2.2.2.1.d2
            go_upto_region 12 with (fail)
            refine wp_region_lit ?_
            iterate 9 go_step
            refine wpList_slice1_P rfl (.tmp 50) rfl x_ (by show _ = Value.agg x_.cells; rw [HXe.out]; rfl) ?_
            have hB10 : Below w8.heap.size w8 (w8.alloc (.cells x_.cells 55)) := (Below.refl _ w8).alloc (Nat.le_refl _) _; obtain ⟨w10, hw10⟩ : ∃ W, W = w8.alloc (.cells x_.cells 55) := ⟨_, rfl⟩; obtain ⟨nb, hnb⟩ : ∃ b, b = w8.heap.size := ⟨_, rfl⟩
            have hrow : RowP w10 nb x_ := by rw [hw10, hnb]; exact heap_alloc_new w8 _
            rw [← hw10] at hB10; have H10 : Hid (MkI w qb sb rb bb Q m t (.slice (some ⟨pa, pof, none⟩) n sc) (.slice oa ol.length oc) ol bv bl w10 ∧ RowP w10 nb x_ ∧ GoodP w10 x_) := Lib.hid ⟨H9.out.1.below hB10, hrow, H9.out.2.2.below hB10⟩; rw [← hw10, ← hnb]; clear hw10 hnb hB10 hrow f0 f1 f2 f3 f4 f5 f6 f7 e0 e1
            refine wpList_pushP rfl (.tmp 49) (.tmp 51) rfl (bb + 1) bv bl rfl H10.out.1.2.2.2.2.1.1 x_ nb rfl (fun j z hz => H10.out.2.1.cell j hz) (by have := HO.out.2.1; have := HX.out.2.2; omega) (by have := H10.out.1.2.2.2.1.lt; omega) ?_
            intro v11 w11 g1 g2 g3
            have H11 : Hid (RowQ w11 qb Q ∧ RowS w11 sb m (.slice (some ⟨pa, pof, none⟩) n sc) ∧ RowS w11 rb 0 nilV ∧ RowS w11 bb t bv ∧ PanesOwn w11 (bb + 1) v11 (bl ++ [x_]) ∧ OutsOwn w11 (bb + 1) (.slice oa ol.length oc) ol ∧ Below w.heap.size w w11 ∧ (∀ x ∈ ol, ∀ a n c, x.tv = .slice (some a) n c → bb < a.block) ∧ (∀ x ∈ ol, ∀ a n c, x.tv = .slice (some a) n c → x.o.v ≠ [] → v11.ownBlock ≠ some a.block) ∧ ∀ x ∈ bl ++ [x_], ∀ a n c, x.tv = .slice (some a) n c → x.p.a.top ≠ [] → a.block < w.heap.size) := by
              obtain ⟨⟨j1, j2, j3, j4, j5, j6, j7, j8, j8b, j9⟩, k1, k2⟩ := H10.out; have hb := HBd.out; have hgr := H2.out.2
              have hsz : w.heap.size ≤ bb := by omega
              have hne : ∀ b, b ≤ bb → some b ≠ bv.ownBlock := fun b hb e => by have := j5.1.lt e.symm; omega
              have hyt : ∀ a n c, x_.tv = .slice (some a) n c → x_.p.a.top ≠ [] → a.block < w.heap.size := fun a n' c e hne' => HTl.out a n' c (e) (hne')
              have hpush := j5.push k2 (fun a n' c e hne' he => by have h1 := hyt a n' c e hne'; have h2 := j5.1.lt he; omega) g1 g2 g3
              refine Lib.hid ⟨(g2.block qb j1.lt (hne qb (by omega))).trans j1, j2.grown g2 (hne sb (by omega)), j3.grown g2 (hne rb (by omega)), j4.grown g2 (hne bb (Nat.le_refl _)), hpush, j6.keep g2 (rows_apartOP j5.1 j6.1) (fun z hz a n' c e hne' => j8b z hz a n' c e hne'), j7.trans ⟨g2.os, g2.tape, g2.output, g2.size, fun k hk => g2.block k (by have := j7.size; omega) (hne k (by omega))⟩, fun z hz a n' c e => j8 z hz a n' c e, fun z hz a n' c e hne' he => ?_, fun z hz a n' c e hne' => ?_⟩
              · rcases g3 with g3 | g3
                · rw [g3] at he; exact j8b z hz a n' c e hne' he
                · rw [g3] at he; have := IntsAt.lt (j6.2 z hz).1 e hne'; have he' := Option.some.inj he; omega
              · rcases List.mem_append.1 hz with hz | hz
                · exact j9 z hz a n' c e hne'
                · rw [List.mem_singleton.1 hz] at e hne'; exact hyt a n' c e hne'
            have hv11 : v11.oneCell' = true ∧ v11.cells = #[v11] := by
              rcases g1.shape with ⟨rfl, _⟩ | ⟨g', c', rfl, _⟩ <;> exact ⟨rfl, rfl⟩
            clear g1 g2 g3; obtain ⟨e0, e1⟩ := H11.out.2.2.2.1.d2
            iterate 3 go_step
            refine wpList_store1 rfl _ (.tmp 53) (.tmp 52) rfl ⟨bb, 1, none⟩ v11 bv rfl rfl hv11.2 hv11.1 Tryz.sizeOf27 e1 (RowS.fro H11.out.2.2.2.1 1) ?_; obtain ⟨w12, hw12⟩ : ∃ W, W = w11.setCell ⟨bb, 1, none⟩ v11 := ⟨_, rfl⟩
            have H12 : Hid (MkI w qb sb rb bb Q m t (.slice (some ⟨pa, pof, none⟩) n sc) (.slice oa ol.length oc) ol v11 (bl ++ [x_]) w12) := by
              have hg : w11.grownBy w12 (some bb) := by rw [hw12]; exact grown_setCell _ _ _ _
              obtain ⟨j1, j2, j3, j4, j5, j6, j7, j8, j9, j10⟩ := H11.out; have hb := HBd.out; have hgr := H2.out.2
              have hsz : w.heap.size ≤ bb := by omega
              refine Lib.hid ⟨RowQ.below' j1 hg (by omega), j2.grown hg (by simp; omega), j3.grown hg (by simp; omega), by rw [hw12]; exact j4.set1 v11, j5.keep hg (.inr (fun e => by have := j5.1.lt e; omega)) (fun z hz a n' c e hne' he => ?_), j6.keep hg (.inr (fun e => by have := j6.1.lt e; omega)) (fun z hz a n' c e _ he => ?_), j7.trans (below_set hg (by omega) j7.size), j8, j9, j10⟩
              · cases he
                have := j10 z hz a n' c e hne'; omega
              · cases he
                have := j8 z hz a n' c e; omega
            rw [← hw12]; clear hw12 e0 e1 hv11; go_wp2_with (fail)
            refine ⟨⟨i + 1, by rw [HN.out.2]; exact HX.out.2.2, rfl, ol, v11, bl ++ [x_], by have := HO.out.1; omega, by rw [List.length_append, List.length_singleton]; have := HO.out.2.1; omega, (by rw [HMo.out, if_neg (by rw [HF.out]; simp), List.append_nil]; exact HO.out.2.2.1), ?_, H12.out⟩, by rw [intOf_i, intOf_i]; have := HX.out.2.2; omega⟩
            rw [HMp.out, if_neg (by simp), List.map_append, HO.out.2.2.2.1, List.map_singleton]
            congr 2
            rw [firedP, if_neg (by rw [HF.out]; simp)]
        | true =>
          have HF : Hid (firesB t x_.p = true) := by rw [HFi.out]; exact Lib.hid (by simp)
          go_wp2_with (fail); refine (HRp.out wx).mono ?_; rintro e w3 ⟨rfl, hB⟩; have H3 : Hid (MkI w qb sb rb bb Q m t (.slice (some ⟨pa, pof, none⟩) n sc) (.slice oa ol.length oc) ol bv bl w3 ∧ RowP w3 xb x_ ∧ GoodP w3 x_) := Lib.hid ⟨Hwx.out.2.1.below hB, Hwx.out.1.below hB, Hwx.out.2.2.2.1.below hB⟩; clear hB f0 f1 f2 f3 f4 f5 f6 f7; dsimp only
          go_upto_region 9 with (fail)
          have f7 := (H3.out.2.1.d8).2.2.2.2.2.2.2; refine wp_region_lit ?_
          iterate 3 go_step
          refine wpList_store1 rfl _ (.tmp 35) _ rfl ⟨xb, 7, none⟩ (.int .i64 1) _ rfl rfl rfl rfl Tryz.sizeOf3 f7 (RowP.fro H3.out.2.1 7) ?_; obtain ⟨w4, hw4⟩ : ∃ W, W = w3.setCell ⟨xb, 7, none⟩ (.int .i64 1) := ⟨_, rfl⟩; obtain ⟨y, hy⟩ : ∃ y : PaneV, y = ⟨⟨x_.p.w, x_.p.a, 1⟩, x_.tv, x_.z, x_.ht, x_.hz⟩ := ⟨_, rfl⟩
          have H4 : Hid (MkI w qb sb rb bb Q m t (.slice (some ⟨pa, pof, none⟩) n sc) (.slice oa ol.length oc) ol bv bl w4 ∧ RowP w4 xb y ∧ GoodP w4 y) := by
            have hg : w3.grownBy w4 (some xb) := by rw [hw4]; exact grown_setCell _ _ _ _
            obtain ⟨⟨j1, j2, j3, j4, j5, j6, j7, j8, j8b, j9⟩, k1, k2⟩ := H3.out; obtain ⟨_, _, b1, _, b2, b3, b4⟩ := Hwx.out; have hb := HBd.out; have hgr := H2.out.2
            have hsz : w.heap.size ≤ bb := by omega
            refine Lib.hid ⟨⟨RowQ.below' j1 hg (by omega), j2.grown hg (by simp; omega), j3.grown hg (by simp; omega), j4.grown hg (by simp; omega), j5.keep hg ?_ (fun z hz a n' c e hne he => ?_), j6.keep hg ?_ (fun z hz a n' c e hne he => ?_), j7.trans (below_set hg (by omega) j7.size), j8, j8b, j9⟩, by rw [hy, hw4]; exact k1.setR 1, ?_⟩
            · cases e : bv.ownBlock with
              | none => exact .inl rfl
              | some k => exact .inr (by simp; exact b2 k e)
            · cases he
              have := j9 z hz a n' c e hne; omega
            · cases e : (Value.slice oa ol.length oc).ownBlock with
              | none => exact .inl rfl
              | some k => exact .inr (by simp; exact b3 k e)
            · cases he
              exact b4 z hz a n' c e hne rfl
            · rw [hy]
              exact ⟨k2.1.grown hg (fun a n' c e hne he => by have := HTl.out a n' c e hne; omega), k2.2⟩
          have HY : Hid (y.p = firedP t x_.p ∧ y.p.a.top.length ≤ 1000000 ∧ y.tv = x_.tv ∧ y.p.a = x_.p.a) := by
            rw [firedP, if_pos HF.out, hy]; exact Lib.hid ⟨rfl, (HA.out.2.2.2.1 _ HX.out.1).2, rfl, rfl⟩
          have HPy : Hid (∀ w', RowP w' xb y → D8 w' xb (PaneV.mk ⟨⟨xk, xl, xh⟩, ⟨xn, xa, xt, xu, xv⟩, 1⟩ xtv xz xht xhz)) := by rw [hy, HXe.out]; exact Lib.hid (fun w' h => h.d8)
          have HYc : Hid (y.cells = #[Sv xk, .int .i64 xl, .int .i64 xh, .int .i64 xn, .int .i64 xa, xtv, xz, .int .i64 1]) := by rw [hy, HXe.out]; exact Lib.hid rfl
          rw [← hw4]; clear hw4 hy f7 H3; obtain ⟨d0, d1, d2, d3, d4, d5⟩ := HQd.out w4 H4.out.1.1; obtain ⟨f0, f1, f2, f3, f4, f5, f6, f7⟩ := HPy.out w4 H4.out.2.1
          have HT4 : Hid (Calls Tryz.prog 65 #[.agg #[.int .i64 kind, .int .i64 size, .int .i64 slide, .int .i64 late, .int .i64 agg, .int .i64 kq], .agg #[Sv xk, .int .i64 xl, .int .i64 xh, .int .i64 xn, .int .i64 xa, xtv, xz, .int .i64 1]] w4 (OutEnd w4 (toldQ Q y.p))) := by
            have h := HTo.out w4 y H4.out.2.2 HY.out.2.1; rw [HVQ.out, HYc.out] at h; exact Lib.hid h
          go_upto_region 10 with (fail)
          refine wp_region_lit ?_
          iterate 9 go_step
          refine wpList_plain rfl fun K hK => ?_; go_step; refine HT4.out.mono ?_; rintro e w5 ⟨tv, ht, rfl, hI, hB, hNw⟩; refine hK _ _ ?_; clear hK d0 d1 d2 d3 d4 d5 f0 f1 f2 f3 f4 f5 f6 f7; obtain ⟨O, hOe⟩ : ∃ O : OutV, O = ⟨toldQ Q y.p, tv, ht⟩ := ⟨_, rfl⟩; rw [← hOe]; refine wpList_slice1_O rfl (.tmp 39) rfl O rfl ?_; have hB6 : Below w5.heap.size w5 (w5.alloc (.cells O.cells 50)) := (Below.refl _ w5).alloc (Nat.le_refl _) _; obtain ⟨w6, hw6⟩ : ∃ W, W = w5.alloc (.cells O.cells 50) := ⟨_, rfl⟩; obtain ⟨ob, hob⟩ : ∃ b, b = w5.heap.size := ⟨_, rfl⟩
          have hrow : RowO w6 ob O := by rw [hw6, hob]; exact heap_alloc_new w5 _
          rw [← hw6] at hB6
          have H6 : Hid (MkI w qb sb rb bb Q m t (.slice (some ⟨pa, pof, none⟩) n sc) (.slice oa ol.length oc) ol bv bl w6 ∧ RowP w6 xb y ∧ GoodP w6 y ∧ RowO w6 ob O ∧ GoodO w6 O ∧ O.o = toldQ Q y.p ∧ ∀ a n c, O.tv = .slice (some a) n c → w4.heap.size ≤ a.block) := by
            have hb56 := hB.trans (hB6.mono hB.size)
            refine Lib.hid ⟨H4.out.1.below hb56, H4.out.2.1.below hb56, H4.out.2.2.below hb56, hrow, ?_, by rw [hOe], by rw [hOe]; exact hNw⟩
            rw [hOe]; exact hI.below hB6
          have HS4 : Hid (bb < w4.heap.size ∧ (∀ k, (Value.slice oa ol.length oc).ownBlock = some k → k < w4.heap.size) ∧ (∀ k, bv.ownBlock = some k → k < w4.heap.size)) := Lib.hid ⟨H4.out.1.2.2.2.1.lt, fun k e => (H4.out.1.2.2.2.2.2.1.1.lt e).2, fun k e => (H4.out.1.2.2.2.2.1.1.lt e).2⟩; rw [← hw6, ← hob]; clear hw6 hob hB6 hB hI hNw hOe hrow H4
          refine wpList_pushO rfl (.tmp 36) (.tmp 40) rfl (bb + 1) _ ol rfl H6.out.1.2.2.2.2.2.1.1 O ob rfl (fun j z hz => H6.out.2.2.2.1.cell j hz) (by have := HO.out.1; have := HX.out.2.2; omega) (by have := H6.out.1.2.2.2.1.lt; omega) ?_
          intro v7 w7 g1 g2 g3
          have H7 : Hid (∃ ol7, ol7.length ≤ i + 1 ∧ ol7.map OutV.o = marksO Q t (ps.take (i + 1)) ∧ MkI w qb sb rb bb Q m t (.slice (some ⟨pa, pof, none⟩) n sc) v7 ol7 bv bl w7 ∧ RowP w7 xb y ∧ GoodP w7 y) := by
            obtain ⟨⟨j1, j2, j3, j4, j5, j6, j7, j8, j8b, j9⟩, k1, k2, k3, k4, k5, k6⟩ := H6.out; obtain ⟨s1, s2, s3⟩ := HS4.out; obtain ⟨_, _, b1, _, b2, b3, b4⟩ := Hwx.out; have hb := HBd.out; have hgr := H2.out.2
            have hsz : w.heap.size ≤ bb := by omega
            have hne : ∀ b, b ≤ bb → some b ≠ (Value.slice oa ol.length oc).ownBlock := fun b hb e => by have := j6.1.lt e.symm; omega
            have hpush := j6.push k4 (fun a n' c e _ he => by have h1 := k6 a n' c e; have h2 := s2 _ he; omega) g1 g2 g3
            refine Lib.hid ⟨ol ++ [O], by rw [List.length_append, List.length_singleton]; have := HO.out.1; omega, ?_, ⟨(g2.block qb j1.lt (hne qb (by omega))).trans j1, j2.grown g2 (hne sb (by omega)), j3.grown g2 (hne rb (by omega)), j4.grown g2 (hne bb (Nat.le_refl _)), j5.keep g2 (rows_apartPO j5.1 j6.1) (fun z hz a n' c e hne' he => ?_), hpush, j7.trans ⟨g2.os, g2.tape, g2.output, g2.size, fun k hk => g2.block k (by have := j7.size; omega) (hne k (by omega))⟩, fun z hz a n' c e => ?_, fun z hz a n' c e hne' => ?_, j9⟩, ?_, ?_⟩
            · rw [List.map_append, HO.out.2.2.1, HMo.out, if_pos HF.out, List.map_singleton, k5, HY.out.1]
            · have h1 := j9 z hz a n' c e hne'; have h2 := j6.1.lt he; omega
            · rcases List.mem_append.1 hz with hz | hz
              · exact j8 z hz a n' c e
              · rw [List.mem_singleton.1 hz] at e; have h1 := k6 a n' c e; omega
            · rcases List.mem_append.1 hz with hz | hz
              · exact j8b z hz a n' c e hne'
              · rw [List.mem_singleton.1 hz] at e; intro he; have h1 := k6 a n' c e; have := s3 _ he; omega
            · exact (g2.block xb k1.lt (fun e => by exact b3 xb e.symm rfl)).trans k1
            · refine ⟨IntsAt.grownR k2.1 g2 (fun a n' c e hne' he => ?_), k2.2⟩
              have h1 := HTl.out a n' c (by rw [← HY.out.2.2.1]; exact e) (by rw [← HY.out.2.2.2]; exact hne')
              have h2 := j6.1.lt he; omega
          obtain ⟨ol7, ho7, hm7, hI7⟩ := H7.out; obtain ⟨oa7, oc7, hv7, _, _⟩ := hI7.1.2.2.2.2.2.1.1.form; have H8 := Lib.hid (And.intro ho7 (And.intro hm7 hI7)); subst hv7; clear ho7 hm7 hI7 g1 g2 g3 H7 H6; obtain ⟨d0, d1, d2, d3, d4, d5⟩ := HQd.out w7 (H8.out.2.2.1).1; obtain ⟨f0, f1, f2, f3, f4, f5, f6, f7⟩ := HPy.out w7 (H8.out.2.2.2.1)
          cases gn with
          | true =>
            go_wp2_with (fail); refine (HGp.out w7).mono ?_; rintro e w8 ⟨rfl, hB⟩; have HZ := Lib.hid ((H8.out.2.2.1).below hB); clear hB d0 d1 d2 d3 d4 d5 f0 f1 f2 f3 f4 f5 f6 f7; dsimp only; go_wp2_with (fail)
            refine ⟨⟨i + 1, by rw [HN.out.2]; exact HX.out.2.2, rfl, ol7, bv, bl, H8.out.1, by have := HO.out.2.1; omega, H8.out.2.1, ?_, HZ.out⟩, by rw [intOf_i, intOf_i]; have := HX.out.2.2; omega⟩
            rw [HMp.out, if_pos (by trivial), List.append_nil]
            exact HO.out.2.2.2.1
          | false =>
            go_wp2_with (fail); refine (HGp.out w7).mono ?_; rintro e w8 ⟨rfl, hB⟩; have H9 : Hid (MkI w qb sb rb bb Q m t (.slice (some ⟨pa, pof, none⟩) n sc) (.slice oa7 ol7.length oc7) ol7 bv bl w8 ∧ RowP w8 xb y ∧ GoodP w8 y) := Lib.hid ⟨(H8.out.2.2.1).below hB, (H8.out.2.2.2.1).below hB, (H8.out.2.2.2.2).below hB⟩; clear hB d0 d1 d2 d3 d4 d5 f0 f1 f2 f3 f4 f5 f6 f7; dsimp only; obtain ⟨f0, f1, f2, f3, f4, f5, f6, f7⟩ := HPy.out w8 H9.out.2.1; obtain ⟨e0, e1⟩ := H9.out.1.2.2.2.1.d2
            go_upto_region 12 with (fail)
            refine wp_region_lit ?_
            iterate 9 go_step
            refine wpList_slice1_P rfl (.tmp 50) rfl y (by show _ = Value.agg y.cells; rw [HYc.out]; rfl) ?_
            have hB10 : Below w8.heap.size w8 (w8.alloc (.cells y.cells 55)) := (Below.refl _ w8).alloc (Nat.le_refl _) _; obtain ⟨w10, hw10⟩ : ∃ W, W = w8.alloc (.cells y.cells 55) := ⟨_, rfl⟩; obtain ⟨nb, hnb⟩ : ∃ b, b = w8.heap.size := ⟨_, rfl⟩
            have hrow : RowP w10 nb y := by rw [hw10, hnb]; exact heap_alloc_new w8 _
            rw [← hw10] at hB10; have H10 : Hid (MkI w qb sb rb bb Q m t (.slice (some ⟨pa, pof, none⟩) n sc) (.slice oa7 ol7.length oc7) ol7 bv bl w10 ∧ RowP w10 nb y ∧ GoodP w10 y) := Lib.hid ⟨H9.out.1.below hB10, hrow, H9.out.2.2.below hB10⟩; rw [← hw10, ← hnb]; clear hw10 hnb hB10 hrow f0 f1 f2 f3 f4 f5 f6 f7 e0 e1
            refine wpList_pushP rfl (.tmp 49) (.tmp 51) rfl (bb + 1) bv bl rfl H10.out.1.2.2.2.2.1.1 y nb rfl (fun j z hz => H10.out.2.1.cell j hz) (by have := HO.out.2.1; have := HX.out.2.2; omega) (by have := H10.out.1.2.2.2.1.lt; omega) ?_
            intro v11 w11 g1 g2 g3
            have H11 : Hid (RowQ w11 qb Q ∧ RowS w11 sb m (.slice (some ⟨pa, pof, none⟩) n sc) ∧ RowS w11 rb 0 nilV ∧ RowS w11 bb t bv ∧ PanesOwn w11 (bb + 1) v11 (bl ++ [y]) ∧ OutsOwn w11 (bb + 1) (.slice oa7 ol7.length oc7) ol7 ∧ Below w.heap.size w w11 ∧ (∀ x ∈ ol7, ∀ a n c, x.tv = .slice (some a) n c → bb < a.block) ∧ (∀ x ∈ ol7, ∀ a n c, x.tv = .slice (some a) n c → x.o.v ≠ [] → v11.ownBlock ≠ some a.block) ∧ ∀ x ∈ bl ++ [y], ∀ a n c, x.tv = .slice (some a) n c → x.p.a.top ≠ [] → a.block < w.heap.size) := by
              obtain ⟨⟨j1, j2, j3, j4, j5, j6, j7, j8, j8b, j9⟩, k1, k2⟩ := H10.out; have hb := HBd.out; have hgr := H2.out.2
              have hsz : w.heap.size ≤ bb := by omega
              have hne : ∀ b, b ≤ bb → some b ≠ bv.ownBlock := fun b hb e => by have := j5.1.lt e.symm; omega
              have hyt : ∀ a n c, y.tv = .slice (some a) n c → y.p.a.top ≠ [] → a.block < w.heap.size := fun a n' c e hne' => HTl.out a n' c (by rw [← HY.out.2.2.1]; exact e) (by rw [← HY.out.2.2.2]; exact hne')
              have hpush := j5.push k2 (fun a n' c e hne' he => by have h1 := hyt a n' c e hne'; have h2 := j5.1.lt he; omega) g1 g2 g3
              refine Lib.hid ⟨(g2.block qb j1.lt (hne qb (by omega))).trans j1, j2.grown g2 (hne sb (by omega)), j3.grown g2 (hne rb (by omega)), j4.grown g2 (hne bb (Nat.le_refl _)), hpush, j6.keep g2 (rows_apartOP j5.1 j6.1) (fun z hz a n' c e hne' => j8b z hz a n' c e hne'), j7.trans ⟨g2.os, g2.tape, g2.output, g2.size, fun k hk => g2.block k (by have := j7.size; omega) (hne k (by omega))⟩, fun z hz a n' c e => j8 z hz a n' c e, fun z hz a n' c e hne' he => ?_, fun z hz a n' c e hne' => ?_⟩
              · rcases g3 with g3 | g3
                · rw [g3] at he; exact j8b z hz a n' c e hne' he
                · rw [g3] at he; have := IntsAt.lt (j6.2 z hz).1 e hne'; have he' := Option.some.inj he; omega
              · rcases List.mem_append.1 hz with hz | hz
                · exact j9 z hz a n' c e hne'
                · rw [List.mem_singleton.1 hz] at e hne'; exact hyt a n' c e hne'
            have hv11 : v11.oneCell' = true ∧ v11.cells = #[v11] := by
              rcases g1.shape with ⟨rfl, _⟩ | ⟨g', c', rfl, _⟩ <;> exact ⟨rfl, rfl⟩
            clear g1 g2 g3; obtain ⟨e0, e1⟩ := H11.out.2.2.2.1.d2
            iterate 3 go_step
            refine wpList_store1 rfl _ (.tmp 53) (.tmp 52) rfl ⟨bb, 1, none⟩ v11 bv rfl rfl hv11.2 hv11.1 Tryz.sizeOf27 e1 (RowS.fro H11.out.2.2.2.1 1) ?_; obtain ⟨w12, hw12⟩ : ∃ W, W = w11.setCell ⟨bb, 1, none⟩ v11 := ⟨_, rfl⟩
            have H12 : Hid (MkI w qb sb rb bb Q m t (.slice (some ⟨pa, pof, none⟩) n sc) (.slice oa7 ol7.length oc7) ol7 v11 (bl ++ [y]) w12) := by
              have hg : w11.grownBy w12 (some bb) := by rw [hw12]; exact grown_setCell _ _ _ _
              obtain ⟨j1, j2, j3, j4, j5, j6, j7, j8, j9, j10⟩ := H11.out; have hb := HBd.out; have hgr := H2.out.2
              have hsz : w.heap.size ≤ bb := by omega
              refine Lib.hid ⟨RowQ.below' j1 hg (by omega), j2.grown hg (by simp; omega), j3.grown hg (by simp; omega), by rw [hw12]; exact j4.set1 v11, j5.keep hg (.inr (fun e => by have := j5.1.lt e; omega)) (fun z hz a n' c e hne' he => ?_), j6.keep hg (.inr (fun e => by have := j6.1.lt e; omega)) (fun z hz a n' c e _ he => ?_), j7.trans (below_set hg (by omega) j7.size), j8, j9, j10⟩
              · cases he
                have := j10 z hz a n' c e hne'; omega
              · cases he
                have := j8 z hz a n' c e; omega
            rw [← hw12]; clear hw12 e0 e1 hv11; go_wp2_with (fail)
            refine ⟨⟨i + 1, by rw [HN.out.2]; exact HX.out.2.2, rfl, ol7, v11, bl ++ [y], H8.out.1, by rw [List.length_append, List.length_singleton]; have := HO.out.2.1; omega, H8.out.2.1, ?_, H12.out⟩, by rw [intOf_i, intOf_i]; have := HX.out.2.2; omega⟩
            rw [HMp.out, if_neg (by simp), List.map_append, HO.out.2.2.2.1, List.map_singleton]
            congr 2
            exact HY.out.1
      · have hr0' : (xr == 0) = false := by simpa using hr0
        have HF : Hid (firesB t x_.p = false) := by rw [HFi.out, decide_eq_false hr0]; exact Lib.hid rfl
        have H5 : Hid (MkI w qb sb rb bb Q m t (.slice (some ⟨pa, pof, none⟩) n sc) (.slice oa ol.length oc) ol bv bl wx ∧ RowP wx xb x_ ∧ GoodP wx x_) := Lib.hid ⟨Hwx.out.2.1, Hwx.out.1, Hwx.out.2.2.2.1⟩; clear hr0
        go_upto_region 11 with (fail)
        clear f0 f1 f2 f3 f4 f5 f6 f7 hr0'; obtain ⟨d0, d1, d2, d3, d4, d5⟩ := HQd.out wx (H5.out.1).1; obtain ⟨f0, f1, f2, f3, f4, f5, f6, f7⟩ := HPx.out wx (H5.out.2.1)
        cases gn with
        | true =>
          go_wp2_with (fail); refine (HGp.out wx).mono ?_; rintro e w8 ⟨rfl, hB⟩; have HZ := Lib.hid ((H5.out.1).below hB); clear hB d0 d1 d2 d3 d4 d5 f0 f1 f2 f3 f4 f5 f6 f7; dsimp only; go_wp2_with (fail)
          refine ⟨⟨i + 1, by rw [HN.out.2]; exact HX.out.2.2, rfl, ol, bv, bl, by have := HO.out.1; omega, by have := HO.out.2.1; omega, (by rw [HMo.out, if_neg (by rw [HF.out]; simp), List.append_nil]; exact HO.out.2.2.1), ?_, HZ.out⟩, by rw [intOf_i, intOf_i]; have := HX.out.2.2; omega⟩
          rw [HMp.out, if_pos (by trivial), List.append_nil]
          exact HO.out.2.2.2.1
        | false =>
          go_wp2_with (fail); refine (HGp.out wx).mono ?_; rintro e w8 ⟨rfl, hB⟩; have H9 : Hid (MkI w qb sb rb bb Q m t (.slice (some ⟨pa, pof, none⟩) n sc) (.slice oa ol.length oc) ol bv bl w8 ∧ RowP w8 xb x_ ∧ GoodP w8 x_) := Lib.hid ⟨(H5.out.1).below hB, (H5.out.2.1).below hB, (H5.out.2.2).below hB⟩; clear hB d0 d1 d2 d3 d4 d5 f0 f1 f2 f3 f4 f5 f6 f7; dsimp only; obtain ⟨f0, f1, f2, f3, f4, f5, f6, f7⟩ := HPx.out w8 H9.out.2.1; obtain ⟨e0, e1⟩ := H9.out.1.2.2.2.1.d2
          go_upto_region 12 with (fail)
          refine wp_region_lit ?_
          iterate 9 go_step
          refine wpList_slice1_P rfl (.tmp 50) rfl x_ (by show _ = Value.agg x_.cells; rw [HXe.out]; rfl) ?_
          have hB10 : Below w8.heap.size w8 (w8.alloc (.cells x_.cells 55)) := (Below.refl _ w8).alloc (Nat.le_refl _) _; obtain ⟨w10, hw10⟩ : ∃ W, W = w8.alloc (.cells x_.cells 55) := ⟨_, rfl⟩; obtain ⟨nb, hnb⟩ : ∃ b, b = w8.heap.size := ⟨_, rfl⟩
          have hrow : RowP w10 nb x_ := by rw [hw10, hnb]; exact heap_alloc_new w8 _
          rw [← hw10] at hB10; have H10 : Hid (MkI w qb sb rb bb Q m t (.slice (some ⟨pa, pof, none⟩) n sc) (.slice oa ol.length oc) ol bv bl w10 ∧ RowP w10 nb x_ ∧ GoodP w10 x_) := Lib.hid ⟨H9.out.1.below hB10, hrow, H9.out.2.2.below hB10⟩; rw [← hw10, ← hnb]; clear hw10 hnb hB10 hrow f0 f1 f2 f3 f4 f5 f6 f7 e0 e1
          refine wpList_pushP rfl (.tmp 49) (.tmp 51) rfl (bb + 1) bv bl rfl H10.out.1.2.2.2.2.1.1 x_ nb rfl (fun j z hz => H10.out.2.1.cell j hz) (by have := HO.out.2.1; have := HX.out.2.2; omega) (by have := H10.out.1.2.2.2.1.lt; omega) ?_
          intro v11 w11 g1 g2 g3
          have H11 : Hid (RowQ w11 qb Q ∧ RowS w11 sb m (.slice (some ⟨pa, pof, none⟩) n sc) ∧ RowS w11 rb 0 nilV ∧ RowS w11 bb t bv ∧ PanesOwn w11 (bb + 1) v11 (bl ++ [x_]) ∧ OutsOwn w11 (bb + 1) (.slice oa ol.length oc) ol ∧ Below w.heap.size w w11 ∧ (∀ x ∈ ol, ∀ a n c, x.tv = .slice (some a) n c → bb < a.block) ∧ (∀ x ∈ ol, ∀ a n c, x.tv = .slice (some a) n c → x.o.v ≠ [] → v11.ownBlock ≠ some a.block) ∧ ∀ x ∈ bl ++ [x_], ∀ a n c, x.tv = .slice (some a) n c → x.p.a.top ≠ [] → a.block < w.heap.size) := by
            obtain ⟨⟨j1, j2, j3, j4, j5, j6, j7, j8, j8b, j9⟩, k1, k2⟩ := H10.out; have hb := HBd.out; have hgr := H2.out.2
            have hsz : w.heap.size ≤ bb := by omega
            have hne : ∀ b, b ≤ bb → some b ≠ bv.ownBlock := fun b hb e => by have := j5.1.lt e.symm; omega
            have hyt : ∀ a n c, x_.tv = .slice (some a) n c → x_.p.a.top ≠ [] → a.block < w.heap.size := fun a n' c e hne' => HTl.out a n' c (e) (hne')
            have hpush := j5.push k2 (fun a n' c e hne' he => by have h1 := hyt a n' c e hne'; have h2 := j5.1.lt he; omega) g1 g2 g3
            refine Lib.hid ⟨(g2.block qb j1.lt (hne qb (by omega))).trans j1, j2.grown g2 (hne sb (by omega)), j3.grown g2 (hne rb (by omega)), j4.grown g2 (hne bb (Nat.le_refl _)), hpush, j6.keep g2 (rows_apartOP j5.1 j6.1) (fun z hz a n' c e hne' => j8b z hz a n' c e hne'), j7.trans ⟨g2.os, g2.tape, g2.output, g2.size, fun k hk => g2.block k (by have := j7.size; omega) (hne k (by omega))⟩, fun z hz a n' c e => j8 z hz a n' c e, fun z hz a n' c e hne' he => ?_, fun z hz a n' c e hne' => ?_⟩
            · rcases g3 with g3 | g3
              · rw [g3] at he; exact j8b z hz a n' c e hne' he
              · rw [g3] at he; have := IntsAt.lt (j6.2 z hz).1 e hne'; have he' := Option.some.inj he; omega
            · rcases List.mem_append.1 hz with hz | hz
              · exact j9 z hz a n' c e hne'
              · rw [List.mem_singleton.1 hz] at e hne'; exact hyt a n' c e hne'
          have hv11 : v11.oneCell' = true ∧ v11.cells = #[v11] := by
            rcases g1.shape with ⟨rfl, _⟩ | ⟨g', c', rfl, _⟩ <;> exact ⟨rfl, rfl⟩
          clear g1 g2 g3; obtain ⟨e0, e1⟩ := H11.out.2.2.2.1.d2
          iterate 3 go_step
          refine wpList_store1 rfl _ (.tmp 53) (.tmp 52) rfl ⟨bb, 1, none⟩ v11 bv rfl rfl hv11.2 hv11.1 Tryz.sizeOf27 e1 (RowS.fro H11.out.2.2.2.1 1) ?_; obtain ⟨w12, hw12⟩ : ∃ W, W = w11.setCell ⟨bb, 1, none⟩ v11 := ⟨_, rfl⟩
          have H12 : Hid (MkI w qb sb rb bb Q m t (.slice (some ⟨pa, pof, none⟩) n sc) (.slice oa ol.length oc) ol v11 (bl ++ [x_]) w12) := by
            have hg : w11.grownBy w12 (some bb) := by rw [hw12]; exact grown_setCell _ _ _ _
            obtain ⟨j1, j2, j3, j4, j5, j6, j7, j8, j9, j10⟩ := H11.out; have hb := HBd.out; have hgr := H2.out.2
            have hsz : w.heap.size ≤ bb := by omega
            refine Lib.hid ⟨RowQ.below' j1 hg (by omega), j2.grown hg (by simp; omega), j3.grown hg (by simp; omega), by rw [hw12]; exact j4.set1 v11, j5.keep hg (.inr (fun e => by have := j5.1.lt e; omega)) (fun z hz a n' c e hne' he => ?_), j6.keep hg (.inr (fun e => by have := j6.1.lt e; omega)) (fun z hz a n' c e _ he => ?_), j7.trans (below_set hg (by omega) j7.size), j8, j9, j10⟩
            · cases he
              have := j10 z hz a n' c e hne'; omega
            · cases he
              have := j8 z hz a n' c e; omega
          rw [← hw12]; clear hw12 e0 e1 hv11; go_wp2_with (fail)
          refine ⟨⟨i + 1, by rw [HN.out.2]; exact HX.out.2.2, rfl, ol, v11, bl ++ [x_], by have := HO.out.1; omega, by rw [List.length_append, List.length_singleton]; have := HO.out.2.1; omega, (by rw [HMo.out, if_neg (by rw [HF.out]; simp), List.append_nil]; exact HO.out.2.2.1), ?_, H12.out⟩, by rw [intOf_i, intOf_i]; have := HX.out.2.2; omega⟩
          rw [HMp.out, if_neg (by simp), List.map_append, HO.out.2.2.2.1, List.map_singleton]
          congr 2
          rw [firedP, if_neg (by rw [HF.out]; simp)]
    · obtain rfl : i = n := by omega
      clear hlt hi
      have HTk : Hid (ps.take i = ps) := Lib.hid (by rw [← HN.out.2]; exact List.take_length)
      have HS := Lib.hid (sortO_any wr (bb + 1) (.slice oa ol.length oc) ol HO.out.2.2.2.2.2.2.2.2.2.1.1 (by have := HO.out.1; omega))
      go_wp2_with (fail); refine HS.out.mono ?_; rintro e w3 ⟨rfl, ol', hperm, hsort, hO3, hg3⟩
      have H3 : Hid (RowS w3 rb 0 nilV ∧ RowS w3 bb t bv ∧ PanesIn w3 bv bl ∧ (∀ x ∈ bl, GoodP w3 x) ∧ HasO w3 (.slice oa ol.length oc) (ol'.map OutV.o) ∧ (ol'.map OutV.o).Perm (marksO Q t ps) ∧ (ol'.map OutV.o).Pairwise (fun a b => ¬ befO b a) ∧ bl.map PaneV.p = marksP Q t ps ∧ Below w.heap.size w w3 ∧ (∀ x ∈ bl, ∀ a n c, x.tv = .slice (some a) n c → x.p.a.top ≠ [] → a.block < w.heap.size) ∧ (∀ x ∈ ol', ∀ a n c, x.tv = .slice (some a) n c → bb < a.block) ∧ OwnP w3 (bb + 1) bv bl ∧ OwnO w3 (bb + 1) (.slice oa ol.length oc) ol' ∧ ∀ x ∈ ol', GoodO w3 x) := by
        obtain ⟨_, _, hm1, hm2, j1, j2, j3, j4, j5, j6, j7, j8, j8b, j9⟩ := HO.out; have hb := HBd.out; have hgr := H2.out.2
        have hsz : w.heap.size ≤ bb := by omega
        have hne : ∀ b, b ≤ bb → some b ≠ (Value.slice oa ol.length oc).ownBlock := fun b hb e => by have := j6.1.lt e.symm; omega
        have hgood : ∀ x ∈ ol', GoodO w3 x := fun x hx => by
          have hx2 := j6.2 x (hperm.mem_iff.1 hx); exact IntsAt.grownR hx2.1 hg3 hx2.2
        have h5 := j5.keep hg3 (rows_apartPO j5.1 j6.1) (fun z hz a n' c e hne' he => by have h1 := j9 z hz a n' c e hne'; have h2 := j6.1.lt he; omega)
        obtain ⟨oa', oc', hv', hc', hAt'⟩ := hO3.form; rw [HTk.out] at hm1 hm2
        refine Lib.hid ⟨j3.grown hg3 (hne rb (by omega)), j4.grown hg3 (hne bb (Nat.le_refl _)), h5.1.ins, fun x hx => (h5.2 x hx).1, ⟨oa', oc', ol', hv', hc', hAt', hgood, rfl⟩, by rw [← hm1]; exact hperm.map _, ?_, hm2, j7.trans ⟨hg3.os, hg3.tape, hg3.output, hg3.size, fun k hk => hg3.block k (by have := j7.size; omega) (hne k (by omega))⟩, j9, fun x hx a n' c e => j8 x (hperm.mem_iff.1 hx) a n' c e, h5.1, hO3, hgood⟩
        rw [List.pairwise_map]; exact hsort.imp fun h h' => h ((cmpW_neg _ _).2 h')
      clear hperm hsort hO3 hg3; dsimp only; obtain ⟨e0, e1⟩ := H3.out.2.1.d2
      go_upto_region 15 with (fail)
      refine wp_region_lit ?_
      iterate 6 go_step
      refine wpList_store_row rfl _ _ _ rfl rb #[.int .i64 t, bv] rfl rfl 29 #[.int .i64 0, nilV] H3.out.1 state_size rfl (state_one H3.out.2.2.1.one) ?_; obtain ⟨w9, hw9⟩ : ∃ W, W = w3.setRow rb #[.int .i64 t, bv] := ⟨_, rfl⟩
      have H9 : Hid (RowS w9 rb t bv ∧ P (.returned (.tuple #[.agg #[.int .i64 t, bv], .slice oa ol.length oc])) w9) := by
        have hg : w3.grownBy w9 (some rb) := by rw [hw9]; exact grown_setRow _ _ _
        obtain ⟨j1, j2, j3, j4, j5, j6, j7, j8, j9, j10, j11, j12, j13, j14⟩ := H3.out; have hb := HBd.out; have hgr := H2.out.2
        have hO9 := j13.kept hg (.inr (fun e => by have := j13.lt e; omega))
        obtain ⟨oa', oc', hv', hc', hAt'⟩ := hO9.form
        refine Lib.hid ⟨by rw [hw9]; exact j1.reset t bv, HYes.out HT.out w9 bv bl _ (ol'.map OutV.o) (j12.kept hg (.inr (fun e => by have := j12.lt e; omega))).ins (fun x hx => ⟨(j4 x hx).1.grown hg (fun a n' c e hne he => by have := j10 x hx a n' c e hne; omega), (j4 x hx).2⟩) j8 ⟨oa', oc', ol', hv', hc', hAt', fun x hx => IntsAt.grown (j14 x hx) hg (fun a n' c e hne he => by have := j11 x hx a n' c e; omega), rfl⟩ j6 j7 (j9.trans (below_set hg (by omega) j9.size))⟩
      rw [← hw9]; clear hw9 e0 e1; go_wp2_with (fail); exact bodyPost_ret (v := .tuple #[.agg #[.int .i64 t, bv], .slice oa ol.length oc]) ((results_cell_row_tmp (p := 6) (u := 7) (ty := 29) rfl _ _ rb 29 #[.int .i64 t, bv] (0, 0) _ rfl H9.out.1 Tryz.underlying29 rfl state_size).trans rfl) rfl H9.out.2
end Go.Proofs.YtjeeghafachebaaGreat
