/-
  Part 51 of 56 of what the proof leans on.
-/
import Derived.Test.YtjeeghafachebaaGreatK5
import Derived.Test.YtjeeghafachebaaGreatK39
import Derived.Test.YtjeeghafachebaaGreatK49
import Derived.Test.YtjeeghafachebaaGreatK50
namespace Go.Proofs.YtjeeghafachebaaGreat
open Go Go.RowKit
theorem ItemsAt.take {w : World} {a : Option Addr} {l : List ItemL} (h : ItemsAt w a l) (i : Nat) : ItemsAt w a (l.take i) := by
  rcases h with h | ⟨b, o, h, h'⟩
  · left
    rw [h, List.take_nil]
  · right
    refine ⟨b, o, h, fun j x hx => h' j x ?_⟩
    rw [List.getElem?_take] at hx
    split at hx
    · exact hx
    · cases hx
theorem ItemsAt.cut {w : World} {b o : Nat} {l : List ItemL} (h : ItemsAt w (some ⟨b, o, none⟩) l) (i : Nat) : ItemsAt w (some ⟨b, o + i * 4, none⟩) (l.drop i) := by
  rcases h with h | ⟨b', o', h, h'⟩
  · left
    rw [h, List.drop_nil]
  · right
    cases h
    refine ⟨b, o + i * 4, rfl, fun j x hx k v hv => ?_⟩
    rw [List.getElem?_drop] at hx
    have := h' (i + j) x hx k v hv
    rwa [show o + (i + j) * 4 + k = o + i * 4 + j * 4 + k by omega] at this
theorem items_to (a : Option Addr) (n c i : Nat) (h : i ≤ c) (w : World) :
    (Instr.slice 24 (.slice a n c) none (some (.int .i64 (i : Int))) none).run Tryz.prog w = .ok (.slice a i c) w := by
  have hz : ∀ w, (sizeOf 42).run Tryz.prog w = .ok 4 w := Tryz.sizeOf42
  cases a <;> simp [Instr.slice, run_underlying Tryz.underlying24, Instr.sliceBounds, run_sliceBound, hz, h, addr_add0]
theorem items_from {w : World} {a : Option Addr} {l : List ItemL} (hI : ItemsAt w a l) (n c i : Nat) (hn : n = l.length) (hi : i ≤ n) (hc : n ≤ c) (h0 : a = none → c = 0) :
    ∃ a5 c5, (∀ w', (Instr.slice 24 (.slice a n c) (some (.int .i64 (i : Int))) none none).run Tryz.prog w' = .ok (.slice a5 (n - i) c5) w') ∧ ItemsAt w a5 (l.drop i) := by
  have hz : ∀ w, (sizeOf 42).run Tryz.prog w = .ok 4 w := Tryz.sizeOf42
  by_cases e : c = i
  · have hd : l.drop i = [] := List.drop_eq_nil_of_le (by omega)
    subst e
    cases a <;> exact ⟨_, _, fun w' => by simp [Instr.slice, run_underlying Tryz.underlying24, Instr.sliceBounds, run_sliceBound, hz, hi]; exact ⟨rfl, rfl⟩, .inl hd⟩
  · cases a with
    | none => exact absurd (h0 rfl) (by omega)
    | some ad =>
      rcases hI with h | ⟨b, o, h, h'⟩
      · refine ⟨_, _, fun w' => by simp [Instr.slice, run_underlying Tryz.underlying24, Instr.sliceBounds, run_sliceBound, hz, hi, e]; exact ⟨rfl, rfl⟩, .inl (by rw [h, List.drop_nil])⟩
      · cases h
        exact ⟨some ⟨b, o + i * 4, none⟩, c - i, fun w' => by simp [Instr.slice, run_underlying Tryz.underlying24, Instr.sliceBounds, run_sliceBound, hz, hi, addr_add, e], ItemsAt.cut (.inr ⟨b, o, rfl, h'⟩) i⟩
end Go.Proofs.YtjeeghafachebaaGreat
namespace Go.Proofs.YtjeeghafachebaaGreat
open Go Go.RowKit
theorem runQ_fit {q : QueryL} {s : StateL} {its : List ItemL} (hs : comeOk q s.panes 256) (hk : ∀ x ∈ its, x.key.length ≤ 1000000) : outsFit (runQ q s its).outs ∧ (runQ q s its).outs.length ≤ 256 * its.length ∧ comeOk q (runQ q s its).s.panes 256 := by
  unfold runQ
  split
  · exact ⟨fun x hx => by simp at hx, by simp, hs⟩
  · obtain ⟨k1, k2, k3⟩ := runS_fit its s [] 0 hs hk (fun x hx => by simp at hx)
    exact ⟨k1, by simpa using k2, k3⟩
theorem newS_ok (q : QueryL) : comeOk q newS.panes 256 := by
  refine ⟨?_, fun x hx => by simp [newS] at hx, by decide⟩
  unfold placedB newS wsP
  split
  · exact decide_eq_true Settled.nil
  · exact decide_eq_true List.Pairwise.nil
theorem fit_of {q : QueryL} {l : List PaneV} {s : StateL} (h : comeOk q s.panes 256) (hs : s.panes = l.map PaneV.p) : FitP l := by
  rw [hs] at h
  exact (h.sorted (by decide)).1
theorem same_of {w : World} {m1 m2 : Int} {pv1 pv2 : Value} {q1 q2 : QueryL} {s1 s2 : StateL} (h1 : HasS w (.agg #[.int .i64 m1, pv1]) s1) (h2 : HasS w (.agg #[.int .i64 m2, pv2]) s2) (c1 : comeOk q1 s1.panes 256) (c2 : comeOk q2 s2.panes 256) :
    Calls Tryz.prog 16 #[.agg #[.int .i64 m1, pv1], .agg #[.int .i64 m2, pv2]] w (Below0 w (.bool (decide (s1 = s2)))) := by
  obtain ⟨p1, l1, e1, a1, b1, d1⟩ := h1
  obtain ⟨p2, l2, e2, a2, b2, d2⟩ := h2
  have f1 : m1 = s1.mark ∧ pv1 = p1 := by simpa using e1
  have f2 : m2 = s2.mark ∧ pv2 = p2 := by simpa using e2
  obtain ⟨rfl, rfl⟩ := f1
  obtain ⟨rfl, rfl⟩ := f2
  have h := osame_any w s1.mark pv1 l1 s2.mark pv2 l2 a1 a2 b1 b2 (fit_of c1 d1) (fit_of c2 d2)
  rw [← d1, ← d2] at h
  exact h
theorem sameOuts_of {w : World} {v1 v2 : Value} {o1 o2 : List OutE} (h1 : HasO w v1 o1) (h2 : HasO w v2 o2) (f1 : outsFit o1) (f2 : outsFit o2) (n1 : o1.length ≤ 1000000) (n2 : o2.length ≤ 1000000) :
    Calls Tryz.prog 13 #[v1, v2] w (Below0 w (.bool (decide (o1 = o2)))) := by
  obtain ⟨a1, c1, l1, rfl, _, e1, g1, rfl⟩ := h1
  obtain ⟨a2, c2, l2, rfl, _, e2, g2, rfl⟩ := h2
  rw [List.length_map] at n1 n2
  exact osameOuts_any w a1 a2 c1 c2 l1 l2 e1 e2 (fun x hx => ⟨g1 x hx, f1 x.o (List.mem_map.2 ⟨x, hx, rfl⟩)⟩) (fun x hx => ⟨g2 x hx, f2 x.o (List.mem_map.2 ⟨x, hx, rfl⟩)⟩) n1 n2
end Go.Proofs.YtjeeghafachebaaGreat
namespace Go.Proofs.YtjeeghafachebaaGreat
open Go Go.RowKit
theorem item_parts1 : ((Tryz.prog.info? 42).map fun i => (i.zero, i.size, i.bytes)) = some (some (.agg #[.int .i64 0, .string ⟨#[]⟩, .int .i64 0, .int .i64 0]), 4, 40) := by kernel_rfl
theorem wpList_slice1_I {ops : Array Oper} {rest : List Oper} {o : Oper} {a : Act} {w : World} {Q : Exit → Act → World → Prop} (hg : o.guard = none) (y : Operand) (ho : o.op = .buildSlice 24 1 #[(0, y)]) (x : ItemL) (hy : a.eval y = .agg x.cells)
    (h : wpList Tryz.prog ops Q rest (a.put o.dst (.slice (some ⟨w.heap.size, 0, none⟩) 1 1)) (w.alloc (.cells x.cells 42))) : wpList Tryz.prog ops Q (o :: rest) a w := by
  have hF : Instr.fill (fun i => some (i * 4, 4)) ((Array.range (1 * 4)).map ((Value.agg #[.int .i64 0, .string ⟨#[]⟩, .int .i64 0, .int .i64 0]).cells[· % (Value.agg #[.int .i64 0, .string ⟨#[]⟩, .int .i64 0, .int .i64 0]).cells.size]!)) [(0, .agg x.cells)] = some x.cells := by kernel_rfl
  obtain ⟨i, hi, hz0, hz1, hz2⟩ := info_parts item_parts1
  refine wpList_buildSlice hg 24 42 1 _ ho x.cells i _ Tryz.underlying24 hi hz0 (by rw [hz1]; decide) (by rw [hz1]; decide) ?_ h
  rw [hz1]
  simp only [List.map_toArray, List.map_cons, List.map_nil, hy]
  exact hF
theorem ItemsAt.one {w : World} {g : Nat} {y : ItemL} (h : RowX w g y) : ItemsAt w (some ⟨g, 0, none⟩) [y] := by
  refine .inr ⟨g, 0, rfl, fun i x hx j v hv => ?_⟩
  cases i with
  | zero =>
    simp only [List.getElem?_cons_zero, Option.some.injEq] at hx
    subst hx
    rw [cell_of_row _ _ _ _ _ _ h, Nat.zero_mul, Nat.zero_add]
    exact hv
  | succ i => simp at hx
set_option maxRecDepth 100000 in
set_option maxHeartbeats 4000000 in
theorem ostep1_any (w : World) (q : QueryL) (m : Int) (pv : Value) (x : ItemL) (l : List PaneV) (hA : PanesIn w pv l) (hG : ∀ y ∈ l, GoodP w y) (hF : FitP l) (hk : x.key.length ≤ 1000000) :
    Calls Tryz.prog 15 #[.agg q.cells, .agg #[.int .i64 m, pv], .agg x.cells] w (ComeEnd w (runQ q ⟨m, l.map PaneV.p⟩ [x]).s (runQ q ⟨m, l.map PaneV.p⟩ [x]).outs (runQ q ⟨m, l.map PaneV.p⟩ [x]).e) := by
  obtain ⟨P, hP⟩ : ∃ P, P = ComeEnd w (runQ q ⟨m, l.map PaneV.p⟩ [x]).s (runQ q ⟨m, l.map PaneV.p⟩ [x]).outs (runQ q ⟨m, l.map PaneV.p⟩ [x]).e := ⟨_, rfl⟩
  rw [← hP]
  obtain ⟨R, hR⟩ : ∃ R, R = runQ q ⟨m, l.map PaneV.p⟩ [x] := ⟨_, rfl⟩
  have HPz : Hid (∀ wz sv ov, HasS wz sv R.s → HasO wz ov R.outs → Below w.heap.size w wz → P (.returned (.tuple #[sv, ov, .int .i64 R.e])) wz) := by
    rw [hP, hR]
    exact Lib.hid (fun wz sv ov h1 h2 h3 => ⟨sv, ov, rfl, h1, h2, h3⟩)
  have HRn : Hid (∀ w' g, Below w.heap.size w w' → RowX w' g x → Calls Tryz.prog 8 #[.agg q.cells, .agg #[.int .i64 m, pv], .slice (some ⟨g, 0, none⟩) 1 1] w' (RunEnd w' R)) := by
    rw [hR]
    exact Lib.hid (fun w' g hB hr => orun_any w' q m pv l _ 1 [x] (hA.below hB) (fun y hy => (hG y hy).below hB) hF (ItemsAt.one hr) (fun y hy => by rw [List.mem_singleton.1 hy]; exact hk) (by simp))
  obtain ⟨sa, sc, hpv, hz1, hz2⟩ := hA.form
  clear hz1 hz2
  obtain ⟨w1, hw1⟩ : ∃ W, W = (((w.alloc (.cells q.cells 23)).alloc (.cells #[.int .i64 m, pv] 29)).alloc (.cells x.cells 42)).alloc (.cells #[.int .i64 0, .slice none 0 0] 29) := ⟨_, rfl⟩
  obtain ⟨qb, hqb⟩ : ∃ b, b = w.heap.size := ⟨_, rfl⟩
  obtain ⟨sb, hsb⟩ : ∃ b, b = w.heap.size + 1 := ⟨_, rfl⟩
  obtain ⟨xb, hxb⟩ : ∃ b, b = w.heap.size + 2 := ⟨_, rfl⟩
  obtain ⟨rb, hrb⟩ : ∃ b, b = w.heap.size + 3 := ⟨_, rfl⟩
  have H1 : Hid (RowQ w1 qb q ∧ RowS w1 sb m pv ∧ RowX w1 xb x ∧ RowS w1 rb 0 nilV ∧ Below w.heap.size w w1 ∧ w1.heap.size = w.heap.size + 4) := by rw [hw1, hqb, hsb, hxb, hrb]; exact Lib.hid (box_come w q m pv x)
  have HBd : Hid (w.heap.size ≤ rb) := Lib.hid (by omega)
  clear hP hR hA hG hF hk
  obtain ⟨Q, hQ⟩ : ∃ Q, Q = q := ⟨_, rfl⟩
  rw [← hQ] at H1
  obtain ⟨X, hX⟩ : ∃ X, X = x := ⟨_, rfl⟩
  rw [← hX] at H1 HRn
  obtain ⟨kind, size, slide, late, agg, kq⟩ := q
  obtain ⟨xkd, xk, xt, xv⟩ := x
  have HQd : Hid (∀ w', RowQ w' qb Q → D6 w' qb kind size slide late agg kq) := by rw [hQ]; exact Lib.hid (fun w' h => h.d6)
  have HXd : Hid (∀ w', RowX w' xb X → DX w' xb xkd xk xt xv) := by rw [hX]; exact Lib.hid (fun w' h => h.dx)
  have HXe : Hid (X = ⟨xkd, xk, xt, xv⟩) := Lib.hid hX
  clear hQ hX
  obtain ⟨n, hn⟩ : ∃ n, n = l.length := ⟨_, rfl⟩
  rw [← hn] at hpv
  clear hn
  subst hpv
  unfold QueryL.cells ItemL.cells at hw1 ⊢
  unfold QueryL.cells at HRn
  simp only at hw1 HRn ⊢
  have hs1 : (w.alloc (.cells #[.int .i64 kind, .int .i64 size, .int .i64 slide, .int .i64 late, .int .i64 agg, .int .i64 kq] 23)).heap.size = w.heap.size + 1 := heap_alloc_size w _
  have hs2 : ((w.alloc (.cells #[.int .i64 kind, .int .i64 size, .int .i64 slide, .int .i64 late, .int .i64 agg, .int .i64 kq] 23)).alloc (.cells #[.int .i64 m, .slice sa n sc] 29)).heap.size = w.heap.size + 2 := by rw [heap_alloc_size, heap_alloc_size]
  have hs3 : (((w.alloc (.cells #[.int .i64 kind, .int .i64 size, .int .i64 slide, .int .i64 late, .int .i64 agg, .int .i64 kq] 23)).alloc (.cells #[.int .i64 m, .slice sa n sc] 29)).alloc (.cells #[.int .i64 xkd, Sv xk, .int .i64 xt, .int .i64 xv] 42)).heap.size = w.heap.size + 3 := by rw [heap_alloc_size, heap_alloc_size, heap_alloc_size]
  obtain ⟨d0, d1, d2, d3, d4, d5⟩ := HQd.out w1 H1.out.1
  obtain ⟨e0, e1⟩ := H1.out.2.1.d2
  obtain ⟨x0, x1, x2, x3⟩ := HXd.out w1 H1.out.2.2.1
  go_enter Tryz.func15, Tryz.ntmps15
  go_upto_region 1 with (fail)
  rw [← hw1, ← hrb, ← hxb, ← hsb, ← hqb]
  clear hw1 hrb hxb hsb hqb hs1 hs2 hs3
  refine wp_region_lit ?_
  iterate 9 go_step
  refine wpList_slice1_I rfl (.tmp 16) rfl X (by rw [HXe.out]; rfl) ?_
  obtain ⟨w2, hw2⟩ : ∃ W, W = w1.alloc (.cells X.cells 42) := ⟨_, rfl⟩
  obtain ⟨gb, hgb⟩ : ∃ b, b = w1.heap.size := ⟨_, rfl⟩
  have H2 : Hid (RowX w2 gb X ∧ RowS w2 rb 0 nilV ∧ Below w.heap.size w w2) := by
    have hB := (Below.refl _ w1).alloc (Nat.le_refl _) (.cells X.cells 42)
    rw [← hw2] at hB
    exact Lib.hid ⟨by rw [hw2, hgb]; exact heap_alloc_new w1 _, H1.out.2.2.2.1.below hB, H1.out.2.2.2.2.1.trans (hB.mono H1.out.2.2.2.2.1.size)⟩
  rw [← hw2, ← hgb]
  clear hw2 hgb d0 d1 d2 d3 d4 d5 e0 e1 x0 x1 x2 x3
  refine wpList_plain rfl fun K' hK' => ?_
  go_step
  refine (HRn.out w2 gb H2.out.2.2 H2.out.1).mono ?_
  rintro e w3 ⟨sv, ov, rfl, ⟨pv', l', rfl, hP1, hP2, hP3⟩, hO, hB⟩
  refine hK' _ _ ?_
  clear hK'
  obtain ⟨m', hm'⟩ : ∃ z, z = R.s.mark := ⟨_, rfl⟩
  rw [← hm']
  have H3 : Hid (RowS w3 rb 0 nilV ∧ Below w.heap.size w w3 ∧ PanesIn w3 pv' l' ∧ (∀ y ∈ l', GoodP w3 y) ∧ R.s.panes = l'.map PaneV.p ∧ HasO w3 ov R.outs ∧ m' = R.s.mark) := Lib.hid ⟨H2.out.2.1.below hB, H2.out.2.2.trans (hB.mono H2.out.2.2.size), hP1, hP2, hP3, hO, hm'⟩
  clear hB hP1 hP2 hP3 hO hm'
  iterate 18 go_step
  refine wpList_store_row rfl _ _ _ rfl w3.heap.size #[.int .i64 m', pv'] rfl rfl 29 #[.int .i64 0, nilV] (heap_alloc_new w3 _) state_size rfl (state_one H3.out.2.2.1.one) ?_
  obtain ⟨w4, hw4⟩ : ∃ W, W = (w3.alloc (Obj.cells #[.int .i64 0, .slice none 0 0] 29)).setRow w3.heap.size #[.int .i64 m', pv'] := ⟨_, rfl⟩
  obtain ⟨tb, htb⟩ : ∃ b, b = w3.heap.size := ⟨_, rfl⟩
  have H4 : Hid (RowS w4 rb 0 nilV ∧ Below w.heap.size w w4 ∧ PanesIn w4 pv' l' ∧ (∀ y ∈ l', GoodP w4 y) ∧ R.s.panes = l'.map PaneV.p ∧ HasO w4 ov R.outs ∧ m' = R.s.mark ∧ RowS w4 tb m' pv') := by
    obtain ⟨k1, k2⟩ := stored_state w3 m' pv'
    have e : w4 = (w3.alloc (Obj.cells #[.int .i64 0, nilV] 29)).setRow w3.heap.size #[.int .i64 m', pv'] := hw4
    rw [← e, ← htb] at k1
    rw [← e] at k2
    obtain ⟨j1, j2, j3, j4, j5, j6, j7⟩ := H3.out
    exact Lib.hid ⟨j1.below k2, j2.trans (k2.mono j2.size), j3.below k2, fun y hy => (j4 y hy).below k2, j5, j6.below k2, j7, k1⟩
  rw [← hw4, ← htb]
  clear hw4 htb H3
  obtain ⟨e0, e1⟩ := H4.out.2.2.2.2.2.2.2.d2
  go_upto_region 2 with (fail)
  refine wp_region_lit ?_
  iterate 9 go_step
  refine wpList_store_row rfl _ _ _ rfl rb #[.int .i64 m', pv'] rfl rfl 29 #[.int .i64 0, nilV] H4.out.1 state_size rfl (state_one H4.out.2.2.1.one) ?_
  obtain ⟨wz, hwz⟩ : ∃ W, W = w4.setRow rb #[.int .i64 m', pv'] := ⟨_, rfl⟩
  have HZ : Hid (RowS wz rb m' pv' ∧ P (.returned (.tuple #[.agg #[.int .i64 m', pv'], ov, .int .i64 R.e])) wz) := by
    have hg : w4.grownBy wz (some rb) := by rw [hwz]; exact grown_setRow _ _ _
    obtain ⟨j1, j2, j3, j4, j5, j6, j7, _⟩ := H4.out
    exact Lib.hid ⟨by rw [hwz]; exact RowS.reset j1 m' _, HPz.out wz _ ov ⟨pv', l', by rw [j7], j3.store j1 hg, fun y hy => (j4 y hy).storeS j1 hg, j5⟩ (j6.store j1 hg) (j2.trans (below_set hg HBd.out j2.size))⟩
  rw [← hwz]
  clear hwz e0 e1
  go_wp2_with (fail)
  exact bodyPost_ret (v := .tuple #[.agg #[.int .i64 m', pv'], ov, .int .i64 R.e]) ((results_cell_tmp_tmp (p := 6) (s := 7) (u := 8) (ty := 29) rfl _ _ rb 29 #[.int .i64 m', pv'] (0, 0) _ rfl HZ.out.1 Tryz.underlying29 rfl state_size).trans rfl) rfl HZ.out.2
end Go.Proofs.YtjeeghafachebaaGreat
namespace Go.Proofs.YtjeeghafachebaaGreat
open Go Go.RowKit
theorem HasO.open {w : World} {v : Value} {o : List OutE} (h : HasO w v o) : ∃ a c l, v = .slice a l.length c ∧ l.length = o.length ∧ OutsAt w a l ∧ (∀ x ∈ l, GoodO w x) ∧ o = l.map OutV.o := by
  obtain ⟨a, c, l, h1, _, h3, h4, h5⟩ := h
  exact ⟨a, c, l, h1, by rw [h5, List.length_map], h3, h4, h5⟩
end Go.Proofs.YtjeeghafachebaaGreat
