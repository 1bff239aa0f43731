/-
  Part 44 of 53 of what the proof leans on.
-/
import Derived.Test.YtjeeghafachebaaGreatG42
import Derived.Test.YtjeeghafachebaaGreatG43
import Derived.Test.YtjeeghafachebaaGreatG6
import Derived.Test.YtjeeghafachebaaGreatG30
import Derived.Test.YtjeeghafachebaaGreatG34
namespace Go.Proofs.YtjeeghafachebaaGreat
open Go Go.RowKit
def RunEnd (w : World) (r : RunL) (e : Ending) (w' : World) : Prop := ∃ sv ov, e = .returned (.tuple #[sv, ov, .int .i64 r.n, .int .i64 r.e]) ∧ HasS w' sv r.s ∧ HasO w' ov r.outs ∧ Below w.heap.size w w'
theorem results_cell_tmp3 {P : Program} {fn : Func} {p s u t3 : Tmp} {ty : TypeId} (h : fn.results = #[.cell p ty, .tmp s, .tmp u, .tmp t3]) (tmps : Array Value) (w : World) (g : Nat) (t : TypeId) (cs : Array Value) (fr : Nat × Nat) (d : TypeDesc)
    (hp : tmps.getD p undef = .pointer (some ⟨g, 0, none⟩)) (hg : w.heap[g]? = some (.cells cs t fr)) (hd : P.underlying ty = some d) (ha : (match d with | .struct _ | .array _ _ => true | _ => false) = true) (hi : (P.info? ty).map (·.size) = some cs.size) :
    (results fn tmps).run P w = .ok (.tuple #[.agg cs, tmps.getD s undef, tmps.getD u undef, tmps.getD t3 undef]) w := by
  have hp' : tmps[p]?.getD undef = .pointer (some ⟨g, 0, none⟩) := by simpa using hp
  simp [results, h, hp', asAddr, run_loadVar_row w g t ty cs fr d hg hd ha hi]
def RnI (w : World) (qb sb rb : Nat) (q : QueryL) (m : Int) (pv : Value) (l : List PaneV) (ov : Value) (ol : List OutV) (wr : World) : Prop :=
  RowQ wr qb q ∧ RowS wr sb m pv ∧ RowS wr rb 0 nilV ∧ PanesIn wr pv l ∧ (∀ y ∈ l, GoodP wr y) ∧ OwnO wr (rb + 1) ov ol ∧ (∀ y ∈ ol, GoodO wr y) ∧ Below w.heap.size w wr
theorem RnI.below {w : World} {qb sb rb : Nat} {q : QueryL} {m : Int} {pv : Value} {l : List PaneV} {ov : Value} {ol : List OutV} {wr wz : World} (h : RnI w qb sb rb q m pv l ov ol wr) (hB : Below wr.heap.size wr wz) : RnI w qb sb rb q m pv l ov ol wz := by
  obtain ⟨h1, h2, h3, h4, h5, h6, h7, h8⟩ := h; exact ⟨h1.below hB, h2.below hB, h3.below hB, h4.below hB, fun y hy => (h5 y hy).below hB, h6.far hB, fun y hy => (h7 y hy).below hB, h8.trans (hB.mono h8.size)⟩
def RnRel (w : World) (qb sb rb : Nat) (q : QueryL) (its : List ItemL) (r0 : RunL) (s10 s29 : Value) (wr : World) : Prop :=
  ∃ i : Nat, i ≤ its.length ∧ s29 = .int .i64 (i : Int) ∧ ∃ m pv l ol, r0 = runS q ⟨m, l.map PaneV.p⟩ (ol.map OutV.o) (i : Int) (its.drop i) ∧ comeOk q (l.map PaneV.p) 256 ∧ ol.length ≤ 256 * i ∧ RnI w qb sb rb q m pv l s10 ol wr
theorem runS_at {q : QueryL} {s : StateL} {o : List OutE} {n : Int} {its : List ItemL} {i : Nat} {x : ItemL} {r0 : RunL} (h : r0 = runS q s o n (its.drop i)) (hx : its[i]? = some x) :
    r0 = if (stepS q s x).2.2 = 0 then runS q (stepS q s x).1 (o ++ (stepS q s x).2.1) (n + 1) (its.drop (i + 1)) else ⟨s, o, n, (stepS q s x).2.2⟩ := by
  rw [h, List.drop_eq_getElem?_toList_append, hx]; rfl
theorem runS_end {q : QueryL} {s : StateL} {o : List OutE} {n : Int} {its : List ItemL} {i : Nat} {r0 : RunL} (h : r0 = runS q s o n (its.drop i)) (hi : ¬ i < its.length) : r0 = ⟨s, o, n, 0⟩ := by
  rw [h, List.drop_eq_nil_of_le (by omega)]
  rfl
def RnG (w : World) (qb sb rb tb : Nat) (q : QueryL) (m : Int) (pv : Value) (m' : Int) (pv' : Value) (l' : List PaneV) (wd : World) (k : Nat) (w' : World) : Prop :=
  (RowQ w' qb q ∧ RowS w' sb (if k ≤ 1 then m else m') (if k ≤ 1 then pv else pv') ∧ RowS w' rb 0 nilV ∧ RowS w' tb m' pv' ∧ PanesIn w' pv' l' ∧ (∀ y ∈ l', GoodP w' y) ∧ Below w.heap.size w w') ∧ (k = 0 → w' = wd)
def RnL (B : Nat) (L : List OutV) : List (Nat × (Nat → World → Value → Prop)) := [(3, fun k w v => 1 ≤ k ∧ OwnO w B v L ∧ ∀ y ∈ L, GoodO w y), (5, fun k w v => 1 ≤ k ∧ OwnO w B v L ∧ ∀ y ∈ L, GoodO w y)]
theorem RnL_le {B : Nat} {L : List OutV} : ∀ p ∈ RnL B L, ∀ k w w' v, w' = w → p.2 k w v → p.2 k w' v := by
  intro p hp k w w' v e h; rw [e]; exact h
theorem RnL_keep0 {B : Nat} {L : List OutV} {w w' : World} {l : List Oper} {a : Act} : ∀ p ∈ RnL B L, 3 = p.1 ∨ ∀ d, dstAt l p.1 = some d → p.2 0 w (a.eval (.tmp d)) → p.2 1 w' (a.eval (.tmp d)) := by
  intro p hp; simp only [RnL, List.mem_cons, List.not_mem_nil, or_false] at hp
  rcases hp with rfl | rfl
  · exact .inl rfl
  · exact .inr fun d hd h => absurd h.1 (by decide)
theorem own_set {B sb : Nat} {L : List OutV} {w w' : World} {v : Value} {m : Int} {pv : Value} (hb : sb < B) (hr : RowS w sb m pv) (hg : w.grownBy w' (some sb)) (h : OwnO w B v L ∧ ∀ y ∈ L, GoodO w y) : OwnO w' B v L ∧ ∀ y ∈ L, GoodO w' y :=
  ⟨h.1.kept hg (.inr (fun e => by have := h.1.lt e; omega)), fun y hy => IntsAt.grown (h.2 y hy) hg (fun _ _ _ e hne => IntsAt.apart (h.2 y hy) e hne hr (by decide))⟩
theorem RnL_keep {B sb : Nat} {L : List OutV} {w w' : World} {l : List Oper} {a : Act} {m : Int} {pv : Value} (hb : sb < B) (hr : RowS w sb m pv) (hg : w.grownBy w' (some sb)) : ∀ p ∈ RnL B L, 4 = p.1 ∨ ∀ d, dstAt l p.1 = some d → p.2 1 w (a.eval (.tmp d)) → p.2 2 w' (a.eval (.tmp d)) := by
  intro p hp; simp only [RnL, List.mem_cons, List.not_mem_nil, or_false] at hp
  rcases hp with rfl | rfl
  · exact .inr fun d _ h => ⟨by decide, own_set hb hr hg h.2⟩
  · exact .inr fun d _ h => ⟨by decide, own_set hb hr hg h.2⟩
theorem ownO_row {w : World} {B : Nat} {v : Value} {l : List OutV} (h : OwnO w B v l) {b : Nat} (hb : v.ownBlock = some b) : ∃ cs, w.heap[b]? = some (.cells cs 50 (0, 0)) := by
  rcases h.2 with ⟨k1, _⟩ | ⟨g, c, cur, k1, _, k2, _⟩
  · rw [k1] at hb
    cases hb
  · rw [k1] at hb
    cases hb
    exact ⟨cur, k2⟩
theorem PanesIn.byO {w w' : World} {v u : Value} {l : List PaneV} {B : Nat} {m : List OutV} (h : PanesIn w v l) (ho : OwnO w B u m) (hg : w.grownBy w' u.ownBlock) : PanesIn w' v l :=
  h.grown hg (fun b hb => by obtain ⟨cs, hc⟩ := ownO_row ho hb; exact ⟨cs, _, _, hc, by decide⟩)
theorem IntsAt.byO {w w' : World} {v u : Value} {l : List Int} {B : Nat} {m : List OutV} (h : IntsAt w v l) (ho : OwnO w B u m) (hg : w.grownBy w' u.ownBlock) : IntsAt w' v l :=
  IntsAt.grownR h hg (fun a n c e hne he => by obtain ⟨cs, hc⟩ := ownO_row ho he; exact IntsAt.apart h e hne hc (by decide) rfl)
set_option maxRecDepth 100000 in
set_option maxHeartbeats 8000000 in
theorem orun_any (w : World) (q : QueryL) (m : Int) (pv : Value) (l : List PaneV) (ia : Option Addr) (ic : Nat) (its : List ItemL) (hA : PanesIn w pv l) (hG : ∀ y ∈ l, GoodP w y) (hF : FitP l) (hI : ItemsAt w ia its) (hk : ∀ x ∈ its, x.key.length ≤ 1000000) (hn : its.length ≤ 3000) :
    Calls Tryz.prog 8 #[.agg q.cells, .agg #[.int .i64 m, pv], .slice ia its.length ic] w (RunEnd w (runQ q ⟨m, l.map PaneV.p⟩ its)) := by
  have mixed : Tryz.prog.follows .mixedOrders = true := by kernel_rfl
  obtain ⟨ps, hps⟩ : ∃ ps, ps = l.map PaneV.p := ⟨_, rfl⟩; obtain ⟨P, hP⟩ : ∃ P, P = RunEnd w (runQ q ⟨m, ps⟩ its) := ⟨_, rfl⟩; rw [← hps, ← hP]; obtain ⟨r, hr⟩ : ∃ r, r = rightS q ⟨m, ps⟩ := ⟨_, rfl⟩; obtain ⟨r0, hr0⟩ : ∃ r : RunL, r = runS q ⟨m, ps⟩ [] 0 its := ⟨_, rfl⟩
  have HNo : Hid (its ≠ [] → r = false → ∀ wz sv, HasS wz sv ⟨m, ps⟩ → Below w.heap.size w wz → P (.returned (.tuple #[sv, .slice none 0 0, .int .i64 0, .int .i64 2])) wz) := Lib.hid (fun h1 h2 wz sv hS hB => by
    rw [hr] at h2; rw [hP, runQ, if_pos ⟨h1, h2⟩]
    exact ⟨_, _, rfl, hS, HasO.nil _, hB⟩)
  have HYes : Hid ((its = [] ∨ r = true) → ∀ wz sv ov, HasS wz sv r0.s → HasO wz ov r0.outs → Below w.heap.size w wz → P (.returned (.tuple #[sv, ov, .int .i64 r0.n, .int .i64 r0.e])) wz) := Lib.hid (fun h wz sv ov hS hO hB => by
    rw [hP, runQ, if_neg (by rintro ⟨h1, h2⟩; rcases h with h | h; exact h1 h; rw [← hr, h] at h2; cases h2), ← hr0]
    exact ⟨_, _, rfl, hS, hO, hB⟩)
  have HRt : Hid (∀ w', Below w.heap.size w w' → Calls Tryz.prog 17 #[.agg q.cells, .agg #[.int .i64 m, pv]] w' (Below0 w' (.bool r))) := by
    rw [hr, hps]; exact Lib.hid (fun w' hB => oright_any w' q m pv l (hA.below hB) (fun y hy => (hG y hy).below hB) hF)
  have HCp : Hid (∀ w' m' pv' l', PanesIn w' pv' l' → (∀ y ∈ l', GoodP w' y) → FitP l' → Calls Tryz.prog 20 #[.agg #[.int .i64 m', pv']] w' (StateEnd w' ⟨m', l'.map PaneV.p⟩)) := Lib.hid (fun w' m' pv' l' h1 h2 h3 => ocopied_any w' m' pv' l' h1 h2 h3); have HSt : Hid (∀ w' m' pv' l' (x : ItemL), PanesIn w' pv' l' → (∀ y ∈ l', GoodP w' y) → comeOk q (l'.map PaneV.p) 256 → x.key.length ≤ 1000000 → Calls Tryz.prog 21 #[.agg q.cells, .agg #[.int .i64 m', pv'], .agg x.cells] w' (ComeEnd w' (stepS q ⟨m', l'.map PaneV.p⟩ x).1 (stepS q ⟨m', l'.map PaneV.p⟩ x).2.1 (stepS q ⟨m', l'.map PaneV.p⟩ x).2.2)) := Lib.hid (fun w' m' pv' l' x h1 h2 h3 h4 => ostep_any w' q m' pv' x l' h1 h2 h3 h4)
  have HOk : Hid (r = true → comeOk q (l.map PaneV.p) 256) := by rw [hr, hps]; exact Lib.hid (fun h => rightS_ok h)
  obtain ⟨sa, sc, hpv, hz1, hz2⟩ := hA.form; clear hz1 hz2; obtain ⟨N, hN⟩ : ∃ N, N = its.length := ⟨_, rfl⟩
  have HA : Hid (PanesIn w pv l ∧ (∀ y ∈ l, GoodP w y) ∧ FitP l ∧ ItemsAt w ia its ∧ (∀ x ∈ its, x.key.length ≤ 1000000) ∧ N = its.length ∧ r0 = runS q ⟨m, l.map PaneV.p⟩ [] 0 its ∧ ps = l.map PaneV.p) := Lib.hid ⟨hA, hG, hF, hI, hk, hN, by rw [hr0, hps], hps⟩
  rw [← hN] at hn ⊢; obtain ⟨w1, hw1⟩ : ∃ W, W = ((w.alloc (.cells q.cells 23)).alloc (.cells #[.int .i64 m, pv] 29)).alloc (.cells #[.int .i64 0, .slice none 0 0] 29) := ⟨_, rfl⟩; obtain ⟨qb, hqb⟩ : ∃ b, b = w.heap.size := ⟨_, rfl⟩; obtain ⟨sb, hsb⟩ : ∃ b, b = w.heap.size + 1 := ⟨_, rfl⟩; obtain ⟨rb, hrb⟩ : ∃ b, b = w.heap.size + 2 := ⟨_, rfl⟩
  have H1 : Hid (RowQ w1 qb q ∧ RowS w1 sb m pv ∧ RowS w1 rb 0 nilV ∧ Below w.heap.size w w1 ∧ w1.heap.size = w.heap.size + 3) := by rw [hw1, hqb, hsb, hrb]; exact Lib.hid (box_mark w q m pv)
  have HBd : Hid (w.heap.size ≤ qb ∧ qb < sb ∧ sb < rb ∧ w1.heap.size = rb + 1) := Lib.hid ⟨by omega, by omega, by omega, by have := H1.out.2.2.2.2; omega⟩
  have HI1 : Hid (RnI w qb sb rb q m pv l nilV [] w1) := by
    obtain ⟨k1, k2, k3, k4, _⟩ := H1.out
    exact Lib.hid ⟨k1, k2, k3, hA.below k4, fun y hy => (hG y hy).below k4, OwnO.nil _ _, fun y hy => by simp at hy, k4⟩
  clear hP hr hA hG hF hI hk hps hr0 H1 hN; obtain ⟨Q, hQ⟩ : ∃ Q, Q = q := ⟨_, rfl⟩; rw [← hQ] at HI1 HA
  have HSt2 : Hid (∀ w' m' pv' l' (x : ItemL), PanesIn w' pv' l' → (∀ y ∈ l', GoodP w' y) → comeOk Q (l'.map PaneV.p) 256 → x.key.length ≤ 1000000 → Calls Tryz.prog 21 #[.agg q.cells, .agg #[.int .i64 m', pv'], .agg x.cells] w' (ComeEnd w' (stepS Q ⟨m', l'.map PaneV.p⟩ x).1 (stepS Q ⟨m', l'.map PaneV.p⟩ x).2.1 (stepS Q ⟨m', l'.map PaneV.p⟩ x).2.2)) := by rw [hQ]; exact HSt
  rw [← hQ] at HOk; clear HSt; obtain ⟨kind, size, slide, late, agg, kq⟩ := q
  have HQd : Hid (∀ w', RowQ w' qb Q → D6 w' qb kind size slide late agg kq) := by rw [hQ]; exact Lib.hid (fun w' h => h.d6)
  clear hQ; obtain ⟨n, hnl⟩ : ∃ n, n = l.length := ⟨_, rfl⟩; rw [← hnl] at hpv; clear hnl; subst hpv; unfold QueryL.cells at hw1 HRt HSt2 ⊢; simp only at hw1 HRt HSt2 ⊢; have hs1 : (w.alloc (.cells #[.int .i64 kind, .int .i64 size, .int .i64 slide, .int .i64 late, .int .i64 agg, .int .i64 kq] 23)).heap.size = w.heap.size + 1 := heap_alloc_size w _
  have hs2 : ((w.alloc (.cells #[.int .i64 kind, .int .i64 size, .int .i64 slide, .int .i64 late, .int .i64 agg, .int .i64 kq] 23)).alloc (.cells #[.int .i64 m, .slice sa n sc] 29)).heap.size = w.heap.size + 2 := by rw [heap_alloc_size, heap_alloc_size]
  obtain ⟨d0, d1, d2, d3, d4, d5⟩ := HQd.out w1 HI1.out.1; obtain ⟨e0, e1⟩ := HI1.out.2.1.d2; have HGo : Hid (∀ w2, RnI w qb sb rb Q m (.slice sa n sc) l nilV [] w2 → True) := Lib.hid (fun _ _ => trivial); clear HGo
  by_cases hz : N = 0
  · subst hz; have HIe : Hid (its = []) := Lib.hid (List.eq_nil_of_length_eq_zero HA.out.2.2.2.2.2.1.symm)
    go_enter Tryz.func8, Tryz.ntmps8
    go_upto_region 1 with (fail)
    rw [← hw1, ← hrb, ← hsb, ← hqb]; clear hw1 hrb hsb hqb hs1 hs2; go_wp2_with (fail); clear e0 e1 d0 d1 d2 d3 d4 d5
    go_loopw [10, 29] (fun s10 s29 wr => s29 = .int .i64 0 ∧ s10 = nilV ∧ RnI w qb sb rb Q m (.slice sa n sc) l nilV [] wr) (fun _ _ _ => 0)
    case atStart => exact ⟨rfl, rfl, HI1.out⟩
    case round =>
      obtain ⟨rfl, rfl, hI⟩ := hrel; have HO2 := Lib.hid hI; clear hI; obtain ⟨e0, e1⟩ := HO2.out.2.1.d2
      go_upto_region 12 with (fail)
      have HE : Hid (r0 = ⟨⟨m, l.map PaneV.p⟩, ([] : List OutV).map OutV.o, ((0 : Nat) : Int), 0⟩) := by
        have h := HA.out.2.2.2.2.2.2.1; rw [HIe.out] at h; exact Lib.hid h
      have HYs := Lib.hid (HYes.out (.inl HIe.out)); refine wp_region_lit ?_
      iterate 3 go_step
      refine wpList_plain rfl fun K' hK' => ?_; go_step; refine (HCp.out wr m (.slice sa n sc) l HO2.out.2.2.2.1 HO2.out.2.2.2.2.1 HA.out.2.2.1).mono ?_; rintro e wk ⟨sv, rfl, ⟨pvk, lk, rfl, hP1, hP2, hP3⟩, hB⟩; refine hK' _ _ ?_; have HK := Lib.hid (And.intro (HO2.out.below hB) (And.intro hP1 (And.intro hP2 hP3))); clear hK' hB hP1 hP2 hP3 e0 e1
      iterate 9 go_step
      refine wpList_store_row rfl _ _ _ rfl rb #[.int .i64 m, pvk] rfl rfl 29 #[.int .i64 0, nilV] HK.out.1.2.2.1 state_size rfl (state_one HK.out.2.1.one) ?_; obtain ⟨wz, hwz⟩ : ∃ W, W = wk.setRow rb #[.int .i64 m, pvk] := ⟨_, rfl⟩
      have HZ : Hid (RowS wz rb m pvk ∧ P (.returned (.tuple #[.agg #[.int .i64 m, pvk], nilV, .int .i64 ((0 : Nat) : Int), .int .i64 0])) wz) := by
        have hg : wk.grownBy wz (some rb) := by rw [hwz]; exact grown_setRow _ _ _
        obtain ⟨⟨j1, j2, j3, j4, j5, j6, j7, j8⟩, k1, k2, k3⟩ := HK.out; have hb := HBd.out
        have hOw := own_set (B := rb + 1) (by omega) j3 hg ⟨j6, j7⟩
        obtain ⟨oa', oc', hv', hc', hAt'⟩ := hOw.1.form; have hS : HasS wz (.agg #[.int .i64 m, pvk]) ⟨m, (l).map PaneV.p⟩ := ⟨pvk, lk, rfl, k1.store j3 hg, fun y hy => (k2 y hy).storeS j3 hg, k3⟩; have hO : HasO wz nilV ((([] : List OutV)).map OutV.o) := ⟨oa', oc', ([] : List OutV), hv', hc', hAt', hOw.2, rfl⟩
        have hBz := j8.trans (below_set hg (by omega) j8.size)
        exact Lib.hid ⟨by rw [hwz]; exact j3.reset m _, by have h := HYs.out wz _ nilV (by rw [HE.out]; exact hS) (by rw [HE.out]; exact hO) hBz; rw [HE.out] at h; exact h⟩
      rw [← hwz]; clear hwz; go_wp2_with (fail); exact bodyPost_ret (v := .tuple #[.agg #[.int .i64 m, pvk], nilV, .int .i64 ((0 : Nat) : Int), .int .i64 0]) ((results_cell_tmp3 (p := 6) (s := 7) (u := 8) (t3 := 9) (ty := 29) rfl _ _ rb 29 #[.int .i64 m, pvk] (0, 0) _ rfl HZ.out.1 Tryz.underlying29 rfl state_size).trans rfl) rfl HZ.out.2
  · have hN0 : 0 < N := by omega
    clear hz
    go_enter Tryz.func8, Tryz.ntmps8
    go_upto_region 1 with (fail)
    rw [← hw1, ← hrb, ← hsb, ← hqb]; clear hw1 hrb hsb hqb hs1 hs2
    cases r with
    | false =>
      go_wp2_with (fail); refine (HRt.out w1 HI1.out.2.2.2.2.2.2.2).mono ?_; rintro e w2 ⟨rfl, hB⟩; have HI2 := Lib.hid (HI1.out.below hB); clear hB e0 e1 d0 d1 d2 d3 d4 d5; dsimp only; obtain ⟨e0, e1⟩ := HI2.out.2.1.d2
      go_upto_region 2 with (fail)
      have HIe : Hid (its ≠ []) := Lib.hid (fun e => by have h := HA.out.2.2.2.2.2.1; rw [e] at h; simp at h; omega)
      refine wp_region_lit ?_
      iterate 3 go_step
      refine wpList_plain rfl fun K' hK' => ?_; go_step; refine (HCp.out w2 m (.slice sa n sc) l HI2.out.2.2.2.1 HI2.out.2.2.2.2.1 HA.out.2.2.1).mono ?_; rintro e wk ⟨sv, rfl, ⟨pvk, lk, rfl, hP1, hP2, hP3⟩, hB⟩; refine hK' _ _ ?_; have HK := Lib.hid (And.intro (HI2.out.below hB) (And.intro hP1 (And.intro hP2 hP3))); clear hK' hB hP1 hP2 hP3 e0 e1
      iterate 0 go_step
      refine wpList_store_row rfl _ _ _ rfl rb #[.int .i64 m, pvk] rfl rfl 29 #[.int .i64 0, nilV] HK.out.1.2.2.1 state_size rfl (state_one HK.out.2.1.one) ?_; obtain ⟨wz, hwz⟩ : ∃ W, W = wk.setRow rb #[.int .i64 m, pvk] := ⟨_, rfl⟩
      have HZ : Hid (RowS wz rb m pvk ∧ P (.returned (.tuple #[.agg #[.int .i64 m, pvk], (.slice none 0 0), .int .i64 0, .int .i64 2])) wz) := by
        have hg : wk.grownBy wz (some rb) := by rw [hwz]; exact grown_setRow _ _ _
        obtain ⟨⟨j1, j2, j3, j4, j5, j6, j7, j8⟩, k1, k2, k3⟩ := HK.out; have hb := HBd.out
        have hOw := own_set (B := rb + 1) (by omega) j3 hg ⟨j6, j7⟩
        obtain ⟨oa', oc', hv', hc', hAt'⟩ := hOw.1.form; have hS : HasS wz (.agg #[.int .i64 m, pvk]) ⟨m, (l).map PaneV.p⟩ := ⟨pvk, lk, rfl, k1.store j3 hg, fun y hy => (k2 y hy).storeS j3 hg, k3⟩; have hO : HasO wz (.slice none 0 0) ((([] : List OutV)).map OutV.o) := ⟨oa', oc', ([] : List OutV), hv', hc', hAt', hOw.2, rfl⟩
        have hBz := j8.trans (below_set hg (by omega) j8.size)
        exact Lib.hid ⟨by rw [hwz]; exact j3.reset m _, HNo.out HIe.out (by trivial) wz _ (by rw [HA.out.2.2.2.2.2.2.2]; exact hS) hBz⟩
      rw [← hwz]; clear hwz; go_wp2_with (fail); exact bodyPost_ret (v := .tuple #[.agg #[.int .i64 m, pvk], (.slice none 0 0), .int .i64 0, .int .i64 2]) ((results_cell_tmp3 (p := 6) (s := 7) (u := 8) (t3 := 9) (ty := 29) rfl _ _ rb 29 #[.int .i64 m, pvk] (0, 0) _ rfl HZ.out.1 Tryz.underlying29 rfl state_size).trans rfl) rfl HZ.out.2
    | true =>
      go_wp2_with (fail); refine (HRt.out w1 HI1.out.2.2.2.2.2.2.2).mono ?_; rintro e w2 ⟨rfl, hB⟩; have HI2 := Lib.hid (HI1.out.below hB); clear hB e0 e1 d0 d1 d2 d3 d4 d5 HI1; dsimp only; go_wp2_with (fail)
      go_loopw [10, 29] (RnRel w qb sb rb Q its r0) (fun _ i _ => N - (intOf i).toNat)
      case atStart =>
        refine ⟨0, Nat.zero_le _, rfl, m, _, l, [], HA.out.2.2.2.2.2.2.1, HOk.out (by trivial), Nat.le_refl _, HI2.out⟩
      case round =>
        obtain ⟨i, hi, rfl, m1, pv1, l1, ol, hr1, hok, hol, hI⟩ := hrel; rw [← HA.out.2.2.2.2.2.1] at hi; obtain ⟨sa1, sc1, rfl, hz1, hz2⟩ := hI.2.2.2.1.form; obtain ⟨oa, oc, rfl, hz3, hz4⟩ := hI.2.2.2.2.2.1.form; have HO := Lib.hid (And.intro hr1 (And.intro hok (And.intro hol hI))); clear hz1 hz2 hz3 hz4 hr1 hok hol hI
        by_cases hlt : i < N
        · have hi0 : (0 : Int) ≤ (i : Int) ∧ (i : Int) < (N : Int) := by omega
          obtain ⟨x, pa, pof, hx, hsa, c0, c1, c2, c3⟩ := (HA.out.2.2.2.1.below HO.out.2.2.2.2.2.2.2.2.2.2).get (t := i) (by rw [← HA.out.2.2.2.2.2.1]; exact hlt)
          subst hsa; have HX : Hid (its[i]? = some x ∧ i < N ∧ x.key.length ≤ 1000000) := Lib.hid ⟨hx, hlt, HA.out.2.2.2.2.1 x (List.mem_of_getElem? hx)⟩; clear hx hi hlt; obtain ⟨x_, hxe⟩ : ∃ y : ItemL, y = x := ⟨_, rfl⟩; rw [← hxe] at HX; obtain ⟨xkd, xk, xt, xv⟩ := x; simp only at c0 c1 c2 c3
          go_upto_region 6 with (fail)
          refine wp_region_lit ?_
          iterate 15 go_step
          refine wpList_store_row rfl _ _ _ rfl wr.heap.size (ItemL.mk xkd xk xt xv).cells rfl rfl 42 #[.int .i64 0, .string ⟨#[]⟩, .int .i64 0, .int .i64 0] (heap_alloc_new wr _) item_size rfl (item_one _) ?_; obtain ⟨wx, hwx⟩ : ∃ Z, Z = (wr.alloc (Obj.cells #[.int .i64 0, .string ⟨#[]⟩, .int .i64 0, .int .i64 0] 42)).setRow wr.heap.size (ItemL.mk xkd xk xt xv).cells := ⟨_, rfl⟩; obtain ⟨xb, hxb⟩ : ∃ b, b = wr.heap.size := ⟨_, rfl⟩
          have Hwx : Hid (RowX wx xb x_ ∧ RnI w qb sb rb Q m1 (.slice sa1 l1.length sc1) l1 (.slice oa ol.length oc) ol wx) := by
            have k2 : Below wr.heap.size wr wx := by
              rw [hwx]
              exact ((Below.refl _ wr).alloc (Nat.le_refl _) _).trans ⟨rfl, rfl, rfl, by simp [World.setRow], fun k hk => setRow_other _ _ _ _ (by omega)⟩
            refine Lib.hid ⟨?_, HO.out.2.2.2.below k2⟩; rw [hwx, hxb, hxe]; exact setRow_heap _ _ _ _ _ _ (heap_alloc_new wr _)
          rw [← hwx, ← hxb]; clear hwx hxb c0 c1 c2 c3
          have HXd : Hid (∀ w', RowX w' xb x_ → DX w' xb xkd xk xt xv) := by rw [hxe]; exact Lib.hid (fun w' h => h.dx)
          have HSx : Hid (Calls Tryz.prog 21 #[.agg #[.int .i64 kind, .int .i64 size, .int .i64 slide, .int .i64 late, .int .i64 agg, .int .i64 kq], .agg #[.int .i64 m1, .slice sa1 l1.length sc1], .agg #[.int .i64 xkd, Sv xk, .int .i64 xt, .int .i64 xv]] wx (ComeEnd wx (stepS Q ⟨m1, l1.map PaneV.p⟩ x_).1 (stepS Q ⟨m1, l1.map PaneV.p⟩ x_).2.1 (stepS Q ⟨m1, l1.map PaneV.p⟩ x_).2.2)) := by
            have h := HSt2.out wx m1 _ l1 x_ Hwx.out.2.2.2.2.1 Hwx.out.2.2.2.2.2.1 HO.out.2.1 HX.out.2.2; rw [hxe] at h ⊢; exact Lib.hid h
          clear hxe; obtain ⟨d0, d1, d2, d3, d4, d5⟩ := HQd.out wx Hwx.out.2.1; obtain ⟨e0, e1⟩ := Hwx.out.2.2.1.d2; obtain ⟨x0, x1, x2, x3⟩ := HXd.out wx Hwx.out.1
          go_upto_region 7 with (fail)
          refine wp_region_lit ?_
          iterate 9 go_step
          refine wpList_plain rfl fun K' hK' => ?_; go_step; refine HSx.out.mono ?_; rintro e w5 ⟨sv, ov2, rfl, ⟨pv2, l2, rfl, hP1, hP2, hP3⟩, ⟨oa2, oc2, ol2, rfl, hO1, hO2, hO3, hO4⟩, hB⟩; refine hK' _ _ ?_; clear hK' d0 d1 d2 d3 d4 d5 e0 e1 x0 x1 x2 x3; obtain ⟨S2, hS2⟩ : ∃ s, s = stepS Q ⟨m1, l1.map PaneV.p⟩ x_ := ⟨_, rfl⟩; rw [← hS2] at hP3 hO4; rw [← hS2]; obtain ⟨m2, hm2⟩ : ∃ z, z = S2.1.mark := ⟨_, rfl⟩; obtain ⟨er, her⟩ : ∃ z, z = S2.2.2 := ⟨_, rfl⟩; rw [← hm2, ← her]
          have HS : Hid (er = (stepS Q ⟨m1, l1.map PaneV.p⟩ x_).2.2 ∧ (⟨m2, l2.map PaneV.p⟩ : StateL) = (stepS Q ⟨m1, l1.map PaneV.p⟩ x_).1 ∧ ol2.map OutV.o = (stepS Q ⟨m1, l1.map PaneV.p⟩ x_).2.1 ∧ ol2.length ≤ 256) := by
            rw [← hS2]
            refine Lib.hid ⟨her, by rw [hm2, ← hP3], hO4.symm, ?_⟩
            have h := stepS_outs (q := Q) (s := ⟨m1, l1.map PaneV.p⟩) (x := x_) (n := 256) HO.out.2.1.2.2 (by decide)
            rw [← hS2, hO4, List.length_map] at h; exact h
          obtain ⟨sa2, sc2, rfl, hz1, hz2⟩ := hP1.form; have H5 : Hid (RnI w qb sb rb Q m1 (.slice sa1 l1.length sc1) l1 (.slice oa ol.length oc) ol w5 ∧ PanesIn w5 (.slice sa2 l2.length sc2) l2 ∧ (∀ y ∈ l2, GoodP w5 y) ∧ OutsAt w5 oa2 ol2 ∧ (∀ y ∈ ol2, GoodO w5 y)) := Lib.hid ⟨Hwx.out.2.below hB, hP1, hP2, hO2, hO3⟩; clear hP1 hP2 hP3 hO1 hO2 hO3 hO4 hB hS2 hm2 her hz1 hz2 Hwx HSx
          iterate 15 go_step
          refine wpList_store_row rfl _ _ _ rfl w5.heap.size #[.int .i64 m2, .slice sa2 l2.length sc2] rfl rfl 29 #[.int .i64 0, nilV] (heap_alloc_new w5 _) state_size rfl (state_one rfl) ?_; obtain ⟨w6, hw6⟩ : ∃ W, W = (w5.alloc (Obj.cells #[.int .i64 0, .slice none 0 0] 29)).setRow w5.heap.size #[.int .i64 m2, .slice sa2 l2.length sc2] := ⟨_, rfl⟩; obtain ⟨tb, htb⟩ : ∃ b, b = w5.heap.size := ⟨_, rfl⟩
          have H6 : Hid (RnI w qb sb rb Q m1 (.slice sa1 l1.length sc1) l1 (.slice oa ol.length oc) ol w6 ∧ PanesIn w6 (.slice sa2 l2.length sc2) l2 ∧ (∀ y ∈ l2, GoodP w6 y) ∧ OutsAt w6 oa2 ol2 ∧ (∀ y ∈ ol2, GoodO w6 y) ∧ RowS w6 tb m2 (.slice sa2 l2.length sc2) ∧ (rb < tb ∧ (Value.slice oa ol.length oc).ownBlock ≠ some tb)) := by
            obtain ⟨k1, k2⟩ := stored_state w5 m2 (.slice sa2 l2.length sc2); have e : w6 = (w5.alloc (Obj.cells #[.int .i64 0, nilV] 29)).setRow w5.heap.size #[.int .i64 m2, .slice sa2 l2.length sc2] := hw6; rw [← e, ← htb] at k1; rw [← e] at k2; obtain ⟨j1, j2, j3, j4, j5⟩ := H5.out
            exact Lib.hid ⟨j1.below k2, j2.below k2, fun y hy => (j3 y hy).below k2, j4.below k2, fun y hy => (j5 y hy).below k2, k1, by rw [htb]; exact j1.2.2.1.lt, fun e => by have := j1.2.2.2.2.2.1.lt e; omega⟩
          rw [← hw6, ← htb]; clear hw6 htb H5
          by_cases he : er = 0
          · subst he
            go_upto_region 10 with (fail)
            have Hd : Hid (RnI w qb sb rb Q m1 (.slice sa1 l1.length sc1) l1 (.slice oa ol.length oc) ol w6.drew ∧ PanesIn w6.drew (.slice sa2 l2.length sc2) l2 ∧ (∀ y ∈ l2, GoodP w6.drew y) ∧ OutsAt w6.drew oa2 ol2 ∧ (∀ y ∈ ol2, GoodO w6.drew y) ∧ RowS w6.drew tb m2 (.slice sa2 l2.length sc2) ∧ (rb < tb ∧ (Value.slice oa ol.length oc).ownBlock ≠ some tb)) := by
              obtain ⟨j1, j2, j3, j4, j5, j6, j7⟩ := H6.out; have hB := (Below.refl w6.heap.size w6).drew; exact Lib.hid ⟨j1.below hB, j2.below hB, fun y hy => (j3 y hy).below hB, j4.below hB, fun y hy => (j5 y hy).below hB, j6.below hB, j7⟩
            have HG0 : Hid (RnG w qb sb rb tb Q m1 (.slice sa1 l1.length sc1) m2 (.slice sa2 l2.length sc2) l2 w6.drew 0 w6.drew) := by
              obtain ⟨⟨j1, j2, j3, j4, j5, j6, j7, j8⟩, p1, p2, p3, p4, p5, p6⟩ := Hd.out; exact Lib.hid ⟨⟨j1, j2, j3, p5, p1, p2, j8⟩, fun _ => rfl⟩
            refine wp_region_skipA (fun i => ([] : List Nat).contains i) (by kernel_rfl) [none, none, none, some 0, some 1, none] [3, 4] (VLs ((Value.agg #[.int .i64 m2, .slice sa2 l2.length sc2]) :: (Value.slice oa ol.length oc) :: (Value.slice oa2 ol2.length oc2) :: undef :: undef :: undef :: ([] : List Value)) (RnL (rb + 1) (ol ++ ol2))) (RnG w qb sb rb tb Q m1 (.slice sa1 l1.length sc1) m2 (.slice sa2 l2.length sc2) l2 w6.drew) (fun w w' => w' = w) (VLs_le _ _ RnL_le) (by kernel_rfl) (by kernel_rfl) (by kernel_rfl) HG0.out (fun _ => ⟨rfl, rfl, rfl, rfl, rfl, rfl, trivial⟩) (fun _ h => by simp at h) ?_ ?_
            · refine ⟨?_, ?_, ?_, ?_, ?_, ?_, trivial⟩
              · intro _ _ a w' hG hout hpre K hK; have q13 := ev_of ((hout 13 rfl).trans (show _ = .pointer (some ⟨tb, 0, none⟩) from rfl)); obtain ⟨e0, e1⟩ := hG.1.2.2.2.1.d2; clear hout hpre; go_step; exact hK _ _ rfl hG rfl
              · intro _ _ a w' hG hout hpre K hK; have q10 := ev_of ((hout 10 rfl).trans (show _ = .slice oa ol.length oc from rfl)); clear hout hpre; go_step; exact hK _ _ rfl hG rfl
              · intro _ _ a w' hG hout hpre K hK; have q14 := ev_of ((hout 14 rfl).trans (show _ = .slice oa2 ol2.length oc2 from rfl)); clear hout hpre; go_step; exact hK _ _ rfl hG rfl
              · intro _ a w' hG hout hpre K hK; obtain ⟨p0, p1, _⟩ := hpre; have r50 := (show a.eval (.tmp 50) = .slice oa ol.length oc from p0); have r51 := (show a.eval (.tmp 51) = .slice oa2 ol2.length oc2 from p1); have ew := hG.2 rfl; subst ew
                refine wp_appendO (.tmp 50) (.tmp 51) rfl (rb + 1) _ ol ol2 r50 Hd.out.1.2.2.2.2.2.1 oa2 oc2 _ rfl r51 Hd.out.2.2.2.1 (by have := HO.out.2.2.1; have := HX.out.2.1; have := HS.out.2.2.2; omega) (by have := Hd.out.1.2.2.1.lt; omega) ?_
                intro v' w'' k1 k2 k3; have hOw := Hd.out.1.2.2.2.2.2.1
                have hne : ∀ b, b ≤ rb → some b ≠ (Value.slice oa ol.length oc).ownBlock := fun b hb e => by have := hOw.lt e.symm; omega
                have hb := HBd.out; obtain ⟨⟨j1, j2, j3, j4, j5, j6, j7, j8⟩, p1, p2, p3, p4, p5, p6, p7⟩ := Hd.out
                exact hK v' w'' ⟨Nat.le_refl _, k1, fun y hy => by rcases List.mem_append.1 hy with hy | hy; exact IntsAt.byO (j7 y hy) hOw k2; exact IntsAt.byO (p4 y hy) hOw k2⟩ ⟨⟨grown_row k2 j1 (hne qb (by omega)), by rw [if_pos (by decide), if_pos (by decide)]; exact grown_row k2 j2 (hne sb (by omega)), grown_row k2 j3 (hne rb (by omega)), grown_row k2 p5 (fun e => p7 e.symm), p1.byO hOw k2, fun y hy => ⟨IntsAt.byO (p2 y hy).1 hOw k2, (p2 y hy).2⟩, j8.trans ⟨k2.os, k2.tape, k2.output, k2.size, fun k hk => k2.block k (by have := j8.size; omega) (hne k (by omega))⟩⟩, fun e => absurd e (by decide)⟩ (VLs_keep _ RnL_keep0)
              · intro _ a w' hG hout hpre K hK; obtain ⟨p0, _⟩ := hpre; have r4 := ((hout 4 rfl).trans (show _ = .pointer (some ⟨sb, 0, none⟩) from rfl)); have r49 := (show a.eval (.tmp 49) = .agg #[.int .i64 m2, .slice sa2 l2.length sc2] from p0); obtain ⟨⟨j1, j2, j3, j4, j5, j6, j7⟩, _⟩ := hG
                rw [if_pos (by decide), if_pos (by decide)] at j2
                have hb := HBd.out; have htb := Hd.out.2.2.2.2.2.2.1; refine wp_store_row _ (.tmp 4) (.tmp 49) rfl sb #[.int .i64 m2, .slice sa2 l2.length sc2] r4 r49 _ _ j2 state_size rfl (state_one rfl) ?_; have hg : w'.grownBy (w'.setRow sb #[.int .i64 m2, .slice sa2 l2.length sc2]) (some sb) := grown_setRow _ _ _
                exact hK _ _ rfl ⟨⟨grown_row hg j1 (by simp; omega), by rw [if_neg (by decide), if_neg (by decide)]; exact j2.reset m2 _, grown_row hg j3 (by simp; omega), grown_row hg j4 (by simp; omega), j5.store j2 hg, fun y hy => (j6 y hy).storeS j2 hg, j7.trans (below_set hg (by omega) j7.size)⟩, fun e => absurd e (by decide)⟩ (VLs_keep _ (RnL_keep (by omega) j2 hg))
              · intro _ k_ a w' hG hout hpre K hK; obtain ⟨p0, _⟩ := hpre; obtain ⟨hf1, hf2, hf3⟩ := (show 1 ≤ k_ ∧ OwnO w' (rb + 1) (a.eval (.tmp 52)) (ol ++ ol2) ∧ ∀ y ∈ ol ++ ol2, GoodO w' y from p0); clear hout ; obtain ⟨v5, hv5⟩ : ∃ v, a.eval (.tmp 52) = v := ⟨_, rfl⟩; rw [hv5] at hf2; have q52 := ev_of hv5; go_step; exact hK _ _ ⟨hf1, hf2, hf3⟩ hG rfl
            · intro vs w8 hG hlen hV
              match vs, hlen, hV with
              | [v0, v1, v2, v3, v4, v5], _, hV =>
                obtain ⟨_, hf1, hf2⟩ := (show 1 ≤ 2 ∧ OwnO w8 (rb + 1) v5 (ol ++ ol2) ∧ ∀ y ∈ ol ++ ol2, GoodO w8 y from hV 5 10 v5 rfl rfl); obtain ⟨⟨j1, j2, j3, j4, j5, j6, j7⟩, _⟩ := hG
                rw [if_neg (by decide), if_neg (by decide)] at j2
                clear hV; have HZ : Hid (RnI w qb sb rb Q m2 (.slice sa2 l2.length sc2) l2 v5 (ol ++ ol2) w8) := Lib.hid ⟨j1, j2, j3, j5, j6, hf1, hf2, j7⟩; clear hf1 hf2 j1 j2 j3 j4 j5 j6 j7; simp only [putsL, List.tail_cons, List.headD_cons]; simp only [Act.put, List.setIfInBounds_toArray, List.set_cons_succ, List.set_cons_zero]; go_wp2_with (fail)
                refine ⟨⟨i + 1, by rw [← HA.out.2.2.2.2.2.1]; exact HX.out.2.1, rfl, m2, _, l2, ol ++ ol2, ?_, ?_, by rw [List.length_append]; have := HO.out.2.2.1; have := HS.out.2.2.2; omega, HZ.out⟩, by rw [intOf_i, intOf_i]; have := HX.out.2.1; omega⟩
                · have h := runS_at HO.out.1 HX.out.1; rw [if_pos HS.out.1.symm, ← HS.out.2.1, ← HS.out.2.2.1] at h; rw [h, List.map_append]; rfl
                · have h := stepS_ok HO.out.2.1 HX.out.2.2 HS.out.1.symm; rw [← HS.out.2.1] at h; exact h
          · have he' : (er == 0) = false := by simpa using he
            have HE : Hid (r0 = ⟨⟨m1, l1.map PaneV.p⟩, ol.map OutV.o, (i : Int), er⟩) := by
              have h := runS_at HO.out.1 HX.out.1
              rw [if_neg (by rw [← HS.out.1]; exact he), ← HS.out.1] at h
              exact Lib.hid h
            obtain ⟨e0, e1⟩ := H6.out.1.2.1.d2
            go_upto_region 9 with (fail)
            have HYs := Lib.hid (HYes.out (.inr (by trivial)))
            refine wp_region_lit ?_
            iterate 3 go_step
            refine wpList_plain rfl fun K' hK' => ?_; go_step
            refine (HCp.out w6 m1 (.slice sa1 l1.length sc1) l1 H6.out.1.2.2.2.1 H6.out.1.2.2.2.2.1 (HO.out.2.1.sorted (by decide)).1).mono ?_
            rintro e wk ⟨sv, rfl, ⟨pvk, lk, rfl, hP1, hP2, hP3⟩, hB⟩; refine hK' _ _ ?_; have HK := Lib.hid (And.intro (H6.out.1.below hB) (And.intro hP1 (And.intro hP2 hP3))); clear hK' hB hP1 hP2 hP3 e0 e1
            iterate 9 go_step
            refine wpList_store_row rfl _ _ _ rfl rb #[.int .i64 m1, pvk] rfl rfl 29 #[.int .i64 0, nilV] HK.out.1.2.2.1 state_size rfl (state_one HK.out.2.1.one) ?_; obtain ⟨wz, hwz⟩ : ∃ W, W = wk.setRow rb #[.int .i64 m1, pvk] := ⟨_, rfl⟩
            have HZ : Hid (RowS wz rb m1 pvk ∧ P (.returned (.tuple #[.agg #[.int .i64 m1, pvk], (.slice oa ol.length oc), .int .i64 (i : Int), .int .i64 er])) wz) := by
              have hg : wk.grownBy wz (some rb) := by rw [hwz]; exact grown_setRow _ _ _
              obtain ⟨⟨j1, j2, j3, j4, j5, j6, j7, j8⟩, k1, k2, k3⟩ := HK.out; have hb := HBd.out
              have hOw := own_set (B := rb + 1) (by omega) j3 hg ⟨j6, j7⟩
              obtain ⟨oa', oc', hv', hc', hAt'⟩ := hOw.1.form; have hS : HasS wz (.agg #[.int .i64 m1, pvk]) ⟨m1, (l1).map PaneV.p⟩ := ⟨pvk, lk, rfl, k1.store j3 hg, fun y hy => (k2 y hy).storeS j3 hg, k3⟩; have hO : HasO wz (.slice oa ol.length oc) ((ol).map OutV.o) := ⟨oa', oc', ol, hv', hc', hAt', hOw.2, rfl⟩
              have hBz := j8.trans (below_set hg (by omega) j8.size)
              exact Lib.hid ⟨by rw [hwz]; exact j3.reset m1 _, by have h := HYs.out wz _ (.slice oa ol.length oc) (by rw [HE.out]; exact hS) (by rw [HE.out]; exact hO) hBz; rw [HE.out] at h; exact h⟩
            rw [← hwz]; clear hwz; go_wp2_with (fail); exact bodyPost_ret (v := .tuple #[.agg #[.int .i64 m1, pvk], (.slice oa ol.length oc), .int .i64 (i : Int), .int .i64 er]) ((results_cell_tmp3 (p := 6) (s := 7) (u := 8) (t3 := 9) (ty := 29) rfl _ _ rb 29 #[.int .i64 m1, pvk] (0, 0) _ rfl HZ.out.1 Tryz.underlying29 rfl state_size).trans rfl) rfl HZ.out.2
        · obtain rfl : i = N := by omega
          have HE := Lib.hid (runS_end HO.out.1 (by rw [← HA.out.2.2.2.2.2.1]; omega))
          clear hlt hi; obtain ⟨e0, e1⟩ := HO.out.2.2.2.2.1.d2
          go_upto_region 12 with (fail)
          have HYs := Lib.hid (HYes.out (.inr (by trivial)))
          refine wp_region_lit ?_
          iterate 3 go_step
          refine wpList_plain rfl fun K' hK' => ?_; go_step
          refine (HCp.out wr m1 (.slice sa1 l1.length sc1) l1 HO.out.2.2.2.2.2.2.1 HO.out.2.2.2.2.2.2.2.1 (HO.out.2.1.sorted (by decide)).1).mono ?_
          rintro e wk ⟨sv, rfl, ⟨pvk, lk, rfl, hP1, hP2, hP3⟩, hB⟩; refine hK' _ _ ?_; have HK := Lib.hid (And.intro (HO.out.2.2.2.below hB) (And.intro hP1 (And.intro hP2 hP3))); clear hK' hB hP1 hP2 hP3 e0 e1
          iterate 9 go_step
          refine wpList_store_row rfl _ _ _ rfl rb #[.int .i64 m1, pvk] rfl rfl 29 #[.int .i64 0, nilV] HK.out.1.2.2.1 state_size rfl (state_one HK.out.2.1.one) ?_; obtain ⟨wz, hwz⟩ : ∃ W, W = wk.setRow rb #[.int .i64 m1, pvk] := ⟨_, rfl⟩
          have HZ : Hid (RowS wz rb m1 pvk ∧ P (.returned (.tuple #[.agg #[.int .i64 m1, pvk], (.slice oa ol.length oc), .int .i64 (i : Int), .int .i64 0])) wz) := by
            have hg : wk.grownBy wz (some rb) := by rw [hwz]; exact grown_setRow _ _ _
            obtain ⟨⟨j1, j2, j3, j4, j5, j6, j7, j8⟩, k1, k2, k3⟩ := HK.out; have hb := HBd.out
            have hOw := own_set (B := rb + 1) (by omega) j3 hg ⟨j6, j7⟩
            obtain ⟨oa', oc', hv', hc', hAt'⟩ := hOw.1.form; have hS : HasS wz (.agg #[.int .i64 m1, pvk]) ⟨m1, (l1).map PaneV.p⟩ := ⟨pvk, lk, rfl, k1.store j3 hg, fun y hy => (k2 y hy).storeS j3 hg, k3⟩; have hO : HasO wz (.slice oa ol.length oc) ((ol).map OutV.o) := ⟨oa', oc', ol, hv', hc', hAt', hOw.2, rfl⟩
            have hBz := j8.trans (below_set hg (by omega) j8.size)
            exact Lib.hid ⟨by rw [hwz]; exact j3.reset m1 _, by have h := HYs.out wz _ (.slice oa ol.length oc) (by rw [HE.out]; exact hS) (by rw [HE.out]; exact hO) hBz; rw [HE.out] at h; exact h⟩
          rw [← hwz]; clear hwz; go_wp2_with (fail); exact bodyPost_ret (v := .tuple #[.agg #[.int .i64 m1, pvk], (.slice oa ol.length oc), .int .i64 (i : Int), .int .i64 0]) ((results_cell_tmp3 (p := 6) (s := 7) (u := 8) (t3 := 9) (ty := 29) rfl _ _ rb 29 #[.int .i64 m1, pvk] (0, 0) _ rfl HZ.out.1 Tryz.underlying29 rfl state_size).trans rfl) rfl HZ.out.2
end Go.Proofs.YtjeeghafachebaaGreat
namespace Go.Proofs.YtjeeghafachebaaGreat
open Go Go.RowKit
theorem item_parts1 : ((Tryz.prog.info? 42).map fun i => (i.zero, i.size, i.bytes)) = some (some (.agg #[.int .i64 0, .string ⟨#[]⟩, .int .i64 0, .int .i64 0]), 4, 40) := by kernel_rfl
theorem wpList_slice1_I {ops : Array Oper} {rest : List Oper} {o : Oper} {a : Act} {w : World} {Q : Exit → Act → World → Prop} (hg : o.guard = none) (y : Operand) (ho : o.op = .buildSlice 24 1 #[(0, y)]) (x : ItemL) (hy : a.eval y = .agg x.cells)
    (h : wpList Tryz.prog ops Q rest (a.put o.dst (.slice (some ⟨w.heap.size, 0, none⟩) 1 1)) (w.alloc (.cells x.cells 42))) : wpList Tryz.prog ops Q (o :: rest) a w := by
  have hF : Instr.fill (fun i => some (i * 4, 4)) ((Array.range (1 * 4)).map ((Value.agg #[.int .i64 0, .string ⟨#[]⟩, .int .i64 0, .int .i64 0]).cells[· % (Value.agg #[.int .i64 0, .string ⟨#[]⟩, .int .i64 0, .int .i64 0]).cells.size]!)) [(0, .agg x.cells)] = some x.cells := by kernel_rfl
  obtain ⟨i, hi, hz0, hz1, hz2⟩ := info_parts item_parts1
  refine wpList_buildSlice hg 24 42 1 _ ho x.cells i _ Tryz.underlying24 hi hz0 (by rw [hz1]; decide) (by rw [hz1]; decide) ?_ h
  rw [hz1]; simp only [List.map_toArray, List.map_cons, List.map_nil, hy]; exact hF
theorem ItemsAt.one {w : World} {g : Nat} {y : ItemL} (h : RowX w g y) : ItemsAt w (some ⟨g, 0, none⟩) [y] := by
  refine .inr ⟨g, 0, rfl, fun i x hx j v hv => ?_⟩
  cases i with
  | zero =>
    simp only [List.getElem?_cons_zero, Option.some.injEq] at hx; subst hx; rw [cell_of_row _ _ _ _ _ _ h, Nat.zero_mul, Nat.zero_add]; exact hv
  | succ i => simp at hx
set_option maxRecDepth 100000 in
set_option maxHeartbeats 4000000 in
theorem ostep1_any (w : World) (q : QueryL) (m : Int) (pv : Value) (x : ItemL) (l : List PaneV) (hA : PanesIn w pv l) (hG : ∀ y ∈ l, GoodP w y) (hF : FitP l) (hk : x.key.length ≤ 1000000) :
    Calls Tryz.prog 15 #[.agg q.cells, .agg #[.int .i64 m, pv], .agg x.cells] w (ComeEnd w (runQ q ⟨m, l.map PaneV.p⟩ [x]).s (runQ q ⟨m, l.map PaneV.p⟩ [x]).outs (runQ q ⟨m, l.map PaneV.p⟩ [x]).e) := by
  obtain ⟨P, hP⟩ : ∃ P, P = ComeEnd w (runQ q ⟨m, l.map PaneV.p⟩ [x]).s (runQ q ⟨m, l.map PaneV.p⟩ [x]).outs (runQ q ⟨m, l.map PaneV.p⟩ [x]).e := ⟨_, rfl⟩; rw [← hP]; obtain ⟨R, hR⟩ : ∃ R, R = runQ q ⟨m, l.map PaneV.p⟩ [x] := ⟨_, rfl⟩
  have HPz : Hid (∀ wz sv ov, HasS wz sv R.s → HasO wz ov R.outs → Below w.heap.size w wz → P (.returned (.tuple #[sv, ov, .int .i64 R.e])) wz) := by
    rw [hP, hR]; exact Lib.hid (fun wz sv ov h1 h2 h3 => ⟨sv, ov, rfl, h1, h2, h3⟩)
  have HRn : Hid (∀ w' g, Below w.heap.size w w' → RowX w' g x → Calls Tryz.prog 8 #[.agg q.cells, .agg #[.int .i64 m, pv], .slice (some ⟨g, 0, none⟩) 1 1] w' (RunEnd w' R)) := by
    rw [hR]
    exact Lib.hid (fun w' g hB hr => orun_any w' q m pv l _ 1 [x] (hA.below hB) (fun y hy => (hG y hy).below hB) hF (ItemsAt.one hr) (fun y hy => by rw [List.mem_singleton.1 hy]; exact hk) (by simp))
  obtain ⟨sa, sc, hpv, hz1, hz2⟩ := hA.form; clear hz1 hz2; obtain ⟨w1, hw1⟩ : ∃ W, W = (((w.alloc (.cells q.cells 23)).alloc (.cells #[.int .i64 m, pv] 29)).alloc (.cells x.cells 42)).alloc (.cells #[.int .i64 0, .slice none 0 0] 29) := ⟨_, rfl⟩; obtain ⟨qb, hqb⟩ : ∃ b, b = w.heap.size := ⟨_, rfl⟩; obtain ⟨sb, hsb⟩ : ∃ b, b = w.heap.size + 1 := ⟨_, rfl⟩; obtain ⟨xb, hxb⟩ : ∃ b, b = w.heap.size + 2 := ⟨_, rfl⟩; obtain ⟨rb, hrb⟩ : ∃ b, b = w.heap.size + 3 := ⟨_, rfl⟩
  have H1 : Hid (RowQ w1 qb q ∧ RowS w1 sb m pv ∧ RowX w1 xb x ∧ RowS w1 rb 0 nilV ∧ Below w.heap.size w w1 ∧ w1.heap.size = w.heap.size + 4) := by rw [hw1, hqb, hsb, hxb, hrb]; exact Lib.hid (box_come w q m pv x)
  have HBd : Hid (w.heap.size ≤ rb) := Lib.hid (by omega)
  clear hP hR hA hG hF hk; obtain ⟨Q, hQ⟩ : ∃ Q, Q = q := ⟨_, rfl⟩; rw [← hQ] at H1; obtain ⟨X, hX⟩ : ∃ X, X = x := ⟨_, rfl⟩; rw [← hX] at H1 HRn; obtain ⟨kind, size, slide, late, agg, kq⟩ := q; obtain ⟨xkd, xk, xt, xv⟩ := x
  have HQd : Hid (∀ w', RowQ w' qb Q → D6 w' qb kind size slide late agg kq) := by rw [hQ]; exact Lib.hid (fun w' h => h.d6)
  have HXd : Hid (∀ w', RowX w' xb X → DX w' xb xkd xk xt xv) := by rw [hX]; exact Lib.hid (fun w' h => h.dx)
  have HXe : Hid (X = ⟨xkd, xk, xt, xv⟩) := Lib.hid hX; clear hQ hX; obtain ⟨n, hn⟩ : ∃ n, n = l.length := ⟨_, rfl⟩; rw [← hn] at hpv; clear hn; subst hpv; unfold QueryL.cells ItemL.cells at hw1 ⊢; unfold QueryL.cells at HRn; simp only at hw1 HRn ⊢; have hs1 : (w.alloc (.cells #[.int .i64 kind, .int .i64 size, .int .i64 slide, .int .i64 late, .int .i64 agg, .int .i64 kq] 23)).heap.size = w.heap.size + 1 := heap_alloc_size w _
  have hs2 : ((w.alloc (.cells #[.int .i64 kind, .int .i64 size, .int .i64 slide, .int .i64 late, .int .i64 agg, .int .i64 kq] 23)).alloc (.cells #[.int .i64 m, .slice sa n sc] 29)).heap.size = w.heap.size + 2 := by rw [heap_alloc_size, heap_alloc_size]
  have hs3 : (((w.alloc (.cells #[.int .i64 kind, .int .i64 size, .int .i64 slide, .int .i64 late, .int .i64 agg, .int .i64 kq] 23)).alloc (.cells #[.int .i64 m, .slice sa n sc] 29)).alloc (.cells #[.int .i64 xkd, Sv xk, .int .i64 xt, .int .i64 xv] 42)).heap.size = w.heap.size + 3 := by rw [heap_alloc_size, heap_alloc_size, heap_alloc_size]
  obtain ⟨d0, d1, d2, d3, d4, d5⟩ := HQd.out w1 H1.out.1; obtain ⟨e0, e1⟩ := H1.out.2.1.d2; obtain ⟨x0, x1, x2, x3⟩ := HXd.out w1 H1.out.2.2.1
  go_enter Tryz.func15, Tryz.ntmps15
  go_upto_region 1 with (fail)
  rw [← hw1, ← hrb, ← hxb, ← hsb, ← hqb]; clear hw1 hrb hxb hsb hqb hs1 hs2 hs3; refine wp_region_lit ?_
  iterate 9 go_step
  refine wpList_slice1_I rfl (.tmp 16) rfl X (by rw [HXe.out]; rfl) ?_
  obtain ⟨w2, hw2⟩ : ∃ W, W = w1.alloc (.cells X.cells 42) := ⟨_, rfl⟩; obtain ⟨gb, hgb⟩ : ∃ b, b = w1.heap.size := ⟨_, rfl⟩
  have H2 : Hid (RowX w2 gb X ∧ RowS w2 rb 0 nilV ∧ Below w.heap.size w w2) := by
    have hB := (Below.refl _ w1).alloc (Nat.le_refl _) (.cells X.cells 42); rw [← hw2] at hB
    exact Lib.hid ⟨by rw [hw2, hgb]; exact heap_alloc_new w1 _, H1.out.2.2.2.1.below hB, H1.out.2.2.2.2.1.trans (hB.mono H1.out.2.2.2.2.1.size)⟩
  rw [← hw2, ← hgb]; clear hw2 hgb d0 d1 d2 d3 d4 d5 e0 e1 x0 x1 x2 x3; refine wpList_plain rfl fun K' hK' => ?_; go_step; refine (HRn.out w2 gb H2.out.2.2 H2.out.1).mono ?_; rintro e w3 ⟨sv, ov, rfl, ⟨pv', l', rfl, hP1, hP2, hP3⟩, hO, hB⟩; refine hK' _ _ ?_; clear hK'; obtain ⟨m', hm'⟩ : ∃ z, z = R.s.mark := ⟨_, rfl⟩; rw [← hm']; have H3 : Hid (RowS w3 rb 0 nilV ∧ Below w.heap.size w w3 ∧ PanesIn w3 pv' l' ∧ (∀ y ∈ l', GoodP w3 y) ∧ R.s.panes = l'.map PaneV.p ∧ HasO w3 ov R.outs ∧ m' = R.s.mark) := Lib.hid ⟨H2.out.2.1.below hB, H2.out.2.2.trans (hB.mono H2.out.2.2.size), hP1, hP2, hP3, hO, hm'⟩; clear hB hP1 hP2 hP3 hO hm'
  iterate 18 go_step
  refine wpList_store_row rfl _ _ _ rfl w3.heap.size #[.int .i64 m', pv'] rfl rfl 29 #[.int .i64 0, nilV] (heap_alloc_new w3 _) state_size rfl (state_one H3.out.2.2.1.one) ?_; obtain ⟨w4, hw4⟩ : ∃ W, W = (w3.alloc (Obj.cells #[.int .i64 0, .slice none 0 0] 29)).setRow w3.heap.size #[.int .i64 m', pv'] := ⟨_, rfl⟩; obtain ⟨tb, htb⟩ : ∃ b, b = w3.heap.size := ⟨_, rfl⟩
  have H4 : Hid (RowS w4 rb 0 nilV ∧ Below w.heap.size w w4 ∧ PanesIn w4 pv' l' ∧ (∀ y ∈ l', GoodP w4 y) ∧ R.s.panes = l'.map PaneV.p ∧ HasO w4 ov R.outs ∧ m' = R.s.mark ∧ RowS w4 tb m' pv') := by
    obtain ⟨k1, k2⟩ := stored_state w3 m' pv'; have e : w4 = (w3.alloc (Obj.cells #[.int .i64 0, nilV] 29)).setRow w3.heap.size #[.int .i64 m', pv'] := hw4; rw [← e, ← htb] at k1; rw [← e] at k2; obtain ⟨j1, j2, j3, j4, j5, j6, j7⟩ := H3.out; exact Lib.hid ⟨j1.below k2, j2.trans (k2.mono j2.size), j3.below k2, fun y hy => (j4 y hy).below k2, j5, j6.below k2, j7, k1⟩
  rw [← hw4, ← htb]; clear hw4 htb H3; obtain ⟨e0, e1⟩ := H4.out.2.2.2.2.2.2.2.d2
  go_upto_region 2 with (fail)
  refine wp_region_lit ?_
  iterate 9 go_step
  refine wpList_store_row rfl _ _ _ rfl rb #[.int .i64 m', pv'] rfl rfl 29 #[.int .i64 0, nilV] H4.out.1 state_size rfl (state_one H4.out.2.2.1.one) ?_; obtain ⟨wz, hwz⟩ : ∃ W, W = w4.setRow rb #[.int .i64 m', pv'] := ⟨_, rfl⟩
  have HZ : Hid (RowS wz rb m' pv' ∧ P (.returned (.tuple #[.agg #[.int .i64 m', pv'], ov, .int .i64 R.e])) wz) := by
    have hg : w4.grownBy wz (some rb) := by rw [hwz]; exact grown_setRow _ _ _
    obtain ⟨j1, j2, j3, j4, j5, j6, j7, _⟩ := H4.out
    exact Lib.hid ⟨by rw [hwz]; exact RowS.reset j1 m' _, HPz.out wz _ ov ⟨pv', l', by rw [j7], j3.store j1 hg, fun y hy => (j4 y hy).storeS j1 hg, j5⟩ (j6.store j1 hg) (j2.trans (below_set hg HBd.out j2.size))⟩
  rw [← hwz]; clear hwz e0 e1; go_wp2_with (fail); exact bodyPost_ret (v := .tuple #[.agg #[.int .i64 m', pv'], ov, .int .i64 R.e]) ((results_cell_tmp_tmp (p := 6) (s := 7) (u := 8) (ty := 29) rfl _ _ rb 29 #[.int .i64 m', pv'] (0, 0) _ rfl HZ.out.1 Tryz.underlying29 rfl state_size).trans rfl) rfl HZ.out.2
end Go.Proofs.YtjeeghafachebaaGreat
namespace Go.Proofs.YtjeeghafachebaaGreat
open Go Go.RowKit
set_option maxRecDepth 100000 in
theorem osame_any (w : World) (m1 : Int) (pv1 : Value) (l1 : List PaneV) (m2 : Int) (pv2 : Value) (l2 : List PaneV) (hA : PanesIn w pv1 l1) (hB : PanesIn w pv2 l2) (gA : ∀ x ∈ l1, GoodP w x) (gB : ∀ x ∈ l2, GoodP w x) (fA : FitP l1) (fB : FitP l2) :
    Calls Tryz.prog 16 #[.agg #[.int .i64 m1, pv1], .agg #[.int .i64 m2, pv2]] w (Below0 w (.bool (decide ((⟨m1, l1.map PaneV.p⟩ : StateL) = ⟨m2, l2.map PaneV.p⟩)))) := by
  obtain ⟨r, hr⟩ : ∃ r, r = decide ((⟨m1, l1.map PaneV.p⟩ : StateL) = ⟨m2, l2.map PaneV.p⟩) := ⟨_, rfl⟩; rw [← hr]; obtain ⟨aa, ca, rfl, _, hAt⟩ := hA.form; obtain ⟨ba, cb, rfl, _, hBt⟩ := hB.form; obtain ⟨w1, hw1⟩ : ∃ W, W = (w.alloc (.cells #[.int .i64 m1, .slice aa l1.length ca] 29)).alloc (.cells #[.int .i64 m2, .slice ba l2.length cb] 29) := ⟨_, rfl⟩; obtain ⟨xb, hxb⟩ : ∃ b, b = w.heap.size := ⟨_, rfl⟩; obtain ⟨yb, hyb⟩ : ∃ b, b = w.heap.size + 1 := ⟨_, rfl⟩; have hs1 : (w.alloc (.cells #[.int .i64 m1, .slice aa l1.length ca] 29)).heap.size = w.heap.size + 1 := heap_alloc_size w _
  have H1 : Hid (RowS w1 xb m1 (.slice aa l1.length ca) ∧ RowS w1 yb m2 (.slice ba l2.length cb) ∧ Below w.heap.size w w1) := by
    have k1 := (Below.refl _ w).alloc (Nat.le_refl _) (.cells #[.int .i64 m1, .slice aa l1.length ca] 29); have k2 := (Below.refl _ (w.alloc (.cells #[.int .i64 m1, .slice aa l1.length ca] 29))).alloc (Nat.le_refl _) (.cells #[.int .i64 m2, .slice ba l2.length cb] 29); rw [hw1, hxb, hyb]; refine Lib.hid ⟨RowS.below (heap_alloc_new w _) k2, ?_, k1.trans (k2.mono k1.size)⟩; rw [← hs1]; exact heap_alloc_new _ _
  have HB1 := Lib.hid H1.out.2.2
  have HE : Hid (Calls Tryz.prog 26 #[.slice aa l1.length ca, .slice ba l2.length cb, .func (.func 27) #[] #[]] w1 (Below0 w1 (.bool (decide (l1.map PaneV.p = l2.map PaneV.p))))) :=
    Lib.hid (eqfP_any w1 aa ba ca cb l1 l2 (hAt.below HB1.out) (hBt.below HB1.out) (fun x hx => ⟨(gA x hx).below HB1.out, (fA.1 x hx).2⟩) (fun x hx => ⟨(gB x hx).below HB1.out, (fB.1 x hx).2⟩) fA.2 fB.2)
  obtain ⟨rb, hrb⟩ : ∃ r, r = decide (l1.map PaneV.p = l2.map PaneV.p) := ⟨_, rfl⟩; rw [← hrb] at HE
  have HR : Hid (r = (decide (m1 = m2) && rb)) := by
    rw [hr, hrb]; refine Lib.hid (Bool.eq_iff_iff.2 ?_); simp
  clear hA hB gA gB fA fB hAt hBt hr hrb; obtain ⟨e0, e1⟩ := H1.out.1.d2; obtain ⟨f0, f1⟩ := H1.out.2.1.d2
  by_cases hm : m1 = m2
  · subst hm
    obtain rfl : r = rb := by rw [HR.out, decide_eq_true rfl, Bool.true_and]
    go_enter Tryz.func16, Tryz.ntmps16
    go_upto_region 1 with (fail)
    rw [← hw1, ← hyb, ← hxb]; clear hw1 hxb hyb hs1; go_wp2_with (fail); refine HE.out.mono ?_; rintro e w2 ⟨rfl, hB⟩; have HZ := Lib.hid (HB1.out.trans (hB.mono HB1.out.size)); clear hB e0 e1 f0 f1; dsimp only; go_wp2_with (fail); go_ret; exact ⟨rfl, HZ.out⟩
  · obtain rfl : r = false := by rw [HR.out, decide_eq_false hm, Bool.false_and]
    have hm' : (m1 == m2) = false := by simpa using hm
    go_enter Tryz.func16, Tryz.ntmps16
    go_upto_region 1 with (fail)
    rw [← hw1, ← hyb, ← hxb]; clear hw1 hxb hyb hs1; go_wp2_with (fail); go_ret; exact ⟨rfl, HB1.out⟩
theorem osameOuts_any (w : World) (aa ba : Option Addr) (ca cb : Nat) (l m : List OutV) (hA : OutsAt w aa l) (hB : OutsAt w ba m) (gA : ∀ x ∈ l, GoodO w x ∧ x.o.v.length ≤ 1000000) (gB : ∀ x ∈ m, GoodO w x ∧ x.o.v.length ≤ 1000000) (hl : l.length ≤ 1000000) (hm : m.length ≤ 1000000) :
    Calls Tryz.prog 13 #[.slice aa l.length ca, .slice ba m.length cb] w (Below0 w (.bool (decide (l.map OutV.o = m.map OutV.o)))) := by
  have HE := Lib.hid (eqfO_any w aa ba ca cb l m hA hB gA gB hl hm); clear hA hB gA gB hl hm
  go_enter Tryz.func13, Tryz.ntmps13
  go_wp2_with (fail); refine HE.out.mono ?_; rintro e w2 ⟨rfl, hB⟩; have HZ := Lib.hid hB; clear hB; dsimp only; go_wp2_with (fail); go_ret; exact ⟨rfl, HZ.out⟩
end Go.Proofs.YtjeeghafachebaaGreat
namespace Go.Proofs.YtjeeghafachebaaGreat
open Go Go.RowKit
theorem HasS.store {w w' : World} {v : Value} {s : StateL} {b n c : Nat} {m : Int} {a : Option Addr} (h : HasS w v s) (hb : RowS w b m (.slice a n c)) (hg : w.grownBy w' (some b)) : HasS w' v s := by
  obtain ⟨pv, l, h1, h2, h3, h4⟩ := h; exact ⟨pv, l, h1, h2.store hb hg, fun x hx => (h3 x hx).storeS hb hg, h4⟩
def RuT (r : RunL) (w : World) (v : Value) : Prop := ∃ sv ov, v = .tuple #[sv, ov, .int .i64 r.n, .int .i64 r.e] ∧ HasS w sv r.s ∧ HasO w ov r.outs
def RuR (B : Nat) (r : RunL) (k : Nat) (w : World) (v : Value) : Prop := ∃ b, v = .pointer (some ⟨b, 0, none⟩) ∧ B ≤ b ∧ if k ≤ 1 then RowS w b 0 nilV else ∃ m pv, RowS w b m pv ∧ HasS w (.agg #[.int .i64 m, pv]) r.s
theorem RuT.below {r : RunL} {w w' : World} {v : Value} (h : RuT r w v) (hB : Below w.heap.size w w') : RuT r w' v := by
  obtain ⟨sv, ov, h1, h2, h3⟩ := h; exact ⟨sv, ov, h1, h2.below hB, h3.below hB⟩
theorem RuT.store {r : RunL} {w w' : World} {v : Value} {b : Nat} (h : RuT r w v) (hb : RowS w b 0 nilV) (hg : w.grownBy w' (some b)) : RuT r w' v := by
  obtain ⟨sv, ov, h1, h2, h3⟩ := h; exact ⟨sv, ov, h1, h2.store hb hg, h3.store hb hg⟩
def RuL (c B : Nat) (r : RunL) : List (Nat × (Nat → World → Value → Prop)) :=
  [(c, fun _ w v => RuT r w v), (c + 1, fun _ w v => RuT r w v), (c + 2, fun _ w v => HasS w v r.s), (c + 3, fun _ w v => HasO w v r.outs), (c + 6, RuR B r), (c + 8, fun _ w v => HasO w v r.outs)]
theorem RuL_le {c B : Nat} {r : RunL} : ∀ p ∈ RuL c B r, ∀ k w w' v, Below w.heap.size w w' → p.2 k w v → p.2 k w' v := by
  intro p hp k w w' v hB h; simp only [RuL, List.mem_cons, List.not_mem_nil, or_false] at hp
  rcases hp with rfl | rfl | rfl | rfl | rfl | rfl
  · exact RuT.below h hB
  · exact RuT.below h hB
  · exact HasS.below h hB
  · exact HasO.below h hB
  · obtain ⟨b, h1, h2, h3⟩ := h; refine ⟨b, h1, h2, ?_⟩
    split at h3
    · rename_i hk
      rw [if_pos hk]; exact h3.below hB
    · rename_i hk
      rw [if_neg hk]; obtain ⟨m, pv, h4, h5⟩ := h3; exact ⟨m, pv, h4.below hB, h5.below hB⟩
  · exact HasO.below h hB
theorem RuL_keep0 {c B : Nat} {r : RunL} {w w' : World} {l : List Oper} {a : Act} (hB : Below w.heap.size w w') : ∀ p ∈ RuL c B r, c + 6 = p.1 ∨ ∀ d, dstAt l p.1 = some d → p.2 0 w (a.eval (.tmp d)) → p.2 1 w' (a.eval (.tmp d)) := by
  intro p hp; simp only [RuL, List.mem_cons, List.not_mem_nil, or_false] at hp
  rcases hp with rfl | rfl | rfl | rfl | rfl | rfl
  · exact .inr fun d _ h => RuT.below h hB
  · exact .inr fun d _ h => RuT.below h hB
  · exact .inr fun d _ h => HasS.below h hB
  · exact .inr fun d _ h => HasO.below h hB
  · exact .inl rfl
  · exact .inr fun d _ h => HasO.below h hB
theorem RuL_keep {c B t : Nat} {r : RunL} {w w' : World} {b : Nat} {m : Int} {pv : Value} {l : List Oper} {a : Act} (hl : dstAt l (c + 6) = some t) (ha : a.eval (.tmp t) = .pointer (some ⟨b, 0, none⟩)) (hb : RowS w b 0 nilV) (hBb : B ≤ b) (hg : w.grownBy w' (some b)) (hr : RowS w' b m pv)
    (hS : HasS w' (.agg #[.int .i64 m, pv]) r.s) : ∀ p ∈ RuL c B r, c + 7 = p.1 ∨ ∀ d, dstAt l p.1 = some d → p.2 1 w (a.eval (.tmp d)) → p.2 2 w' (a.eval (.tmp d)) := by
  intro p hp; simp only [RuL, List.mem_cons, List.not_mem_nil, or_false] at hp
  rcases hp with rfl | rfl | rfl | rfl | rfl | rfl
  · exact .inr fun d _ h => RuT.store h hb hg
  · exact .inr fun d _ h => RuT.store h hb hg
  · exact .inr fun d _ h => HasS.store h hb hg
  · exact .inr fun d _ h => HasO.store h hb hg
  · refine .inr fun d hd _ => ?_; rw [hl] at hd
    cases hd
    refine ⟨b, ha, hBb, ?_⟩
    rw [if_neg (by decide)]
    exact ⟨m, pv, hr, hS⟩
  · exact .inr fun d _ h => HasO.store h hb hg
end Go.Proofs.YtjeeghafachebaaGreat
