/-
  Part 39 of 53 of what the proof leans on.
-/
import Derived.Test.YtjeeghafachebaaGreatG37
import Derived.Test.YtjeeghafachebaaGreatG31
import Derived.Test.YtjeeghafachebaaGreatG38
import Derived.Test.YtjeeghafachebaaGreatG34
namespace Go.Proofs.YtjeeghafachebaaGreat
open Go Go.RowKit
def VLs (Vs : List Value) : List (Nat × (Nat → World → Value → Prop)) → Nat → Nat → World → Value → Prop
  | [], i, _, _, v => v = Vs.getD i undef
  | (n, A) :: r, i, k, w, v => cond (Nat.beq i n) (A k w v) (VLs Vs r i k w v)
theorem VLs_le {Vs : List Value} (le : World → World → Prop) : ∀ (L : List (Nat × (Nat → World → Value → Prop))), (∀ p ∈ L, ∀ k w w' v, le w w' → p.2 k w v → p.2 k w' v) → ∀ i k w w' v, le w w' → VLs Vs L i k w v → VLs Vs L i k w' v
  | [], _, _, _, _, _, _, _, h => h
  | (n, A) :: r, hL, i, k, w, w', v, hl, h => by
    unfold VLs at h ⊢
    cases e : Nat.beq i n <;> rw [e] at h
    · exact VLs_le le r (fun p hp => hL p (List.mem_cons_of_mem _ hp)) i k w w' v hl h
    · exact hL (n, A) (List.mem_cons_self ..) k w w' v hl h
theorem VLs_keep {Vs : List Value} {i k k' : Nat} {w w' : World} {l : List Oper} {a : Act} : ∀ (L : List (Nat × (Nat → World → Value → Prop))), (∀ p ∈ L, i = p.1 ∨ ∀ d, dstAt l p.1 = some d → p.2 k w (a.eval (.tmp d)) → p.2 k' w' (a.eval (.tmp d))) → ∀ j d, j ≠ i → dstAt l j = some d → VLs Vs L j k w (a.eval (.tmp d)) → VLs Vs L j k' w' (a.eval (.tmp d))
  | [], _, _, _, _, _, h => h
  | (n, A) :: r, hL, j, d, hj, hd, h => by
    unfold VLs at h ⊢
    cases e : Nat.beq j n <;> rw [e] at h
    · exact VLs_keep r (fun p hp => hL p (List.mem_cons_of_mem _ hp)) j d hj hd h
    · have hn := Nat.eq_of_beq_eq_true e
      rcases hL (n, A) (List.mem_cons_self ..) with h' | h'
      · exact absurd (hn.trans h'.symm) hj
      · exact h' d (by rw [← hn]; exact hd) h
def SlW (w : World) (v : Value) (ws : List WindowL) : Prop := ∃ a c, v = .slice a ws.length c ∧ ws.length ≤ c ∧ WinsAt w a ws
def SlN (v : Value) (n : Nat) : Prop := ∃ a c, v = .slice a n c
theorem SlW.below {w w' : World} {v : Value} {ws : List WindowL} (h : SlW w v ws) (hB : Below w.heap.size w w') : SlW w' v ws := by
  obtain ⟨a, c, h1, h2, h3⟩ := h; exact ⟨a, c, h1, h2, h3.below hB⟩
theorem Sv_int {k : List (BitVec 8)} {z : Int} (h : Sv k = .int .i64 z) : False := by
  unfold Sv at h
  cases h
theorem SlW.store {w w' : World} {v : Value} {ws : List WindowL} {b : Nat} (h : SlW w v ws) (hr : ∀ x ∈ ws, x.rightB = true) (hb : RowW w b zeroW) (hg : w.grownBy w' (some b)) : SlW w' v ws := by
  obtain ⟨a, c, h1, h2, h3⟩ := h; refine ⟨a, c, h1, h2, ?_⟩
  rcases h3 with h3 | ⟨b', o, ha, h3⟩
  · exact .inl h3
  · refine .inr ⟨b', o, ha, fun i x hx j u hu => ?_⟩; have hc := h3 i x hx j u hu
    have hne : b' ≠ b := by
      rintro rfl; have hk := h3 i x hx 0 _ rfl; have hz := rightW_cases (hr x (List.mem_of_getElem? hx)); rw [cell_of_row _ _ _ _ _ _ hb] at hk
      have hkey : x.key ≠ [] := fun e => by
        have h1 := hz.1; rw [e] at h1
        revert h1
        decide
      have hlt := (Array.getElem?_eq_some_iff.1 hk).1; have hlt3 : o + i * 3 + 0 < 3 := hlt
      match ho : o + i * 3 + 0, hlt3, hk with
      | 0, _, hk =>
        have e : Sv ([] : List (BitVec 8)) = Sv x.key := Option.some.inj hk; unfold Sv at e; exact hkey (strOf_inj (congrArg ByteArray.toList (Value.string.inj e))).symm
      | 1, _, hk => exact Sv_int (Option.some.inj hk).symm
      | 2, _, hk => exact Sv_int (Option.some.inj hk).symm
    have hlt := block_lt_of_cell hc
    have hbl := hg.block b' hlt (by simpa using hne)
    rw [← hc]; unfold World.cell?; simp only [hbl]
def HmL (B : Nat) (ws ts : List WindowL) (gl : Nat) (bec : WindowL) : List (Nat × (Nat → World → Value → Prop)) :=
  [(1, fun _ w v => SlW w v ws), (3, fun _ w v => ∃ x u, v = .tuple #[x, .agg bec.cells, u] ∧ SlW w x ts ∧ SlN u gl), (4, fun _ w v => ∃ x u, v = .tuple #[x, .agg bec.cells, u] ∧ SlW w x ts ∧ SlN u gl), (5, fun _ w v => SlW w v ts), (7, fun _ _ v => SlN v gl),
    (8, fun k w v => ∃ b, v = .pointer (some ⟨b, 0, none⟩) ∧ B ≤ b ∧ RowW w b (if k ≤ 1 then zeroW else bec)), (9, fun _ w v => SlW w v ts), (11, fun _ _ v => SlN v gl)]
theorem HmL_le {B : Nat} {ws ts : List WindowL} {gl : Nat} {bec : WindowL} : ∀ p ∈ HmL B ws ts gl bec, ∀ k w w' v, Below w.heap.size w w' → p.2 k w v → p.2 k w' v := by
  intro p hp k w w' v hB h; simp only [HmL, List.mem_cons, List.not_mem_nil, or_false] at hp
  rcases hp with rfl | rfl | rfl | rfl | rfl | rfl | rfl | rfl
  · exact SlW.below h hB
  · obtain ⟨x, u, h1, h2, h3⟩ := h; exact ⟨x, u, h1, h2.below hB, h3⟩
  · obtain ⟨x, u, h1, h2, h3⟩ := h; exact ⟨x, u, h1, h2.below hB, h3⟩
  · exact SlW.below h hB
  · exact h
  · obtain ⟨b, h1, h2, h3⟩ := h; exact ⟨b, h1, h2, h3.below hB⟩
  · exact SlW.below h hB
  · exact h
theorem HmL_keep {B : Nat} {ws ts : List WindowL} {gl : Nat} {bec : WindowL} {w w' : World} {b : Nat} {l : List Oper} {a : Act} (hws : ∀ x ∈ ws, x.rightB = true) (hts : ∀ x ∈ ts, x.rightB = true) (hl : dstAt l 8 = some 10) (ha : a.eval (.tmp 10) = .pointer (some ⟨b, 0, none⟩)) (hb : RowW w b zeroW) (hBb : B ≤ b) (hg : w.grownBy w' (some b)) (hr : RowW w' b bec) :
    ∀ p ∈ HmL B ws ts gl bec, 10 = p.1 ∨ ∀ d, dstAt l p.1 = some d → p.2 1 w (a.eval (.tmp d)) → p.2 2 w' (a.eval (.tmp d)) := by
  intro p hp; simp only [HmL, List.mem_cons, List.not_mem_nil, or_false] at hp
  rcases hp with rfl | rfl | rfl | rfl | rfl | rfl | rfl | rfl
  · exact .inr fun d _ h => SlW.store h hws hb hg
  · exact .inr fun d _ ⟨x, u, h1, h2, h3⟩ => ⟨x, u, h1, h2.store hts hb hg, h3⟩
  · exact .inr fun d _ ⟨x, u, h1, h2, h3⟩ => ⟨x, u, h1, h2.store hts hb hg, h3⟩
  · exact .inr fun d _ h => SlW.store h hts hb hg
  · exact .inr fun d _ h => h
  · refine .inr fun d hd _ => ?_; rw [hl] at hd
    cases hd
    exact ⟨b, ha, hBb, hr⟩
  · exact .inr fun d _ h => SlW.store h hts hb hg
  · exact .inr fun d _ h => h
theorem HmL_keep0 {B : Nat} {ws ts : List WindowL} {gl : Nat} {bec : WindowL} {w w' : World} {l : List Oper} {a : Act} (hB : Below w.heap.size w w') : ∀ p ∈ HmL B ws ts gl bec, 8 = p.1 ∨ ∀ d, dstAt l p.1 = some d → p.2 0 w (a.eval (.tmp d)) → p.2 1 w' (a.eval (.tmp d)) := by
  intro p hp; simp only [HmL, List.mem_cons, List.not_mem_nil, or_false] at hp
  rcases hp with rfl | rfl | rfl | rfl | rfl | rfl | rfl | rfl
  · exact .inr fun d _ h => SlW.below h hB
  · exact .inr fun d _ ⟨x, u, h1, h2, h3⟩ => ⟨x, u, h1, h2.below hB, h3⟩
  · exact .inr fun d _ ⟨x, u, h1, h2, h3⟩ => ⟨x, u, h1, h2.below hB, h3⟩
  · exact .inr fun d _ h => SlW.below h hB
  · exact .inr fun d _ h => h
  · exact .inl rfl
  · exact .inr fun d _ h => SlW.below h hB
  · exact .inr fun d _ h => h
theorem results_cell_tmp_tmp {P : Program} {fn : Func} {p s u : Tmp} {ty : TypeId} (h : fn.results = #[.cell p ty, .tmp s, .tmp u]) (tmps : Array Value) (w : World) (g : Nat) (t : TypeId) (cs : Array Value) (fr : Nat × Nat) (d : TypeDesc)
    (hp : tmps.getD p undef = .pointer (some ⟨g, 0, none⟩)) (hg : w.heap[g]? = some (.cells cs t fr)) (hd : P.underlying ty = some d) (ha : (match d with | .struct _ | .array _ _ => true | _ => false) = true) (hi : (P.info? ty).map (·.size) = some cs.size) :
    (results fn tmps).run P w = .ok (.tuple #[.agg cs, tmps.getD s undef, tmps.getD u undef]) w := by
  have hp' : tmps[p]?.getD undef = .pointer (some ⟨g, 0, none⟩) := by simpa using hp
  simp [results, h, hp', asAddr, run_loadVar_row w g t ty cs fr d hg hd ha hi]
def HomeEnd (w : World) (q : QueryL) (l : List PaneV) (W : WindowL) (e : Ending) (w' : World) : Prop := ∃ A G B : List PaneV, l = A ++ G ++ B ∧ G.map PaneV.p = gaveP q (l.map PaneV.p) W ∧ (A ++ B).map PaneV.p = restP q (l.map PaneV.p) W ∧
  (∀ a ∈ A, aheadP a.p.w (becQ q (l.map PaneV.p) W)) ∧ (∀ x ∈ B, aheadP (becQ q (l.map PaneV.p) W) x.p.w) ∧ e = .returned (.tuple #[.agg (becQ q (l.map PaneV.p) W).cells, .int .i64 (A.length : Int), .int .i64 ((A.length + G.length : Nat) : Int)]) ∧ Below w.heap.size w w'
theorem map_three {l : List PaneV} {A G B : List PaneL} (h : l.map PaneV.p = A ++ G ++ B) : ∃ a g b : List PaneV, l = a ++ g ++ b ∧ a.map PaneV.p = A ∧ g.map PaneV.p = G ∧ b.map PaneV.p = B := by
  obtain ⟨ag, b, e1, h1, h2⟩ := List.map_eq_append_iff.1 h; obtain ⟨a, g, e2, h3, h4⟩ := List.map_eq_append_iff.1 h1
  exact ⟨a, g, b, by rw [e1, e2], h3, h4, h2⟩
theorem box_home (w : World) (q : QueryL) (x : WindowL) :
    let W := ((w.alloc (.cells q.cells 23)).alloc (.cells x.cells 47)).alloc (.cells zeroW.cells 47)
    RowQ W w.heap.size q ∧ RowW W (w.heap.size + 1) x ∧ RowW W (w.heap.size + 2) zeroW ∧ Below w.heap.size w W ∧ W.heap.size = w.heap.size + 3 := by
  intro W; obtain ⟨k1, k2, k3⟩ := box_qw w q x
  have hs : ((w.alloc (.cells q.cells 23)).alloc (.cells x.cells 47)).heap.size = w.heap.size + 2 := by rw [heap_alloc_size, heap_alloc_size]
  have k4 := (Below.refl _ ((w.alloc (.cells q.cells 23)).alloc (.cells x.cells 47))).alloc (Nat.le_refl _) (.cells zeroW.cells 47)
  refine ⟨k1.below k4, k2.below k4, ?_, k3.trans (k4.mono k3.size), by show (World.alloc _ _).heap.size = _; rw [heap_alloc_size, hs]⟩
  rw [← hs]; exact heap_alloc_new _ _
set_option maxRecDepth 100000 in
set_option maxHeartbeats 8000000 in
theorem ohome_any (w : World) (q : QueryL) (sa : Option Addr) (sc : Nat) (l : List PaneV) (W : WindowL) (hA : PanesAt w sa l) (hk : ∀ x ∈ l, x.p.w.key.length ≤ 1000000) (hp : placedB q (l.map PaneV.p) = true) (hW : W.rightB = true) (hWk : W.key.length ≤ 1000000) (hn : l.length ≤ 800) :
    Calls Tryz.prog 63 #[.agg q.cells, .slice sa l.length sc, .agg W.cells] w (HomeEnd w q l W) := by
  have mixed : Tryz.prog.follows .mixedOrders = true := by kernel_rfl
  obtain ⟨A0, B0, hs0, hr0, ha0, hb0⟩ := home_split hp hW; obtain ⟨lA, lG, lB, hl, hlA, hlG, hlB⟩ := map_three hs0; obtain ⟨P, hP⟩ : ∃ P, P = HomeEnd w q l W := ⟨_, rfl⟩; rw [← hP]; obtain ⟨bec, hbec⟩ : ∃ b, b = becQ q (l.map PaneV.p) W := ⟨_, rfl⟩; obtain ⟨na, hna⟩ : ∃ n, n = lA.length := ⟨_, rfl⟩; obtain ⟨ng, hng⟩ : ∃ n, n = lG.length := ⟨_, rfl⟩
  have HP : Hid (∀ wz, Below w.heap.size w wz → P (.returned (.tuple #[.agg bec.cells, .int .i64 (na : Int), .int .i64 ((na : Int) + (ng : Int))])) wz) := Lib.hid (fun wz hB => by
    rw [hP, hbec]
    refine ⟨lA, lG, lB, hl, hlG, by rw [List.map_append, hlA, hlB, hr0], fun a ha => ha0 _ (by rw [← hlA]; exact List.mem_map.2 ⟨a, ha, rfl⟩), fun x hx => hb0 _ (by rw [← hlB]; exact List.mem_map.2 ⟨x, hx, rfl⟩), by rw [hna, hng]; simp, hB⟩)
  have hAl : A0.length = na := by rw [hna, ← hlA, List.length_map]
  have hGl : (gaveP q (l.map PaneV.p) W).length = ng := by rw [hng, ← hlG, List.length_map]
  obtain ⟨w1, hw1⟩ : ∃ W1, W1 = ((w.alloc (.cells q.cells 23)).alloc (.cells W.cells 47)).alloc (.cells #[.string ⟨#[]⟩, .int .i64 0, .int .i64 0] 47) := ⟨_, rfl⟩; obtain ⟨qb, hqb⟩ : ∃ b, b = w.heap.size := ⟨_, rfl⟩; obtain ⟨wb, hwb⟩ : ∃ b, b = w.heap.size + 1 := ⟨_, rfl⟩; obtain ⟨rb, hrb⟩ : ∃ b, b = w.heap.size + 2 := ⟨_, rfl⟩
  have H1 : Hid (RowQ w1 qb q ∧ RowW w1 wb W ∧ RowW w1 rb zeroW ∧ Below w.heap.size w w1 ∧ w1.heap.size = w.heap.size + 3) := by rw [hw1, hqb, hwb, hrb]; exact Lib.hid (box_home w q W)
  have HBd : Hid (w.heap.size ≤ rb ∧ rb < w1.heap.size) := Lib.hid ⟨by omega, by have := H1.out.2.2.2.2; omega⟩
  obtain ⟨n, hN⟩ : ∃ n, n = l.length := ⟨_, rfl⟩; rw [← hN]
  have hn8 : n ≤ 800 := by omega
  have hsum : na + ng ≤ 800 := by
    have := congrArg List.length hl; rw [List.length_append, List.length_append] at this; omega
  have hbk : bec.key.length ≤ 1000000 := by
    rw [hbec, becQ]
    split
    · rw [(became_spec (l := wsP (l.map PaneV.p)) hW).2.1]; exact hWk
    · exact hWk
  -- the two ways
  have HSess : Hid (q.kind = 3 → ∃ (ws ts : List WindowL) (gv : List Nat), ws.length = n ∧ ts.length ≤ 1000000 ∧ gv.length = ng ∧ (∀ x ∈ ws, x.rightB = true) ∧ (∀ x ∈ ts, x.rightB = true) ∧
      (∀ w', Below w.heap.size w w' → Calls Tryz.prog 53 #[.slice sa n sc] w' (WinsNew w' ws)) ∧
      (∀ w' a c, WinsAt w' a ws → Calls Tryz.prog 95 #[.slice a n c, .agg W.cells] w' (TakeEnd w' ts bec gv)) ∧
      (∀ w' a c, WinsAt w' a ts → Calls Tryz.prog 96 #[.slice a ts.length c, .agg bec.cells] w' (Below0 w' (.int .i64 (na : Int))))) := by
    refine Lib.hid (fun hkd => ?_); obtain ⟨t1, t2, t3⟩ := home_session hkd hp hW hr0 ha0 hb0
    have hset : Settled (wsP (l.map PaneV.p)) := by
      unfold placedB at hp; rw [if_pos hkd] at hp; exact of_decide_eq_true hp
    have hws : wsP (l.map PaneV.p) = l.map fun x => x.p.w := by rw [wsP, List.map_map]; rfl
    have hts := takeL_yes hset hW; rw [hts] at t1; have hte : takeS (wsP (l.map PaneV.p)) W = wsP A0 ++ becQ q (l.map PaneV.p) W :: wsP B0 := (Prod.mk.inj t1).1; have htr := (takeS_spec hset hW).1.1
    have hlen : (wsP (l.map PaneV.p)).length = n := by rw [wsP, List.length_map, List.length_map, hN]
    have htl : (takeS (wsP (l.map PaneV.p)) W).length ≤ 1000000 := by
      have h0 := congrArg List.length hs0; rw [hte]; rw [List.length_map, List.length_append, List.length_append] at h0; simp only [List.length_append, List.length_cons, wsP, List.length_map]; omega
    refine ⟨_, _, gaveW (wsP (l.map PaneV.p)) W, hlen, htl, by rw [t2, hGl], hset.1, htr, fun w' hB => ?_, fun w' a c h => ?_, fun w' a c h => ?_⟩
    · rw [hws, hN]
      exact owindows_any w' sa sc l (hA.below hB) (by omega)
    · have h3 := stake_any w' a c (wsP (l.map PaneV.p)) W h (fun y hy => by
        rw [hws] at hy; obtain ⟨z, hz, rfl⟩ := List.mem_map.1 hy
        exact hk z hz) hWk (by omega)
      rw [hts, hlen] at h3; simp only at h3
      have e : became (wsP (l.map PaneV.p)) W = bec := by rw [hbec, becQ, if_pos hkd]
      rw [e] at h3; exact h3
    · rw [hte] at h ⊢
      have h3 := indexW_any w' a c (wsP A0) (wsP B0) bec _ rfl (by rw [hbec]; exact h) (by rw [hbec]; exact t3) (by rw [hbec, ← hte]; exact htl)
      rw [hbec] at h3 ⊢
      rw [show (wsP A0).length = na by rw [wsP, List.length_map, hAl]] at h3
      exact h3
  have HPlain : Hid (q.kind ≠ 3 → bec = W ∧ ∀ w', Below w.heap.size w w' → Calls Tryz.prog 97 #[.slice sa n sc, .agg W.cells, .func (.func 98) #[] #[]] w' (fun e w'' => ∃ b : Bool, e = .returned (.tuple #[.int .i64 (na : Int), .bool b]) ∧ ng = (if b = true then 1 else 0) ∧ Below w'.heap.size w' w'')) := by
    refine Lib.hid (fun hkd => ⟨by rw [hbec, becQ, if_neg hkd], fun w' hB => ?_⟩)
    have hws : wsP (l.map PaneV.p) = l.map fun x => x.p.w := by rw [wsP, List.map_map]; rfl
    rw [hN]
    refine (bsearchP_any w' sa sc l W (hA.below hB) (by rw [← hws]; exact wsP_sorted.2 (placed_sorted hp)) (by omega)).mono ?_
    rintro e w'' ⟨p, b, rfl, h1, h2, h3⟩; rw [← hws] at h1 h2; obtain ⟨_, k2, k3⟩ := home_plain hkd hp hs0 ha0 hb0 h1 h2
    exact ⟨b, by rw [k2, hAl], by rw [← hGl, k3], h3⟩
  clear hA hk hp hW hWk hn hs0 hr0 ha0 hb0 hl hlA hlG hlB hbec hna hng hAl hGl hN hbk hP; obtain ⟨VB, hVB⟩ : ∃ V, V = Value.agg bec.cells := ⟨_, rfl⟩; obtain ⟨VW, hVW⟩ : ∃ V, V = Value.agg W.cells := ⟨_, rfl⟩; rw [← hVB] at HP HSess; rw [← hVW] at HSess HPlain; obtain ⟨kind, size, slide, late, agg, kq⟩ := q; obtain ⟨Wv, hWv⟩ : ∃ V, V = W := ⟨_, rfl⟩; rw [← hWv] at H1 HPlain; obtain ⟨wk, wl, wh⟩ := W; have HVW : Hid (VW = .agg #[Sv wk, .int .i64 wl, .int .i64 wh]) := Lib.hid hVW
  have HWd : Hid (∀ w', RowW w' wb Wv → D3 w' wb wk wl wh) := by rw [hWv]; exact Lib.hid (fun w' h => h.d3)
  have HWe : Hid (Wv.cells = #[Sv wk, .int .i64 wl, .int .i64 wh]) := by rw [hWv]; exact Lib.hid rfl
  clear hWv hVW; unfold QueryL.cells WindowL.cells at hw1 ⊢; simp only at hw1 HSess HPlain; have hs1 : (w.alloc (.cells #[.int .i64 kind, .int .i64 size, .int .i64 slide, .int .i64 late, .int .i64 agg, .int .i64 kq] 23)).heap.size = w.heap.size + 1 := heap_alloc_size w _
  have hs2 : ((w.alloc (.cells #[.int .i64 kind, .int .i64 size, .int .i64 slide, .int .i64 late, .int .i64 agg, .int .i64 kq] 23)).alloc (.cells #[Sv wk, .int .i64 wl, .int .i64 wh] 47)).heap.size = w.heap.size + 2 := by rw [heap_alloc_size, heap_alloc_size]
  obtain ⟨d0, d1, d2, d3, d4, d5⟩ := H1.out.1.d6; simp only at d0 d1 d2 d3 d4 d5; have HWw : Hid (∀ w', Below w1.heap.size w1 w' → D3 w' wb wk wl wh) := Lib.hid (fun w' h => HWd.out w' (H1.out.2.1.below h)); have HRb : Hid (∀ w', Below w1.heap.size w1 w' → RowW w' rb zeroW) := Lib.hid (fun w' h => H1.out.2.2.1.below h); have HB1 := Lib.hid H1.out.2.2.2.1; clear H1
  by_cases hkind : kind = 3
  · subst hkind; obtain ⟨ws, ts, gv, hwl, htl, hgl, hwr, htr, hWi, hTk, hIx⟩ := HSess.out rfl; have HWi := Lib.hid hWi; have HTk := Lib.hid hTk; have HIx := Lib.hid hIx; have HL : Hid (ws.length = n ∧ gv.length = ng ∧ (∀ x ∈ ws, x.rightB = true) ∧ ∀ x ∈ ts, x.rightB = true) := Lib.hid ⟨hwl, hgl, hwr, htr⟩; obtain ⟨nt, hnt⟩ : ∃ n, n = ts.length := ⟨_, rfl⟩; rw [← hnt] at htl; have HNt := Lib.hid hnt; clear hWi hTk hIx hwl hgl hwr htr HPlain hnt
    go_enter Tryz.func63, Tryz.ntmps63
    go_upto_region 1 with (fail)
    rw [← hw1, ← hrb, ← hwb, ← hqb]; clear hw1 hrb hwb hqb hs1 hs2
    go_upto_region 2 with (fail)
    clear d0 d1 d2 d3 d4 d5; have HG0 : Hid (Below w1.heap.size w1 w1.drew) := Lib.hid (Below.refl _ w1).drew; have ALP : ∀ w', Below w1.heap.size w1 w' → ∃ b, Value.pointer (some ⟨w'.heap.size, 0, none⟩) = .pointer (some ⟨b, 0, none⟩) ∧ w1.heap.size ≤ b ∧ RowW (w'.alloc (.cells zeroW.cells 47)) b zeroW := fun w' h => ⟨_, rfl, h.size, heap_alloc_new w' _⟩
    refine wp_region_skipA (fun i => ([] : List Nat).contains i) (by kernel_rfl) [none, none, none, none, none, none, none, none, some 0, none, some 1, none] [8, 10] (VLs ((Value.slice sa n sc) :: undef :: VW :: undef :: undef :: undef :: VB :: undef :: undef :: undef :: undef :: undef :: ([] : List Value)) (HmL w1.heap.size ws ts ng bec)) (fun _ w' => Below w1.heap.size w1 w') (fun w w' => Below w.heap.size w w') (VLs_le _ _ HmL_le) (by kernel_rfl) (by kernel_rfl) (by kernel_rfl) HG0.out (fun _ => ⟨rfl, rfl, rfl, rfl, rfl, rfl, rfl, rfl, rfl, rfl, rfl, rfl, trivial⟩) (fun _ h => by simp at h) ?_ ?_
    · refine ⟨?_, ?_, ?_, ?_, ?_, ?_, ?_, ?_, ?_, ?_, ?_, ?_, trivial⟩
      · intro _ _ a w' hG hout hpre K hK; have q1 := ev_of ((hout 1 rfl).trans (show _ = .slice sa n sc from rfl)); clear hout hpre; go_step; exact hK _ _ rfl hG (Below.refl _ _)
      · intro _ _ a w' hG hout hpre K hK; obtain ⟨p0, _⟩ := hpre; have q19 := ev_of (show a.eval (.tmp 19) = .slice sa n sc from p0); clear hout p0; go_step; refine (HWi.out w' (HB1.out.trans (hG.mono HB1.out.size))).mono ?_; rintro e w3 ⟨v, rfl, hO, hB⟩; obtain ⟨a', c', hv, hc, hA⟩ := hO.form; exact hK _ _ ⟨a', c', hv, hc, hA⟩ (hG.trans (hB.mono hG.size)) hB
      · intro _ _ a w' hG hout hpre K hK; have q5 := ev_of ((hout 5 rfl).trans (show _ = .pointer (some ⟨wb, 0, none⟩) from rfl)); obtain ⟨e0, e1, e2⟩ := HWw.out w' hG; clear hout hpre; go_step; exact hK _ _ HVW.out.symm hG (Below.refl _ _)
      · intro _ _ a w' hG hout hpre K hK; obtain ⟨p0, p1, _⟩ := hpre; obtain ⟨a1, c1, hv, hc1, hA1⟩ := (show SlW w' (a.eval (.tmp 20)) ws from p0); have q21 := ev_of (show a.eval (.tmp 21) = VW from p1); clear hout p1; rw [HL.out.1] at hv; have q20 := ev_of hv; have HS := Lib.hid (HTk.out w' a1 c1 hA1); clear hA1 hv hc1; go_step; refine HS.out.mono ?_; rintro e w3 ⟨x, u, rfl, h1, h2, hB⟩; obtain ⟨a', c', hx, hc, hA⟩ := h1.form; obtain ⟨a2, c2, hu⟩ := Own.form h2; rw [natsV, List.length_map, HL.out.2.1] at hu; exact hK _ _ ⟨x, u, rfl, ⟨a', c', hx, hc, hA⟩, a2, c2, hu⟩ (hG.trans (hB.mono hG.size)) hB
      · intro _ _ a w' hG hout hpre K hK; obtain ⟨p0, _⟩ := hpre; obtain ⟨x, u, hv, hx, hu⟩ := (show ∃ x u, a.eval (.tmp 22) = .tuple #[x, .agg bec.cells, u] ∧ SlW w' x ts ∧ SlN u ng from p0); have q22 := ev_of hv; clear hout ; clear hv; go_step; exact hK _ _ ⟨x, u, rfl, hx, hu⟩ hG (Below.refl _ _)
      · intro _ _ a w' hG hout hpre K hK; obtain ⟨p0, _⟩ := hpre; obtain ⟨x, u, hv, hx, hu⟩ := (show ∃ x u, a.eval (.tmp 18) = .tuple #[x, .agg bec.cells, u] ∧ SlW w' x ts ∧ SlN u ng from p0); have q18 := ev_of hv; clear hout ; clear hv; go_step; exact hK _ _ hx hG (Below.refl _ _)
      · intro _ _ a w' hG hout hpre K hK; obtain ⟨p0, _⟩ := hpre; obtain ⟨x, u, hv, hx, hu⟩ := (show ∃ x u, a.eval (.tmp 18) = .tuple #[x, .agg bec.cells, u] ∧ SlW w' x ts ∧ SlN u ng from p0); have q18 := ev_of hv; clear hout ; clear hv; go_step; exact hK _ _ hVB.symm hG (Below.refl _ _)
      · intro _ _ a w' hG hout hpre K hK; obtain ⟨p0, _⟩ := hpre; obtain ⟨x, u, hv, hx, hu⟩ := (show ∃ x u, a.eval (.tmp 18) = .tuple #[x, .agg bec.cells, u] ∧ SlW w' x ts ∧ SlN u ng from p0); have q18 := ev_of hv; clear hout ; clear hv; go_step; exact hK _ _ hu hG (Below.refl _ _)
      · intro _ a w' hG hout hpre K hK; clear hout hpre; go_step; exact hK _ _ (ALP w' hG) (hG.trans (((Below.refl _ w').alloc (Nat.le_refl _) _).mono hG.size)) (VLs_keep _ (HmL_keep0 ((Below.refl _ w').alloc (Nat.le_refl _) _)))
      · intro _ _ a w' hG hout hpre K hK; obtain ⟨p0, _⟩ := hpre; obtain ⟨a1, c1, hv, hc1, hA1⟩ := (show SlW w' (a.eval (.tmp 23)) ts from p0); have q23 := ev_of hv; clear hout ; clear hv; go_step; exact hK _ _ ⟨a1, c1, rfl, hc1, hA1⟩ hG (Below.refl _ _)
      · intro _ a w' hG hout hpre K hK; obtain ⟨p0, p1, _⟩ := hpre
        obtain ⟨b, hv, hbB, hrow⟩ := (show ∃ b, a.eval (.tmp 10) = .pointer (some ⟨b, 0, none⟩) ∧ w1.heap.size ≤ b ∧ RowW w' b (if 1 ≤ 1 then zeroW else bec) from p0)
        have r24 := (show a.eval (.tmp 24) = VB from p1); rw [if_pos (Nat.le_refl 1)] at hrow; rw [hVB] at r24; refine wp_storeW (.tmp 10) (.tmp 24) rfl b bec zeroW hv r24 hrow ?_; have hg := grown_setRow w' b bec.cells
        exact hK _ _ rfl (hG.trans ⟨hg.os, hg.tape, hg.output, hg.size, fun k hk => hg.block k (by have := hG.size; omega) (by simp; omega)⟩) (VLs_keep _ (HmL_keep HL.out.2.2.1 HL.out.2.2.2 rfl hv hrow hbB hg (hrow.reset bec)))
      · intro _ _ a w' hG hout hpre K hK; obtain ⟨p0, _⟩ := hpre; obtain ⟨a1, c1, hv⟩ := (show SlN (a.eval (.tmp 25)) ng from p0); have q25 := ev_of hv; clear hout ; clear hv; go_step; exact hK _ _ ⟨a1, c1, rfl⟩ hG (Below.refl _ _)
    · intro vs w2 hG hlen hV
      match vs, hlen, hV with
      | [v0, v1, v2, v3, v4, v5, v6, v7, v8, v9, v10, v11], _, hV =>
        obtain ⟨a9, c9, hv9, hc9, hA9⟩ := (show SlW w2 v9 ts from hV 9 9 v9 rfl rfl); obtain ⟨a11, c11, hv11⟩ := (show SlN v11 ng from hV 11 11 v11 rfl rfl)
        obtain ⟨tb, hvb, htb, hrow⟩ := (show ∃ b, v8 = .pointer (some ⟨b, 0, none⟩) ∧ w1.heap.size ≤ b ∧ RowW w2 b (if 2 ≤ 1 then zeroW else bec) from hV 8 10 v8 rfl rfl)
        rw [if_neg (by decide)] at hrow
        subst hv9 hv11 hvb; clear hV; rw [← HNt.out] at hc9; have H2 : Hid (WinsAt w2 a9 ts ∧ RowW w2 tb bec ∧ Below w1.heap.size w1 w2) := Lib.hid ⟨hA9, hrow, hG⟩; rw [← HNt.out]; clear hA9 hrow hG htb; simp only [putsL, List.tail_cons, List.headD_cons]; simp only [Act.put, List.setIfInBounds_toArray, List.set_cons_succ, List.set_cons_zero]
        have HIx2 : Hid (Calls Tryz.prog 96 #[.slice a9 nt c9, VB] w2 (Below0 w2 (.int .i64 (na : Int)))) := by
          have h := HIx.out w2 a9 c9 H2.out.1; rw [← HNt.out] at h; exact Lib.hid h
        clear HIx HTk HWi; obtain ⟨bk, bl, bh⟩ := bec; have HVB : Hid (VB = .agg #[Sv bk, .int .i64 bl, .int .i64 bh]) := Lib.hid hVB; rw [HVB.out] at HIx2; obtain ⟨f0, f1, f2⟩ := H2.out.2.1.d3; go_wp2_with (fail); refine HIx2.out.mono ?_; rintro e w3 ⟨rfl, hB⟩; have H3 : Hid (RowW w3 tb ⟨bk, bl, bh⟩ ∧ Below w1.heap.size w1 w3) := Lib.hid ⟨H2.out.2.1.below hB, H2.out.2.2.trans (hB.mono H2.out.2.2.size)⟩; clear hB f0 f1 f2; dsimp only; obtain ⟨f0, f1, f2⟩ := H3.out.1.d3
        go_upto_region 4 with (fail)
        refine wp_region_lit ?_
        iterate 18 go_step
        refine wpList_store_row rfl _ _ _ rfl rb #[Sv bk, .int .i64 bl, .int .i64 bh] rfl rfl 47 zeroW.cells (HRb.out w3 H3.out.2) window_size rfl (by exact window_one ⟨bk, bl, bh⟩) ?_
        obtain ⟨w9, hw9⟩ : ∃ W, W = w3.setRow rb #[Sv bk, .int .i64 bl, .int .i64 bh] := ⟨_, rfl⟩
        have H9 : Hid (RowW w9 rb ⟨bk, bl, bh⟩ ∧ P (.returned (.tuple #[.agg #[Sv bk, .int .i64 bl, .int .i64 bh], .int .i64 (na : Int), .int .i64 ((na : Int) + (ng : Int))])) w9) := by
          have hg : w3.grownBy w9 (some rb) := by rw [hw9]; exact grown_setRow _ _ _
          have hB := HB1.out.trans (H3.out.2.mono HB1.out.size); have h := HP.out w9 (hB.trans (below_set hg HBd.out.1 hB.size)); rw [HVB.out] at h
          exact Lib.hid ⟨by rw [hw9]; exact RowW.reset (HRb.out w3 H3.out.2) ⟨bk, bl, bh⟩, h⟩
        rw [← hw9]; clear hw9; have hsm := hsum; go_wp2_with (fail); exact bodyPost_ret (v := .tuple #[.agg #[Sv bk, .int .i64 bl, .int .i64 bh], .int .i64 (na : Int), .int .i64 ((na : Int) + (ng : Int))]) ((results_cell_tmp_tmp (p := 6) (s := 7) (u := 8) (ty := 47) rfl _ _ rb 47 #[Sv bk, .int .i64 bl, .int .i64 bh] (0, 0) _ rfl H9.out.1 Tryz.underlying47 rfl window_size).trans rfl) rfl H9.out.2
  · have hkind' : (kind == 3) = false := by simpa using hkind
    obtain ⟨hbw, hbs⟩ := HPlain.out hkind; have HBs := Lib.hid hbs
    have HVBW : Hid (VB = .agg #[Sv wk, .int .i64 wl, .int .i64 wh]) := by rw [hVB, hbw, HWe.out]; exact Lib.hid rfl
    clear hbw hbs hkind HSess hVB
    go_enter Tryz.func63, Tryz.ntmps63
    go_upto_region 1 with (fail)
    rw [← hw1, ← hrb, ← hwb, ← hqb]; clear hw1 hrb hwb hqb hs1 hs2; obtain ⟨e0, e1, e2⟩ := HWw.out w1 (Below.refl _ _)
    have HC : Hid (Calls Tryz.prog 97 #[.slice sa n sc, .agg #[Sv wk, .int .i64 wl, .int .i64 wh], .func (.func 98) #[] #[]] w1 (fun e w'' => ∃ b : Bool, e = .returned (.tuple #[.int .i64 (na : Int), .bool b]) ∧ ng = (if b = true then 1 else 0) ∧ Below w1.heap.size w1 w'')) := by
      have h := HBs.out w1 HB1.out; rw [HVW.out] at h; exact Lib.hid h
    go_wp2_with (fail); refine HC.out.mono ?_; rintro e w2 ⟨b, rfl, hb, hB⟩; have H2 := Lib.hid hB; clear hB d0 d1 d2 d3 d4 d5 e0 e1 e2; dsimp only; obtain ⟨e0, e1, e2⟩ := HWw.out w2 H2.out
    cases b with
    | true =>
      rw [if_pos rfl] at hb; subst hb
      go_upto_region 7 with (fail)
      refine wp_region_lit ?_
      iterate 12 go_step
      refine wpList_store_row rfl _ _ _ rfl rb #[Sv wk, .int .i64 wl, .int .i64 wh] rfl rfl 47 zeroW.cells (HRb.out w2 H2.out) window_size rfl (by exact window_one ⟨wk, wl, wh⟩) ?_
      obtain ⟨w9, hw9⟩ : ∃ W, W = w2.setRow rb #[Sv wk, .int .i64 wl, .int .i64 wh] := ⟨_, rfl⟩
      have H9 : Hid (RowW w9 rb ⟨wk, wl, wh⟩ ∧ P (.returned (.tuple #[.agg #[Sv wk, .int .i64 wl, .int .i64 wh], .int .i64 (na : Int), .int .i64 ((na : Int) + ((1 : Nat) : Int))])) w9) := by
        have hg : w2.grownBy w9 (some rb) := by rw [hw9]; exact grown_setRow _ _ _
        have hB := HB1.out.trans (H2.out.mono HB1.out.size); have h := HP.out w9 (hB.trans (below_set hg HBd.out.1 hB.size)); rw [HVBW.out] at h
        exact Lib.hid ⟨by rw [hw9]; exact RowW.reset (HRb.out w2 H2.out) ⟨wk, wl, wh⟩, h⟩
      rw [← hw9]; clear hw9; have hsm := hsum; go_wp2_with (fail); exact bodyPost_ret (v := .tuple #[.agg #[Sv wk, .int .i64 wl, .int .i64 wh], .int .i64 (na : Int), .int .i64 ((na : Int) + ((1 : Nat) : Int))]) ((results_cell_tmp_tmp (p := 6) (s := 7) (u := 8) (ty := 47) rfl _ _ rb 47 #[Sv wk, .int .i64 wl, .int .i64 wh] (0, 0) _ rfl H9.out.1 Tryz.underlying47 rfl window_size).trans rfl) rfl H9.out.2
    | false =>
      rw [if_neg (by simp)] at hb
      subst hb
      go_upto_region 8 with (fail)
      refine wp_region_lit ?_
      iterate 9 go_step
      refine wpList_store_row rfl _ _ _ rfl rb #[Sv wk, .int .i64 wl, .int .i64 wh] rfl rfl 47 zeroW.cells (HRb.out w2 H2.out) window_size rfl (by exact window_one ⟨wk, wl, wh⟩) ?_
      obtain ⟨w9, hw9⟩ : ∃ W, W = w2.setRow rb #[Sv wk, .int .i64 wl, .int .i64 wh] := ⟨_, rfl⟩
      have H9 : Hid (RowW w9 rb ⟨wk, wl, wh⟩ ∧ P (.returned (.tuple #[.agg #[Sv wk, .int .i64 wl, .int .i64 wh], .int .i64 (na : Int), .int .i64 ((na : Int) + ((0 : Nat) : Int))])) w9) := by
        have hg : w2.grownBy w9 (some rb) := by rw [hw9]; exact grown_setRow _ _ _
        have hB := HB1.out.trans (H2.out.mono HB1.out.size); have h := HP.out w9 (hB.trans (below_set hg HBd.out.1 hB.size)); rw [HVBW.out] at h
        exact Lib.hid ⟨by rw [hw9]; exact RowW.reset (HRb.out w2 H2.out) ⟨wk, wl, wh⟩, h⟩
      rw [← hw9]; clear hw9; have hsm := hsum; go_wp2_with (fail); exact bodyPost_ret (v := .tuple #[.agg #[Sv wk, .int .i64 wl, .int .i64 wh], .int .i64 (na : Int), .int .i64 ((na : Int) + ((0 : Nat) : Int))]) ((results_cell_tmp_tmp (p := 6) (s := 7) (u := 8) (ty := 47) rfl _ _ rb 47 #[Sv wk, .int .i64 wl, .int .i64 wh] (0, 0) _ rfl H9.out.1 Tryz.underlying47 rfl window_size).trans rfl) rfl H9.out.2
end Go.Proofs.YtjeeghafachebaaGreat
