/-
  Part 45 of 56 of what the proof leans on.
-/
import Derived.Test.YtjeeghafachebaaGreatK38
import Derived.Test.YtjeeghafachebaaGreatK40
import Derived.Test.YtjeeghafachebaaGreatK42
import Derived.Test.YtjeeghafachebaaGreatK43
import Derived.Test.YtjeeghafachebaaGreatK44
namespace Go.Proofs.YtjeeghafachebaaGreat
open Go Go.RowKit
def RowX (w : World) (b : Nat) (x : ItemL) : Prop := w.heap[b]? = some (.cells x.cells 42 (0, 0))
theorem RowX.lt {w : World} {b : Nat} {x : ItemL} (h : RowX w b x) : b < w.heap.size := (Array.getElem?_eq_some_iff.1 h).1
theorem RowX.below {w w' : World} {b : Nat} {x : ItemL} (h : RowX w b x) (hB : Below w.heap.size w w') : RowX w' b x := (hB.block b h.lt).trans h
def DX (w : World) (b : Nat) (k : Int) (key : List (BitVec 8)) (t v : Int) : Prop := w.cell? ⟨b, 0, none⟩ = some (.int .i64 k) ∧ w.cell? ⟨b, 1, none⟩ = some (Sv key) ∧ w.cell? ⟨b, 2, none⟩ = some (.int .i64 t) ∧ w.cell? ⟨b, 3, none⟩ = some (.int .i64 v)
theorem RowX.dx {w : World} {b : Nat} {x : ItemL} (h : RowX w b x) : DX w b x.kind x.key x.time x.value := by
  refine ⟨?_, ?_, ?_, ?_⟩ <;> (rw [cell_of_row _ _ _ _ _ _ h]; rfl)
theorem grown_row {w w' : World} {row : Option Nat} (hg : w.grownBy w' row) {b : Nat} {o : Obj} (h : w.heap[b]? = some o) (hne : some b ≠ row) : w'.heap[b]? = some o := (hg.block b (Array.getElem?_eq_some_iff.1 h).1 hne).trans h
theorem IntsAt.apart {w : World} {tv : Value} {l : List Int} {a : Addr} {n c b : Nat} {cs : Array Value} {T : TypeId} {fr : Nat × Nat} (h : IntsAt w tv l) (e : tv = .slice (some a) n c) (hne : l ≠ []) (hb : w.heap[b]? = some (.cells cs T fr)) (hT : T ≠ 3) : a.block ≠ b := by
  obtain ⟨a', c', e', _, h'⟩ := h
  rcases h' with ⟨_, h'⟩ | ⟨b', o, ha, ht, _⟩
  · exact absurd h' hne
  · rw [e'] at e
    cases e
    cases ha
    rcases ht with ht | ⟨cur, ht⟩
    · exact absurd ht hne
    · intro e2
      have e3 : b' = b := e2
      rw [e3, hb] at ht
      simp only [Option.some.injEq, Obj.cells.injEq] at ht
      exact hT ht.2.1
theorem GoodP.store {w w' : World} {x y : PaneV} {b : Nat} (h : GoodP w x) (hb : RowP w b y) (hg : w.grownBy w' (some b)) : GoodP w' x :=
  ⟨h.1.grown hg (fun _ _ _ e hne => h.1.apart e hne hb (by decide)), h.2⟩
theorem rows_apartWP {w : World} {B B' : Nat} {v u : Value} {l : List WindowL} {m : List PaneV} (h : OwnW w B v l) (h' : OwnP w B' u m) : v.ownBlock = none ∨ v.ownBlock ≠ u.ownBlock := by
  rcases h.2 with ⟨k1, _⟩ | ⟨a, c, cur, k1, _, k2, _⟩
  · exact .inl (by rw [k1]; rfl)
  · right
    rcases h'.2 with ⟨j1, _⟩ | ⟨a', c', cur', j1, _, j2, _⟩
    · rw [k1, j1]
      simp [Value.ownBlock]
    · rw [k1, j1]
      intro e
      simp only [Value.ownBlock, Option.some.injEq] at e
      rw [e, j2] at k2
      simp only [Option.some.injEq, Obj.cells.injEq] at k2
      exact absurd k2.2.1 (by decide)
theorem rows_apartWO {w : World} {B B' : Nat} {v u : Value} {l : List WindowL} {m : List OutV} (h : OwnW w B v l) (h' : OwnO w B' u m) : v.ownBlock = none ∨ v.ownBlock ≠ u.ownBlock := by
  rcases h.2 with ⟨k1, _⟩ | ⟨a, c, cur, k1, _, k2, _⟩
  · exact .inl (by rw [k1]; rfl)
  · right
    rcases h'.2 with ⟨j1, _⟩ | ⟨a', c', cur', j1, _, j2, _⟩
    · rw [k1, j1]
      simp [Value.ownBlock]
    · rw [k1, j1]
      intro e
      simp only [Value.ownBlock, Option.some.injEq] at e
      rw [e, j2] at k2
      simp only [Option.some.injEq, Obj.cells.injEq] at k2
      exact absurd k2.2.1 (by decide)
def CmI (w : World) (qb sb xb rb B : Nat) (q : QueryL) (m : Int) (pv : Value) (x : ItemL) (wv : Value) (ws : List WindowL) (nv : Value) (nl : List PaneV) (ov : Value) (ol : List OutV) (wr : World) : Prop :=
  (RowQ wr qb q ∧ RowS wr sb m pv ∧ RowX wr xb x ∧ RowS wr rb 0 nilV) ∧ OwnW wr B wv ws ∧ PanesOwn wr B nv nl ∧ OutsOwn wr B ov ol ∧ Below w.heap.size w wr ∧
    (∀ z ∈ ol, ∀ a n c, z.tv = .slice (some a) n c → z.o.v ≠ [] → nv.ownBlock ≠ some a.block) ∧ ∀ z ∈ nl, ∀ a n c, z.tv = .slice (some a) n c → z.p.a.top ≠ [] → ov.ownBlock ≠ some a.block
theorem CmI.below {w : World} {qb sb xb rb B : Nat} {q : QueryL} {m : Int} {pv : Value} {x : ItemL} {wv : Value} {ws : List WindowL} {nv : Value} {nl : List PaneV} {ov : Value} {ol : List OutV} {wr wz : World}
    (h : CmI w qb sb xb rb B q m pv x wv ws nv nl ov ol wr) (hB : Below wr.heap.size wr wz) : CmI w qb sb xb rb B q m pv x wv ws nv nl ov ol wz := by
  obtain ⟨⟨h1, h2, h3, h4⟩, h5, h6, h7, h8, h9⟩ := h
  exact ⟨⟨h1.below hB, h2.below hB, h3.below hB, h4.below hB⟩, h5.far hB, h6.far hB, h7.far hB, h8.trans (hB.mono h8.size), h9⟩
theorem CmI.off {w : World} {qb sb xb rb B : Nat} {q : QueryL} {m : Int} {pv : Value} {x : ItemL} {wv : Value} {ws : List WindowL} {nv : Value} {nl : List PaneV} {ov : Value} {ol : List OutV} {wr : World}
    (h : CmI w qb sb xb rb B q m pv x wv ws nv nl ov ol wr) {k : Nat} (hk : wr.heap.size ≤ k) : wv.ownBlock ≠ some k ∧ nv.ownBlock ≠ some k ∧ ov.ownBlock ≠ some k :=
  ⟨fun e => by have := (OwnW.lt h.2.1 e).2; omega, fun e => by have := (h.2.2.1.1.lt e).2; omega, fun e => by have := (h.2.2.2.1.1.lt e).2; omega⟩
theorem CmI.repl {w : World} {qb sb xb rb B : Nat} {q : QueryL} {m : Int} {pv : Value} {x : ItemL} {wv : Value} {ws : List WindowL} {nv : Value} {nl : List PaneV} {ov : Value} {ol : List OutV} {wr w' : World}
    (h : CmI w qb sb xb rb B q m pv x wv ws nv nl ov ol wr) (hb : w.heap.size ≤ B ∧ qb < B ∧ sb < B ∧ xb < B ∧ rb < B) {y : PaneV} {nv' : Value} {nl' : List PaneV} (hsub : ∀ z ∈ nl', z ∈ nl ∨ z = y) (hy : GoodP wr y)
    (hy1 : ∀ a n c, y.tv = .slice (some a) n c → y.p.a.top ≠ [] → nv.ownBlock ≠ some a.block ∧ ov.ownBlock ≠ some a.block) (ho : OwnP w' B nv' nl') (hg : wr.grownBy w' nv.ownBlock) (hv : nv'.ownBlock = nv.ownBlock ∨ nv'.ownBlock = some wr.heap.size) :
    CmI w qb sb xb rb B q m pv x wv ws nv' nl' ov ol w' := by
  obtain ⟨⟨j1, j2, j3, j4⟩, jw, j5, j6, j7, j8, j9⟩ := h
  obtain ⟨b0, b1, b2, b3, b4⟩ := hb
  have hne : ∀ b, b < B → some b ≠ nv.ownBlock := fun b hb e => by have := j5.1.lt e.symm; omega
  have hgood : ∀ z ∈ nl', GoodP wr z ∧ ∀ a n c, z.tv = .slice (some a) n c → z.p.a.top ≠ [] → nv.ownBlock ≠ some a.block ∧ ov.ownBlock ≠ some a.block := fun z hz => by
    rcases hsub z hz with hz | rfl
    · exact ⟨(j5.2 z hz).1, fun a n c e hn => ⟨(j5.2 z hz).2 a n c e hn, j9 z hz a n c e hn⟩⟩
    · exact ⟨hy, hy1⟩
  refine ⟨⟨grown_row hg j1 (hne qb b1), grown_row hg j2 (hne sb b2), grown_row hg j3 (hne xb b3), grown_row hg j4 (hne rb b4)⟩, jw.kept hg (rows_apartWP jw j5.1), ⟨ho, fun z hz => ⟨⟨IntsAt.grownR (hgood z hz).1.1 hg (fun a n c e hn => ((hgood z hz).2 a n c e hn).1), (hgood z hz).1.2⟩, fun a n c e hn he => ?_⟩⟩,
    j6.keep hg (rows_apartOP j5.1 j6.1) (fun z hz a n c e hn => j8 z hz a n c e hn), j7.trans ⟨hg.os, hg.tape, hg.output, hg.size, fun k hk => hg.block k (by have := j7.size; omega) (hne k (by omega))⟩, fun z hz a n c e hn he => ?_, fun z hz a n c e hn => ((hgood z hz).2 a n c e hn).2⟩
  · rcases hv with hv | hv
    · rw [hv] at he
      exact ((hgood z hz).2 a n c e hn).1 he
    · rw [hv] at he
      have := IntsAt.lt (hgood z hz).1.1 e hn
      have he' := Option.some.inj he
      omega
  · rcases hv with hv | hv
    · rw [hv] at he
      exact j8 z hz a n c e hn he
    · rw [hv] at he
      have := IntsAt.lt (j6.2 z hz).1 e hn
      have he' := Option.some.inj he
      omega
theorem CmI.out {w : World} {qb sb xb rb B : Nat} {q : QueryL} {m : Int} {pv : Value} {x : ItemL} {wv : Value} {ws : List WindowL} {nv : Value} {nl : List PaneV} {ov : Value} {ol : List OutV} {wr w' : World}
    (h : CmI w qb sb xb rb B q m pv x wv ws nv nl ov ol wr) (hb : w.heap.size ≤ B ∧ qb < B ∧ sb < B ∧ xb < B ∧ rb < B) {y : OutV} {ov' : Value} (hy : GoodO wr y)
    (hy1 : ∀ a n c, y.tv = .slice (some a) n c → y.o.v ≠ [] → nv.ownBlock ≠ some a.block ∧ ov.ownBlock ≠ some a.block) (ho : OwnO w' B ov' (ol ++ [y])) (hg : wr.grownBy w' ov.ownBlock) (hv : ov'.ownBlock = ov.ownBlock ∨ ov'.ownBlock = some wr.heap.size) :
    CmI w qb sb xb rb B q m pv x wv ws nv nl ov' (ol ++ [y]) w' := by
  obtain ⟨⟨j1, j2, j3, j4⟩, jw, j5, j6, j7, j8, j9⟩ := h
  obtain ⟨b0, b1, b2, b3, b4⟩ := hb
  have hne : ∀ b, b < B → some b ≠ ov.ownBlock := fun b hb e => by have := j6.1.lt e.symm; omega
  refine ⟨⟨grown_row hg j1 (hne qb b1), grown_row hg j2 (hne sb b2), grown_row hg j3 (hne xb b3), grown_row hg j4 (hne rb b4)⟩, jw.kept hg (rows_apartWO jw j6.1), j5.keep hg (rows_apartPO j5.1 j6.1) (fun z hz a n c e hn => j9 z hz a n c e hn),
    j6.push hy (fun a n c e hn => (hy1 a n c e hn).2) ho hg hv, j7.trans ⟨hg.os, hg.tape, hg.output, hg.size, fun k hk => hg.block k (by have := j7.size; omega) (hne k (by omega))⟩, fun z hz a n c e hn => ?_, fun z hz a n c e hn he => ?_⟩
  · rcases List.mem_append.1 hz with hz | hz
    · exact j8 z hz a n c e hn
    · rw [List.mem_singleton.1 hz] at e hn
      exact (hy1 a n c e hn).1
  · rcases hv with hv | hv
    · rw [hv] at he
      exact j9 z hz a n c e hn he
    · rw [hv] at he
      have := IntsAt.lt (j5.2 z hz).1.1 e hn
      have he' := Option.some.inj he
      omega
theorem CmI.set {w : World} {qb sb xb rb B : Nat} {q : QueryL} {m : Int} {pv : Value} {x : ItemL} {wv : Value} {ws : List WindowL} {nv : Value} {nl : List PaneV} {ov : Value} {ol : List OutV} {wr w' : World}
    (h : CmI w qb sb xb rb B q m pv x wv ws nv nl ov ol wr) (hb : w.heap.size ≤ B ∧ qb < B ∧ sb < B ∧ xb < B ∧ rb < B) {k : Nat} {y : PaneV} (hk : B ≤ k) (hrow : RowP wr k y) (hoff : wv.ownBlock ≠ some k ∧ nv.ownBlock ≠ some k ∧ ov.ownBlock ≠ some k) (hg : wr.grownBy w' (some k)) :
    CmI w qb sb xb rb B q m pv x wv ws nv nl ov ol w' := by
  obtain ⟨⟨j1, j2, j3, j4⟩, jw, j5, j6, j7, j8, j9⟩ := h
  obtain ⟨b0, b1, b2, b3, b4⟩ := hb
  refine ⟨⟨grown_row hg j1 (by simp; omega), grown_row hg j2 (by simp; omega), grown_row hg j3 (by simp; omega), grown_row hg j4 (by simp; omega)⟩, jw.kept hg (.inr hoff.1), j5.keep hg (.inr hoff.2.1) (fun z hz a n c e hn he => ?_), j6.keep hg (.inr hoff.2.2) (fun z hz a n c e hn he => ?_), j7.trans (below_set hg (by omega) j7.size), j8, j9⟩
  · exact IntsAt.apart (j5.2 z hz).1.1 e hn hrow (by decide) (Option.some.inj he).symm
  · exact IntsAt.apart (j6.2 z hz).1 e hn hrow (by decide) (Option.some.inj he).symm
def NewB (B : Nat) (tv : Value) : Prop := ∀ a n c, tv = .slice (some a) n c → B ≤ a.block
def CmY (B : Nat) (gp : PaneL) (w : World) (Y : PaneV) : Prop := Y.p = gp ∧ GoodP w Y ∧ NewB B Y.tv
theorem CmY.below {B : Nat} {gp : PaneL} {w w' : World} {Y : PaneV} (h : CmY B gp w Y) (hB : Below w.heap.size w w') : CmY B gp w' Y := ⟨h.1, h.2.1.below hB, h.2.2⟩
theorem CmY.store {B : Nat} {gp : PaneL} {w w' : World} {Y X : PaneV} {b : Nat} (h : CmY B gp w Y) (hb : RowP w b X) (hg : w.grownBy w' (some b)) : CmY B gp w' Y := ⟨h.1, h.2.1.store hb hg, h.2.2⟩
def CmL (B : Nat) (gp : PaneL) (er : Int) : List (Nat × (Nat → World → Value → Prop)) :=
  [(8, fun _ w v => ∃ Y : PaneV, v = .tuple #[.agg Y.cells, .int .i64 er] ∧ CmY B gp w Y), (9, fun _ w v => ∃ Y : PaneV, v = .tuple #[.agg Y.cells, .int .i64 er] ∧ CmY B gp w Y), (10, fun _ w v => ∃ Y : PaneV, v = .agg Y.cells ∧ CmY B gp w Y),
    (12, fun k w v => ∃ b, v = .pointer (some ⟨b, 0, none⟩) ∧ B ≤ b ∧ if k ≤ 1 then RowP w b zeroPV else ∃ Y : PaneV, RowP w b Y ∧ CmY B gp w Y)]
theorem CmL_le {B : Nat} {gp : PaneL} {er : Int} : ∀ p ∈ CmL B gp er, ∀ k w w' v, Below w.heap.size w w' → p.2 k w v → p.2 k w' v := by
  intro p hp k w w' v hB h
  simp only [CmL, List.mem_cons, List.not_mem_nil, or_false] at hp
  rcases hp with rfl | rfl | rfl | rfl
  · obtain ⟨Y, h1, h2⟩ := h
    exact ⟨Y, h1, h2.below hB⟩
  · obtain ⟨Y, h1, h2⟩ := h
    exact ⟨Y, h1, h2.below hB⟩
  · obtain ⟨Y, h1, h2⟩ := h
    exact ⟨Y, h1, h2.below hB⟩
  · obtain ⟨b, h1, h2, h3⟩ := h
    refine ⟨b, h1, h2, ?_⟩
    split at h3
    · rename_i hk
      rw [if_pos hk]
      exact h3.below hB
    · rename_i hk
      rw [if_neg hk]
      obtain ⟨Y, h4, h5⟩ := h3
      exact ⟨Y, h4.below hB, h5.below hB⟩
theorem CmL_keep0 {B : Nat} {gp : PaneL} {er : Int} {w w' : World} {l : List Oper} {a : Act} (hB : Below w.heap.size w w') : ∀ p ∈ CmL B gp er, 12 = p.1 ∨ ∀ d, dstAt l p.1 = some d → p.2 0 w (a.eval (.tmp d)) → p.2 1 w' (a.eval (.tmp d)) := by
  intro p hp
  simp only [CmL, List.mem_cons, List.not_mem_nil, or_false] at hp
  rcases hp with rfl | rfl | rfl | rfl
  · exact .inr fun d _ ⟨Y, h1, h2⟩ => ⟨Y, h1, h2.below hB⟩
  · exact .inr fun d _ ⟨Y, h1, h2⟩ => ⟨Y, h1, h2.below hB⟩
  · exact .inr fun d _ ⟨Y, h1, h2⟩ => ⟨Y, h1, h2.below hB⟩
  · exact .inl rfl
theorem CmL_keep {B : Nat} {gp : PaneL} {er : Int} {w w' : World} {b : Nat} {Y : PaneV} {l : List Oper} {a : Act} (hl : dstAt l 12 = some 17) (ha : a.eval (.tmp 17) = .pointer (some ⟨b, 0, none⟩)) (hb : RowP w b zeroPV) (hBb : B ≤ b) (hg : w.grownBy w' (some b)) (hr : RowP w' b Y) (hY : CmY B gp w' Y) :
    ∀ p ∈ CmL B gp er, 13 = p.1 ∨ ∀ d, dstAt l p.1 = some d → p.2 1 w (a.eval (.tmp d)) → p.2 2 w' (a.eval (.tmp d)) := by
  intro p hp
  simp only [CmL, List.mem_cons, List.not_mem_nil, or_false] at hp
  rcases hp with rfl | rfl | rfl | rfl
  · exact .inr fun d _ ⟨Y, h1, h2⟩ => ⟨Y, h1, h2.store hb hg⟩
  · exact .inr fun d _ ⟨Y, h1, h2⟩ => ⟨Y, h1, h2.store hb hg⟩
  · exact .inr fun d _ ⟨Y, h1, h2⟩ => ⟨Y, h1, h2.store hb hg⟩
  · refine .inr fun d hd _ => ?_
    rw [hl] at hd
    cases hd
    exact ⟨b, ha, hBb, Y, hr, hY⟩
theorem box_come (w : World) (q : QueryL) (m : Int) (pv : Value) (x : ItemL) :
    let W := (((w.alloc (.cells q.cells 23)).alloc (.cells #[.int .i64 m, pv] 29)).alloc (.cells x.cells 42)).alloc (.cells #[.int .i64 0, nilV] 29)
    RowQ W w.heap.size q ∧ RowS W (w.heap.size + 1) m pv ∧ RowX W (w.heap.size + 2) x ∧ RowS W (w.heap.size + 3) 0 nilV ∧ Below w.heap.size w W ∧ W.heap.size = w.heap.size + 4 := by
  intro W
  obtain ⟨k1, k2, k3⟩ := box_qs w q m pv
  obtain ⟨w2, hw2⟩ : ∃ W, W = (w.alloc (.cells q.cells 23)).alloc (.cells #[.int .i64 m, pv] 29) := ⟨_, rfl⟩
  have hs : w2.heap.size = w.heap.size + 2 := by rw [hw2, heap_alloc_size, heap_alloc_size]
  have hW : W = (w2.alloc (.cells x.cells 42)).alloc (.cells #[.int .i64 0, nilV] 29) := by rw [hw2]
  rw [← hw2] at k1 k2 k3
  have k4 := (Below.refl _ w2).alloc (Nat.le_refl _) (.cells x.cells 42)
  have k5 := (Below.refl _ (w2.alloc (.cells x.cells 42))).alloc (Nat.le_refl _) (.cells #[.int .i64 0, nilV] 29)
  have hs3 : (w2.alloc (.cells x.cells 42)).heap.size = w.heap.size + 3 := by rw [heap_alloc_size, hs]
  have k45 := k4.trans (k5.mono k4.size)
  rw [hW]
  refine ⟨k1.below k45, k2.below k45, ?_, ?_, k3.trans (k45.mono k3.size), by rw [heap_alloc_size, hs3]⟩
  · refine RowX.below ?_ k5
    rw [← hs]
    exact heap_alloc_new _ _
  · rw [← hs3]
    exact heap_alloc_new _ _
end Go.Proofs.YtjeeghafachebaaGreat
