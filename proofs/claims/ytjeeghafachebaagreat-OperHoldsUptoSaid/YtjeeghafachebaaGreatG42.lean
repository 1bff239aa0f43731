/-
  Part 42 of 53 of what the proof leans on.
-/
import Derived.Test.YtjeeghafachebaaGreatG35
import Derived.Test.YtjeeghafachebaaGreatG36
import Derived.Test.YtjeeghafachebaaGreatG39
import Derived.Test.YtjeeghafachebaaGreatG40
import Derived.Test.YtjeeghafachebaaGreatG41
import Derived.Test.YtjeeghafachebaaGreatG34
import Derived.Test.YtjeeghafachebaaGreatG38
import Derived.Test.YtjeeghafachebaaGreatG3
namespace Go.Proofs.YtjeeghafachebaaGreat
open Go Go.RowKit
def RowX (w : World) (b : Nat) (x : ItemL) : Prop := w.heap[b]? = some (.cells x.cells 42 (0, 0))
theorem RowX.lt {w : World} {b : Nat} {x : ItemL} (h : RowX w b x) : b < w.heap.size := (Array.getElem?_eq_some_iff.1 h).1
theorem RowX.below {w w' : World} {b : Nat} {x : ItemL} (h : RowX w b x) (hB : Below w.heap.size w w') : RowX w' b x := (hB.block b h.lt).trans h
def DX (w : World) (b : Nat) (k : Int) (key : List (BitVec 8)) (t v : Int) : Prop := w.cell? ⟨b, 0, none⟩ = some (.int .i64 k) ∧ w.cell? ⟨b, 1, none⟩ = some (Sv key) ∧ w.cell? ⟨b, 2, none⟩ = some (.int .i64 t) ∧ w.cell? ⟨b, 3, none⟩ = some (.int .i64 v)
theorem RowX.dx {w : World} {b : Nat} {x : ItemL} (h : RowX w b x) : DX w b x.kind x.key x.time x.value := by
  refine ⟨?_, ?_, ?_, ?_⟩ <;> (rw [cell_of_row _ _ _ _ _ _ h]; rfl)
theorem grown_row {w w' : World} {row : Option Nat} (hg : w.grownBy w' row) {b : Nat} {o : Obj} (h : w.heap[b]? = some o) (hne : some b ≠ row) : w'.heap[b]? = some o := (hg.block b (Array.getElem?_eq_some_iff.1 h).1 hne).trans h
theorem IntsAt.apart {w : World} {tv : Value} {l : List Int} {a : Addr} {n c b : Nat} {cs : Array Value} {T : TypeId} {fr : Nat × Nat} (h : IntsAt w tv l) (e : tv = .slice (some a) n c) (hne : l ≠ []) (hb : w.heap[b]? = some (.cells cs T fr)) (hT : T ≠ 3) : a.block ≠ b := by
  obtain ⟨a', c', e', _, h'⟩ := h
  rcases h' with ⟨_, h'⟩ | ⟨b', o, ha, ht, _⟩
  · exact absurd h' hne
  · rw [e'] at e
    cases e
    cases ha
    rcases ht with ht | ⟨cur, ht⟩
    · exact absurd ht hne
    · intro e2; have e3 : b' = b := e2; rw [e3, hb] at ht; simp only [Option.some.injEq, Obj.cells.injEq] at ht; exact hT ht.2.1
theorem GoodP.store {w w' : World} {x y : PaneV} {b : Nat} (h : GoodP w x) (hb : RowP w b y) (hg : w.grownBy w' (some b)) : GoodP w' x :=
  ⟨h.1.grown hg (fun _ _ _ e hne => h.1.apart e hne hb (by decide)), h.2⟩
theorem rows_apartWP {w : World} {B B' : Nat} {v u : Value} {l : List WindowL} {m : List PaneV} (h : OwnW w B v l) (h' : OwnP w B' u m) : v.ownBlock = none ∨ v.ownBlock ≠ u.ownBlock := by
  rcases h.2 with ⟨k1, _⟩ | ⟨a, c, cur, k1, _, k2, _⟩
  · exact .inl (by rw [k1]; rfl)
  · right
    rcases h'.2 with ⟨j1, _⟩ | ⟨a', c', cur', j1, _, j2, _⟩
    · rw [k1, j1]; simp [Value.ownBlock]
    · rw [k1, j1]; intro e; simp only [Value.ownBlock, Option.some.injEq] at e; rw [e, j2] at k2; simp only [Option.some.injEq, Obj.cells.injEq] at k2
      exact absurd k2.2.1 (by decide)
theorem rows_apartWO {w : World} {B B' : Nat} {v u : Value} {l : List WindowL} {m : List OutV} (h : OwnW w B v l) (h' : OwnO w B' u m) : v.ownBlock = none ∨ v.ownBlock ≠ u.ownBlock := by
  rcases h.2 with ⟨k1, _⟩ | ⟨a, c, cur, k1, _, k2, _⟩
  · exact .inl (by rw [k1]; rfl)
  · right
    rcases h'.2 with ⟨j1, _⟩ | ⟨a', c', cur', j1, _, j2, _⟩
    · rw [k1, j1]; simp [Value.ownBlock]
    · rw [k1, j1]; intro e; simp only [Value.ownBlock, Option.some.injEq] at e; rw [e, j2] at k2; simp only [Option.some.injEq, Obj.cells.injEq] at k2
      exact absurd k2.2.1 (by decide)
def CmI (w : World) (qb sb xb rb B : Nat) (q : QueryL) (m : Int) (pv : Value) (x : ItemL) (wv : Value) (ws : List WindowL) (nv : Value) (nl : List PaneV) (ov : Value) (ol : List OutV) (wr : World) : Prop :=
  (RowQ wr qb q ∧ RowS wr sb m pv ∧ RowX wr xb x ∧ RowS wr rb 0 nilV) ∧ OwnW wr B wv ws ∧ PanesOwn wr B nv nl ∧ OutsOwn wr B ov ol ∧ Below w.heap.size w wr ∧
    (∀ z ∈ ol, ∀ a n c, z.tv = .slice (some a) n c → z.o.v ≠ [] → nv.ownBlock ≠ some a.block) ∧ ∀ z ∈ nl, ∀ a n c, z.tv = .slice (some a) n c → z.p.a.top ≠ [] → ov.ownBlock ≠ some a.block
theorem CmI.below {w : World} {qb sb xb rb B : Nat} {q : QueryL} {m : Int} {pv : Value} {x : ItemL} {wv : Value} {ws : List WindowL} {nv : Value} {nl : List PaneV} {ov : Value} {ol : List OutV} {wr wz : World}
    (h : CmI w qb sb xb rb B q m pv x wv ws nv nl ov ol wr) (hB : Below wr.heap.size wr wz) : CmI w qb sb xb rb B q m pv x wv ws nv nl ov ol wz := by
  obtain ⟨⟨h1, h2, h3, h4⟩, h5, h6, h7, h8, h9⟩ := h; exact ⟨⟨h1.below hB, h2.below hB, h3.below hB, h4.below hB⟩, h5.far hB, h6.far hB, h7.far hB, h8.trans (hB.mono h8.size), h9⟩
theorem CmI.off {w : World} {qb sb xb rb B : Nat} {q : QueryL} {m : Int} {pv : Value} {x : ItemL} {wv : Value} {ws : List WindowL} {nv : Value} {nl : List PaneV} {ov : Value} {ol : List OutV} {wr : World}
    (h : CmI w qb sb xb rb B q m pv x wv ws nv nl ov ol wr) {k : Nat} (hk : wr.heap.size ≤ k) : wv.ownBlock ≠ some k ∧ nv.ownBlock ≠ some k ∧ ov.ownBlock ≠ some k :=
  ⟨fun e => by have := (OwnW.lt h.2.1 e).2; omega, fun e => by have := (h.2.2.1.1.lt e).2; omega, fun e => by have := (h.2.2.2.1.1.lt e).2; omega⟩
theorem CmI.repl {w : World} {qb sb xb rb B : Nat} {q : QueryL} {m : Int} {pv : Value} {x : ItemL} {wv : Value} {ws : List WindowL} {nv : Value} {nl : List PaneV} {ov : Value} {ol : List OutV} {wr w' : World}
    (h : CmI w qb sb xb rb B q m pv x wv ws nv nl ov ol wr) (hb : w.heap.size ≤ B ∧ qb < B ∧ sb < B ∧ xb < B ∧ rb < B) {y : PaneV} {nv' : Value} {nl' : List PaneV} (hsub : ∀ z ∈ nl', z ∈ nl ∨ z = y) (hy : GoodP wr y)
    (hy1 : ∀ a n c, y.tv = .slice (some a) n c → y.p.a.top ≠ [] → nv.ownBlock ≠ some a.block ∧ ov.ownBlock ≠ some a.block) (ho : OwnP w' B nv' nl') (hg : wr.grownBy w' nv.ownBlock) (hv : nv'.ownBlock = nv.ownBlock ∨ nv'.ownBlock = some wr.heap.size) :
    CmI w qb sb xb rb B q m pv x wv ws nv' nl' ov ol w' := by
  obtain ⟨⟨j1, j2, j3, j4⟩, jw, j5, j6, j7, j8, j9⟩ := h; obtain ⟨b0, b1, b2, b3, b4⟩ := hb
  have hne : ∀ b, b < B → some b ≠ nv.ownBlock := fun b hb e => by have := j5.1.lt e.symm; omega
  have hgood : ∀ z ∈ nl', GoodP wr z ∧ ∀ a n c, z.tv = .slice (some a) n c → z.p.a.top ≠ [] → nv.ownBlock ≠ some a.block ∧ ov.ownBlock ≠ some a.block := fun z hz => by
    rcases hsub z hz with hz | rfl
    · exact ⟨(j5.2 z hz).1, fun a n c e hn => ⟨(j5.2 z hz).2 a n c e hn, j9 z hz a n c e hn⟩⟩
    · exact ⟨hy, hy1⟩
  refine ⟨⟨grown_row hg j1 (hne qb b1), grown_row hg j2 (hne sb b2), grown_row hg j3 (hne xb b3), grown_row hg j4 (hne rb b4)⟩, jw.kept hg (rows_apartWP jw j5.1), ⟨ho, fun z hz => ⟨⟨IntsAt.grownR (hgood z hz).1.1 hg (fun a n c e hn => ((hgood z hz).2 a n c e hn).1), (hgood z hz).1.2⟩, fun a n c e hn he => ?_⟩⟩,
    j6.keep hg (rows_apartOP j5.1 j6.1) (fun z hz a n c e hn => j8 z hz a n c e hn), j7.trans ⟨hg.os, hg.tape, hg.output, hg.size, fun k hk => hg.block k (by have := j7.size; omega) (hne k (by omega))⟩, fun z hz a n c e hn he => ?_, fun z hz a n c e hn => ((hgood z hz).2 a n c e hn).2⟩
  · rcases hv with hv | hv
    · rw [hv] at he; exact ((hgood z hz).2 a n c e hn).1 he
    · rw [hv] at he; have := IntsAt.lt (hgood z hz).1.1 e hn; have he' := Option.some.inj he; omega
  · rcases hv with hv | hv
    · rw [hv] at he; exact j8 z hz a n c e hn he
    · rw [hv] at he; have := IntsAt.lt (j6.2 z hz).1 e hn; have he' := Option.some.inj he; omega
theorem CmI.out {w : World} {qb sb xb rb B : Nat} {q : QueryL} {m : Int} {pv : Value} {x : ItemL} {wv : Value} {ws : List WindowL} {nv : Value} {nl : List PaneV} {ov : Value} {ol : List OutV} {wr w' : World}
    (h : CmI w qb sb xb rb B q m pv x wv ws nv nl ov ol wr) (hb : w.heap.size ≤ B ∧ qb < B ∧ sb < B ∧ xb < B ∧ rb < B) {y : OutV} {ov' : Value} (hy : GoodO wr y)
    (hy1 : ∀ a n c, y.tv = .slice (some a) n c → y.o.v ≠ [] → nv.ownBlock ≠ some a.block ∧ ov.ownBlock ≠ some a.block) (ho : OwnO w' B ov' (ol ++ [y])) (hg : wr.grownBy w' ov.ownBlock) (hv : ov'.ownBlock = ov.ownBlock ∨ ov'.ownBlock = some wr.heap.size) :
    CmI w qb sb xb rb B q m pv x wv ws nv nl ov' (ol ++ [y]) w' := by
  obtain ⟨⟨j1, j2, j3, j4⟩, jw, j5, j6, j7, j8, j9⟩ := h; obtain ⟨b0, b1, b2, b3, b4⟩ := hb
  have hne : ∀ b, b < B → some b ≠ ov.ownBlock := fun b hb e => by have := j6.1.lt e.symm; omega
  refine ⟨⟨grown_row hg j1 (hne qb b1), grown_row hg j2 (hne sb b2), grown_row hg j3 (hne xb b3), grown_row hg j4 (hne rb b4)⟩, jw.kept hg (rows_apartWO jw j6.1), j5.keep hg (rows_apartPO j5.1 j6.1) (fun z hz a n c e hn => j9 z hz a n c e hn),
    j6.push hy (fun a n c e hn => (hy1 a n c e hn).2) ho hg hv, j7.trans ⟨hg.os, hg.tape, hg.output, hg.size, fun k hk => hg.block k (by have := j7.size; omega) (hne k (by omega))⟩, fun z hz a n c e hn => ?_, fun z hz a n c e hn he => ?_⟩
  · rcases List.mem_append.1 hz with hz | hz
    · exact j8 z hz a n c e hn
    · rw [List.mem_singleton.1 hz] at e hn; exact (hy1 a n c e hn).1
  · rcases hv with hv | hv
    · rw [hv] at he; exact j9 z hz a n c e hn he
    · rw [hv] at he; have := IntsAt.lt (j5.2 z hz).1.1 e hn; have he' := Option.some.inj he; omega
theorem CmI.set {w : World} {qb sb xb rb B : Nat} {q : QueryL} {m : Int} {pv : Value} {x : ItemL} {wv : Value} {ws : List WindowL} {nv : Value} {nl : List PaneV} {ov : Value} {ol : List OutV} {wr w' : World}
    (h : CmI w qb sb xb rb B q m pv x wv ws nv nl ov ol wr) (hb : w.heap.size ≤ B ∧ qb < B ∧ sb < B ∧ xb < B ∧ rb < B) {k : Nat} {y : PaneV} (hk : B ≤ k) (hrow : RowP wr k y) (hoff : wv.ownBlock ≠ some k ∧ nv.ownBlock ≠ some k ∧ ov.ownBlock ≠ some k) (hg : wr.grownBy w' (some k)) :
    CmI w qb sb xb rb B q m pv x wv ws nv nl ov ol w' := by
  obtain ⟨⟨j1, j2, j3, j4⟩, jw, j5, j6, j7, j8, j9⟩ := h; obtain ⟨b0, b1, b2, b3, b4⟩ := hb
  refine ⟨⟨grown_row hg j1 (by simp; omega), grown_row hg j2 (by simp; omega), grown_row hg j3 (by simp; omega), grown_row hg j4 (by simp; omega)⟩, jw.kept hg (.inr hoff.1), j5.keep hg (.inr hoff.2.1) (fun z hz a n c e hn he => ?_), j6.keep hg (.inr hoff.2.2) (fun z hz a n c e hn he => ?_), j7.trans (below_set hg (by omega) j7.size), j8, j9⟩
  · exact IntsAt.apart (j5.2 z hz).1.1 e hn hrow (by decide) (Option.some.inj he).symm
  · exact IntsAt.apart (j6.2 z hz).1 e hn hrow (by decide) (Option.some.inj he).symm
def NewB (B : Nat) (tv : Value) : Prop := ∀ a n c, tv = .slice (some a) n c → B ≤ a.block
def CmY (B : Nat) (gp : PaneL) (w : World) (Y : PaneV) : Prop := Y.p = gp ∧ GoodP w Y ∧ NewB B Y.tv
theorem CmY.below {B : Nat} {gp : PaneL} {w w' : World} {Y : PaneV} (h : CmY B gp w Y) (hB : Below w.heap.size w w') : CmY B gp w' Y := ⟨h.1, h.2.1.below hB, h.2.2⟩
theorem CmY.store {B : Nat} {gp : PaneL} {w w' : World} {Y X : PaneV} {b : Nat} (h : CmY B gp w Y) (hb : RowP w b X) (hg : w.grownBy w' (some b)) : CmY B gp w' Y := ⟨h.1, h.2.1.store hb hg, h.2.2⟩
def CmL (B : Nat) (gp : PaneL) (er : Int) : List (Nat × (Nat → World → Value → Prop)) :=
  [(8, fun _ w v => ∃ Y : PaneV, v = .tuple #[.agg Y.cells, .int .i64 er] ∧ CmY B gp w Y), (9, fun _ w v => ∃ Y : PaneV, v = .tuple #[.agg Y.cells, .int .i64 er] ∧ CmY B gp w Y), (10, fun _ w v => ∃ Y : PaneV, v = .agg Y.cells ∧ CmY B gp w Y),
    (12, fun k w v => ∃ b, v = .pointer (some ⟨b, 0, none⟩) ∧ B ≤ b ∧ if k ≤ 1 then RowP w b zeroPV else ∃ Y : PaneV, RowP w b Y ∧ CmY B gp w Y)]
theorem CmL_le {B : Nat} {gp : PaneL} {er : Int} : ∀ p ∈ CmL B gp er, ∀ k w w' v, Below w.heap.size w w' → p.2 k w v → p.2 k w' v := by
  intro p hp k w w' v hB h; simp only [CmL, List.mem_cons, List.not_mem_nil, or_false] at hp
  rcases hp with rfl | rfl | rfl | rfl
  · obtain ⟨Y, h1, h2⟩ := h; exact ⟨Y, h1, h2.below hB⟩
  · obtain ⟨Y, h1, h2⟩ := h; exact ⟨Y, h1, h2.below hB⟩
  · obtain ⟨Y, h1, h2⟩ := h; exact ⟨Y, h1, h2.below hB⟩
  · obtain ⟨b, h1, h2, h3⟩ := h; refine ⟨b, h1, h2, ?_⟩
    split at h3
    · rename_i hk
      rw [if_pos hk]; exact h3.below hB
    · rename_i hk
      rw [if_neg hk]; obtain ⟨Y, h4, h5⟩ := h3; exact ⟨Y, h4.below hB, h5.below hB⟩
theorem CmL_keep0 {B : Nat} {gp : PaneL} {er : Int} {w w' : World} {l : List Oper} {a : Act} (hB : Below w.heap.size w w') : ∀ p ∈ CmL B gp er, 12 = p.1 ∨ ∀ d, dstAt l p.1 = some d → p.2 0 w (a.eval (.tmp d)) → p.2 1 w' (a.eval (.tmp d)) := by
  intro p hp; simp only [CmL, List.mem_cons, List.not_mem_nil, or_false] at hp
  rcases hp with rfl | rfl | rfl | rfl
  · exact .inr fun d _ ⟨Y, h1, h2⟩ => ⟨Y, h1, h2.below hB⟩
  · exact .inr fun d _ ⟨Y, h1, h2⟩ => ⟨Y, h1, h2.below hB⟩
  · exact .inr fun d _ ⟨Y, h1, h2⟩ => ⟨Y, h1, h2.below hB⟩
  · exact .inl rfl
theorem CmL_keep {B : Nat} {gp : PaneL} {er : Int} {w w' : World} {b : Nat} {Y : PaneV} {l : List Oper} {a : Act} (hl : dstAt l 12 = some 17) (ha : a.eval (.tmp 17) = .pointer (some ⟨b, 0, none⟩)) (hb : RowP w b zeroPV) (hBb : B ≤ b) (hg : w.grownBy w' (some b)) (hr : RowP w' b Y) (hY : CmY B gp w' Y) :
    ∀ p ∈ CmL B gp er, 13 = p.1 ∨ ∀ d, dstAt l p.1 = some d → p.2 1 w (a.eval (.tmp d)) → p.2 2 w' (a.eval (.tmp d)) := by
  intro p hp; simp only [CmL, List.mem_cons, List.not_mem_nil, or_false] at hp
  rcases hp with rfl | rfl | rfl | rfl
  · exact .inr fun d _ ⟨Y, h1, h2⟩ => ⟨Y, h1, h2.store hb hg⟩
  · exact .inr fun d _ ⟨Y, h1, h2⟩ => ⟨Y, h1, h2.store hb hg⟩
  · exact .inr fun d _ ⟨Y, h1, h2⟩ => ⟨Y, h1, h2.store hb hg⟩
  · refine .inr fun d hd _ => ?_; rw [hl] at hd
    cases hd
    exact ⟨b, ha, hBb, Y, hr, hY⟩
theorem box_come (w : World) (q : QueryL) (m : Int) (pv : Value) (x : ItemL) :
    let W := (((w.alloc (.cells q.cells 23)).alloc (.cells #[.int .i64 m, pv] 29)).alloc (.cells x.cells 42)).alloc (.cells #[.int .i64 0, nilV] 29)
    RowQ W w.heap.size q ∧ RowS W (w.heap.size + 1) m pv ∧ RowX W (w.heap.size + 2) x ∧ RowS W (w.heap.size + 3) 0 nilV ∧ Below w.heap.size w W ∧ W.heap.size = w.heap.size + 4 := by
  intro W; obtain ⟨k1, k2, k3⟩ := box_qs w q m pv; obtain ⟨w2, hw2⟩ : ∃ W, W = (w.alloc (.cells q.cells 23)).alloc (.cells #[.int .i64 m, pv] 29) := ⟨_, rfl⟩
  have hs : w2.heap.size = w.heap.size + 2 := by rw [hw2, heap_alloc_size, heap_alloc_size]
  have hW : W = (w2.alloc (.cells x.cells 42)).alloc (.cells #[.int .i64 0, nilV] 29) := by rw [hw2]
  rw [← hw2] at k1 k2 k3; have k4 := (Below.refl _ w2).alloc (Nat.le_refl _) (.cells x.cells 42); have k5 := (Below.refl _ (w2.alloc (.cells x.cells 42))).alloc (Nat.le_refl _) (.cells #[.int .i64 0, nilV] 29)
  have hs3 : (w2.alloc (.cells x.cells 42)).heap.size = w.heap.size + 3 := by rw [heap_alloc_size, hs]
  have k45 := k4.trans (k5.mono k4.size); rw [hW]
  refine ⟨k1.below k45, k2.below k45, ?_, ?_, k3.trans (k45.mono k3.size), by rw [heap_alloc_size, hs3]⟩
  · refine RowX.below ?_ k5; rw [← hs]; exact heap_alloc_new _ _
  · rw [← hs3]; exact heap_alloc_new _ _
end Go.Proofs.YtjeeghafachebaaGreat
namespace Go.Proofs.YtjeeghafachebaaGreat
open Go Go.RowKit
def ComeEnd (w : World) (s : StateL) (o : List OutE) (er : Int) (e : Ending) (w' : World) : Prop := ∃ sv ov, e = .returned (.tuple #[sv, ov, .int .i64 er]) ∧ HasS w' sv s ∧ HasO w' ov o ∧ Below w.heap.size w w'
def CmRel (w : World) (qb sb xb rb B : Nat) (q : QueryL) (m : Int) (pv : Value) (x : ItemL) (wv : Value) (ws : List WindowL) (c0 : ComeL) (n0 : Nat) (s9 s10 s11 s29 : Value) (wr : World) : Prop :=
  ∃ i : Nat, i ≤ ws.length ∧ s29 = .int .i64 (i : Int) ∧ ∃ nl ol, ∃ lt : Bool, s10 = .bool lt ∧ ol.length ≤ i ∧ winsQ q m x.value ws c0 = winsQ q m x.value (ws.drop i) ⟨nl.map PaneV.p, ol.map OutV.o, lt, 0⟩ ∧ comeOk q (nl.map PaneV.p) (n0 + i) ∧ CmI w qb sb xb rb B q m pv x wv ws s9 nl s11 ol wr
theorem zeroS_has (w : World) : HasS w (.agg #[.int .i64 0, .slice none 0 0]) zeroS := ⟨nilV, [], rfl, PanesIn.nil _, by simp, rfl⟩
theorem OwnW.at {w : World} {B n c : Nat} {a : Option Addr} {l : List WindowL} (h : OwnW w B (.slice a n c) l) : WinsAt w a l := by
  obtain ⟨a', c', e, _, h⟩ := h.form
  injection e with e1
  rw [e1]; exact h
theorem OwnP.at {w : World} {B n c : Nat} {a : Option Addr} {l : List PaneV} (h : OwnP w B (.slice a n c) l) : PanesAt w a l := by
  obtain ⟨a', c', e, _, h⟩ := h.form
  injection e with e1
  rw [e1]; exact h
theorem grown_same (w : World) (r : Option Nat) : w.grownBy w r := ⟨rfl, rfl, rfl, Nat.le_refl _, fun _ _ _ => rfl⟩
theorem grown_below {w w' : World} (r : Nat) (hB : Below w.heap.size w w') : w.grownBy w' (some r) := ⟨hB.os, hB.tape, hB.output, hB.size, fun k hk _ => hB.block k hk⟩
theorem slice_gave {w : World} {B n c : Nat} {a : Option Addr} {l : List PaneV} {i j : Nat} (h : OwnP w B (.slice a n c) l) (hij : i ≤ j) (hj : j ≤ l.length) :
    ∃ a5 c5, (∀ w', (Instr.slice 27 (.slice a n c) (some (.int .i64 (i : Int))) (some (.int .i64 (j : Int))) none).run Tryz.prog w' = .ok (.slice a5 (j - i) c5) w') ∧ PanesAt w a5 ((l.take j).drop i) := by
  have hAt := h.at
  rcases h.shape with ⟨e, rfl⟩ | ⟨g, c', e, hc⟩
  · unfold nilV at e
    injection e with e1 e2 e3
    subst e1 e2 e3
    obtain rfl : j = 0 := by simpa using hj
    obtain rfl : i = 0 := by omega
    refine ⟨none, 0, fun w' => ?_, .inl rfl⟩; simp [Instr.slice, run_underlying Tryz.underlying27, Instr.sliceBounds, run_sliceBound, show ∀ w, (sizeOf 55).run Tryz.prog w = .ok 8 w from Tryz.sizeOf55]
  · injection e with e1 e2 e3
    subst e1 e2 e3; refine ⟨_, _, fun w' => run_slicePij w' g l.length c i j hij hj hc, ?_⟩
    by_cases hci : c = i
    · refine .inl ?_; rw [List.drop_eq_nil_of_le]; rw [List.length_take]; omega
    · rw [if_neg hci]; have h2 := (hAt.take j).cut i; rw [Nat.zero_add] at h2; exact h2
theorem come_step {q : QueryL} {mark v : Int} {ws : List WindowL} {c0 : ComeL} {i n : Nat} {W : WindowL} {ps A B : List PaneL} {os : List OutE} {lt : Bool} (hw : winsQ q mark v ws c0 = winsQ q mark v (ws.drop i) ⟨ps, os, lt, 0⟩) (hW : ws[i]? = some W) (hok : comeOk q ps n)
    (hWr : W.rightB = true ∧ W.key.length ≤ 1000000) (hr : restP q ps W = A ++ B) (hA : ∀ a ∈ A, aheadP a.w (becQ q ps W)) (hB : ∀ x ∈ B, aheadP (becQ q ps W) x.w) (hg : goneW q (becQ q ps W) mark = false)
    {gp : PaneL} {er : Int} (hgp : gp = (grownQ q (becQ q ps W) (gaveP q ps W) v).1) (her : er = (grownQ q (becQ q ps W) (gaveP q ps W) v).2) :
    (er ≠ 0 → winsQ q mark v ws c0 = ⟨[], [], false, er⟩) ∧ (er = 0 → 1073741824 < (fireP gp mark).r → winsQ q mark v ws c0 = ⟨[], [], false, 20⟩) ∧
      (er = 0 → ¬ 1073741824 < (fireP gp mark).r → comeOk q (A ++ fireP gp mark :: B) (n + 1) ∧ winsQ q mark v ws c0 = winsQ q mark v (ws.drop (i + 1)) ⟨A ++ fireP gp mark :: B, os ++ (if ripeW (becQ q ps W) mark = true then [toldQ q (fireP gp mark)] else []), false, 0⟩) ∧
      (er = 0 → (0 ≤ gp.r ∧ gp.r ≤ 1073741824) ∧ gp.a.top.length ≤ 1000000 ∧ gp.w = becQ q ps W) := by
  subst hgp her; refine ⟨fun he => ?_, fun he ho => ?_, fun he ho => ?_, fun he => ?_⟩
  · have h : winQ q mark v ⟨ps, os, lt, 0⟩ W = ⟨[], [], false, (grownQ q (becQ q ps W) (gaveP q ps W) v).2⟩ := by
      unfold winQ
      rw [if_neg (by show ¬ goneW q (becQ q ps W) mark = true; rw [hg]; decide), if_pos he]
    rw [winsQ_step hw hW, h, if_neg he]
  · have h : winQ q mark v ⟨ps, os, lt, 0⟩ W = ⟨[], [], false, 20⟩ := by
      unfold winQ
      rw [if_neg (by show ¬ goneW q (becQ q ps W) mark = true; rw [hg]; decide), if_neg (fun h => h he), if_pos ho]
    rw [winsQ_step hw hW, h, if_neg (by decide)]
  · obtain ⟨k1, k2⟩ := hok.ins hWr.1 hWr.2 hr hA hB he ho; refine ⟨k1, ?_⟩
    have h : winQ q mark v ⟨ps, os, lt, 0⟩ W = ⟨A ++ fireP (grownQ q (becQ q ps W) (gaveP q ps W) v).1 mark :: B, os ++ (if ripeW (becQ q ps W) mark = true then [toldQ q (fireP (grownQ q (becQ q ps W) (gaveP q ps W) v).1 mark)] else []), false, 0⟩ := by
      unfold winQ
      rw [if_neg (by show ¬ goneW q (becQ q ps W) mark = true; rw [hg]; decide), if_neg (fun h => h he), if_neg ho]
      show ComeL.mk (insP (restP q ps W) _) _ _ _ = _
      rw [k2]
    rw [winsQ_step hw hW, h, if_pos rfl]
  · obtain ⟨k1, k2, k3⟩ := grownQ_ok he (fun o ho => ((hok.2.1 o (List.mem_filter.1 ho).1).1)); have := right_facts k3
    exact ⟨k2, by omega, k1⟩
theorem built_late (a b c : Int) (k : List (BitVec 8)) : Tryz.prog.built 50 [(0, .bool true), (1, .agg #[.int .i64 a, Sv k, .int .i64 b, .int .i64 c])] = some #[.bool true, .int .i64 a, Sv k, .int .i64 b, .int .i64 c, .string ⟨#[]⟩, .int .i64 0, .int .i64 0, .int .i64 0, .slice none 0 0] := by kernel_rfl
theorem built_state2 (m : Int) (a : Option Addr) (n c : Nat) : Tryz.prog.built 29 [(0, .int .i64 m), (1, .slice a n c)] = some #[.int .i64 m, .slice a n c] := by kernel_rfl
def LtL (B0 : Nat) (O : OutV) : List (Nat × (Nat → World → Value → Prop)) :=
  [(3, fun _ w v => ∃ b, v = .slice (some ⟨b, 0, none⟩) 1 1 ∧ B0 ≤ b ∧ RowO w b O), (5, fun _ w v => ∃ b, v = .slice (some ⟨b, 0, none⟩) 1 1 ∧ B0 ≤ b ∧ RowO w b O)]
theorem LtL_grown {B0 rb b : Nat} {O : OutV} {w w' : World} {v : Value} (hr : rb < B0) (hg : w.grownBy w' (some rb)) (h : v = .slice (some ⟨b, 0, none⟩) 1 1 ∧ B0 ≤ b ∧ RowO w b O) : ∃ b, v = .slice (some ⟨b, 0, none⟩) 1 1 ∧ B0 ≤ b ∧ RowO w' b O :=
  ⟨b, h.1, h.2.1, grown_row hg h.2.2 (by have := h.2.1; simp; omega)⟩
theorem LtL_le {B0 rb : Nat} {O : OutV} (hr : rb < B0) : ∀ p ∈ LtL B0 O, ∀ k w w' v, w.grownBy w' (some rb) → p.2 k w v → p.2 k w' v := by
  intro p hp k w w' v hg h; simp only [LtL, List.mem_cons, List.not_mem_nil, or_false] at hp
  rcases hp with rfl | rfl
  · obtain ⟨b, h⟩ := h; exact LtL_grown hr hg h
  · obtain ⟨b, h⟩ := h; exact LtL_grown hr hg h
theorem LtL_keep {B0 rb : Nat} {O : OutV} {w w' : World} {l : List Oper} {a : Act} (hr : rb < B0) (hg : w.grownBy w' (some rb)) : ∀ p ∈ LtL B0 O, 4 = p.1 ∨ ∀ d, dstAt l p.1 = some d → p.2 0 w (a.eval (.tmp d)) → p.2 1 w' (a.eval (.tmp d)) := by
  intro p hp; simp only [LtL, List.mem_cons, List.not_mem_nil, or_false] at hp
  rcases hp with rfl | rfl
  · exact .inr fun d _ ⟨b, h⟩ => LtL_grown hr hg h
  · exact .inr fun d _ ⟨b, h⟩ => LtL_grown hr hg h
theorem built_state0 : Tryz.prog.built 29 [] = some #[.int .i64 0, .slice none 0 0] := by kernel_rfl
set_option maxRecDepth 100000 in
set_option maxHeartbeats 16000000 in
theorem ocome_any (w : World) (q : QueryL) (m : Int) (pv : Value) (x : ItemL) (l : List PaneV) (hA : PanesIn w pv l) (hG : ∀ y ∈ l, GoodP w y) (hok : comeOk q (l.map PaneV.p) 256) (hk : x.key.length ≤ 1000000) :
    Calls Tryz.prog 38 #[.agg q.cells, .agg #[.int .i64 m, pv], .agg x.cells] w (ComeEnd w (comeQ q ⟨m, l.map PaneV.p⟩ x).1 (comeQ q ⟨m, l.map PaneV.p⟩ x).2.1 (comeQ q ⟨m, l.map PaneV.p⟩ x).2.2) := by
  have mixed : Tryz.prog.follows .mixedOrders = true := by kernel_rfl
  obtain ⟨ps, hps⟩ : ∃ ps, ps = l.map PaneV.p := ⟨_, rfl⟩; rw [← hps] at hok ⊢; obtain ⟨ws, hws⟩ : ∃ ws, ws = ofW q x.key x.time := ⟨_, rfl⟩; obtain ⟨c0, hc0⟩ : ∃ c : ComeL, c = ⟨ps, [], true, 0⟩ := ⟨_, rfl⟩; obtain ⟨P, hP⟩ : ∃ P, P = ComeEnd w (comeQ q ⟨m, ps⟩ x).1 (comeQ q ⟨m, ps⟩ x).2.1 (comeQ q ⟨m, ps⟩ x).2.2 := ⟨_, rfl⟩; rw [← hP]
  have hcq : comeQ q ⟨m, ps⟩ x = if (winsQ q m x.value ws c0).e ≠ 0 then (zeroS, [], (winsQ q m x.value ws c0).e) else if (winsQ q m x.value ws c0).late = true then (⟨m, ps⟩, [lateO x], 0) else if 256 < (winsQ q m x.value ws c0).panes.length then (zeroS, [], 30) else (⟨m, (winsQ q m x.value ws c0).panes⟩, (winsQ q m x.value ws c0).outs, 0) := by rw [hws, hc0]; rfl
  obtain ⟨v_, hv_⟩ : ∃ v, v = x.value := ⟨_, rfl⟩; rw [← hv_] at hcq
  have HErr : Hid (∀ wz c, winsQ q m v_ ws c0 = c → c.e ≠ 0 → Below w.heap.size w wz → P (.returned (.tuple #[.agg #[.int .i64 0, .slice none 0 0], .slice none 0 0, .int .i64 c.e])) wz) := Lib.hid (fun wz c h he hB => by
    rw [hP, hcq, h, if_pos he]
    exact ⟨_, _, rfl, zeroS_has wz, HasO.nil _, hB⟩)
  have HLate : Hid (∀ wz c ov, winsQ q m v_ ws c0 = c → c.e = 0 → c.late = true → HasO wz ov [lateO x] → PanesIn wz pv l → (∀ y ∈ l, GoodP wz y) → Below w.heap.size w wz → P (.returned (.tuple #[.agg #[.int .i64 m, pv], ov, .int .i64 0])) wz) := Lib.hid (fun wz c ov h he hl h1 h2 h3 hB => by
    rw [hP, hcq, h, if_neg (by simp [he]), if_pos hl]
    exact ⟨_, _, rfl, ⟨pv, l, rfl, h2, h3, hps⟩, h1, hB⟩)
  have HFull : Hid (∀ wz c, winsQ q m v_ ws c0 = c → c.e = 0 → c.late = false → 256 < c.panes.length → Below w.heap.size w wz → P (.returned (.tuple #[.agg #[.int .i64 0, .slice none 0 0], .slice none 0 0, .int .i64 30])) wz) := Lib.hid (fun wz c h he hl hn hB => by
    rw [hP, hcq, h, if_neg (by simp [he]), if_neg (by simp [hl]), if_pos hn]
    exact ⟨_, _, rfl, zeroS_has wz, HasO.nil _, hB⟩)
  have HYes : Hid (∀ wz c nv nl ov, winsQ q m v_ ws c0 = c → c.e = 0 → c.late = false → ¬ 256 < c.panes.length → PanesIn wz nv nl → (∀ y ∈ nl, GoodP wz y) → c.panes = nl.map PaneV.p → HasO wz ov c.outs → Below w.heap.size w wz → P (.returned (.tuple #[.agg #[.int .i64 m, nv], ov, .int .i64 0])) wz) := Lib.hid (fun wz c nv nl ov h he hl hn h1 h2 h3 h4 hB => by
    rw [hP, hcq, h, if_neg (by simp [he]), if_neg (by simp [hl]), if_neg hn]
    exact ⟨_, _, rfl, ⟨nv, nl, rfl, h1, h2, h3⟩, h4, hB⟩)
  obtain ⟨sa, sc, hpv, hz1, hz2⟩ := hA.form; clear hz1 hz2; obtain ⟨w1, hw1⟩ : ∃ W, W = (((w.alloc (.cells q.cells 23)).alloc (.cells #[.int .i64 m, pv] 29)).alloc (.cells x.cells 42)).alloc (.cells #[.int .i64 0, .slice none 0 0] 29) := ⟨_, rfl⟩; obtain ⟨qb, hqb⟩ : ∃ b, b = w.heap.size := ⟨_, rfl⟩; obtain ⟨sb, hsb⟩ : ∃ b, b = w.heap.size + 1 := ⟨_, rfl⟩; obtain ⟨xb, hxb⟩ : ∃ b, b = w.heap.size + 2 := ⟨_, rfl⟩; obtain ⟨rb, hrb⟩ : ∃ b, b = w.heap.size + 3 := ⟨_, rfl⟩
  have H1 : Hid (RowQ w1 qb q ∧ RowS w1 sb m pv ∧ RowX w1 xb x ∧ RowS w1 rb 0 nilV ∧ Below w.heap.size w w1 ∧ w1.heap.size = w.heap.size + 4) := by rw [hw1, hqb, hsb, hxb, hrb]; exact Lib.hid (box_come w q m pv x)
  obtain ⟨B, hBe⟩ : ∃ b, b = w1.heap.size := ⟨_, rfl⟩
  have HNe : Hid (sb ≠ rb ∧ xb ≠ rb) := Lib.hid ⟨by omega, by omega⟩
  have HBd : Hid ((w.heap.size ≤ B ∧ qb < B ∧ sb < B ∧ xb < B ∧ rb < B) ∧ w.heap.size ≤ rb ∧ w1.heap.size = B) := Lib.hid ⟨by have := H1.out.2.2.2.2.2; omega, by omega, hBe.symm⟩
  have HA : Hid (PanesIn w pv l ∧ (∀ y ∈ l, GoodP w y) ∧ comeOk q ps 256 ∧ ps = l.map PaneV.p ∧ c0 = ⟨ps, [], true, 0⟩) := Lib.hid ⟨hA, hG, hok, hps, hc0⟩; have HLt : Hid (∀ y ∈ l, ∀ a n c, y.tv = .slice (some a) n c → y.p.a.top ≠ [] → a.block < w.heap.size) := Lib.hid (fun y hy a n c e hne => IntsAt.lt (hG y hy).1 e hne)
  have hn8 : l.length ≤ 256 := by have := hok.2.2; rw [hps, List.length_map] at this; exact this
  have HWs : Hid (ws.length ≤ 16 ∧ ∀ W ∈ ws, W.rightB = true ∧ W.key.length ≤ 1000000) := Lib.hid ⟨by rw [hws]; exact ofW_len _ _ _, fun W hW => by
    rw [hws] at hW; obtain ⟨_, h1, _, _, _, h2⟩ := ofW_good hW
    exact ⟨h1, by rw [h2]; exact hk⟩⟩
  have HCl : Hid (Calls Tryz.prog 36 #[pv] w1 (fun e w' => ∃ v', e = .returned v' ∧ OwnP w' w1.heap.size v' l ∧ Below w1.heap.size w1 w')) := Lib.hid (clonePs_any w1 pv l (hA.below H1.out.2.2.2.2.1) (by omega))
  obtain ⟨VQ, hVQ⟩ : ∃ V, V = Value.agg q.cells := ⟨_, rfl⟩
  have HOf : Hid (∀ w', Calls Tryz.prog 62 #[VQ, Sv x.key, .int .i64 x.time] w' (WinsNew w' ws)) := by
    rw [hVQ, hws]; exact Lib.hid (fun w' => ofN_any w' q x.key x.time hk)
  have HHm : Hid (∀ w' a c (nl : List PaneV) (W : WindowL), PanesAt w' a nl → comeOk q (nl.map PaneV.p) 272 → W.rightB = true ∧ W.key.length ≤ 1000000 → Calls Tryz.prog 63 #[VQ, .slice a nl.length c, .agg W.cells] w' (HomeEnd w' q nl W)) := by
    rw [hVQ]
    exact Lib.hid (fun w' a c nl W h1 h2 h3 => ohome_any w' q a c nl W h1 (fun y hy => (h2.2.1 y.p (List.mem_map.2 ⟨y, hy, rfl⟩)).2.1) h2.1 h3.1 h3.2 (by have := h2.2.2; rw [List.length_map] at this; omega))
  have HGo : Hid (∀ w' (W : WindowL), W.key.length ≤ 1000000 → Calls Tryz.prog 50 #[VQ, .agg W.cells, .int .i64 m] w' (Below0 w' (.bool (goneW q W m)))) := by
    rw [hVQ]; exact Lib.hid (fun w' W h => wgone_any w' q W m h)
  have HRi : Hid (∀ w' (W : WindowL), W.key.length ≤ 1000000 → Calls Tryz.prog 51 #[.agg W.cells, .int .i64 m] w' (Below0 w' (.bool (ripeW W m)))) := Lib.hid (fun w' W h => wripe_any w' W m h)
  have HGr : Hid (∀ w' (W : WindowL) a c (G : List PaneV), PanesAt w' a G → (∀ y ∈ G, GoodP w' y) → FitP G → Calls Tryz.prog 64 #[VQ, .agg W.cells, .slice a G.length c, .int .i64 v_] w' (GrownEnd w' (grownQ q W (G.map PaneV.p) v_).1 (grownQ q W (G.map PaneV.p) v_).2)) := by
    rw [hVQ]; exact Lib.hid (fun w' W a c G h1 h2 h3 => ogrown_any w' q W a c G v_ h1 h2 h3)
  have HTo : Hid (∀ w' (y : PaneV), GoodP w' y → y.p.a.top.length ≤ 1000000 → Calls Tryz.prog 65 #[VQ, .agg y.cells] w' (OutEnd w' (toldQ q y.p))) := by
    rw [hVQ]; exact Lib.hid (fun w' y h hn => otold_any w' q y h hn)
  obtain ⟨N, hN⟩ : ∃ N, N = ws.length := ⟨_, rfl⟩
  have HN : Hid (N = ws.length ∧ N ≤ 16) := Lib.hid ⟨hN, by rw [hN]; exact HWs.out.1⟩
  clear hP hcq hA hG hok hk hps hws hc0 hN; obtain ⟨Q, hQ⟩ : ∃ Q, Q = q := ⟨_, rfl⟩; rw [← hQ] at H1 HErr HLate HFull HYes HA HHm HGo HGr HTo; obtain ⟨X, hX⟩ : ∃ X, X = x := ⟨_, rfl⟩; rw [← hX] at H1 HLate HOf; obtain ⟨kind, size, slide, late, agg, kq⟩ := q; obtain ⟨xkd, xk, xt, xv⟩ := x; simp only at hv_; subst hv_
  have HXv : Hid (X.value = v_ ∧ X = ⟨xkd, xk, xt, v_⟩ ∧ X.key = xk ∧ X.time = xt) := by rw [hX]; exact Lib.hid ⟨rfl, rfl, rfl, rfl⟩
  have HVQ : Hid (VQ = .agg #[.int .i64 kind, .int .i64 size, .int .i64 slide, .int .i64 late, .int .i64 agg, .int .i64 kq]) := Lib.hid hVQ
  have HQd : Hid (∀ w', RowQ w' qb Q → D6 w' qb kind size slide late agg kq) := by rw [hQ]; exact Lib.hid (fun w' h => h.d6)
  have HXd : Hid (∀ w', RowX w' xb X → DX w' xb xkd xk xt v_) := by rw [hX]; exact Lib.hid (fun w' h => h.dx)
  rw [HXv.out.2.2.1, HXv.out.2.2.2, HVQ.out] at HOf; rw [← HXv.out.1] at HErr HLate HFull HYes; rw [HVQ.out] at HHm HGo HGr HTo
  have HGr2 : Hid (∀ w' (W : WindowL) a c (G : List PaneV), PanesAt w' a G → (∀ y ∈ G, GoodP w' y) → FitP G → Calls Tryz.prog 64 #[.agg #[.int .i64 kind, .int .i64 size, .int .i64 slide, .int .i64 late, .int .i64 agg, .int .i64 kq], .agg W.cells, .slice a G.length c, .int .i64 v_] w' (GrownEnd w' (grownQ Q W (G.map PaneV.p) X.value).1 (grownQ Q W (G.map PaneV.p) X.value).2)) := by
    rw [HXv.out.1]; exact HGr
  clear HGr; clear hVQ hQ hX hBe; obtain ⟨n, hn⟩ : ∃ n, n = l.length := ⟨_, rfl⟩; rw [← hn] at hpv; have HNn := Lib.hid hn; clear hn; subst hpv; unfold QueryL.cells ItemL.cells at hw1 ⊢; simp only at hw1; have hs1 : (w.alloc (.cells #[.int .i64 kind, .int .i64 size, .int .i64 slide, .int .i64 late, .int .i64 agg, .int .i64 kq] 23)).heap.size = w.heap.size + 1 := heap_alloc_size w _
  have hs2 : ((w.alloc (.cells #[.int .i64 kind, .int .i64 size, .int .i64 slide, .int .i64 late, .int .i64 agg, .int .i64 kq] 23)).alloc (.cells #[.int .i64 m, .slice sa n sc] 29)).heap.size = w.heap.size + 2 := by rw [heap_alloc_size, heap_alloc_size]
  have hs3 : (((w.alloc (.cells #[.int .i64 kind, .int .i64 size, .int .i64 slide, .int .i64 late, .int .i64 agg, .int .i64 kq] 23)).alloc (.cells #[.int .i64 m, .slice sa n sc] 29)).alloc (.cells #[.int .i64 xkd, Sv xk, .int .i64 xt, .int .i64 v_] 42)).heap.size = w.heap.size + 3 := by rw [heap_alloc_size, heap_alloc_size, heap_alloc_size]
  obtain ⟨e0, e1⟩ := H1.out.2.1.d2
  go_enter Tryz.func38, Tryz.ntmps38
  go_upto_region 1 with (fail)
  rw [← hw1, ← hrb, ← hxb, ← hsb, ← hqb]; clear hw1 hrb hxb hsb hqb hs1 hs2 hs3; go_wp2_with (fail); refine HCl.out.mono ?_; rintro e w2 ⟨nv0, rfl, hO, hB⟩
  have H2 : Hid (OwnP w2 B nv0 l ∧ Below w.heap.size w w2 ∧ RowQ w2 qb Q ∧ RowS w2 sb m (.slice sa n sc) ∧ RowX w2 xb X ∧ RowS w2 rb 0 nilV ∧ B ≤ w2.heap.size) := by
    have hsz := hB.size; rw [HBd.out.2.2] at hO hsz; exact Lib.hid ⟨hO, H1.out.2.2.2.2.1.trans (hB.mono H1.out.2.2.2.2.1.size), H1.out.1.below hB, H1.out.2.1.below hB, H1.out.2.2.1.below hB, H1.out.2.2.2.1.below hB, hsz⟩
  clear hB hO e0 e1; dsimp only; obtain ⟨na0, nc0, rfl, hz1, hz2⟩ := H2.out.1.form; clear hz1 hz2; obtain ⟨d0, d1, d2, d3, d4, d5⟩ := HQd.out w2 H2.out.2.2.1; obtain ⟨x0, x1, x2, x3⟩ := HXd.out w2 H2.out.2.2.2.2.1; go_wp2_with (fail)
  rename_i K hK
  refine (HOf.out w2).mono ?_; rintro e w3 ⟨wv, rfl, hO, hB⟩
  have HC3 : Hid (CmI w qb sb xb rb B Q m (.slice sa n sc) X wv ws (.slice na0 l.length nc0) l nilV [] w3) := by
    obtain ⟨j1, j2, j3, j4, j5, j6, j7⟩ := H2.out; obtain ⟨⟨b0, _⟩, _⟩ := HBd.out
    exact Lib.hid ⟨⟨j3.below hB, j4.below hB, j5.below hB, j6.below hB⟩, hO.mono j7, ⟨j1.far hB, fun z hz => ⟨(HA.out.2.1 z hz).below (j2.trans (hB.mono j2.size)), fun a n' c e hn he => by have h1 := HLt.out z hz a n' c e hn; have h2 := j1.lt he; omega⟩⟩, ⟨OwnO.nil _ _, fun z hz => by simp at hz⟩, j2.trans (hB.mono j2.size), fun z hz => by simp at hz, fun z hz a n' c e hn he => by simp [nilV, Value.ownBlock] at he⟩
  obtain ⟨wa, wc, rfl, hz1, hz2⟩ := hO.form; clear hz1 hz2; rw [← HN.out.1] at HC3; rw [← HN.out.1]; clear hB hO d0 d1 d2 d3 d4 d5 x0 x1 x2 x3; dsimp only; go_wp2_with (fail)
  go_loopw [9, 10, 11, 29] (CmRel w qb sb xb rb B Q m (.slice sa n sc) X (.slice wa N wc) ws c0 256) (fun _ _ _ i _ => N - (intOf i).toNat)
  case atStart =>
    refine ⟨0, Nat.zero_le _, rfl, l, [], true, rfl, Nat.le_refl _, ?_, ?_, HC3.out⟩
    · rw [List.drop_zero, HA.out.2.2.2.2, HA.out.2.2.2.1]; rfl
    · rw [← HA.out.2.2.2.1]; exact HA.out.2.2.1
  case round =>
    obtain ⟨i, hi, rfl, nl, ol, lt, rfl, hol, hwq, hok, hI⟩ := hrel; rw [← HN.out.1] at hi; have HO := Lib.hid (And.intro hol (And.intro hwq (And.intro hok hI))); obtain ⟨na, nc, rfl, hz1, hz2⟩ := hI.2.2.1.1.form; obtain ⟨oa, oc, rfl, hz3, hz4⟩ := hI.2.2.2.1.1.form; clear hz1 hz2 hz3 hz4 hol hwq hok hI
    by_cases hlt : i < N
    · have hN16 : N ≤ 16 := HN.out.2
      have hi0 : (0 : Int) ≤ (i : Int) ∧ (i : Int) < (N : Int) := by omega
      obtain ⟨W, pa, pof, hx, hsa, c0', c1, c2⟩ := (OwnW.at HO.out.2.2.2.2.1).get (t := i) (by rw [← HN.out.1]; exact hlt)
      subst hsa; have HX : Hid (W ∈ ws ∧ ws[i]? = some W ∧ i < N) := Lib.hid ⟨List.mem_of_getElem? hx, hx, hlt⟩; clear hx hi hlt; obtain ⟨W_, hWe⟩ : ∃ Y : WindowL, Y = W := ⟨_, rfl⟩; rw [← hWe] at HX; obtain ⟨wk, wl, wh⟩ := W; simp only at c0' c1 c2
      go_upto_region 5 with (fail)
      refine wp_region_lit ?_
      iterate 9 go_step
      refine wpList_store_row rfl _ _ _ rfl wr.heap.size (WindowL.mk wk wl wh).cells rfl rfl 47 zeroW.cells (heap_alloc_new wr _) window_size rfl (window_one _) ?_; obtain ⟨wx, hwx⟩ : ∃ Z, Z = (wr.alloc (Obj.cells #[.string ⟨#[]⟩, .int .i64 0, .int .i64 0] 47)).setRow wr.heap.size (WindowL.mk wk wl wh).cells := ⟨_, rfl⟩; obtain ⟨wb, hwb⟩ : ∃ b, b = wr.heap.size := ⟨_, rfl⟩
      have Hwx : Hid (RowW wx wb W_ ∧ CmI w qb sb xb rb B Q m (.slice sa n sc) X (.slice (some ⟨pa, pof, none⟩) N wc) ws (.slice na nl.length nc) nl (.slice oa ol.length oc) ol wx) := by
        obtain ⟨k1, k2⟩ := stored_window wr (WindowL.mk wk wl wh); rw [hwx, hwb, hWe]; exact Lib.hid ⟨k1, HO.out.2.2.2.below k2⟩
      rw [← hwx, ← hwb]; clear hwx hwb c0' c1 c2; have HWv : Hid (W_ = ⟨wk, wl, wh⟩) := Lib.hid hWe
      have HWd : Hid (∀ w', RowW w' wb W_ → D3 w' wb wk wl wh) := by rw [hWe]; exact Lib.hid (fun w' h => h.d3)
      have HHm2 : Hid (Calls Tryz.prog 63 #[.agg #[.int .i64 kind, .int .i64 size, .int .i64 slide, .int .i64 late, .int .i64 agg, .int .i64 kq], .slice na nl.length nc, .agg #[Sv wk, .int .i64 wl, .int .i64 wh]] wx (HomeEnd wx Q nl W_)) := by
        have h := HHm.out wx na nc nl W_ (OwnP.at Hwx.out.2.2.2.1.1) ⟨HO.out.2.2.1.1, HO.out.2.2.1.2.1, by have := HO.out.2.2.1.2.2; have := HX.out.2.2; have := HN.out.2; omega⟩ (HWs.out.2 W_ HX.out.1)
        rw [hWe] at h ⊢; exact Lib.hid h
      clear hWe; obtain ⟨d0, d1, d2, d3, d4, d5⟩ := HQd.out wx Hwx.out.2.1.1; obtain ⟨f0, f1, f2⟩ := HWd.out wx Hwx.out.1
      go_upto_region 6 with (fail)
      refine wp_region_lit ?_
      iterate 9 go_step
      refine wpList_plain rfl fun K' hK' => ?_; go_step; refine HHm2.out.mono ?_; rintro e w5 ⟨lA, lG, lB, hl, hGm, hRm, hAa, hBa, rfl, hB⟩; refine hK' _ _ ?_; clear hK' d0 d1 d2 d3 d4 d5 f0 f1 f2; obtain ⟨bec, hbec⟩ : ∃ b, b = becQ Q (nl.map PaneV.p) W_ := ⟨_, rfl⟩; rw [← hbec] at hAa hBa; rw [← hbec]
      have HHome : Hid (nl = lA ++ lG ++ lB ∧ lG.map PaneV.p = gaveP Q (nl.map PaneV.p) W_ ∧ (lA ++ lB).map PaneV.p = restP Q (nl.map PaneV.p) W_ ∧ (∀ a ∈ lA, aheadP a.p.w bec) ∧ (∀ x ∈ lB, aheadP bec x.p.w) ∧ bec = becQ Q (nl.map PaneV.p) W_ ∧ bec.key.length ≤ 1000000) := Lib.hid ⟨hl, hGm, hRm, hAa, hBa, hbec, by rw [hbec, becQ_key (HWs.out.2 W_ HX.out.1).1]; exact (HWs.out.2 W_ HX.out.1).2⟩
      have H5 := Lib.hid (Hwx.out.2.below hB); obtain ⟨nA, hnA⟩ : ∃ k, k = lA.length := ⟨_, rfl⟩; obtain ⟨nJ, hnJ⟩ : ∃ k, k = lA.length + lG.length := ⟨_, rfl⟩
      have HLen : Hid (nA = lA.length ∧ nJ = lA.length + lG.length ∧ nl.length = lA.length + lG.length + lB.length ∧ nl.length ≤ 272) := Lib.hid ⟨hnA, hnJ, by rw [hl, List.length_append, List.length_append], by have := HO.out.2.2.1.2.2; rw [List.length_map] at this; have := HX.out.2.2; have := HN.out.2; omega⟩
      rw [← hnJ, ← hnA]; clear hl hGm hRm hAa hBa hbec hB hnA hnJ Hwx HHm2 HWd; obtain ⟨bec_, hbe⟩ : ∃ Y : WindowL, Y = bec := ⟨_, rfl⟩; rw [← hbe] at HHome; obtain ⟨bk, bl, bh⟩ := bec; have HBv : Hid (bec_ = ⟨bk, bl, bh⟩) := Lib.hid hbe
      iterate 15 go_step
      refine wpList_store_row rfl _ _ _ rfl w5.heap.size (WindowL.mk bk bl bh).cells rfl rfl 47 zeroW.cells (heap_alloc_new w5 _) window_size rfl (window_one _) ?_; obtain ⟨w6, hw6⟩ : ∃ Z, Z = (w5.alloc (Obj.cells #[.string ⟨#[]⟩, .int .i64 0, .int .i64 0] 47)).setRow w5.heap.size (WindowL.mk bk bl bh).cells := ⟨_, rfl⟩; obtain ⟨cb, hcb⟩ : ∃ b, b = w5.heap.size := ⟨_, rfl⟩
      have H6 : Hid (RowW w6 cb bec_ ∧ CmI w qb sb xb rb B Q m (.slice sa n sc) X (.slice (some ⟨pa, pof, none⟩) N wc) ws (.slice na nl.length nc) nl (.slice oa ol.length oc) ol w6) := by
        obtain ⟨k1, k2⟩ := stored_window w5 (WindowL.mk bk bl bh); rw [hw6, hcb, hbe]; exact Lib.hid ⟨k1, H5.out.below k2⟩
      rw [← hw6, ← hcb]
      have HBd3 : Hid (∀ w', RowW w' cb bec_ → D3 w' cb bk bl bh) := by rw [hbe]; exact Lib.hid (fun w' h => h.d3)
      clear hw6 hcb H5; obtain ⟨gn, hgn⟩ : ∃ r, r = goneW Q bec_ m := ⟨_, rfl⟩; obtain ⟨rp, hrp⟩ : ∃ r, r = ripeW bec_ m := ⟨_, rfl⟩
      have HGp : Hid (∀ w', Calls Tryz.prog 50 #[.agg #[.int .i64 kind, .int .i64 size, .int .i64 slide, .int .i64 late, .int .i64 agg, .int .i64 kq], .agg #[Sv bk, .int .i64 bl, .int .i64 bh], .int .i64 m] w' (Below0 w' (.bool gn))) := by
        have h := fun w' => HGo.out w' bec_ HHome.out.2.2.2.2.2.2; rw [← hgn, hbe] at h; exact Lib.hid h
      have HRp : Hid (∀ w', Calls Tryz.prog 51 #[.agg #[Sv bk, .int .i64 bl, .int .i64 bh], .int .i64 m] w' (Below0 w' (.bool rp))) := by
        have h := fun w' => HRi.out w' bec_ HHome.out.2.2.2.2.2.2; rw [← hrp, hbe] at h; exact Lib.hid h
      have HFl : Hid (gn = goneW Q bec_ m ∧ rp = ripeW bec_ m) := Lib.hid ⟨hgn, hrp⟩; clear hgn hrp hbe; obtain ⟨d0, d1, d2, d3, d4, d5⟩ := HQd.out w6 H6.out.2.1.1; obtain ⟨f0, f1, f2⟩ := HBd3.out w6 H6.out.1; obtain ⟨e0, e1⟩ := H6.out.2.1.2.1.d2
      cases gn with
      | true =>
        go_wp2_with (fail); refine (HGp.out w6).mono ?_; rintro e w7 ⟨rfl, hB⟩; have H7 := Lib.hid (H6.out.2.below hB); clear hB d0 d1 d2 d3 d4 d5 e0 e1 f0 f1 f2; dsimp only; go_wp2_with (fail)
        refine ⟨⟨i + 1, by rw [← HN.out.1]; exact HX.out.2.2, rfl, nl, ol, lt, rfl, by have := HO.out.1; omega, ?_, ?_, H7.out⟩, by rw [intOf_i, intOf_i]; have := HX.out.2.2; omega⟩
        · rw [winsQ_step HO.out.2.1 HX.out.2.1, winQ, ← HHome.out.2.2.2.2.2.1, ← HFl.out.1, if_pos rfl, if_pos rfl]
        · exact ⟨HO.out.2.2.1.1, HO.out.2.2.1.2.1, by have := HO.out.2.2.1.2.2; omega⟩
      | false =>
        go_wp2_with (fail); refine (HGp.out w6).mono ?_; rintro e w7 ⟨rfl, hB⟩; have H7 : Hid (RowW w7 cb bec_ ∧ CmI w qb sb xb rb B Q m (.slice sa n sc) X (.slice (some ⟨pa, pof, none⟩) N wc) ws (.slice na nl.length nc) nl (.slice oa ol.length oc) ol w7) := Lib.hid ⟨H6.out.1.below hB, H6.out.2.below hB⟩; clear hB d0 d1 d2 d3 d4 d5 e0 e1 f0 f1 f2 H6; dsimp only
        go_upto_region 9 with (fail)
        obtain ⟨gp, hgp⟩ : ∃ y, y = (grownQ Q bec_ (gaveP Q (nl.map PaneV.p) W_) X.value).1 := ⟨_, rfl⟩; obtain ⟨er, her⟩ : ∃ y, y = (grownQ Q bec_ (gaveP Q (nl.map PaneV.p) W_) X.value).2 := ⟨_, rfl⟩
        have HSt : Hid ((er ≠ 0 → winsQ Q m X.value ws c0 = ⟨[], [], false, er⟩) ∧ (er = 0 → 1073741824 < (fireP gp m).r → winsQ Q m X.value ws c0 = ⟨[], [], false, 20⟩) ∧
            (er = 0 → ¬ 1073741824 < (fireP gp m).r → comeOk Q (lA.map PaneV.p ++ fireP gp m :: lB.map PaneV.p) (256 + i + 1) ∧ winsQ Q m X.value ws c0 = winsQ Q m X.value (ws.drop (i + 1)) ⟨lA.map PaneV.p ++ fireP gp m :: lB.map PaneV.p, ol.map OutV.o ++ (if rp = true then [toldQ Q (fireP gp m)] else []), false, 0⟩) ∧
            (er = 0 → (0 ≤ gp.r ∧ gp.r ≤ 1073741824) ∧ gp.a.top.length ≤ 1000000 ∧ gp.w = bec_)) := by
          obtain ⟨k1, k2, k3, k4, k5, k6, k7⟩ := HHome.out; rw [HFl.out.2]; rw [k6] at hgp her ⊢
          exact Lib.hid (come_step HO.out.2.1 HX.out.2.1 HO.out.2.2.1 (HWs.out.2 W_ HX.out.1) (by rw [← k3, List.map_append]) (fun a ha => by obtain ⟨z, hz, rfl⟩ := List.mem_map.1 ha; rw [← k6]; exact k4 z hz) (fun a ha => by obtain ⟨z, hz, rfl⟩ := List.mem_map.1 ha; rw [← k6]; exact k5 z hz) (by rw [← k6]; exact HFl.out.1.symm) hgp her)
        obtain ⟨a5, c5, hsl, hA5⟩ := slice_gave (i := nA) (j := nJ) H7.out.2.2.2.1.1 (by have := HLen.out; omega) (by have := HLen.out; omega)
        have hG5 : (nl.take nJ).drop nA = lG := by
          obtain ⟨k1, k2, _, _⟩ := HLen.out
          rw [HHome.out.1, k1, k2, List.take_append_of_le_length (by rw [List.length_append]; omega), List.take_of_length_le (by rw [List.length_append]; omega), List.drop_left]
        rw [hG5] at hA5; obtain ⟨nG, hnG⟩ : ∃ k, k = nJ - nA := ⟨_, rfl⟩; rw [← hnG] at hsl
        have hnGl : nG = lG.length := by have := HLen.out; omega
        have HGw : Hid (∀ w', Below w7.heap.size w7 w' → Calls Tryz.prog 64 #[.agg #[.int .i64 kind, .int .i64 size, .int .i64 slide, .int .i64 late, .int .i64 agg, .int .i64 kq], .agg #[Sv bk, .int .i64 bl, .int .i64 bh], .slice a5 nG c5, .int .i64 v_] w' (GrownEnd w' gp er)) := by
          have hmem : ∀ y ∈ lG, y ∈ nl := fun y hy => by rw [HHome.out.1]; simp [hy]
          refine Lib.hid (fun w' h => ?_)
          have h2 := HGr2.out w' bec_ a5 c5 lG (hA5.below h) (fun y hy => (H7.out.2.2.2.1.2 y (hmem y hy)).1.below h) ⟨fun y hy => (HO.out.2.2.1.2.1 y.p (List.mem_map.2 ⟨y, hmem y hy, rfl⟩)).2, by have := HLen.out; omega⟩
          rw [HHome.out.2.1, ← hgp, ← her, ← hnGl, HBv.out] at h2; exact h2
        have HG0 : Hid (Below w7.heap.size w7 w7.drew) := Lib.hid (Below.refl _ w7).drew; have HQw : Hid (∀ w', Below w7.heap.size w7 w' → D6 w' qb kind size slide late agg kq) := Lib.hid (fun w' h => HQd.out w' (H7.out.2.1.1.below h)); have HCw : Hid (∀ w', Below w7.heap.size w7 w' → D3 w' cb bk bl bh) := Lib.hid (fun w' h => HBd3.out w' (H7.out.1.below h)); have HXw : Hid (∀ w', Below w7.heap.size w7 w' → DX w' xb xkd xk xt v_) := Lib.hid (fun w' h => HXd.out w' (H7.out.2.1.2.2.1.below h))
        have ALP : ∀ w', Below w7.heap.size w7 w' → ∃ b, Value.pointer (some ⟨w'.heap.size, 0, none⟩) = .pointer (some ⟨b, 0, none⟩) ∧ w7.heap.size ≤ b ∧ (if 1 ≤ 1 then RowP (w'.alloc (.cells zeroPV.cells 55)) b zeroPV else ∃ Y : PaneV, RowP (w'.alloc (.cells zeroPV.cells 55)) b Y ∧ CmY w7.heap.size gp (w'.alloc (.cells zeroPV.cells 55)) Y) := fun w' h => ⟨_, rfl, h.size, heap_alloc_new w' _⟩
        clear hgp her hA5 hG5 hnG hnGl
        refine wp_region_skipA (fun i => ([] : List Nat).contains i) (by kernel_rfl) [none, none, none, none, none, none, none, none, none, none, none, none, some 0, some 1, none] [12, 13] (VLs ((Value.agg #[.int .i64 kind, .int .i64 size, .int .i64 slide, .int .i64 late, .int .i64 agg, .int .i64 kq]) :: (Value.agg #[Sv bk, .int .i64 bl, .int .i64 bh]) :: (Value.slice na nl.length nc) :: (Value.int .i64 (nA : Int)) :: (Value.int .i64 (nJ : Int)) :: (Value.slice a5 nG c5) :: (Value.pointer (some ⟨xb, 3, none⟩)) :: (Value.int .i64 v_) :: undef :: undef :: undef :: (Value.int .i64 er) :: undef :: undef :: (Value.int .i64 er) :: ([] : List Value)) (CmL w7.heap.size gp er)) (fun _ w' => Below w7.heap.size w7 w') (fun w w' => Below w.heap.size w w') (VLs_le _ _ CmL_le) (by kernel_rfl) (by kernel_rfl) (by kernel_rfl) HG0.out (fun _ => ⟨rfl, rfl, rfl, rfl, rfl, rfl, rfl, rfl, rfl, rfl, rfl, rfl, rfl, rfl, rfl, trivial⟩) (fun _ h => by simp at h) ?_ ?_
        · refine ⟨?_, ?_, ?_, ?_, ?_, ?_, ?_, ?_, ?_, ?_, ?_, ?_, ?_, ?_, ?_, trivial⟩
          · intro _ _ a w' hG hout hpre K hK; have q3 := ev_of ((hout 3 rfl).trans (show _ = .pointer (some ⟨qb, 0, none⟩) from rfl)); obtain ⟨d0, d1, d2, d3, d4, d5⟩ := HQw.out w' hG; clear hout hpre; go_step; exact hK _ _ rfl hG (Below.refl _ _)
          · intro _ _ a w' hG hout hpre K hK; have q14 := ev_of ((hout 14 rfl).trans (show _ = .pointer (some ⟨cb, 0, none⟩) from rfl)); obtain ⟨f0, f1, f2⟩ := HCw.out w' hG; clear hout hpre; go_step; exact hK _ _ rfl hG (Below.refl _ _)
          · intro _ _ a w' hG hout hpre K hK; have q9 := ev_of ((hout 9 rfl).trans (show _ = .slice na nl.length nc from rfl)); clear hout hpre; go_step; exact hK _ _ rfl hG (Below.refl _ _)
          · intro _ _ a w' hG hout hpre K hK; have q15 := ev_of ((hout 15 rfl).trans (show _ = .int .i64 (nA : Int) from rfl)); clear hout hpre; go_step; exact hK _ _ rfl hG (Below.refl _ _)
          · intro _ _ a w' hG hout hpre K hK; have q16 := ev_of ((hout 16 rfl).trans (show _ = .int .i64 (nJ : Int) from rfl)); clear hout hpre; go_step; exact hK _ _ rfl hG (Below.refl _ _)
          · intro _ _ a w' hG hout hpre K hK; obtain ⟨p0, p1, p2, _⟩ := hpre; have q49 := ev_of (show a.eval (.tmp 49) = .slice na nl.length nc from p0); have q50 := ev_of (show a.eval (.tmp 50) = .int .i64 (nA : Int) from p1); have q51 := ev_of (show a.eval (.tmp 51) = .int .i64 (nJ : Int) from p2); clear hout p0 p1 p2; go_step; exact hK _ _ rfl hG (Below.refl _ _)
          · intro _ _ a w' hG hout hpre K hK; have q5 := ev_of ((hout 5 rfl).trans (show _ = .pointer (some ⟨xb, 0, none⟩) from rfl)); clear hout hpre; go_step; exact hK _ _ rfl hG (Below.refl _ _)
          · intro _ _ a w' hG hout hpre K hK; obtain ⟨p0, _⟩ := hpre; have q53 := ev_of (show a.eval (.tmp 53) = .pointer (some ⟨xb, 3, none⟩) from p0); obtain ⟨x0, x1, x2, x3⟩ := HXw.out w' hG; clear hout p0; go_step; exact hK _ _ rfl hG (Below.refl _ _)
          · intro _ _ a w' hG hout hpre K hK; obtain ⟨p0, p1, p2, p3, _⟩ := hpre; have q47 := ev_of (show a.eval (.tmp 47) = .agg #[.int .i64 kind, .int .i64 size, .int .i64 slide, .int .i64 late, .int .i64 agg, .int .i64 kq] from p0); have q48 := ev_of (show a.eval (.tmp 48) = .agg #[Sv bk, .int .i64 bl, .int .i64 bh] from p1); have q52 := ev_of (show a.eval (.tmp 52) = .slice a5 nG c5 from p2); have q54 := ev_of (show a.eval (.tmp 54) = .int .i64 v_ from p3); clear hout p0 p1 p2 p3; have HS := Lib.hid (HGw.out w' hG); go_step; refine HS.out.mono ?_; rintro e w3 ⟨Y, hYp, rfl, hYg, hB, hYn⟩; exact hK _ _ ⟨Y, rfl, hYp, hYg, fun a n c e => Nat.le_trans hG.size (hYn a n c e)⟩ (hG.trans (hB.mono hG.size)) hB
          · intro _ _ a w' hG hout hpre K hK; obtain ⟨p0, _⟩ := hpre; obtain ⟨Y, hv, hY⟩ := (show ∃ Y : PaneV, a.eval (.tmp 55) = .tuple #[.agg Y.cells, .int .i64 er] ∧ CmY w7.heap.size gp w' Y from p0); have q55 := ev_of hv; clear hout ; clear hv; go_step; exact hK _ _ ⟨Y, rfl, hY⟩ hG (Below.refl _ _)
          · intro _ _ a w' hG hout hpre K hK; obtain ⟨p0, _⟩ := hpre; obtain ⟨Y, hv, hY⟩ := (show ∃ Y : PaneV, a.eval (.tmp 46) = .tuple #[.agg Y.cells, .int .i64 er] ∧ CmY w7.heap.size gp w' Y from p0); have q46 := ev_of hv; clear hout ; clear hv; go_step; exact hK _ _ ⟨Y, rfl, hY⟩ hG (Below.refl _ _)
          · intro _ _ a w' hG hout hpre K hK; obtain ⟨p0, _⟩ := hpre; obtain ⟨Y, hv, hY⟩ := (show ∃ Y : PaneV, a.eval (.tmp 46) = .tuple #[.agg Y.cells, .int .i64 er] ∧ CmY w7.heap.size gp w' Y from p0); have q46 := ev_of hv; clear hout ; clear hv; go_step; exact hK _ _ rfl hG (Below.refl _ _)
          · intro _ a w' hG hout hpre K hK; clear hout hpre; go_step; exact hK _ _ (ALP w' hG) (hG.trans (((Below.refl _ w').alloc (Nat.le_refl _) _).mono hG.size)) (VLs_keep _ (CmL_keep0 ((Below.refl _ w').alloc (Nat.le_refl _) _)))
          · intro _ a w' hG hout hpre K hK; obtain ⟨p0, p1, _⟩ := hpre
            obtain ⟨b, hv, hbB, hrow⟩ := (show ∃ b, a.eval (.tmp 17) = .pointer (some ⟨b, 0, none⟩) ∧ w7.heap.size ≤ b ∧ (if 1 ≤ 1 then RowP w' b zeroPV else ∃ Y : PaneV, RowP w' b Y ∧ CmY w7.heap.size gp w' Y) from p0)
            obtain ⟨Y, hv2, hY⟩ := (show ∃ Y : PaneV, a.eval (.tmp 56) = .agg Y.cells ∧ CmY w7.heap.size gp w' Y from p1); rw [if_pos (Nat.le_refl 1)] at hrow; refine wp_storeP (.tmp 17) (.tmp 56) rfl b Y zeroPV hv hv2 hrow ?_; have hg := grown_setRow w' b Y.cells; have hr2 : RowP (w'.setRow b Y.cells) b Y := setRow_heap _ _ _ _ _ _ hrow
            exact hK _ _ rfl (hG.trans ⟨hg.os, hg.tape, hg.output, hg.size, fun k hk => hg.block k (by have := hG.size; omega) (by simp; omega)⟩) (VLs_keep _ (CmL_keep rfl hv hrow hbB hg hr2 (hY.store hrow hg)))
          · intro _ _ a w' hG hout hpre K hK; obtain ⟨p0, _⟩ := hpre; have q57 := ev_of (show a.eval (.tmp 57) = .int .i64 er from p0); clear hout p0; go_step; exact hK _ _ rfl hG (Below.refl _ _)
        · intro vs w8 hG hlen hV
          match vs, hlen, hV with
          | [v0, v1, v2, v3, v4, v5, v6, v7, v8, v9, v10, v11, v12, v13, v14], _, hV =>
            obtain ⟨pb, hvb, hpb, hrow⟩ := (show ∃ b, v12 = .pointer (some ⟨b, 0, none⟩) ∧ w7.heap.size ≤ b ∧ (if 2 ≤ 1 then RowP w8 b zeroPV else ∃ Y : PaneV, RowP w8 b Y ∧ CmY w7.heap.size gp w8 Y) from hV 12 17 v12 rfl rfl)
            obtain rfl : v14 = .int .i64 er := hV 14 18 v14 rfl rfl
            rw [if_neg (by decide)] at hrow
            obtain ⟨Y, hrow, hY⟩ := hrow; subst hvb; clear hV; have H8 : Hid (RowW w8 cb bec_ ∧ CmI w qb sb xb rb B Q m (.slice sa n sc) X (.slice (some ⟨pa, pof, none⟩) N wc) ws (.slice na nl.length nc) nl (.slice oa ol.length oc) ol w8 ∧ RowP w8 pb Y ∧ CmY w7.heap.size gp w8 Y ∧ w7.heap.size ≤ pb) := Lib.hid ⟨H7.out.1.below hG, H7.out.2.below hG, hrow, hY, hpb⟩; clear hrow hY hpb hG hsl ALP HG0 HGw; simp only [putsL, List.tail_cons, List.headD_cons]; simp only [Act.put, List.setIfInBounds_toArray, List.set_cons_succ, List.set_cons_zero]
            by_cases he : er = 0
            · have HSt2 := Lib.hid (HSt.out.2.2.1 he); have HOv := Lib.hid (HSt.out.2.1 he); have HGp2 := Lib.hid (HSt.out.2.2.2 he); subst he; clear HSt; obtain ⟨e0, e1⟩ := H8.out.2.1.1.2.1.d2; obtain ⟨f0, f1, f2⟩ := HBd3.out w8 H8.out.1
              go_upto_region 12 with (fail)
              obtain ⟨Y_, hYe⟩ : ∃ y : PaneV, y = Y := ⟨_, rfl⟩; rw [← hYe] at H8; obtain ⟨⟨⟨yk, yl, yh⟩, ⟨yn, ya, yt, yu, yv⟩, yr⟩, ytv, yz, yht, yhz⟩ := Y
              have HYr : Hid (0 ≤ yr ∧ yr ≤ 1073741824) := by
                have h := HGp2.out.1; rw [← H8.out.2.2.2.1.1, hYe] at h; exact Lib.hid h
              have hyr := HYr.out
              cases rp with
              | false =>
                go_wp2_with (fail); refine (HRp.out w8).mono ?_; rintro e w9 ⟨rfl, hB⟩; have H9 : Hid (CmI w qb sb xb rb B Q m (.slice sa n sc) X (.slice (some ⟨pa, pof, none⟩) N wc) ws (.slice na nl.length nc) nl (.slice oa ol.length oc) ol w9 ∧ RowP w9 pb Y_ ∧ GoodP w9 Y_) := Lib.hid ⟨H8.out.2.1.below hB, H8.out.2.2.1.below hB, H8.out.2.2.2.1.2.1.below hB⟩; clear hB e0 e1 f0 f1 f2; dsimp only; have HYe : Hid (Y_ = (PaneV.mk ⟨⟨yk, yl, yh⟩, ⟨yn, ya, yt, yu, yv⟩, yr⟩ ytv yz yht yhz)) := Lib.hid hYe
                have HYd : Hid (∀ w', RowP w' pb Y_ → D8 w' pb (PaneV.mk ⟨⟨yk, yl, yh⟩, ⟨yn, ya, yt, yu, yv⟩, yr⟩ ytv yz yht yhz)) := by rw [hYe]; exact Lib.hid (fun w' h => h.d8)
                have HFp : Hid (fireP gp m = Y_.p) := by
                  unfold fireP
                  rw [if_neg (by rw [HGp2.out.2.2, ← HFl.out.2]; decide)]
                  exact Lib.hid H8.out.2.2.2.1.1.symm
                clear hYe; obtain ⟨g0, g1, g2, g3, g4, g5, g6, g7⟩ := HYd.out w9 H9.out.2.1
                go_upto_region 17 with (fail)
                clear g0 g1 g2 g3 g4 g5 g6 g7; obtain ⟨g0, g1, g2, g3, g4, g5, g6, g7⟩ := HYd.out w9 H9.out.2.1
                go_upto_region 17 with (fail)
                refine wp_region_lit ?_
                iterate 12 go_step
                refine wpList_slice1_P rfl (.tmp 83) rfl Y_ (by show _ = Value.agg (PaneV.cells _); rw [HYe.out]; rfl) ?_
                have hBn : Below w9.heap.size w9 (w9.alloc (.cells (PaneV.cells Y_) 55)) := (Below.refl _ w9).alloc (Nat.le_refl _) _; obtain ⟨wn, hwn⟩ : ∃ W, W = w9.alloc (.cells (PaneV.cells Y_) 55) := ⟨_, rfl⟩; obtain ⟨nb, hnb⟩ : ∃ b, b = w9.heap.size := ⟨_, rfl⟩
                have hrow : RowP wn nb Y_ := by rw [hwn, hnb]; exact heap_alloc_new w9 _
                rw [← hwn] at hBn
                have Hn : Hid (CmI w qb sb xb rb B Q m (.slice sa n sc) X (.slice (some ⟨pa, pof, none⟩) N wc) ws (.slice na nl.length nc) nl (.slice oa ol.length oc) ol wn ∧ RowP wn nb Y_ ∧ GoodP wn Y_ ∧ ((.slice na nl.length nc) : Value).ownBlock ≠ some nb) := Lib.hid ⟨H9.out.1.below hBn, hrow, H9.out.2.2.below hBn, by rw [hnb]; exact (H9.out.1.off (Nat.le_refl _)).2.1⟩
                rw [← hwn, ← hnb]; clear hwn hnb hBn hrow g0 g1 g2 g3 g4 g5 g6 g7
                have HRep : Hid (Calls Tryz.prog 66 #[(.slice na nl.length nc), .int .i64 (nA : Int), .int .i64 (nJ : Int), .slice (some ⟨nb, 0, none⟩) 1 1] wn (InsEnd wn B (.slice na nl.length nc) (nl.take nA ++ [Y_] ++ nl.drop nJ))) := by
                  have hl := HLen.out; have hs := Hn.out.1.2.2.2.2.1.size
                  exact Lib.hid (replaceP_any wn B nA nJ nb _ nl Y_ Hn.out.1.2.2.1.1 Hn.out.2.1 Hn.out.2.2.2 (by omega) (by omega) (by have := OwnW.lt Hn.out.1.2.1 (k := pa) rfl; omega) (by omega))
                refine wpList_plain rfl fun K' hK' => ?_; go_step; refine HRep.out.mono ?_; rintro e wl ⟨nv', rfl, k1, k2, k3⟩; refine hK' _ _ ?_; clear hK'
                have HZ : Hid (CmI w qb sb xb rb B Q m (.slice sa n sc) X (.slice (some ⟨pa, pof, none⟩) N wc) ws nv' (lA ++ [Y_] ++ lB) (.slice oa ol.length oc) ol wl) := by
                  have h1 : nl.take nA = lA := by rw [HHome.out.1, HLen.out.1, List.append_assoc, List.take_left]
                  have h2 : nl.drop nJ = lB := by rw [HHome.out.1, HLen.out.2.1, ← List.length_append, List.drop_left]
                  rw [h1, h2] at k1; refine Lib.hid (Hn.out.1.repl HBd.out.1 (y := Y_) (fun z hz => ?_) Hn.out.2.2.1 (fun a n c e _ => (H7.out.2.off (H8.out.2.2.2.1.2.2 a n c e)).2) k1 k2 k3); rw [HHome.out.1]; simp only [List.mem_append, List.mem_singleton] at hz ⊢
                  rcases hz with (hz | hz) | hz
                  · exact .inl (.inl (.inl hz))
                  · exact .inr hz
                  · exact .inl (.inr hz)
                clear k1 k2 k3; go_wp2_with (fail)
                refine ⟨⟨i + 1, by rw [← HN.out.1]; exact HX.out.2.2, rfl, lA ++ [Y_] ++ lB, ol, false, rfl, (by have := HO.out.1; omega), ?_, ?_, HZ.out⟩, by rw [intOf_i, intOf_i]; have := HX.out.2.2; omega⟩
                · have h := (HSt2.out (by rw [HFp.out, HYe.out]; first | exact HYr.out.2 | exact Int.not_lt.2 HYr.out.2)).2
                  rw [HFp.out, if_neg (by decide), List.append_nil] at h
                  rw [h]; simp only [List.map_append, List.map_cons, List.append_assoc, List.cons_append, List.nil_append]
                · have h := (HSt2.out (by rw [HFp.out, HYe.out]; first | exact HYr.out.2 | exact Int.not_lt.2 HYr.out.2)).1
                  rw [HFp.out] at h; simp only [List.map_append, List.map_cons, List.append_assoc, List.cons_append, List.nil_append]; exact h
              | true =>
                go_wp2_with (fail); refine (HRp.out w8).mono ?_; rintro e w9 ⟨rfl, hB⟩; have H9 : Hid (CmI w qb sb xb rb B Q m (.slice sa n sc) X (.slice (some ⟨pa, pof, none⟩) N wc) ws (.slice na nl.length nc) nl (.slice oa ol.length oc) ol w9 ∧ RowP w9 pb Y_ ∧ GoodP w9 Y_) := Lib.hid ⟨H8.out.2.1.below hB, H8.out.2.2.1.below hB, H8.out.2.2.2.1.2.1.below hB⟩; clear hB e0 e1 f0 f1 f2; dsimp only
                have HYd0 : Hid (∀ w', RowP w' pb Y_ → D8 w' pb (PaneV.mk ⟨⟨yk, yl, yh⟩, ⟨yn, ya, yt, yu, yv⟩, yr⟩ ytv yz yht yhz)) := by rw [hYe]; exact Lib.hid (fun w' h => h.d8)
                obtain ⟨g0, g1, g2, g3, g4, g5, g6, g7⟩ := HYd0.out w9 H9.out.2.1
                go_upto_region 13 with (fail)
                refine wp_region_lit ?_
                iterate 12 go_step
                refine wpList_store1 rfl _ (.tmp 69) (.tmp 68) rfl ⟨pb, 7, none⟩ (.int .i64 (yr + 1)) (.int .i64 yr) rfl rfl rfl rfl Tryz.sizeOf3 g7 (RowP.fro H9.out.2.1 7) ?_; obtain ⟨w10, hw10⟩ : ∃ W, W = w9.setCell ⟨pb, 7, none⟩ (.int .i64 (yr + 1)) := ⟨_, rfl⟩; obtain ⟨Z_, hZ⟩ : ∃ z : PaneV, z = ⟨⟨Y_.p.w, Y_.p.a, yr + 1⟩, Y_.tv, Y_.z, Y_.ht, Y_.hz⟩ := ⟨_, rfl⟩
                have H10 : Hid (CmI w qb sb xb rb B Q m (.slice sa n sc) X (.slice (some ⟨pa, pof, none⟩) N wc) ws (.slice na nl.length nc) nl (.slice oa ol.length oc) ol w10 ∧ RowP w10 pb Z_ ∧ GoodP w10 Z_) := by
                  have hg : w9.grownBy w10 (some pb) := by rw [hw10]; exact grown_setCell _ _ _ _
                  have hG := GoodP.store H9.out.2.2 H9.out.2.1 hg
                  refine Lib.hid ⟨H9.out.1.set HBd.out.1 (by have := OwnW.lt H7.out.2.2.1 (k := pa) rfl; have := H8.out.2.2.2.2; omega) H9.out.2.1 (H7.out.2.off H8.out.2.2.2.2) hg, by rw [hZ, hw10]; exact H9.out.2.1.setR _, ?_⟩
                  rw [hZ]; exact ⟨hG.1, hG.2⟩
                have HFp : Hid (fireP gp m = Z_.p) := by
                  have hp := H8.out.2.2.2.1.1
                  have hr : gp.r = yr := by rw [← hp, hYe]
                  unfold fireP
                  rw [if_pos (by rw [HGp2.out.2.2]; exact HFl.out.2.symm), hZ, ← hr, hp]
                  exact Lib.hid rfl
                have HYe : Hid (Z_ = (PaneV.mk ⟨⟨yk, yl, yh⟩, ⟨yn, ya, yt, yu, yv⟩, (yr + 1)⟩ ytv yz yht yhz)) := by rw [hZ, hYe]; exact Lib.hid rfl
                have HYd : Hid (∀ w', RowP w' pb Z_ → D8 w' pb (PaneV.mk ⟨⟨yk, yl, yh⟩, ⟨yn, ya, yt, yu, yv⟩, (yr + 1)⟩ ytv yz yht yhz)) := by rw [HYe.out]; exact Lib.hid (fun w' h => h.d8)
                have HZt : Hid (Z_.tv = Y_.tv ∧ Z_.p.a.top.length ≤ 1000000) := by
                  rw [hZ]; refine Lib.hid ⟨rfl, ?_⟩
                  show Y_.p.a.top.length ≤ 1000000
                  rw [H8.out.2.2.2.1.1]; exact HGp2.out.2.1
                rw [← hw10]; clear hw10 hZ hYe g0 g1 g2 g3 g4 g5 g6 g7 H9 HYd0
                have HT : Hid (Calls Tryz.prog 65 #[.agg #[.int .i64 kind, .int .i64 size, .int .i64 slide, .int .i64 late, .int .i64 agg, .int .i64 kq], .agg #[Sv yk, .int .i64 yl, .int .i64 yh, .int .i64 yn, .int .i64 ya, ytv, yz, .int .i64 (yr + 1)]] w10 (OutEnd w10 (toldQ Q Z_.p))) := by
                  have h := HTo.out w10 Z_ H10.out.2.2 HZt.out.2; rw [HYe.out] at h ⊢; exact Lib.hid h
                obtain ⟨d0, d1, d2, d3, d4, d5⟩ := HQd.out w10 H10.out.1.1.1; obtain ⟨g0, g1, g2, g3, g4, g5, g6, g7⟩ := HYd.out w10 H10.out.2.1
                go_upto_region 14 with (fail)
                refine wp_region_lit ?_
                iterate 9 go_step
                refine wpList_plain rfl fun K' hK' => ?_; go_step; refine HT.out.mono ?_; rintro e w11 ⟨tv, ht, rfl, hI, hB, hNw⟩; refine hK' _ _ ?_; clear hK' d0 d1 d2 d3 d4 d5 g0 g1 g2 g3 g4 g5 g6 g7; obtain ⟨O, hOe⟩ : ∃ O : OutV, O = ⟨toldQ Q Z_.p, tv, ht⟩ := ⟨_, rfl⟩; rw [← hOe]; refine wpList_slice1_O rfl (.tmp 73) rfl O rfl ?_; have hB6 : Below w11.heap.size w11 (w11.alloc (.cells O.cells 50)) := (Below.refl _ w11).alloc (Nat.le_refl _) _; obtain ⟨w12, hw12⟩ : ∃ W, W = w11.alloc (.cells O.cells 50) := ⟨_, rfl⟩; obtain ⟨ob, hob⟩ : ∃ b, b = w11.heap.size := ⟨_, rfl⟩
                have hrow : RowO w12 ob O := by rw [hw12, hob]; exact heap_alloc_new w11 _
                rw [← hw12] at hB6
                have H12 : Hid (CmI w qb sb xb rb B Q m (.slice sa n sc) X (.slice (some ⟨pa, pof, none⟩) N wc) ws (.slice na nl.length nc) nl (.slice oa ol.length oc) ol w12 ∧ RowP w12 pb Z_ ∧ GoodP w12 Z_ ∧ RowO w12 ob O ∧ GoodO w12 O ∧ O.o = toldQ Q Z_.p ∧ ∀ a n c, O.tv = .slice (some a) n c → w10.heap.size ≤ a.block) := by
                  have hb := hB.trans (hB6.mono hB.size)
                  refine Lib.hid ⟨H10.out.1.below hb, H10.out.2.1.below hb, H10.out.2.2.below hb, hrow, ?_, by rw [hOe], by rw [hOe]; exact hNw⟩
                  rw [hOe]; exact hI.below hB6
                have HOo := Lib.hid H12.out.2.2.2.2.2.1; rw [← hw12, ← hob]; clear hw12 hob hB6 hB hI hNw hOe hrow
                refine wpList_pushO rfl (.tmp 70) (.tmp 74) rfl B _ ol rfl H12.out.1.2.2.2.1.1 O ob rfl (fun j z hz => H12.out.2.2.2.1.cell j hz) (by have := HO.out.1; have := HX.out.2.2; omega) (by have := OwnW.lt H12.out.1.2.1 (k := pa) rfl; omega) ?_
                intro v7 w13 g1 g2 g3
                have H13 : Hid (CmI w qb sb xb rb B Q m (.slice sa n sc) X (.slice (some ⟨pa, pof, none⟩) N wc) ws (.slice na nl.length nc) nl v7 (ol ++ [O]) w13 ∧ RowP w13 pb Z_ ∧ GoodP w13 Z_) := by
                  refine Lib.hid ⟨H12.out.1.out HBd.out.1 H12.out.2.2.2.2.1 (fun a n c e _ => (H10.out.1.off (H12.out.2.2.2.2.2.2 a n c e)).2) g1 g2 g3, grown_row g2 H12.out.2.1 (fun e => (H7.out.2.off H8.out.2.2.2.2).2.2 e.symm), ⟨IntsAt.grownR H12.out.2.2.1.1 g2 (fun a n c e hn => (H7.out.2.off (H8.out.2.2.2.1.2.2 a n c (by rw [← HZt.out.1]; exact e))).2.2), H12.out.2.2.1.2⟩⟩
                have HOv7 : Hid (∀ a n c, Z_.tv = .slice (some a) n c → Z_.p.a.top ≠ [] → ((.slice na nl.length nc) : Value).ownBlock ≠ some a.block ∧ v7.ownBlock ≠ some a.block) := by
                  refine Lib.hid (fun a n c e hn => ?_)
                  have h := (H7.out.2.off (H8.out.2.2.2.1.2.2 a n c (by rw [← HZt.out.1]; exact e))).2
                  refine ⟨h.1, fun he => ?_⟩
                  rcases g3 with g3 | g3
                  · rw [g3] at he; exact h.2 he
                  · rw [g3] at he; have := IntsAt.lt H12.out.2.2.1.1 e hn; have he' := Option.some.inj he; omega
                clear g1 g2 g3; obtain ⟨g0, g1, g2, g3, g4, g5, g6, g7⟩ := HYd.out w13 H13.out.2.1
                by_cases hov : 1073741824 < yr + 1
                · have HW9 : Hid (winsQ Q m X.value ws c0 = ⟨[], [], false, 20⟩) := Lib.hid (HOv.out (by rw [HFp.out, HYe.out]; exact hov))
                  go_upto_region 16 with (fail)
                  clear g0 g1 g2 g3 g4 g5 g6 g7; refine wp_region_lit ?_
                  iterate 0 go_step
                  refine wpList_build_on (by kernel_rfl) 29 _ rfl #[.int .i64 0, .slice none 0 0] (by first | exact built_state0 | (simp only [List.map_toArray, List.map_nil]; exact built_state0) | kernel_rfl) ?_
                  iterate 0 go_step
                  refine wpList_store_row rfl _ _ _ rfl rb #[.int .i64 0, .slice none 0 0] rfl rfl 29 #[.int .i64 0, nilV] H13.out.1.1.2.2.2 state_size rfl (state_one rfl) ?_; obtain ⟨wz, hwz⟩ : ∃ W, W = w13.setRow rb #[.int .i64 0, .slice none 0 0] := ⟨_, rfl⟩
                  have HZ : Hid (RowS wz rb 0 nilV ∧ P (.returned (.tuple #[.agg #[.int .i64 0, .slice none 0 0], .slice none 0 0, .int .i64 20])) wz) := by
                    have hg : w13.grownBy wz (some rb) := by rw [hwz]; exact grown_setRow _ _ _
                    have hB := H13.out.1.2.2.2.2.1
                    exact Lib.hid ⟨by rw [hwz]; exact RowS.reset H13.out.1.1.2.2.2 0 _, HErr.out wz ⟨[], [], false, 20⟩ HW9.out (by decide) (hB.trans (below_set hg HBd.out.2.1 hB.size))⟩
                  rw [← hwz]; clear hwz; go_wp2_with (fail); exact bodyPost_ret (v := .tuple #[.agg #[.int .i64 0, .slice none 0 0], .slice none 0 0, .int .i64 20]) ((results_cell_tmp_tmp (p := 6) (s := 7) (u := 8) (ty := 29) rfl _ _ rb 29 #[.int .i64 0, .slice none 0 0] (0, 0) _ rfl HZ.out.1 Tryz.underlying29 rfl state_size).trans rfl) rfl HZ.out.2
                · go_upto_region 17 with (fail)
                  clear g0 g1 g2 g3 g4 g5 g6 g7; obtain ⟨g0, g1, g2, g3, g4, g5, g6, g7⟩ := HYd.out w13 H13.out.2.1
                  go_upto_region 17 with (fail)
                  refine wp_region_lit ?_
                  iterate 12 go_step
                  refine wpList_slice1_P rfl (.tmp 83) rfl Z_ (by show _ = Value.agg (PaneV.cells _); rw [HYe.out]; rfl) ?_
                  have hBn : Below w13.heap.size w13 (w13.alloc (.cells (PaneV.cells Z_) 55)) := (Below.refl _ w13).alloc (Nat.le_refl _) _; obtain ⟨wn, hwn⟩ : ∃ W, W = w13.alloc (.cells (PaneV.cells Z_) 55) := ⟨_, rfl⟩; obtain ⟨nb, hnb⟩ : ∃ b, b = w13.heap.size := ⟨_, rfl⟩
                  have hrow : RowP wn nb Z_ := by rw [hwn, hnb]; exact heap_alloc_new w13 _
                  rw [← hwn] at hBn
                  have Hn : Hid (CmI w qb sb xb rb B Q m (.slice sa n sc) X (.slice (some ⟨pa, pof, none⟩) N wc) ws (.slice na nl.length nc) nl v7 (ol ++ [O]) wn ∧ RowP wn nb Z_ ∧ GoodP wn Z_ ∧ ((.slice na nl.length nc) : Value).ownBlock ≠ some nb) := Lib.hid ⟨H13.out.1.below hBn, hrow, H13.out.2.2.below hBn, by rw [hnb]; exact (H13.out.1.off (Nat.le_refl _)).2.1⟩
                  rw [← hwn, ← hnb]; clear hwn hnb hBn hrow g0 g1 g2 g3 g4 g5 g6 g7
                  have HRep : Hid (Calls Tryz.prog 66 #[(.slice na nl.length nc), .int .i64 (nA : Int), .int .i64 (nJ : Int), .slice (some ⟨nb, 0, none⟩) 1 1] wn (InsEnd wn B (.slice na nl.length nc) (nl.take nA ++ [Z_] ++ nl.drop nJ))) := by
                    have hl := HLen.out; have hs := Hn.out.1.2.2.2.2.1.size
                    exact Lib.hid (replaceP_any wn B nA nJ nb _ nl Z_ Hn.out.1.2.2.1.1 Hn.out.2.1 Hn.out.2.2.2 (by omega) (by omega) (by have := OwnW.lt Hn.out.1.2.1 (k := pa) rfl; omega) (by omega))
                  refine wpList_plain rfl fun K' hK' => ?_; go_step; refine HRep.out.mono ?_; rintro e wl ⟨nv', rfl, k1, k2, k3⟩; refine hK' _ _ ?_; clear hK'
                  have HZ : Hid (CmI w qb sb xb rb B Q m (.slice sa n sc) X (.slice (some ⟨pa, pof, none⟩) N wc) ws nv' (lA ++ [Z_] ++ lB) v7 (ol ++ [O]) wl) := by
                    have h1 : nl.take nA = lA := by rw [HHome.out.1, HLen.out.1, List.append_assoc, List.take_left]
                    have h2 : nl.drop nJ = lB := by rw [HHome.out.1, HLen.out.2.1, ← List.length_append, List.drop_left]
                    rw [h1, h2] at k1; refine Lib.hid (Hn.out.1.repl HBd.out.1 (y := Z_) (fun z hz => ?_) Hn.out.2.2.1 HOv7.out k1 k2 k3); rw [HHome.out.1]; simp only [List.mem_append, List.mem_singleton] at hz ⊢
                    rcases hz with (hz | hz) | hz
                    · exact .inl (.inl (.inl hz))
                    · exact .inr hz
                    · exact .inl (.inr hz)
                  clear k1 k2 k3; go_wp2_with (fail)
                  refine ⟨⟨i + 1, by rw [← HN.out.1]; exact HX.out.2.2, rfl, lA ++ [Z_] ++ lB, ol ++ [O], false, rfl, (by rw [List.length_append, List.length_singleton]; have := HO.out.1; omega), ?_, ?_, HZ.out⟩, by rw [intOf_i, intOf_i]; have := HX.out.2.2; omega⟩
                  · have h := (HSt2.out (by rw [HFp.out, HYe.out]; first | exact hov | exact Int.not_lt.1 hov)).2
                    rw [HFp.out, if_pos (by trivial), ← HOo.out] at h
                    rw [h]; simp only [List.map_append, List.map_cons, List.map_nil, List.append_assoc, List.cons_append, List.nil_append]
                  · have h := (HSt2.out (by rw [HFp.out, HYe.out]; first | exact hov | exact Int.not_lt.1 hov)).1
                    rw [HFp.out] at h; simp only [List.map_append, List.map_cons, List.append_assoc, List.cons_append, List.nil_append]; exact h
            · have he' : (er == 0) = false := by simpa using he
              have HW8 : Hid (winsQ Q m X.value ws c0 = ⟨[], [], false, er⟩) := Lib.hid (HSt.out.1 he); have HNe := Lib.hid he; clear he HSt
              go_upto_region 11 with (fail)
              refine wp_region_lit ?_
              iterate 0 go_step
              refine wpList_build_on (by kernel_rfl) 29 _ rfl #[.int .i64 0, .slice none 0 0] (by first | exact built_state0 | (simp only [List.map_toArray, List.map_nil]; exact built_state0) | kernel_rfl) ?_
              iterate 3 go_step
              refine wpList_store_row rfl _ _ _ rfl rb #[.int .i64 0, .slice none 0 0] rfl rfl 29 #[.int .i64 0, nilV] H8.out.2.1.1.2.2.2 state_size rfl (state_one rfl) ?_; obtain ⟨wz, hwz⟩ : ∃ W, W = w8.setRow rb #[.int .i64 0, .slice none 0 0] := ⟨_, rfl⟩
              have HZ : Hid (RowS wz rb 0 nilV ∧ P (.returned (.tuple #[.agg #[.int .i64 0, .slice none 0 0], .slice none 0 0, .int .i64 er])) wz) := by
                have hg : w8.grownBy wz (some rb) := by rw [hwz]; exact grown_setRow _ _ _
                have hB := H8.out.2.1.2.2.2.2.1
                exact Lib.hid ⟨by rw [hwz]; exact RowS.reset H8.out.2.1.1.2.2.2 0 _, HErr.out wz ⟨[], [], false, er⟩ HW8.out HNe.out (hB.trans (below_set hg HBd.out.2.1 hB.size))⟩
              rw [← hwz]; clear hwz; go_wp2_with (fail); exact bodyPost_ret (v := .tuple #[.agg #[.int .i64 0, .slice none 0 0], .slice none 0 0, .int .i64 er]) ((results_cell_tmp_tmp (p := 6) (s := 7) (u := 8) (ty := 29) rfl _ _ rb 29 #[.int .i64 0, .slice none 0 0] (0, 0) _ rfl HZ.out.1 Tryz.underlying29 rfl state_size).trans rfl) rfl HZ.out.2
    · obtain rfl : i = N := by omega
      clear hlt hi
      have HE := Lib.hid (winsQ_end HO.out.2.1 (by rw [← HN.out.1]; omega))
      have hln : nl.length ≤ 272 := by have h := HO.out.2.2.1.2.2; rw [List.length_map] at h; have := HN.out.2; omega
      cases lt with
      | true =>
        go_upto_region 20 with (fail)
        obtain ⟨LO_, hLo⟩ : ∃ z : OutV, z = ⟨lateO X, nilV, rfl⟩ := ⟨_, rfl⟩
        have HLo : Hid (LO_ = ⟨lateO X, nilV, rfl⟩ ∧ Value.agg LO_.cells = .agg #[.bool true, .int .i64 xkd, Sv xk, .int .i64 xt, .int .i64 v_, .string ⟨#[]⟩, .int .i64 0, .int .i64 0, .int .i64 0, .slice none 0 0]) := by
          rw [hLo, HXv.out.2.1]; exact Lib.hid ⟨rfl, rfl⟩
        clear hLo
        have HSw : Hid (∀ w', wr.grownBy w' (some rb) → D2 w' sb m (.slice sa n sc)) := Lib.hid (fun w' hg => (HO.out.2.2.2.1.2.1.grown hg (by have := HNe.out; simp; omega)).d2)
        have HXw : Hid (∀ w', wr.grownBy w' (some rb) → DX w' xb xkd xk xt v_) := Lib.hid (fun w' hg => HXd.out w' (grown_row hg HO.out.2.2.2.1.2.2.1 (by have := HNe.out; simp; omega)))
        have HNe2 : Hid (sb ≠ rb ∧ xb ≠ rb ∧ rb < wr.heap.size) := Lib.hid ⟨HNe.out.1, HNe.out.2, HO.out.2.2.2.1.2.2.2.lt⟩
        have HG0 : Hid (wr.grownBy wr.drew (some rb) ∧ RowS wr.drew rb (if 0 = 0 then 0 else m) (if 0 = 0 then nilV else .slice sa n sc)) := by
          rw [if_pos rfl, if_pos rfl]; exact Lib.hid ⟨grown_below rb (Below.refl _ wr).drew, HO.out.2.2.2.1.2.2.2.below (Below.refl _ wr).drew⟩
        refine wp_region_skipA (fun i => ([] : List Nat).contains i) (by kernel_rfl) [none, none, none, none, some 0, none, none] [4] (VLs ((Value.agg #[.int .i64 m, .slice sa n sc]) :: (Value.agg #[.int .i64 xkd, Sv xk, .int .i64 xt, .int .i64 v_]) :: (Value.agg #[.bool true, .int .i64 xkd, Sv xk, .int .i64 xt, .int .i64 v_, .string ⟨#[]⟩, .int .i64 0, .int .i64 0, .int .i64 0, .slice none 0 0]) :: undef :: undef :: undef :: (Value.int .i64 0) :: ([] : List Value)) (LtL wr.heap.size LO_)) (fun k w' => wr.grownBy w' (some rb) ∧ RowS w' rb (if k = 0 then 0 else m) (if k = 0 then nilV else .slice sa n sc)) (fun w w' => w.grownBy w' (some rb)) (VLs_le _ _ (LtL_le HNe2.out.2.2)) (by kernel_rfl) (by kernel_rfl) (by kernel_rfl) HG0.out (fun _ => ⟨rfl, rfl, rfl, rfl, rfl, rfl, rfl, trivial⟩) (fun _ h => by simp at h) ?_ ?_
        · refine ⟨?_, ?_, ?_, ?_, ?_, ?_, ?_, trivial⟩
          · intro _ _ a w' hG hout hpre K hK; have q4 := ev_of ((hout 4 rfl).trans (show _ = .pointer (some ⟨sb, 0, none⟩) from rfl)); obtain ⟨e0, e1⟩ := HSw.out w' hG.1; clear hout hpre; go_step; exact hK _ _ rfl hG (grown_same _ _)
          · intro _ _ a w' hG hout hpre K hK; have q5 := ev_of ((hout 5 rfl).trans (show _ = .pointer (some ⟨xb, 0, none⟩) from rfl)); obtain ⟨x0, x1, x2, x3⟩ := HXw.out w' hG.1; clear hout hpre; go_step; exact hK _ _ rfl hG (grown_same _ _)
          · intro _ _ a w' hG hout hpre K hK; obtain ⟨p0, _⟩ := hpre; have q90 := ev_of (show a.eval (.tmp 90) = .agg #[.int .i64 xkd, Sv xk, .int .i64 xt, .int .i64 v_] from p0); have hb := built_late xkd xt v_ xk; clear hout p0; go_step; exact hK _ _ rfl hG (grown_same _ _)
          · intro _ _ a w' hG hout hpre K hK; obtain ⟨p0, _⟩ := hpre; have r91 := (show a.eval (.tmp 91) = .agg #[.bool true, .int .i64 xkd, Sv xk, .int .i64 xt, .int .i64 v_, .string ⟨#[]⟩, .int .i64 0, .int .i64 0, .int .i64 0, .slice none 0 0] from p0); refine wp_slice1_O (.tmp 91) rfl LO_ (r91.trans HLo.out.2.symm) ?_; have hB := (Below.refl _ w').alloc (Nat.le_refl _) (.cells LO_.cells 50); have hg := grown_below rb hB; exact hK _ _ ⟨_, rfl, hG.1.size, heap_alloc_new w' _⟩ ⟨grown_two hG.1 hg, hG.2.below hB⟩ hg
          · intro _ a w' hG hout hpre K hK; obtain ⟨p0, _⟩ := hpre; have r6 := ((hout 6 rfl).trans (show _ = .pointer (some ⟨rb, 0, none⟩) from rfl)); have r89 := (show a.eval (.tmp 89) = .agg #[.int .i64 m, .slice sa n sc] from p0); have hrow := hG.2; rw [if_pos rfl, if_pos rfl] at hrow; refine wp_store_row _ (.tmp 6) (.tmp 89) rfl rb #[.int .i64 m, .slice sa n sc] r6 r89 _ _ hrow state_size rfl (state_one rfl) ?_; have hg : w'.grownBy (w'.setRow rb #[.int .i64 m, .slice sa n sc]) (some rb) := grown_setRow _ _ _
            exact hK _ _ rfl ⟨grown_two hG.1 hg, by rw [if_neg (by decide), if_neg (by decide)]; exact hrow.reset m _⟩ (VLs_keep _ (LtL_keep HNe2.out.2.2 hg))
          · intro _ _ a w' hG hout hpre K hK; obtain ⟨p0, _⟩ := hpre; obtain ⟨b, hv, hbB, hrow⟩ := (show ∃ b, a.eval (.tmp 92) = .slice (some ⟨b, 0, none⟩) 1 1 ∧ wr.heap.size ≤ b ∧ RowO w' b LO_ from p0); have q92 := ev_of hv; clear hout ; clear hv; go_step; exact hK _ _ ⟨b, rfl, hbB, hrow⟩ hG (grown_same _ _)
          · intro _ _ a w' hG hout hpre K hK; clear hout hpre; go_step; exact hK _ _ rfl hG (grown_same _ _)
        · intro vs w2 hG hlen hV
          match vs, hlen, hV with
          | [v0, v1, v2, v3, v4, v5, v6], _, hV =>
            obtain ⟨b, hv5, hbB, hro⟩ := (show ∃ b, v5 = .slice (some ⟨b, 0, none⟩) 1 1 ∧ wr.heap.size ≤ b ∧ RowO w2 b LO_ from hV 5 7 v5 rfl rfl); obtain rfl : v6 = .int .i64 0 := hV 6 8 v6 rfl rfl; subst hv5; clear hV; have hrow := hG.2
            rw [if_neg (by decide), if_neg (by decide)] at hrow
            have hBz : Below w.heap.size w w2 := HO.out.2.2.2.2.2.2.2.1.trans (below_set hG.1 HBd.out.2.1 HO.out.2.2.2.2.2.2.2.1.size)
            have HZ : Hid (RowS w2 rb m (.slice sa n sc) ∧ P (.returned (.tuple #[.agg #[.int .i64 m, .slice sa n sc], .slice (some ⟨b, 0, none⟩) 1 1, .int .i64 0])) w2) := Lib.hid ⟨hrow, HLate.out w2 _ _ HE.out rfl rfl ⟨_, 1, [LO_], rfl, Nat.le_refl _, OutsAt.one (fun j z hz => hro.cell j hz), fun z hz => by rw [List.mem_singleton.1 hz, HLo.out.1]; exact IntsAt.nil _, by rw [HLo.out.1]; rfl⟩ (HA.out.1.below hBz) (fun y hy => (HA.out.2.1 y hy).below hBz) hBz⟩
            clear hrow hro hbB hG hBz; simp only [putsL, List.tail_cons, List.headD_cons]; simp only [Act.put, List.setIfInBounds_toArray, List.set_cons_succ, List.set_cons_zero]; go_wp2_with (fail); exact bodyPost_ret (v := .tuple #[.agg #[.int .i64 m, .slice sa n sc], .slice (some ⟨b, 0, none⟩) 1 1, .int .i64 0]) ((results_cell_tmp_tmp (p := 6) (s := 7) (u := 8) (ty := 29) rfl _ _ rb 29 #[.int .i64 m, .slice sa n sc] (0, 0) _ rfl HZ.out.1 Tryz.underlying29 rfl state_size).trans rfl) rfl HZ.out.2
      | false =>
        by_cases hfu : 256 < nl.length
        · have HFu : Hid (256 < (nl.map PaneV.p).length) := by rw [List.length_map]; exact Lib.hid hfu
          go_upto_region 22 with (fail)
          refine wp_region_lit ?_
          refine wpList_build_on (by kernel_rfl) 29 _ rfl #[.int .i64 0, .slice none 0 0] (by first | exact built_state0 | (simp only [List.map_toArray, List.map_nil]; exact built_state0) | kernel_rfl) ?_
          refine wpList_store_row rfl _ _ _ rfl rb #[.int .i64 0, .slice none 0 0] rfl rfl 29 #[.int .i64 0, nilV] HO.out.2.2.2.1.2.2.2 state_size rfl (state_one rfl) ?_; obtain ⟨wz, hwz⟩ : ∃ W, W = wr.setRow rb #[.int .i64 0, .slice none 0 0] := ⟨_, rfl⟩
          have HZ : Hid (RowS wz rb 0 nilV ∧ P (.returned (.tuple #[.agg #[.int .i64 0, .slice none 0 0], .slice none 0 0, .int .i64 30])) wz) := by
            have hg : wr.grownBy wz (some rb) := by rw [hwz]; exact grown_setRow _ _ _
            have hB := HO.out.2.2.2.2.2.2.2.1
            exact Lib.hid ⟨by rw [hwz]; exact RowS.reset HO.out.2.2.2.1.2.2.2 0 _, HFull.out wz _ HE.out rfl rfl HFu.out (hB.trans (below_set hg HBd.out.2.1 hB.size))⟩
          rw [← hwz]; clear hwz; go_wp2_with (fail); exact bodyPost_ret (v := .tuple #[.agg #[.int .i64 0, .slice none 0 0], .slice none 0 0, .int .i64 30]) ((results_cell_tmp_tmp (p := 6) (s := 7) (u := 8) (ty := 29) rfl _ _ rb 29 #[.int .i64 0, .slice none 0 0] (0, 0) _ rfl HZ.out.1 Tryz.underlying29 rfl state_size).trans rfl) rfl HZ.out.2
        · have HFu : Hid (¬ 256 < (nl.map PaneV.p).length) := by rw [List.length_map]; exact Lib.hid hfu
          obtain ⟨e0, e1⟩ := HO.out.2.2.2.1.2.1.d2
          go_upto_region 23 with (fail)
          refine wp_region_lit ?_
          iterate 9 go_step
          refine wpList_build_on (by kernel_rfl) 29 _ rfl #[.int .i64 m, .slice na nl.length nc] (by simp only [List.map_toArray, List.map_cons, List.map_nil]; exact built_state2 m na nl.length nc) ?_
          iterate 3 go_step
          refine wpList_store_row rfl _ _ _ rfl rb #[.int .i64 m, .slice na nl.length nc] rfl rfl 29 #[.int .i64 0, nilV] HO.out.2.2.2.1.2.2.2 state_size rfl (state_one rfl) ?_; obtain ⟨wz, hwz⟩ : ∃ W, W = wr.setRow rb #[.int .i64 m, .slice na nl.length nc] := ⟨_, rfl⟩
          have HZ : Hid (RowS wz rb m (.slice na nl.length nc) ∧ P (.returned (.tuple #[.agg #[.int .i64 m, .slice na nl.length nc], .slice oa ol.length oc, .int .i64 0])) wz) := by
            have hg : wr.grownBy wz (some rb) := by rw [hwz]; exact grown_setRow _ _ _
            obtain ⟨⟨j1, j2, j3, j4⟩, jw, j5, j6, j7, j8, j9⟩ := HO.out.2.2.2; have hrb := HBd.out.1.2.2.2.2
            have h5 := j5.1.kept hg (.inr (fun e => by have := j5.1.lt e; omega))
            have h6 := j6.1.kept hg (.inr (fun e => by have := j6.1.lt e; omega))
            obtain ⟨oa', oc', hv', hc', hAt'⟩ := h6.form
            exact Lib.hid ⟨by rw [hwz]; exact RowS.reset j4 m _, HYes.out wz _ _ nl _ HE.out rfl rfl HFu.out h5.ins (fun y hy => ⟨(j5.2 y hy).1.1.grown hg (fun a n' c e hn => (j5.2 y hy).1.1.apart e hn j4 (by decide)), (j5.2 y hy).1.2⟩) rfl ⟨oa', oc', ol, hv', hc', hAt', fun y hy => IntsAt.grown (j6.2 y hy).1 hg (fun a n' c e hn => IntsAt.apart (j6.2 y hy).1 e hn j4 (by decide)), rfl⟩ (j7.trans (below_set hg HBd.out.2.1 j7.size))⟩
          rw [← hwz]; clear hwz e0 e1; go_wp2_with (fail); exact bodyPost_ret (v := .tuple #[.agg #[.int .i64 m, .slice na nl.length nc], .slice oa ol.length oc, .int .i64 0]) ((results_cell_tmp_tmp (p := 6) (s := 7) (u := 8) (ty := 29) rfl _ _ rb 29 #[.int .i64 m, .slice na nl.length nc] (0, 0) _ rfl HZ.out.1 Tryz.underlying29 rfl state_size).trans rfl) rfl HZ.out.2
end Go.Proofs.YtjeeghafachebaaGreat
namespace Go.Proofs.YtjeeghafachebaaGreat
open Go Go.RowKit
theorem PanesIn.grown {w w' : World} {v : Value} {l : List PaneV} {row : Option Nat} (h : PanesIn w v l) (hg : w.grownBy w' row) (hn : ∀ b, row = some b → ∃ cs T fr, w.heap[b]? = some (.cells cs T fr) ∧ T ≠ 55) : PanesIn w' v l := by
  obtain ⟨a', c', e, hc, h⟩ := h; refine ⟨a', c', e, hc, ?_⟩
  rcases h with h | ⟨b', o, ha, ht, h⟩
  · exact .inl h
  · by_cases hl : l = []
    · exact .inr ⟨b', o, ha, .inl hl, fun i x hx => by rw [hl] at hx; simp at hx⟩
    · rcases ht with ht | ⟨cur, ht⟩
      · exact absurd ht hl
      · have hne : some b' ≠ row := fun e => by
          obtain ⟨cs, T, fr, h1, h2⟩ := hn b' e.symm; rw [ht] at h1; simp only [Option.some.injEq, Obj.cells.injEq] at h1; exact h2 h1.2.1.symm
        have hbl := hg.block b' (TyP.lt ⟨cur, ht⟩) hne; refine .inr ⟨b', o, ha, .inr ⟨cur, hbl.trans ht⟩, fun i x hx j u hu => ?_⟩; rw [← h i x hx j u hu]; unfold World.cell?; simp only [hbl]
theorem PanesIn.store {w w' : World} {v : Value} {l : List PaneV} {b n c : Nat} {m : Int} {a : Option Addr} (h : PanesIn w v l) (hb : RowS w b m (.slice a n c)) (hg : w.grownBy w' (some b)) : PanesIn w' v l :=
  h.grown hg (fun k hk => by cases hk; exact ⟨_, _, _, hb, by decide⟩)
theorem OutsAt.store {w w' : World} {l : List OutV} {b n c : Nat} {m : Int} {a a' : Option Addr} (h : OutsAt w a' l) (hb : RowS w b m (.slice a n c)) (hg : w.grownBy w' (some b)) : OutsAt w' a' l := by
  rcases h with h | ⟨b', o, ha, h⟩
  · exact .inl h
  · refine .inr ⟨b', o, ha, fun i x hx j u hu => ?_⟩; have hcell := h i x hx j u hu
    have hne : b' ≠ b := by
      rintro rfl; have hk := h i x hx 0 _ rfl; rw [cell_of_row _ _ _ _ _ _ hb] at hk; have hlt := (Array.getElem?_eq_some_iff.1 hk).1; have hlt2 : o + i * 10 + 0 < 2 := hlt
      match ho : o + i * 10 + 0, hlt2, hk with
      | 0, _, hk =>
        have e : Value.int .i64 m = Value.bool x.o.late := Option.some.inj hk
        cases e
      | 1, _, hk =>
        have e : Value.slice a n c = Value.bool x.o.late := Option.some.inj hk
        cases e
    have hlt := block_lt_of_cell hcell
    have hbl := hg.block b' hlt (by simpa using hne)
    rw [← hcell]; unfold World.cell?; simp only [hbl]
theorem GoodP.storeS {w w' : World} {x : PaneV} {b : Nat} {m : Int} {pv : Value} (h : GoodP w x) (hb : RowS w b m pv) (hg : w.grownBy w' (some b)) : GoodP w' x :=
  ⟨h.1.grown hg (fun _ _ _ e hne => h.1.apart e hne hb (by decide)), h.2⟩
theorem HasO.store {w w' : World} {v : Value} {o : List OutE} {b n c : Nat} {m : Int} {a : Option Addr} (h : HasO w v o) (hb : RowS w b m (.slice a n c)) (hg : w.grownBy w' (some b)) : HasO w' v o := by
  obtain ⟨a', c', l, h1, h2, h3, h4, h5⟩ := h
  exact ⟨a', c', l, h1, h2, h3.store hb hg, fun x hx => IntsAt.grown (h4 x hx) hg (fun _ _ _ e hne => IntsAt.apart (h4 x hx) e hne hb (by decide)), h5⟩
theorem comeOk.sorted {q : QueryL} {l : List PaneV} {n : Nat} (h : comeOk q (l.map PaneV.p) n) (hn : n ≤ 1000000) : FitP l ∧ (wsP (l.map PaneV.p)).Pairwise aheadP := by
  refine ⟨⟨fun x hx => (h.2.1 x.p (List.mem_map.2 ⟨x, hx, rfl⟩)).2, ?_⟩, wsP_sorted.2 (placed_sorted h.1)⟩; have := h.2.2; rw [List.length_map] at this; omega
set_option maxRecDepth 100000 in
set_option maxHeartbeats 4000000 in
theorem ostep_any (w : World) (q : QueryL) (m : Int) (pv : Value) (x : ItemL) (l : List PaneV) (hA : PanesIn w pv l) (hG : ∀ y ∈ l, GoodP w y) (hok : comeOk q (l.map PaneV.p) 256) (hk : x.key.length ≤ 1000000) :
    Calls Tryz.prog 21 #[.agg q.cells, .agg #[.int .i64 m, pv], .agg x.cells] w (ComeEnd w (stepS q ⟨m, l.map PaneV.p⟩ x).1 (stepS q ⟨m, l.map PaneV.p⟩ x).2.1 (stepS q ⟨m, l.map PaneV.p⟩ x).2.2) := by
  obtain ⟨ps, hps⟩ : ∃ ps, ps = l.map PaneV.p := ⟨_, rfl⟩; obtain ⟨P, hP⟩ : ∃ P, P = ComeEnd w (stepS q ⟨m, ps⟩ x).1 (stepS q ⟨m, ps⟩ x).2.1 (stepS q ⟨m, ps⟩ x).2.2 := ⟨_, rfl⟩; rw [← hps, ← hP]; obtain ⟨r, hr⟩ : ∃ r, r = x.rightB := ⟨_, rfl⟩
  have HNo : Hid (r = false → ∀ wz, Below w.heap.size w wz → P (.returned (.tuple #[.agg #[.int .i64 0, .slice none 0 0], .slice none 0 0, .int .i64 2])) wz) := Lib.hid (fun h wz hB => by
    rw [hr] at h
    rw [hP, stepS, if_neg (by rw [h]; decide)]
    exact ⟨_, _, rfl, zeroS_has wz, HasO.nil _, hB⟩)
  obtain ⟨kd, hkd⟩ : ∃ k, k = x.kind := ⟨_, rfl⟩
  have HCo : Hid (r = true → kd = 1 → ∀ wz sv ov, HasS wz sv (comeQ q ⟨m, ps⟩ x).1 → HasO wz ov (comeQ q ⟨m, ps⟩ x).2.1 → Below w.heap.size w wz → P (.returned (.tuple #[sv, ov, .int .i64 (comeQ q ⟨m, ps⟩ x).2.2])) wz) := Lib.hid (fun h h1 wz sv ov hS hO hB => by
    rw [hr] at h; rw [hkd] at h1; rw [hP, stepS, if_pos h, if_pos h1]
    exact ⟨_, _, rfl, hS, hO, hB⟩)
  have HMa : Hid (r = true → kd ≠ 1 → ∀ wz sv ov, HasS wz sv (markQ q ⟨m, ps⟩ x.time).1 → HasO wz ov (markQ q ⟨m, ps⟩ x.time).2 → Below w.heap.size w wz → P (.returned (.tuple #[sv, ov, .int .i64 0])) wz) := Lib.hid (fun h h1 wz sv ov hS hO hB => by
    rw [hr] at h; rw [hkd] at h1; rw [hP, stepS, if_pos h, if_neg h1]
    exact ⟨_, _, rfl, hS, hO, hB⟩)
  have HRt : Hid (∀ w', Calls Tryz.prog 37 #[.agg x.cells] w' (Below0 w' (.bool r))) := by
    rw [hr]; exact Lib.hid (fun w' => eright_any w' x hk)
  have HCm : Hid (∀ w', Below w.heap.size w w' → Calls Tryz.prog 38 #[.agg q.cells, .agg #[.int .i64 m, pv], .agg x.cells] w' (ComeEnd w' (comeQ q ⟨m, ps⟩ x).1 (comeQ q ⟨m, ps⟩ x).2.1 (comeQ q ⟨m, ps⟩ x).2.2)) := by
    rw [hps]; exact Lib.hid (fun w' hB => ocome_any w' q m pv x l (hA.below hB) (fun y hy => (hG y hy).below hB) hok hk)
  have HMk : Hid (∀ w', Below w.heap.size w w' → Calls Tryz.prog 39 #[.agg q.cells, .agg #[.int .i64 m, pv], .int .i64 x.time] w' (MarkEnd w' (markQ q ⟨m, ps⟩ x.time).1 (markQ q ⟨m, ps⟩ x.time).2)) := by
    rw [hps]
    obtain ⟨h1, h2⟩ := hok.sorted (by decide)
    exact Lib.hid (fun w' hB => omark_any w' q m x.time pv l (hA.below hB) (fun y hy => (hG y hy).below hB) h1 h2)
  obtain ⟨sa, sc, hpv, hz1, hz2⟩ := hA.form; clear hz1 hz2; obtain ⟨w1, hw1⟩ : ∃ W, W = (((w.alloc (.cells q.cells 23)).alloc (.cells #[.int .i64 m, pv] 29)).alloc (.cells x.cells 42)).alloc (.cells #[.int .i64 0, .slice none 0 0] 29) := ⟨_, rfl⟩; obtain ⟨qb, hqb⟩ : ∃ b, b = w.heap.size := ⟨_, rfl⟩; obtain ⟨sb, hsb⟩ : ∃ b, b = w.heap.size + 1 := ⟨_, rfl⟩; obtain ⟨xb, hxb⟩ : ∃ b, b = w.heap.size + 2 := ⟨_, rfl⟩; obtain ⟨rb, hrb⟩ : ∃ b, b = w.heap.size + 3 := ⟨_, rfl⟩
  have H1 : Hid (RowQ w1 qb q ∧ RowS w1 sb m pv ∧ RowX w1 xb x ∧ RowS w1 rb 0 nilV ∧ Below w.heap.size w w1 ∧ w1.heap.size = w.heap.size + 4) := by rw [hw1, hqb, hsb, hxb, hrb]; exact Lib.hid (box_come w q m pv x)
  have HBd : Hid (w.heap.size ≤ rb) := Lib.hid (by omega)
  clear hP hr hA hG hok hk hps; obtain ⟨S1, hS1⟩ : ∃ s, s = comeQ q ⟨m, ps⟩ x := ⟨_, rfl⟩; obtain ⟨S2, hS2⟩ : ∃ s, s = markQ q ⟨m, ps⟩ x.time := ⟨_, rfl⟩; rw [← hS1] at HCo HCm; rw [← hS2] at HMa HMk; clear hS1 hS2; obtain ⟨Q, hQ⟩ : ∃ Q, Q = q := ⟨_, rfl⟩; rw [← hQ] at H1; obtain ⟨X, hX⟩ : ∃ X, X = x := ⟨_, rfl⟩; rw [← hX] at H1; obtain ⟨kind, size, slide, late, agg, kq⟩ := q; obtain ⟨xkd, xk, xt, xv⟩ := x; simp only at hkd HMk; subst hkd
  have HQd : Hid (∀ w', RowQ w' qb Q → D6 w' qb kind size slide late agg kq) := by rw [hQ]; exact Lib.hid (fun w' h => h.d6)
  have HXd : Hid (∀ w', RowX w' xb X → DX w' xb kd xk xt xv) := by rw [hX]; exact Lib.hid (fun w' h => h.dx)
  clear hQ hX; obtain ⟨n, hn⟩ : ∃ n, n = l.length := ⟨_, rfl⟩; rw [← hn] at hpv; clear hn; subst hpv; unfold QueryL.cells ItemL.cells at hw1 HCm ⊢; unfold QueryL.cells at HMk; unfold ItemL.cells at HRt; simp only at hw1 HRt HCm HMk ⊢; have hs1 : (w.alloc (.cells #[.int .i64 kind, .int .i64 size, .int .i64 slide, .int .i64 late, .int .i64 agg, .int .i64 kq] 23)).heap.size = w.heap.size + 1 := heap_alloc_size w _
  have hs2 : ((w.alloc (.cells #[.int .i64 kind, .int .i64 size, .int .i64 slide, .int .i64 late, .int .i64 agg, .int .i64 kq] 23)).alloc (.cells #[.int .i64 m, .slice sa n sc] 29)).heap.size = w.heap.size + 2 := by rw [heap_alloc_size, heap_alloc_size]
  have hs3 : (((w.alloc (.cells #[.int .i64 kind, .int .i64 size, .int .i64 slide, .int .i64 late, .int .i64 agg, .int .i64 kq] 23)).alloc (.cells #[.int .i64 m, .slice sa n sc] 29)).alloc (.cells #[.int .i64 kd, Sv xk, .int .i64 xt, .int .i64 xv] 42)).heap.size = w.heap.size + 3 := by rw [heap_alloc_size, heap_alloc_size, heap_alloc_size]
  obtain ⟨x0, x1, x2, x3⟩ := HXd.out w1 H1.out.2.2.1
  go_enter Tryz.func21, Tryz.ntmps21
  go_upto_region 1 with (fail)
  rw [← hw1, ← hrb, ← hxb, ← hsb, ← hqb]; clear hw1 hrb hxb hsb hqb hs1 hs2 hs3
  cases r with
  | false =>
    go_wp2_with (fail); refine (HRt.out w1).mono ?_; rintro e w2 ⟨rfl, hB⟩; have H2 : Hid (RowS w2 rb 0 nilV ∧ Below w.heap.size w w2) := Lib.hid ⟨H1.out.2.2.2.1.below hB, H1.out.2.2.2.2.1.trans (hB.mono H1.out.2.2.2.2.1.size)⟩; clear hB x0 x1 x2 x3; dsimp only
    go_upto_region 2 with (fail)
    refine wp_region_lit ?_
    refine wpList_build_on (by kernel_rfl) 29 _ rfl #[.int .i64 0, .slice none 0 0] (by first | exact built_state0 | (simp only [List.map_toArray, List.map_nil]; exact built_state0) | kernel_rfl) ?_
    refine wpList_store_row rfl _ _ _ rfl rb #[.int .i64 0, .slice none 0 0] rfl rfl 29 #[.int .i64 0, nilV] H2.out.1 state_size rfl (state_one rfl) ?_; obtain ⟨wz, hwz⟩ : ∃ W, W = w2.setRow rb #[.int .i64 0, .slice none 0 0] := ⟨_, rfl⟩
    have HZ : Hid (RowS wz rb 0 nilV ∧ P (.returned (.tuple #[.agg #[.int .i64 0, .slice none 0 0], .slice none 0 0, .int .i64 2])) wz) := by
      have hg : w2.grownBy wz (some rb) := by rw [hwz]; exact grown_setRow _ _ _
      exact Lib.hid ⟨by rw [hwz]; exact RowS.reset H2.out.1 0 _, HNo.out (by trivial) wz (H2.out.2.trans (below_set hg HBd.out H2.out.2.size))⟩
    rw [← hwz]; clear hwz; go_wp2_with (fail); exact bodyPost_ret (v := .tuple #[.agg #[.int .i64 0, .slice none 0 0], .slice none 0 0, .int .i64 2]) ((results_cell_tmp_tmp (p := 6) (s := 7) (u := 8) (ty := 29) rfl _ _ rb 29 #[.int .i64 0, .slice none 0 0] (0, 0) _ rfl HZ.out.1 Tryz.underlying29 rfl state_size).trans rfl) rfl HZ.out.2
  | true =>
    go_wp2_with (fail); refine (HRt.out w1).mono ?_; rintro e w2 ⟨rfl, hB⟩; have H2 : Hid (RowQ w2 qb Q ∧ RowS w2 sb m (.slice sa n sc) ∧ RowX w2 xb X ∧ RowS w2 rb 0 nilV ∧ Below w.heap.size w w2) := Lib.hid ⟨H1.out.1.below hB, H1.out.2.1.below hB, H1.out.2.2.1.below hB, H1.out.2.2.2.1.below hB, H1.out.2.2.2.2.1.trans (hB.mono H1.out.2.2.2.2.1.size)⟩; clear hB x0 x1 x2 x3; dsimp only; obtain ⟨d0, d1, d2, d3, d4, d5⟩ := HQd.out w2 H2.out.1; obtain ⟨e0, e1⟩ := H2.out.2.1.d2; obtain ⟨x0, x1, x2, x3⟩ := HXd.out w2 H2.out.2.2.1
    by_cases hk1 : kd = 1
    · subst hk1
      go_upto_region 4 with (fail)
      refine wp_region_lit ?_
      iterate 9 go_step
      refine wpList_plain rfl fun K' hK' => ?_; go_step; refine (HCm.out w2 H2.out.2.2.2.2).mono ?_; rintro e w3 ⟨sv, ov, rfl, ⟨pv', l', rfl, hP1, hP2, hP3⟩, hO, hB⟩; refine hK' _ _ ?_; clear hK' d0 d1 d2 d3 d4 d5 e0 e1 x0 x1 x2 x3; obtain ⟨m', hm'⟩ : ∃ z, z = S1.1.mark := ⟨_, rfl⟩; rw [← hm']; have H3 : Hid (RowS w3 rb 0 nilV ∧ Below w.heap.size w w3 ∧ PanesIn w3 pv' l' ∧ (∀ y ∈ l', GoodP w3 y) ∧ S1.1.panes = l'.map PaneV.p ∧ HasO w3 ov S1.2.1 ∧ m' = S1.1.mark) := Lib.hid ⟨H2.out.2.2.2.1.below hB, H2.out.2.2.2.2.trans (hB.mono H2.out.2.2.2.2.size), hP1, hP2, hP3, hO, hm'⟩; clear hB hP1 hP2 hP3 hO hm'
      iterate 9 go_step
      refine wpList_store_row rfl _ _ _ rfl rb #[.int .i64 m', pv'] rfl rfl 29 #[.int .i64 0, nilV] H3.out.1 state_size rfl (state_one H3.out.2.2.1.one) ?_; obtain ⟨wz, hwz⟩ : ∃ W, W = w3.setRow rb #[.int .i64 m', pv'] := ⟨_, rfl⟩
      have HZ : Hid (RowS wz rb m' pv' ∧ P (.returned (.tuple #[.agg #[.int .i64 m', pv'], ov, .int .i64 S1.2.2])) wz) := by
        have hg : w3.grownBy wz (some rb) := by rw [hwz]; exact grown_setRow _ _ _
        obtain ⟨j1, j2, j3, j4, j5, j6, j7⟩ := H3.out
        exact Lib.hid ⟨by rw [hwz]; exact RowS.reset j1 m' _, HCo.out (by trivial) (by trivial) wz _ ov ⟨pv', l', by rw [j7], j3.store j1 hg, fun y hy => (j4 y hy).storeS j1 hg, j5⟩ (j6.store j1 hg) (j2.trans (below_set hg HBd.out j2.size))⟩
      rw [← hwz]; clear hwz; go_wp2_with (fail); exact bodyPost_ret (v := .tuple #[.agg #[.int .i64 m', pv'], ov, .int .i64 S1.2.2]) ((results_cell_tmp_tmp (p := 6) (s := 7) (u := 8) (ty := 29) rfl _ _ rb 29 #[.int .i64 m', pv'] (0, 0) _ rfl HZ.out.1 Tryz.underlying29 rfl state_size).trans rfl) rfl HZ.out.2
    · have HK1 := Lib.hid hk1
      have hk1' : (kd == 1) = false := by simpa using hk1
      go_upto_region 5 with (fail)
      clear hk1 hk1'; refine wp_region_lit ?_
      iterate 12 go_step
      refine wpList_plain rfl fun K' hK' => ?_; go_step; refine (HMk.out w2 H2.out.2.2.2.2).mono ?_; rintro e w3 ⟨sv, ov, rfl, ⟨pv', l', rfl, hP1, hP2, hP3⟩, hO, hB⟩; refine hK' _ _ ?_; clear hK' d0 d1 d2 d3 d4 d5 e0 e1 x0 x1 x2 x3; obtain ⟨m', hm'⟩ : ∃ z, z = S2.1.mark := ⟨_, rfl⟩; rw [← hm']; have H3 : Hid (RowS w3 rb 0 nilV ∧ Below w.heap.size w w3 ∧ PanesIn w3 pv' l' ∧ (∀ y ∈ l', GoodP w3 y) ∧ S2.1.panes = l'.map PaneV.p ∧ HasO w3 ov S2.2 ∧ m' = S2.1.mark) := Lib.hid ⟨H2.out.2.2.2.1.below hB, H2.out.2.2.2.2.trans (hB.mono H2.out.2.2.2.2.size), hP1, hP2, hP3, hO, hm'⟩; clear hB hP1 hP2 hP3 hO hm'
      iterate 12 go_step
      refine wpList_store_row rfl _ _ _ rfl w3.heap.size #[.int .i64 m', pv'] rfl rfl 29 #[.int .i64 0, nilV] (heap_alloc_new w3 _) state_size rfl (state_one H3.out.2.2.1.one) ?_; obtain ⟨w4, hw4⟩ : ∃ W, W = (w3.alloc (Obj.cells #[.int .i64 0, .slice none 0 0] 29)).setRow w3.heap.size #[.int .i64 m', pv'] := ⟨_, rfl⟩; obtain ⟨tb, htb⟩ : ∃ b, b = w3.heap.size := ⟨_, rfl⟩
      have H4 : Hid (RowS w4 rb 0 nilV ∧ Below w.heap.size w w4 ∧ PanesIn w4 pv' l' ∧ (∀ y ∈ l', GoodP w4 y) ∧ S2.1.panes = l'.map PaneV.p ∧ HasO w4 ov S2.2 ∧ m' = S2.1.mark ∧ RowS w4 tb m' pv') := by
        obtain ⟨k1, k2⟩ := stored_state w3 m' pv'; have e : w4 = (w3.alloc (Obj.cells #[.int .i64 0, nilV] 29)).setRow w3.heap.size #[.int .i64 m', pv'] := hw4; rw [← e, ← htb] at k1; rw [← e] at k2; obtain ⟨j1, j2, j3, j4, j5, j6, j7⟩ := H3.out; exact Lib.hid ⟨j1.below k2, j2.trans (k2.mono j2.size), j3.below k2, fun y hy => (j4 y hy).below k2, j5, j6.below k2, j7, k1⟩
      rw [← hw4, ← htb]; clear hw4 htb H3; obtain ⟨e0, e1⟩ := H4.out.2.2.2.2.2.2.2.d2
      go_upto_region 6 with (fail)
      refine wp_region_lit ?_
      iterate 6 go_step
      refine wpList_store_row rfl _ _ _ rfl rb #[.int .i64 m', pv'] rfl rfl 29 #[.int .i64 0, nilV] H4.out.1 state_size rfl (state_one H4.out.2.2.1.one) ?_; obtain ⟨wz, hwz⟩ : ∃ W, W = w4.setRow rb #[.int .i64 m', pv'] := ⟨_, rfl⟩
      have HZ : Hid (RowS wz rb m' pv' ∧ P (.returned (.tuple #[.agg #[.int .i64 m', pv'], ov, .int .i64 0])) wz) := by
        have hg : w4.grownBy wz (some rb) := by rw [hwz]; exact grown_setRow _ _ _
        obtain ⟨j1, j2, j3, j4, j5, j6, j7, _⟩ := H4.out
        exact Lib.hid ⟨by rw [hwz]; exact RowS.reset j1 m' _, HMa.out (by trivial) HK1.out wz _ ov ⟨pv', l', by rw [j7], j3.store j1 hg, fun y hy => (j4 y hy).storeS j1 hg, j5⟩ (j6.store j1 hg) (j2.trans (below_set hg HBd.out j2.size))⟩
      rw [← hwz]; clear hwz e0 e1; go_wp2_with (fail); exact bodyPost_ret (v := .tuple #[.agg #[.int .i64 m', pv'], ov, .int .i64 0]) ((results_cell_tmp_tmp (p := 6) (s := 7) (u := 8) (ty := 29) rfl _ _ rb 29 #[.int .i64 m', pv'] (0, 0) _ rfl HZ.out.1 Tryz.underlying29 rfl state_size).trans rfl) rfl HZ.out.2
end Go.Proofs.YtjeeghafachebaaGreat
