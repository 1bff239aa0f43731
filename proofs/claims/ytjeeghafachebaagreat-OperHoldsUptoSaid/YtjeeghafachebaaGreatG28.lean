/-
  Part 28 of 53 of what the proof leans on.
-/
import Derived.Test.YtjeeghafachebaaGreatG23
import Derived.Test.YtjeeghafachebaaGreatG24
import Derived.Test.YtjeeghafachebaaGreatG27
namespace Go.Proofs.YtjeeghafachebaaGreat
open Go Go.RowKit Go.Shelf
def enc3 (x : WindowL) : List Value := [Sv x.key, .int .i64 x.lo, .int .i64 x.hi]
theorem enc3_cells (x : WindowL) : (enc3 x).toArray = x.cells := rfl
theorem eqlW : EqlAt Tryz.prog 47 (fun x => .agg (enc3 x).toArray) sameW :=
  ⟨fun x y w => run_eql_window w x y, fun op a b x y w => run_guard_window w op a b x y⟩
instance : Inhabited WindowL := ⟨zeroW⟩
theorem enc3_at {w : World} {b o : Nat} {l : List WindowL} (h : ∀ i x, l[i]? = some x → ∀ j v, x.cells[j]? = some v → w.cell? ⟨b, o + i * 3 + j, none⟩ = some v) : ∀ j, j < l.length → ∀ i v, (enc3 l[j]!)[i]? = some v → w.cell? ⟨b, o + j * 3 + i, none⟩ = some v := by
  intro j hj i v hv; refine h j l[j]! ?_ i v ?_
  · rw [getElem!_pos l j hj]; exact List.getElem?_eq_getElem hj
  · rw [← enc3_cells]
    simpa using hv
theorem containsW_any (w : World) (a : Option Addr) (c : Nat) (l : List WindowL) (x : WindowL) (hA : WinsAt w a l) (hne : l ≠ []) (hn : l.length ≤ 1000000) :
    Calls Tryz.prog 87 #[.slice a l.length c, .agg x.cells] w (Below0 w (.bool (decide (x ∈ l)))) := by
  rcases hA with h | ⟨b, o, rfl, h⟩
  · exact absurd h hne
  refine (AnyQ.slices_Contains Tryz.containsW 3 Tryz.isAgg47 Tryz.sizeOf47 enc3 (fun _ => rfl) sameW eqlW b o l.length c l x w (Nat.le_refl _) (by omega) (enc3_at h)).mono ?_
  rintro e w' ⟨rfl, hB⟩; refine ⟨?_, hB⟩; rw [List.take_length]
  congr 2
  refine Bool.eq_iff_iff.2 ?_; rw [List.any_eq_true, decide_eq_true_eq]
  constructor
  · rintro ⟨y, hy, hs⟩; rw [(sameW_iff x y).1 hs]; exact hy
  · intro hx; exact ⟨x, hx, (sameW_iff x x).2 rfl⟩
theorem idx_from : ∀ (A B : List WindowL) (x : WindowL) (i : Nat), x ∉ A → Lib.idxByFrom sameW x (A ++ x :: B) i = ((i + A.length : Nat) : Int)
  | [], B, x, i, _ => by
    simp only [List.nil_append, Lib.idxByFrom, (sameW_iff x x).2 rfl, if_true, List.length_nil, Nat.add_zero]
  | y :: A, B, x, i, h => by
    have hy : sameW x y = false := by
      rw [Bool.eq_false_iff]; intro h'
      exact h (by rw [(sameW_iff x y).1 h']; simp)
    have ih := idx_from A B x (i + 1) (fun h' => h (by simp [h']))
    simp only [List.cons_append, Lib.idxByFrom, hy, List.length_cons]
    rw [if_neg (by simp), ih]
    congr 1
    omega
theorem idx_mid (A B : List WindowL) (x : WindowL) (h : x ∉ A) : Lib.idxBy sameW (A ++ x :: B) x = (A.length : Int) := by
  rw [Lib.idxBy, idx_from A B x 0 h, Nat.zero_add]
theorem indexW_any (w : World) (a : Option Addr) (c : Nat) (A B : List WindowL) (x : WindowL) (n : Nat) (hN : n = (A ++ x :: B).length) (hA : WinsAt w a (A ++ x :: B)) (hx : x ∉ A) (hn : n ≤ 1000000) :
    Calls Tryz.prog 96 #[.slice a n c, .agg x.cells] w (Below0 w (.int .i64 (A.length : Int))) := by
  subst hN
  rcases hA with h | ⟨b, o, rfl, h⟩
  · simp at h
  refine (AnyQ.slices_Index Tryz.indexW 3 Tryz.isAgg47 Tryz.sizeOf47 enc3 (fun _ => rfl) sameW eqlW b o _ c (A ++ x :: B) x w (Nat.le_refl _) (by omega) (enc3_at h)).mono ?_
  rintro e w' ⟨rfl, q, rfl⟩; rw [List.take_length, idx_mid A B x hx]; exact ⟨rfl, below_draws ((Below.refl _ w).alloc (Nat.le_refl _) _) q⟩
def TyP (w : World) (b : Nat) : Prop := ∃ cur, w.heap[b]? = some (.cells cur 55 (0, 0))
theorem TyP.lt {w : World} {b : Nat} (h : TyP w b) : b < w.heap.size := by
  obtain ⟨_, h⟩ := h; exact (Array.getElem?_eq_some_iff.1 h).1
def PanesIn (w : World) (v : Value) (l : List PaneV) : Prop :=
  ∃ a c, v = .slice a l.length c ∧ l.length ≤ c ∧ ((a = none ∧ l = []) ∨ ∃ b o, a = some ⟨b, o, none⟩ ∧ (l = [] ∨ TyP w b) ∧ ∀ i x, l[i]? = some x → ∀ j u, x.cells[j]? = some u → w.cell? ⟨b, o + i * 8 + j, none⟩ = some u)
theorem PanesIn.below {w w' : World} {v : Value} {l : List PaneV} (h : PanesIn w v l) (hB : Below w.heap.size w w') : PanesIn w' v l := by
  obtain ⟨a, c, e, hc, h⟩ := h; refine ⟨a, c, e, hc, ?_⟩
  rcases h with h | ⟨b, o, h, ht, h'⟩
  · exact .inl h
  · exact .inr ⟨b, o, h, ht.imp id (fun ⟨cur, k⟩ => ⟨cur, (hB.block b (TyP.lt ⟨cur, k⟩)).trans k⟩), fun i x hx j u hu => (hB.cell (block_lt_of_cell (h' i x hx j u hu))).trans (h' i x hx j u hu)⟩
theorem PanesIn.form {w : World} {v : Value} {l : List PaneV} (h : PanesIn w v l) : ∃ a c, v = .slice a l.length c ∧ l.length ≤ c ∧ PanesAt w a l := by
  obtain ⟨a, c, e, hc, h⟩ := h; refine ⟨a, c, e, hc, ?_⟩
  rcases h with h | ⟨b, o, h, _, h'⟩
  · exact .inl h.2
  · exact .inr ⟨b, o, h, h'⟩
theorem PanesIn.one {w : World} {v : Value} {l : List PaneV} (h : PanesIn w v l) : v.oneCell' = true := by
  obtain ⟨a, c, rfl, _⟩ := h; rfl
theorem PanesIn.nil (w : World) : PanesIn w (.slice none 0 0) [] := ⟨none, 0, rfl, Nat.le_refl _, .inl ⟨rfl, rfl⟩⟩
theorem OwnP.ins {w : World} {base : Nat} {v : Value} {l : List PaneV} (h : OwnP w base v l) : PanesIn w v l := by
  have hh := h
  rcases h.2 with ⟨h1, h2⟩ | ⟨g, cap, cur, h1, _, hrow, hle, _⟩
  · exact ⟨none, 0, by rw [h1, h2], by omega, .inl ⟨rfl, List.eq_nil_of_length_eq_zero h2⟩⟩
  · refine ⟨_, _, h1, hle, .inr ⟨g, 0, rfl, .inr ⟨cur, hrow⟩, fun i x hx j u hu => ?_⟩⟩; unfold OwnP at hh; rw [h1] at hh; have hi : i < l.length := (List.getElem?_eq_some_iff.1 hx).1; have hj : j < 8 := cellsP_lt hu
    rw [show 0 + i * 8 + j = i * 8 + j by omega, World.ownsRow.cellAt hh _ (by omega)]
    exact cellsLP_at l i x j u hx hu
theorem clonePs_any (w : World) (v : Value) (l : List PaneV) (h : PanesIn w v l) (hn : l.length ≤ 1000000) :
    Calls Tryz.prog 36 #[v] w (fun e w' => ∃ v', e = .returned v' ∧ OwnP w' w.heap.size v' l ∧ Below w.heap.size w w') := by
  obtain ⟨a, c, rfl, hc, h⟩ := h
  rcases h with ⟨rfl, rfl⟩ | ⟨b, o, rfl, _, h⟩
  · refine (AnyE.slices_Clone_nil Tryz.cloneP _ _ w).mono ?_; rintro e w' ⟨rfl, rfl⟩; exact ⟨_, rfl, OwnP.nil _ _, Below.refl _ _⟩
  · obtain ⟨i0, hi, hz0, hz1, hz2⟩ := info_parts pane_parts
    refine (AnyE.slices_Clone Tryz.cloneP i0 _ 8 96 hi hz0 hz1 hz2 rfl (by decide) Tryz.sizeOf55 b o l.length c (cellsLP l) w (cellsLP_length l) (by unfold maxLen; omega) (by omega) ?_ (cellsLP_one l)).mono ?_
    · intro j u hu; have := cellsLP_of h j u hu
      rwa [addr_add] at this
    · rintro e w' ⟨v', rfl, h1, _, hB⟩; exact ⟨v', rfl, h1, hB⟩
def HasS (w : World) (v : Value) (s : StateL) : Prop := ∃ pv l, v = .agg #[.int .i64 s.mark, pv] ∧ PanesIn w pv l ∧ (∀ x ∈ l, GoodP w x) ∧ s.panes = l.map PaneV.p
theorem HasS.below {w w' : World} {v : Value} {s : StateL} (h : HasS w v s) (hB : Below w.heap.size w w') : HasS w' v s := by
  obtain ⟨pv, l, h1, h2, h3, h4⟩ := h; exact ⟨pv, l, h1, h2.below hB, fun x hx => (h3 x hx).below hB, h4⟩
def HasO (w : World) (v : Value) (o : List OutE) : Prop := ∃ a c l, v = .slice a l.length c ∧ l.length ≤ c ∧ OutsAt w a l ∧ (∀ x ∈ l, GoodO w x) ∧ o = l.map OutV.o
theorem HasO.below {w w' : World} {v : Value} {o : List OutE} (h : HasO w v o) (hB : Below w.heap.size w w') : HasO w' v o := by
  obtain ⟨a, c, l, h1, h2, h3, h4, h5⟩ := h; exact ⟨a, c, l, h1, h2, h3.below hB, fun x hx => (h4 x hx).below hB, h5⟩
theorem HasO.nil (w : World) : HasO w nilV [] := ⟨none, 0, [], rfl, Nat.le_refl _, .inl rfl, fun _ h => by simp at h, rfl⟩
theorem box_qp (w : World) (q : QueryL) (x : PaneV) :
    RowQ ((w.alloc (.cells q.cells 23)).alloc (.cells x.cells 55)) w.heap.size q ∧
      RowP ((w.alloc (.cells q.cells 23)).alloc (.cells x.cells 55)) (w.heap.size + 1) x ∧
      Below w.heap.size w ((w.alloc (.cells q.cells 23)).alloc (.cells x.cells 55)) := by
  have k1 := (Below.refl _ w).alloc (Nat.le_refl _) (.cells q.cells 23); have k2 := (Below.refl _ (w.alloc (.cells q.cells 23))).alloc (Nat.le_refl _) (.cells x.cells 55); have hs : (w.alloc (.cells q.cells 23)).heap.size = w.heap.size + 1 := heap_alloc_size w _; refine ⟨RowQ.below (heap_alloc_new w _) k2, ?_, k1.trans (k2.mono k1.size)⟩; rw [← hs]; exact heap_alloc_new _ _
theorem box_qw (w : World) (q : QueryL) (x : WindowL) :
    RowQ ((w.alloc (.cells q.cells 23)).alloc (.cells x.cells 47)) w.heap.size q ∧
      RowW ((w.alloc (.cells q.cells 23)).alloc (.cells x.cells 47)) (w.heap.size + 1) x ∧
      Below w.heap.size w ((w.alloc (.cells q.cells 23)).alloc (.cells x.cells 47)) := by
  have k1 := (Below.refl _ w).alloc (Nat.le_refl _) (.cells q.cells 23); have k2 := (Below.refl _ (w.alloc (.cells q.cells 23))).alloc (Nat.le_refl _) (.cells x.cells 47); have hs : (w.alloc (.cells q.cells 23)).heap.size = w.heap.size + 1 := heap_alloc_size w _; refine ⟨RowQ.below (heap_alloc_new w _) k2, ?_, k1.trans (k2.mono k1.size)⟩; rw [← hs]; exact heap_alloc_new _ _
end Go.Proofs.YtjeeghafachebaaGreat
