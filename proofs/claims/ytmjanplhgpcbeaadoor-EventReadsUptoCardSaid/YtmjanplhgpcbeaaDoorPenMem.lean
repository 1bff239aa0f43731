/-
  A pen in memory: its own row, what is appended to it.
-/
import Derived.Test.YtmjanplhgpcbeaaDoorPenPure
import Derived.Test.YtmjanplhgpcbeaaDoorCoreOwn
import Derived.Test.YtmjanplhgpcbeaaDoorCoreStrMore
namespace Go.Proofs.YtmjanplhgpcbeaaDoor
open Go Go.RowKit

theorem info_u8' : ((Tryd.prog.info? 5).map fun i => (i.zero, i.size, i.bytes)) = some (some (.int .u8 0), 1, 1) := by kernel_rfl
theorem B_one : ∀ (m : List (BitVec 8)), ∀ u ∈ m.map B, u.oneCell' = true := fun m u hu => by
  obtain ⟨x, _, rfl⟩ := List.mem_map.1 hu
  exact B_oneCell x
theorem src_cells {w : World} {ab off : Nat} {m : List (BitVec 8)} (hc : ∀ i < m.length, w.cell? ⟨ab, off + i, none⟩ = some (B (gl m i))) : ∀ (j : Nat) (v : Value), (m.map B)[j]? = some v → w.cell? ((⟨ab, off, none⟩ : Addr).add j) = some v := by
  intro j v hv
  rw [List.getElem?_map] at hv
  cases hx : m[j]? with
  | none => rw [hx] at hv; cases hv
  | some y =>
    rw [hx] at hv
    simp only [Option.map_some, Option.some.injEq] at hv
    have hj : j < m.length := (List.getElem?_eq_some_iff.1 hx).1
    rw [addr_add, hc j hj, ← hv]
    simp [gl, hx]
/-- What a slice of its own is behind an append of any bytes. -/
theorem append_own (w : World) (base : Nat) (v : Value) (xs : List Value) (hown : Own w base 5 v xs) (a : Option Addr) (c : Nat) (m : List (BitVec 8)) (h : SrcP w a m.length m)
    (hl : xs.length + m.length ≤ 1073741824) (hb : base ≤ w.heap.size) (ty : TypeId) :
    ∃ v' w', (Builtin.append_ #[29, 29] ty #[v, .slice a m.length c]).run Tryd.prog w = .ok v' w' ∧ Own w' base 5 v' (xs ++ m.map B) ∧ w.grownBy w' v.ownBlock ∧ (v'.ownBlock = v.ownBlock ∨ v'.ownBlock = some w.heap.size) := by
  obtain ⟨i, hi, hz, hs, hby⟩ := info_u8
  have some_case : ∀ ad : Addr, (∀ (j : Nat) (u : Value), (m.map B)[j]? = some u → w.cell? (ad.add j) = some u) →
      ∃ v' w', (Builtin.append_ #[29, 29] ty #[v, .slice (some ad) m.length c]).run Tryd.prog w = .ok v' w' ∧ Own w' base 5 v' (xs ++ m.map B) ∧ w.grownBy w' v.ownBlock ∧ (v'.ownBlock = v.ownBlock ∨ v'.ownBlock = some w.heap.size) := by
    intro ad hc
    obtain ⟨v', w', h1, h2, h3, _, h5⟩ := run_append_own_at (P := Tryd.prog) w base 29 ty 5 i (.int .u8 0) 1 1 Tryd.underlying29 hi hz hs hby rfl (by decide) v xs.length xs hown ad m.length c (m.map B) (by simp) hc (B_one m)
      (by unfold maxLen; omega) (by omega) hb
    exact ⟨v', w', h1, by simpa [Own] using h2, h3, h5⟩
  cases a with
  | some ad =>
    rcases h with h | ⟨ab, off, ha, hc⟩
    · exact some_case ad fun j u hj => by
        have : m = [] := List.eq_nil_of_length_eq_zero h
        subst this
        simp at hj
    · cases ha
      exact some_case _ (src_cells hc)
  | none =>
    have h0 : m = [] := by
      rcases h with h | ⟨_, _, ha, _⟩
      · exact List.eq_nil_of_length_eq_zero h
      · cases ha
    subst h0
    refine ⟨v, w, ?_, by simpa using hown, ⟨rfl, rfl, rfl, Nat.le_refl _, fun _ _ _ => rfl⟩, .inl rfl⟩
    rcases hown.2 with ⟨hv, hn⟩ | ⟨g, cap, cur, hv, _, hg, hle, _⟩
    · rw [hv]
      simp [Builtin.append_, run_underlying Tryd.underlying29, sizeOf, typeInfo, hi, Builtin.lenOf, Builtin.firstCells]
    · rw [hv]
      simp [Builtin.append_, run_underlying Tryd.underlying29, sizeOf, typeInfo, hi, Builtin.lenOf, Builtin.firstCells, storeCells, loadCells, hle]
theorem wpList_append_own2 {ops : Array Oper} {rest : List Oper} {o : Oper} {a : Act} {Q : Exit → Act → World → Prop} {w : World} (hgd : o.guard = none) (s x : Operand)
    (ho : o.op = .call { callee := .builtin .append, args := #[s, x], argTypes := #[29, 29] }) (base : Nat) (v : Value) (xs : List Value) (hs : a.eval s = v) (hown : Own w base 5 v xs)
    (sa : Option Addr) (c : Nat) (m : List (BitVec 8)) (n : Nat) (hn : n = m.length) (hx : a.eval x = .slice sa n c) (hm : SrcP w sa m.length m) (hl : xs.length + m.length ≤ 1073741824) (hb : base ≤ w.heap.size)
    (h : ∀ v' w', Own w' base 5 v' (xs ++ m.map B) → w.grownBy w' v.ownBlock → (v'.ownBlock = v.ownBlock ∨ v'.ownBlock = some w.heap.size) → wpList Tryd.prog ops Q rest (a.put o.dst v') w') :
    wpList Tryd.prog ops Q (o :: rest) a w := by
  refine wpList_plain hgd fun K hK => ?_
  subst hn
  obtain ⟨v', w', hr, h2, h3, h4⟩ := append_own w base v xs hown sa c m hm hl hb o.type
  unfold Oper.wp execOp
  simp only [ho, resolve, invoke, builtin, Sem.run_bind, Sem.run_pure, Result.andThen_ok, List.map_toArray, List.map_cons, List.map_nil, hs, hx, hr]
  exact hK _ _ (h v' w' h2 h3 h4)
/-- A pen in block b: its bytes are l, its row is none of X. -/
def PenAt (X : Nat → Prop) (w : World) (b : Nat) (l : List (BitVec 8)) : Prop :=
  ∃ v, w.heap[b]? = some (.cells #[v] 31 (0, 0)) ∧ Own w 0 5 v (l.map B) ∧ ∀ g, v.ownBlock = some g → ¬ X g
theorem PenAt.lt {X : Nat → Prop} {b : Nat} {w : World} {l : List (BitVec 8)} (h : PenAt X w b l) : b < w.heap.size := by
  obtain ⟨v, hb, _⟩ := h
  exact (Array.getElem?_eq_some_iff.1 hb).1
theorem PenAt.new (X : Nat → Prop) (w : World) : PenAt X (w.alloc (.cells #[.slice none 0 0] 31)) w.heap.size [] := ⟨_, heap_alloc_new w _, Own.nil _ _ _, fun g h => by cases h⟩
/-- What a pen's methods leave as it was: all of X but the pen's block, and all rows of another type than the pen's own. -/
def PKept (X : Nat → Prop) (b : Nat) (w w' : World) : Prop :=
  w'.os = w.os ∧ w'.tape = w.tape ∧ w'.output = w.output ∧ w.heap.size ≤ w'.heap.size ∧ (∀ k, X k → k ≠ b → k < w.heap.size → w'.heap[k]? = w.heap[k]?) ∧
    ∀ (k : Nat) (c : Array Value) (t : TypeId) (fr : Nat × Nat), w.heap[k]? = some (Obj.cells c t fr) → t ≠ 5 → k ≠ b → w'.heap[k]? = some (Obj.cells c t fr)
theorem PKept.refl (X : Nat → Prop) (b : Nat) (w : World) : PKept X b w w := ⟨rfl, rfl, rfl, Nat.le_refl _, fun _ _ _ _ => rfl, fun _ _ _ _ h _ _ => h⟩
theorem PKept.trans {X : Nat → Prop} {b : Nat} {w w1 w2 : World} (h : PKept X b w w1) (k : PKept X b w1 w2) : PKept X b w w2 :=
  ⟨k.1.trans h.1, k.2.1.trans h.2.1, k.2.2.1.trans h.2.2.1, Nat.le_trans h.2.2.2.1 k.2.2.2.1, fun i hi hne hl => (k.2.2.2.2.1 i hi hne (Nat.lt_of_lt_of_le hl h.2.2.2.1)).trans (h.2.2.2.2.1 i hi hne hl),
    fun i c t fr hi ht hne => k.2.2.2.2.2 i c t fr (h.2.2.2.2.2 i c t fr hi ht hne) ht hne⟩
theorem PKept.of_below {X : Nat → Prop} {b : Nat} {w w' : World} (h : Below w.heap.size w w') : PKept X b w w' :=
  ⟨h.os, h.tape, h.output, h.size, fun k _ _ hk => h.block k hk, fun k _ _ _ hk _ _ => (h.block k (Array.getElem?_eq_some_iff.1 hk).1).trans hk⟩
theorem PKept.mono {X Y : Nat → Prop} {b : Nat} {w w' : World} (h : PKept X b w w') (hY : ∀ k, Y k → X k) : PKept Y b w w' := ⟨h.1, h.2.1, h.2.2.1, h.2.2.2.1, fun k hk => h.2.2.2.2.1 k (hY k hk), h.2.2.2.2.2⟩
theorem PenAt.mono {X Y : Nat → Prop} {b : Nat} {w : World} {l : List (BitVec 8)} (h : PenAt X w b l) (hY : ∀ k, Y k → X k) : PenAt Y w b l := by
  obtain ⟨v, h1, h2, h3⟩ := h
  exact ⟨v, h1, h2, fun g hg hy => h3 g hg (hY g hy)⟩
theorem PKept.below {X : Nat → Prop} {b B : Nat} {w w' : World} (h : PKept X b w w') (hB : ∀ k < B, X k) (hb : B ≤ b) (hs : B ≤ w.heap.size) : Below B w w' :=
  ⟨h.1, h.2.1, h.2.2.1, h.2.2.2.1, fun k hk => h.2.2.2.2.1 k (hB k hk) (by omega) (by omega)⟩
theorem PKept.set {X : Nat → Prop} {b : Nat} (w : World) (v : Value) : PKept X b w (w.setCell ⟨b, 0, none⟩ v) :=
  ⟨rfl, rfl, rfl, by simp [World.setCell], fun k _ hne _ => heap_setCell_other _ _ _ _ (fun e => hne (by rw [e])), fun k c t fr hk _ hne => (heap_setCell_other _ _ _ _ (fun e => hne (by rw [e]))).trans hk⟩
theorem PKept.own {X : Nat → Prop} {b : Nat} {w w' : World} {v : Value} {xs : List Value} (h : Own w 0 5 v xs) (hX : ∀ g, v.ownBlock = some g → ¬ X g) (hg : w.grownBy w' v.ownBlock) : PKept X b w w' := by
  refine ⟨hg.os, hg.tape, hg.output, hg.size, fun k hk _ hl => hg.block k hl (fun he => hX k he.symm hk), fun k c t fr hk ht _ => (hg.block k (Array.getElem?_eq_some_iff.1 hk).1 fun he => ?_).trans hk⟩
  rcases h.2 with ⟨hv, _⟩ | ⟨g, cap, cur, hv, _, hrow, _⟩
  · rw [hv] at he
    cases he
  · rw [hv] at he
    injection he with he
    subst he
    rw [hk] at hrow
    injection hrow with hrow
    injection hrow with _ e2
    exact ht e2
theorem PKept.row {X : Nat → Prop} {b : Nat} {w w' : World} (h : PKept X b w w') {k : Nat} {c : Array Value} {t : TypeId} {fr : Nat × Nat} (hk : w.heap[k]? = some (.cells c t fr)) (ht : t ≠ 5) (hne : k ≠ b) : w'.heap[k]? = some (.cells c t fr) := h.2.2.2.2.2 k c t fr hk ht hne
theorem PKept.size {X : Nat → Prop} {b : Nat} {w w' : World} (h : PKept X b w w') : w.heap.size ≤ w'.heap.size := h.2.2.2.1
theorem PenAt.below {X : Nat → Prop} {b : Nat} {w w' : World} {l : List (BitVec 8)} (h : PenAt X w b l) (hB : Below w.heap.size w w') : PenAt X w' b l := by
  obtain ⟨v, hb, ho, hx⟩ := h
  exact ⟨v, (hB.block _ (Array.getElem?_eq_some_iff.1 hb).1).trans hb, ho.far hB, hx⟩
/-- What is made now is no pen's row yet. -/
theorem PenAt.more {X : Nat → Prop} {b : Nat} {w : World} {l : List (BitVec 8)} (h : PenAt X w b l) (Y : Nat → Prop) (hY : ∀ k, Y k → X k ∨ w.heap.size ≤ k) : PenAt Y w b l := by
  obtain ⟨v, hb, ho, hx⟩ := h
  refine ⟨v, hb, ho, fun g hg hy => ?_⟩
  rcases hY g hy with h1 | h1
  · exact hx g hg h1
  · have := (ho.lt hg).2
    omega
theorem own_ne {base b : Nat} {w : World} {v u : Value} {xs : List Value} {t : TypeId} (h : Own w base 5 v xs) (hb : w.heap[b]? = some (.cells #[u] t (0, 0))) (ht : t ≠ 5) : v.ownBlock ≠ some b := by
  intro he
  rcases h.2 with ⟨hv, _⟩ | ⟨g, cap, cur, hv, _, hrow, _⟩
  · rw [hv] at he
    cases he
  · rw [hv] at he
    injection he with he
    have : g = b := he
    subst this
    rw [hb] at hrow
    injection hrow with hrow
    injection hrow with _ e2
    exact ht e2
/-- Behind an append and a store of it, the pen has more. -/
theorem PenAt.grown {X : Nat → Prop} {b : Nat} {w w1 : World} {v v' : Value} {l m : List (BitVec 8)} (hb : w.heap[b]? = some (.cells #[v] 31 (0, 0))) (ho : Own w 0 5 v (l.map B)) (hx : ∀ g, v.ownBlock = some g → ¬ X g)
    (h1 : Own w1 0 5 v' (l.map B ++ m.map B)) (hg : w.grownBy w1 v.ownBlock) (hv : v'.ownBlock = v.ownBlock ∨ v'.ownBlock = some w.heap.size) (hX : ∀ k, X k → k < w.heap.size) :
    PenAt X (w1.setCell ⟨b, 0, none⟩ v') b (l ++ m) ∧ PKept X b w (w1.setCell ⟨b, 0, none⟩ v') := by
  have hbl := (Array.getElem?_eq_some_iff.1 hb).1
  have hne := own_ne ho hb (by decide)
  have hb1 : w1.heap[b]? = some (.cells #[v] 31 (0, 0)) := (hg.block b hbl (fun e => hne e.symm)).trans hb
  have hne1 : v'.ownBlock ≠ some b := own_ne h1 hb1 (by decide)
  refine ⟨⟨v', ?_, ?_, ?_⟩, (PKept.own ho hx hg).trans (PKept.set w1 v')⟩
  · exact heap_setCell_same w1 b 0 _ _ v' hb1
  · rw [List.map_append]
    exact h1.kept (grown_setCell w1 b 0 v') (by
      cases hq : v'.ownBlock with
      | none => exact .inl rfl
      | some k => exact .inr (by rw [← hq]; exact hne1))
  · intro g hgq hXg
    rcases hv with hv | hv
    · exact hx g (hv ▸ hgq) hXg
    · rw [hv] at hgq
      injection hgq with hgq
      have := hX g hXg
      omega
def PenEnd (X : Nat → Prop) (b : Nat) (w : World) (l : List (BitVec 8)) (r : Value) (e : Ending) (w' : World) : Prop := e = .returned r ∧ PenAt X w' b l ∧ PKept X b w w'
end Go.Proofs.YtmjanplhgpcbeaaDoor
