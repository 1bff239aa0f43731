/-
  Part 6 of 42 of what the proof leans on.
-/
import Derived.Test.YtdmnhgbdeifpbaaDoorO2
import Derived.Laws.Cover3
import Derived.Test.YtdmnhgbdeifpbaaDoorO4
namespace Go.Proofs.YtdmnhgbdeifpbaaDoor
open Go Go.RowKit
theorem B_one : ∀ (m : List (BitVec 8)), ∀ u ∈ m.map B, u.oneCell' = true := fun m u hu => by
  obtain ⟨x, _, rfl⟩ := List.mem_map.1 hu; exact B_oneCell x
theorem src_cells {w : World} {ab off : Nat} {m : List (BitVec 8)} (hc : ∀ i < m.length, w.cell? ⟨ab, off + i, none⟩ = some (B (gl m i))) : ∀ (j : Nat) (v : Value), (m.map B)[j]? = some v → w.cell? ((⟨ab, off, none⟩ : Addr).add j) = some v := by
  intro j v hv; rw [List.getElem?_map] at hv
  cases hx : m[j]? with
  | none => rw [hx] at hv; cases hv
  | some y =>
    rw [hx] at hv; simp only [Option.map_some, Option.some.injEq] at hv; have hj : j < m.length := (List.getElem?_eq_some_iff.1 hx).1; rw [addr_add, hc j hj, ← hv]; simp [gl, hx]
theorem append_own (w : World) (base : Nat) (v : Value) (xs : List Value) (hown : Own w base 5 v xs) (a : Option Addr) (c : Nat) (m : List (BitVec 8)) (h : SrcP w a m.length m)
    (hl : xs.length + m.length ≤ 1073741824) (hb : base ≤ w.heap.size) (ty : TypeId) :
    ∃ v' w', (Builtin.append_ #[26, 26] ty #[v, .slice a m.length c]).run Tryd.prog w = .ok v' w' ∧ Own w' base 5 v' (xs ++ m.map B) ∧ w.grownBy w' v.ownBlock ∧ (v'.ownBlock = v.ownBlock ∨ v'.ownBlock = some w.heap.size) := by
  obtain ⟨i, hi, hz, hs, hby⟩ := info_u8; have some_case : ∀ ad : Addr, (∀ (j : Nat) (u : Value), (m.map B)[j]? = some u → w.cell? (ad.add j) = some u) →
      ∃ v' w', (Builtin.append_ #[26, 26] ty #[v, .slice (some ad) m.length c]).run Tryd.prog w = .ok v' w' ∧ Own w' base 5 v' (xs ++ m.map B) ∧ w.grownBy w' v.ownBlock ∧ (v'.ownBlock = v.ownBlock ∨ v'.ownBlock = some w.heap.size) := by
    intro ad hc
    obtain ⟨v', w', h1, h2, h3, _, h5⟩ := run_append_own_at (P := Tryd.prog) w base 26 ty 5 i (.int .u8 0) 1 1 Tryd.underlying26 hi hz hs hby rfl (by decide) v xs.length xs hown ad m.length c (m.map B) (by simp) hc (B_one m)
      (by unfold maxLen; omega) (by omega) hb
    exact ⟨v', w', h1, by simpa [Own] using h2, h3, h5⟩
  cases a with
  | some ad =>
    rcases h with h | ⟨ab, off, ha, hc⟩
    · exact some_case ad fun j u hj => by
        have : m = [] := List.eq_nil_of_length_eq_zero h; subst this; simp at hj
    · cases ha
      exact some_case _ (src_cells hc)
  | none =>
    have h0 : m = [] := by
      rcases h with h | ⟨_, _, ha, _⟩
      · exact List.eq_nil_of_length_eq_zero h
      · cases ha
    subst h0
    refine ⟨v, w, ?_, by simpa using hown, ⟨rfl, rfl, rfl, Nat.le_refl _, fun _ _ _ => rfl⟩, .inl rfl⟩
    rcases hown.2 with ⟨hv, hn⟩ | ⟨g, cap, cur, hv, _, hg, hle, _⟩
    · rw [hv]; simp [Builtin.append_, run_underlying Tryd.underlying26, sizeOf, typeInfo, hi, Builtin.lenOf, Builtin.firstCells]
    · rw [hv]; simp [Builtin.append_, run_underlying Tryd.underlying26, sizeOf, typeInfo, hi, Builtin.lenOf, Builtin.firstCells, storeCells, loadCells, hle]
theorem wpList_append_own2 {ops : Array Oper} {rest : List Oper} {o : Oper} {a : Act} {Q : Exit → Act → World → Prop} {w : World} (hgd : o.guard = none) (s x : Operand)
    (ho : o.op = .call { callee := .builtin .append, args := #[s, x], argTypes := #[26, 26] }) (base : Nat) (v : Value) (xs : List Value) (hs : a.eval s = v) (hown : Own w base 5 v xs)
    (sa : Option Addr) (c : Nat) (m : List (BitVec 8)) (n : Nat) (hn : n = m.length) (hx : a.eval x = .slice sa n c) (hm : SrcP w sa m.length m) (hl : xs.length + m.length ≤ 1073741824) (hb : base ≤ w.heap.size)
    (h : ∀ v' w', Own w' base 5 v' (xs ++ m.map B) → w.grownBy w' v.ownBlock → (v'.ownBlock = v.ownBlock ∨ v'.ownBlock = some w.heap.size) → wpList Tryd.prog ops Q rest (a.put o.dst v') w') :
    wpList Tryd.prog ops Q (o :: rest) a w := by
  refine wpList_plain hgd fun K hK => ?_; subst hn; obtain ⟨v', w', hr, h2, h3, h4⟩ := append_own w base v xs hown sa c m hm hl hb o.type; unfold Oper.wp execOp; simp only [ho, resolve, invoke, builtin, Sem.run_bind, Sem.run_pure, Result.andThen_ok, List.map_toArray, List.map_cons, List.map_nil, hs, hx, hr]; exact hK _ _ (h v' w' h2 h3 h4)
def PenAt (X : Nat → Prop) (w : World) (b : Nat) (l : List (BitVec 8)) : Prop :=
  ∃ v, w.heap[b]? = some (.cells #[v] 76 (0, 0)) ∧ Own w 0 5 v (l.map B) ∧ ∀ g, v.ownBlock = some g → ¬ X g
theorem PenAt.lt {X : Nat → Prop} {b : Nat} {w : World} {l : List (BitVec 8)} (h : PenAt X w b l) : b < w.heap.size := by
  obtain ⟨v, hb, _⟩ := h; exact (Array.getElem?_eq_some_iff.1 hb).1
theorem PenAt.new (X : Nat → Prop) (w : World) : PenAt X (w.alloc (.cells #[.slice none 0 0] 76)) w.heap.size [] := ⟨_, heap_alloc_new w _, Own.nil _ _ _, fun g h => by cases h⟩
def PKept (X : Nat → Prop) (b : Nat) (w w' : World) : Prop :=
  w'.os = w.os ∧ w'.tape = w.tape ∧ w'.output = w.output ∧ w.heap.size ≤ w'.heap.size ∧ (∀ k, X k → k ≠ b → k < w.heap.size → w'.heap[k]? = w.heap[k]?) ∧
    ∀ (k : Nat) (c : Array Value) (t : TypeId) (fr : Nat × Nat), w.heap[k]? = some (Obj.cells c t fr) → t ≠ 5 → k ≠ b → w'.heap[k]? = some (Obj.cells c t fr)
theorem PKept.refl (X : Nat → Prop) (b : Nat) (w : World) : PKept X b w w := ⟨rfl, rfl, rfl, Nat.le_refl _, fun _ _ _ _ => rfl, fun _ _ _ _ h _ _ => h⟩
theorem PKept.trans {X : Nat → Prop} {b : Nat} {w w1 w2 : World} (h : PKept X b w w1) (k : PKept X b w1 w2) : PKept X b w w2 :=
  ⟨k.1.trans h.1, k.2.1.trans h.2.1, k.2.2.1.trans h.2.2.1, Nat.le_trans h.2.2.2.1 k.2.2.2.1, fun i hi hne hl => (k.2.2.2.2.1 i hi hne (Nat.lt_of_lt_of_le hl h.2.2.2.1)).trans (h.2.2.2.2.1 i hi hne hl),
    fun i c t fr hi ht hne => k.2.2.2.2.2 i c t fr (h.2.2.2.2.2 i c t fr hi ht hne) ht hne⟩
theorem PKept.of_below {X : Nat → Prop} {b : Nat} {w w' : World} (h : Below w.heap.size w w') : PKept X b w w' :=
  ⟨h.os, h.tape, h.output, h.size, fun k _ _ hk => h.block k hk, fun k _ _ _ hk _ _ => (h.block k (Array.getElem?_eq_some_iff.1 hk).1).trans hk⟩
theorem PKept.mono {X Y : Nat → Prop} {b : Nat} {w w' : World} (h : PKept X b w w') (hY : ∀ k, Y k → X k) : PKept Y b w w' := ⟨h.1, h.2.1, h.2.2.1, h.2.2.2.1, fun k hk => h.2.2.2.2.1 k (hY k hk), h.2.2.2.2.2⟩
theorem PenAt.mono {X Y : Nat → Prop} {b : Nat} {w : World} {l : List (BitVec 8)} (h : PenAt X w b l) (hY : ∀ k, Y k → X k) : PenAt Y w b l := by
  obtain ⟨v, h1, h2, h3⟩ := h; exact ⟨v, h1, h2, fun g hg hy => h3 g hg (hY g hy)⟩
theorem PKept.below {X : Nat → Prop} {b B : Nat} {w w' : World} (h : PKept X b w w') (hB : ∀ k < B, X k) (hb : B ≤ b) (hs : B ≤ w.heap.size) : Below B w w' :=
  ⟨h.1, h.2.1, h.2.2.1, h.2.2.2.1, fun k hk => h.2.2.2.2.1 k (hB k hk) (by omega) (by omega)⟩
theorem PKept.set {X : Nat → Prop} {b : Nat} (w : World) (v : Value) : PKept X b w (w.setCell ⟨b, 0, none⟩ v) :=
  ⟨rfl, rfl, rfl, by simp [World.setCell], fun k _ hne _ => heap_setCell_other _ _ _ _ (fun e => hne (by rw [e])), fun k c t fr hk _ hne => (heap_setCell_other _ _ _ _ (fun e => hne (by rw [e]))).trans hk⟩
theorem PKept.own {X : Nat → Prop} {b : Nat} {w w' : World} {v : Value} {xs : List Value} (h : Own w 0 5 v xs) (hX : ∀ g, v.ownBlock = some g → ¬ X g) (hg : w.grownBy w' v.ownBlock) : PKept X b w w' := by
  refine ⟨hg.os, hg.tape, hg.output, hg.size, fun k hk _ hl => hg.block k hl (fun he => hX k he.symm hk), fun k c t fr hk ht _ => (hg.block k (Array.getElem?_eq_some_iff.1 hk).1 fun he => ?_).trans hk⟩
  rcases h.2 with ⟨hv, _⟩ | ⟨g, cap, cur, hv, _, hrow, _⟩
  · rw [hv] at he
    cases he
  · rw [hv] at he
    injection he with he
    subst he; rw [hk] at hrow
    injection hrow with hrow
    injection hrow with _ e2
    exact ht e2
theorem PKept.row {X : Nat → Prop} {b : Nat} {w w' : World} (h : PKept X b w w') {k : Nat} {c : Array Value} {t : TypeId} {fr : Nat × Nat} (hk : w.heap[k]? = some (.cells c t fr)) (ht : t ≠ 5) (hne : k ≠ b) : w'.heap[k]? = some (.cells c t fr) := h.2.2.2.2.2 k c t fr hk ht hne
theorem PKept.size {X : Nat → Prop} {b : Nat} {w w' : World} (h : PKept X b w w') : w.heap.size ≤ w'.heap.size := h.2.2.2.1
theorem PenAt.below {X : Nat → Prop} {b : Nat} {w w' : World} {l : List (BitVec 8)} (h : PenAt X w b l) (hB : Below w.heap.size w w') : PenAt X w' b l := by
  obtain ⟨v, hb, ho, hx⟩ := h; exact ⟨v, (hB.block _ (Array.getElem?_eq_some_iff.1 hb).1).trans hb, ho.far hB, hx⟩
theorem PenAt.more {X : Nat → Prop} {b : Nat} {w : World} {l : List (BitVec 8)} (h : PenAt X w b l) (Y : Nat → Prop) (hY : ∀ k, Y k → X k ∨ w.heap.size ≤ k) : PenAt Y w b l := by
  obtain ⟨v, hb, ho, hx⟩ := h; refine ⟨v, hb, ho, fun g hg hy => ?_⟩
  rcases hY g hy with h1 | h1
  · exact hx g hg h1
  · have := (ho.lt hg).2; omega
theorem own_ne {base b : Nat} {w : World} {v u : Value} {xs : List Value} {t : TypeId} (h : Own w base 5 v xs) (hb : w.heap[b]? = some (.cells #[u] t (0, 0))) (ht : t ≠ 5) : v.ownBlock ≠ some b := by
  intro he
  rcases h.2 with ⟨hv, _⟩ | ⟨g, cap, cur, hv, _, hrow, _⟩
  · rw [hv] at he
    cases he
  · rw [hv] at he
    injection he with he
    have : g = b := he; subst this; rw [hb] at hrow
    injection hrow with hrow
    injection hrow with _ e2
    exact ht e2
theorem PenAt.grown {X : Nat → Prop} {b : Nat} {w w1 : World} {v v' : Value} {l m : List (BitVec 8)} (hb : w.heap[b]? = some (.cells #[v] 76 (0, 0))) (ho : Own w 0 5 v (l.map B)) (hx : ∀ g, v.ownBlock = some g → ¬ X g)
    (h1 : Own w1 0 5 v' (l.map B ++ m.map B)) (hg : w.grownBy w1 v.ownBlock) (hv : v'.ownBlock = v.ownBlock ∨ v'.ownBlock = some w.heap.size) (hX : ∀ k, X k → k < w.heap.size) :
    PenAt X (w1.setCell ⟨b, 0, none⟩ v') b (l ++ m) ∧ PKept X b w (w1.setCell ⟨b, 0, none⟩ v') := by
  have hbl := (Array.getElem?_eq_some_iff.1 hb).1
  have hne := own_ne ho hb (by decide)
  have hb1 : w1.heap[b]? = some (.cells #[v] 76 (0, 0)) := (hg.block b hbl (fun e => hne e.symm)).trans hb
  have hne1 : v'.ownBlock ≠ some b := own_ne h1 hb1 (by decide)
  refine ⟨⟨v', ?_, ?_, ?_⟩, (PKept.own ho hx hg).trans (PKept.set w1 v')⟩
  · exact heap_setCell_same w1 b 0 _ _ v' hb1
  · rw [List.map_append]
    exact h1.kept (grown_setCell w1 b 0 v') (by
      cases hq : v'.ownBlock with
      | none => exact .inl rfl
      | some k => exact .inr (by rw [← hq]; exact hne1))
  · intro g hgq hXg
    rcases hv with hv | hv
    · exact hx g (hv ▸ hgq) hXg
    · rw [hv] at hgq
      injection hgq with hgq
      have := hX g hXg; omega
def PenEnd (X : Nat → Prop) (b : Nat) (w : World) (l : List (BitVec 8)) (r : Value) (e : Ending) (w' : World) : Prop := e = .returned r ∧ PenAt X w' b l ∧ PKept X b w w'
end Go.Proofs.YtdmnhgbdeifpbaaDoor
namespace Go.Proofs.YtdmnhgbdeifpbaaDoor
open Go Go.RowKit
def SrcN (B0 : Nat) (w : World) (a : Option Addr) (m : List (BitVec 8)) : Prop :=
  m.length = 0 ∨ ∃ ab off, a = some ⟨ab, off, none⟩ ∧ B0 ≤ ab ∧ ∀ i < m.length, w.cell? ⟨ab, off + i, none⟩ = some (B (gl m i))
theorem SrcN.srcP {B0 : Nat} {w : World} {a : Option Addr} {m : List (BitVec 8)} (h : SrcN B0 w a m) : SrcP w a m.length m := by
  rcases h with h | ⟨ab, off, h1, _, h3⟩
  · exact .inl h
  · exact .inr ⟨ab, off, h1, h3⟩
theorem SrcN.grown {B0 b : Nat} {w w' : World} {a : Option Addr} {m : List (BitVec 8)} (h : SrcN B0 w a m) (hg : w.grownBy w' (some b)) (hb : b < B0) : SrcN B0 w' a m := by
  rcases h with h | ⟨ab, off, h1, h2, h3⟩
  · exact .inl h
  · exact .inr ⟨ab, off, h1, h2, fun i hi => hg.cell (h3 i hi) (by simp; omega)⟩
theorem SrcN.mono {B0 B1 : Nat} {w : World} {a : Option Addr} {m : List (BitVec 8)} (h : SrcN B0 w a m) (hb : B1 ≤ B0) : SrcN B1 w a m := by
  rcases h with h | ⟨ab, off, h1, h2, h3⟩
  · exact .inl h
  · exact .inr ⟨ab, off, h1, by omega, h3⟩
theorem own_src {w : World} {base : Nat} {v : Value} {m : List (BitVec 8)} (h : Own w base 5 v (m.map B)) : ∃ a c, v = .slice a m.length c ∧ m.length ≤ c ∧ c ≤ 9223372036854775807 ∧ (a = none → c = 0) ∧ SrcN base w a m := by
  rcases h.2 with ⟨hv, hn⟩ | ⟨g, cap, cur, hv, hb, hg, hle, hm, hs, ht⟩
  · have h0 : m.length = 0 := by simpa using hn
    exact ⟨none, 0, by rw [hv, h0], by omega, by omega, fun _ => rfl, .inl h0⟩
  · have hlen : (m.map B).length = m.length := by simp
    rw [hlen] at hv hle; subst hv
    refine ⟨some ⟨g, 0, none⟩, cap, rfl, hle, by unfold maxLen at hm; omega, (fun h => by cases h), .inr ⟨g, 0, rfl, hb, fun i hi => ?_⟩⟩
    have := Own.cellAt (xs := m.map B) (by rw [hlen]; exact h) i (by rw [hlen]; exact hi)
    rw [Nat.zero_add, this]; simp [gl, hi]
def BytesEnd (w : World) (m : List (BitVec 8)) (e : Ending) (w' : World) : Prop :=
  ∃ a c, e = .returned (.slice a m.length c) ∧ m.length ≤ c ∧ c ≤ 9223372036854775807 ∧ (a = none → c = 0) ∧ SrcN w.heap.size w' a m ∧ Below w.heap.size w w'
theorem run_eql_nil_some (w : World) (a : Addr) (l c : Nat) : (binOp .eql 26 (.slice (some a) l c) (.slice none 0 0)).run Tryd.prog w = .ok (.bool false) w := by
  simp only [binOp]; simp [run_equal_slice_nil w 26 5 (some a) l c Tryd.underlying26]
theorem run_eql_nil_none (w : World) (l c : Nat) : (binOp .eql 26 (.slice none l c) (.slice none 0 0)).run Tryd.prog w = .ok (.bool true) w := by
  simp only [binOp]; simp [run_equal_slice_nil w 26 5 none l c Tryd.underlying26]
attribute [go_sem] run_eql_nil_some run_eql_nil_none
theorem bclone_nil (w : World) : Calls Tryd.prog 62 #[.slice none 0 0] w fun e w' => e = .returned (.slice none 0 0) ∧ w' = w := by
  go_enter Tryd.func62, Tryd.ntmps62
  go_wp2_with (fail); go_ret; exact ⟨rfl, rfl⟩
set_option maxRecDepth 100000 in
theorem bclone_any (w : World) (a : Option Addr) (c n : Nat) (m : List (BitVec 8)) (hn : n = m.length) (h : SrcP w a m.length m) (hc : a = none → c = 0) (hl : m.length ≤ 1073741824) :
    Calls Tryd.prog 62 #[.slice a n c] w (BytesEnd w m) := by
  cases a with
  | none =>
    have hm : m = [] := by
      rcases h with h | ⟨_, _, h, _⟩
      · exact List.eq_nil_of_length_eq_zero h
      · cases h
    subst hm; have := hc rfl; subst this; subst hn; refine (bclone_nil w).mono fun e w' ⟨he, hw⟩ => ?_; subst hw
    exact ⟨none, 0, he, Nat.le_refl _, by omega, fun _ => rfl, .inl rfl, Below.refl _ _⟩
  | some ad =>
    have HH := Lib.hid (And.intro hn (And.intro h hl)); clear hn h hl hc
    go_enter Tryd.func62, Tryd.ntmps62
    go_upto_region 3 with (fail)
    refine wp_region_lit ?_
    iterate 6 go_step
    refine wpList_append_own2 rfl (.tmp 5) (.tmp 6) rfl w.heap.size (.slice (some ⟨w.heap.size, 0, none⟩) 0 0) [] rfl (Own.lit w #[] 5 (Nat.le_refl _) (by simp)) (some ad) c m n HH.out.1 rfl
      (HH.out.2.1.below ((Below.refl _ w).alloc (Nat.le_refl _) _)) (by have := HH.out.2.2; simpa using this) (by simp) ?_
    intro v' w1 ho hg hv; rw [List.nil_append] at ho; obtain ⟨a', c', rfl, h1, h2, h2b, h3⟩ := own_src ho
    have hB : Below w.heap.size w w1 := by
      refine ((Below.refl _ w).alloc (Nat.le_refl _) _).trans ⟨hg.os, hg.tape, hg.output, hg.size, fun k hk => hg.block k (by simp; omega) ?_⟩
      show some k ≠ some w.heap.size
      simp; omega
    have HF : Hid (m.length ≤ c' ∧ c' ≤ 9223372036854775807 ∧ (a' = none → c' = 0) ∧ SrcN w.heap.size w1 a' m ∧ Below w.heap.size w w1) := ⟨h1, h2, h2b, h3, hB⟩; clear ho hg hv h1 h2 h2b h3 hB; dsimp only; go_wp2_with (fail); go_ret; exact ⟨a', c', rfl, HF.out⟩
end Go.Proofs.YtdmnhgbdeifpbaaDoor
namespace Go.Proofs.YtdmnhgbdeifpbaaDoor
open Go Go.RowKit
theorem run_conv_u64_B8 (w : World) (x : Nat) : (convert 95 5 (.int .u64 (x : Int))).run Tryd.prog w = .ok (B (BitVec.ofNat 8 x)) w := by
  simp [convert, Conv.intToInt, run_underlying Tryd.underlying95, run_underlying Tryd.underlying5, B, IntKind.wrap, IntKind.bits, IntKind.signed]
theorem or128 : ∀ y : Fin 256, (BitVec.ofNat 8 y.val ||| 128#8) = BitVec.ofNat 8 (128 + y.val % 128) := by decide +kernel
theorem ofNat_or (x : Nat) : (BitVec.ofNat 8 x ||| 128#8) = BitVec.ofNat 8 (128 + x % 128) := by
  have h := or128 ⟨x % 256, by omega⟩
  have e1 : BitVec.ofNat 8 (x % 256) = BitVec.ofNat 8 x := by
    apply BitVec.eq_of_toNat_eq
    simp
  have e2 : x % 256 % 128 = x % 128 := by omega
  simp only at h; rw [e1, e2] at h; exact h
def PWordRel (X : Nat → Prop) (b : Nat) (w0 : World) (l : List (BitVec 8)) (W0 : Nat) (v : Value) (wr : World) : Prop :=
  ∃ (n x : Nat) (p : List (BitVec 8)), n + 1 ≤ 10 ∧ x < 128 ^ (n + 1) ∧ x < 18446744073709551616 ∧ v = .int .u64 (x : Int) ∧ p ++ wordF (n + 1) x = wordL W0 ∧ p.length + n ≤ 10 ∧ PenAt X wr b (l ++ p) ∧ PKept X b w0 wr
set_option maxRecDepth 100000 in
set_option maxHeartbeats 2000000 in
theorem pword_any (w : World) (X : Nat → Prop) (b : Nat) (l : List (BitVec 8)) (W0 : Nat) (hW : W0 < 18446744073709551616) (hP : PenAt X w b l) (hX : ∀ k, X k → k < w.heap.size) (hl : l.length ≤ 1073741000) :
    Calls Tryd.prog 71 #[.pointer (some ⟨b, 0, none⟩), .int .u64 (W0 : Int)] w (PenEnd X b w (l ++ wordL W0) (.tuple #[])) := by
  have HP := Lib.hid hP; have HB := Lib.hid (And.intro hX hl); clear hP hX hl
  go_enter Tryd.func71, Tryd.ntmps71
  go_wp2_with (fail)
  go_loopw [1] (PWordRel X b w l W0) (fun v _ => (intOf v).toNat)
  case atStart => exact ⟨9, W0, [], by omega, by have : (128 : Nat) ^ (9 + 1) = 1180591620717411303424 := by decide
                                                 omega, hW, rfl, rfl, by simp, by rw [List.append_nil]; exact HP.out, PKept.refl _ _ _⟩
  case round =>
    obtain ⟨n, x, p, hn, hx, hx2, rfl, hp, hpl, ⟨v, hb, ho, hx0⟩, hK⟩ := hrel
    have d0 : wr.cell? ⟨b, 0, none⟩ = some v := by rw [cell_of_row _ _ _ _ _ _ hb]; rfl
    have hcv := fun w => run_conv_u64_B8 w x; have hbl := (Array.getElem?_eq_some_iff.1 hb).1; have hbs : (∀ k, X k → k < wr.heap.size) ∧ ∀ g, v.ownBlock = some g → ¬ X g := ⟨fun k hk => Nat.lt_of_lt_of_le (HB.out.1 k hk) hK.size, hx0⟩; clear hx0; obtain ⟨sa, sc, hv⟩ := ho.form
    by_cases hlt : x < 128
    · have h1 : ¬ (128 : Int) ≤ (x : Int) := by omega
      obtain ⟨y, hy⟩ : ∃ y, y = BitVec.ofNat 8 x := ⟨_, rfl⟩; rw [← hy] at hcv
      have hfin : p ++ [y] = wordL W0 := by rw [← hp, wordF, if_pos hlt, hy]
      have HF := Lib.hid (And.intro hfin (And.intro hK (And.intro hb (And.intro ho (And.intro hbl (And.intro hbs (And.intro hpl hv))))))); clear hfin hK hp hx hx2 hn hpl hy hlt hb ho hbl hbs hv
      go_upto_region 3 with (fail)
      refine wp_region_lit ?_
      iterate 21 go_step
      refine run_slice1_B rfl (.tmp 26) rfl y rfl ?_; obtain ⟨hfin, hK, hb, ho, hbl, hbs, hpl, hv⟩ := HF.out
      refine wpList_append_own2 rfl (.tmp 24) (.tmp 27) rfl 0 v ((l ++ p).map B) rfl (ho.far ((Below.refl _ _).alloc (Nat.le_refl _) _)) (some ⟨wr.heap.size, 0, none⟩) 1 [y] 1 rfl rfl (.inr ⟨wr.heap.size, 0, rfl, fun j hj => by
        obtain rfl : j = 0 := by simpa using hj
        exact World.cell?_alloc_mark _ _ _ _ _⟩) (by simp only [List.length_map, List.length_append, List.length_singleton]; have := HB.out.2; omega) (Nat.zero_le _) ?_
      intro v' w1 ho1 hg hv'
      obtain ⟨hG, hG2⟩ := PenAt.grown (m := [y]) (((Below.refl _ wr).alloc (Nat.le_refl _) _ : Below wr.heap.size wr (wr.alloc (.cells #[B y] 5))).block b hbl |>.trans hb) (ho.far ((Below.refl _ _).alloc (Nat.le_refl _) _)) hbs.2 ho1 hg hv' (fun k hk => by have := hbs.1 k hk; simp; omega)
      have hb1 : w1.heap[b]? = some (.cells #[v] 76 (0, 0)) := (hg.block b (by simp; omega) (fun e => own_ne ho hb (by decide) e.symm)).trans ((((Below.refl _ wr).alloc (Nat.le_refl _) _ : Below wr.heap.size wr (wr.alloc (.cells #[B y] 5))).block b hbl).trans hb)
      have d1 : w1.cell? ⟨b, 0, none⟩ = some v := by rw [cell_of_row _ _ _ _ _ _ hb1]; rfl
      have f1 : w1.frozen? ⟨b, 0, none⟩ = false := frozen_of_row w1 b 0 _ _ hb1; obtain ⟨ra, rc, hv1⟩ := ho1.form; obtain ⟨rn, hrn⟩ : ∃ rn, rn = (((l ++ p).map B) ++ [y].map B).length := ⟨_, rfl⟩; rw [← hrn] at hv1; subst hv1
      have HG : Hid (PenAt X (w1.setCell ⟨b, 0, none⟩ (.slice ra rn rc)) b (l ++ wordL W0) ∧ PKept X b w (w1.setCell ⟨b, 0, none⟩ (.slice ra rn rc))) := by
        refine ⟨?_, (hK.trans (PKept.of_below ((Below.refl _ wr).alloc (Nat.le_refl _) _))).trans hG2⟩; rw [← hfin, ← List.append_assoc]; exact hG
      clear hrn hG hG2 ho1 hg hv' hb1 hfin hK hb ho hbl hbs hpl hv d0; dsimp only; go_wp2_with (fail)
      go_end0
      exact ⟨rfl, HG.out.1, HG.out.2⟩
    · have h1 : (128 : Int) ≤ (x : Int) := by omega
      obtain ⟨z, hz⟩ : ∃ z, z = BitVec.ofNat 8 x := ⟨_, rfl⟩; rw [← hz] at hcv
      have hor : ∀ w, (binOp .or 5 (B z) (.int .u8 128)).run Tryd.prog w = .ok (B (z ||| 128#8)) w := fun w => run_or_B _ _ z 128#8 w
      obtain ⟨y, hy⟩ : ∃ y, y = z ||| 128#8 := ⟨_, rfl⟩
      rw [← hy] at hor; obtain ⟨m, hm⟩ : ∃ m, m = x / 128 := ⟨_, rfl⟩; have HM := Lib.hid hm
      have hn1 : ∃ n', n = n' + 1 := by
        cases n with
        | zero => simp at hx; omega
        | succ n' => exact ⟨n', rfl⟩
      obtain ⟨n', rfl⟩ := hn1
      have hfin : (p ++ [y]) ++ wordF (n' + 1) m = wordL W0 := by rw [← hp, show wordF (n' + 1 + 1) x = BitVec.ofNat 8 (128 + x % 128) :: wordF (n' + 1) (x / 128) from if_neg hlt, hy, hz, hm, ofNat_or]; simp
      have hmx : m < 128 ^ (n' + 1) := by
        have : (128 : Nat) ^ (n' + 1 + 1) = 128 ^ (n' + 1) * 128 := Nat.pow_succ _ _; omega
      have hms : m < x := by omega
      have HF := Lib.hid (And.intro hfin (And.intro hK (And.intro hb (And.intro ho (And.intro hbl (And.intro hbs (And.intro hpl (And.intro hv (And.intro hmx (And.intro hn (And.intro hms hx2))))))))))); clear hfin hK hp hx hx2 hn hpl hy hz hm hmx hms hlt hb ho hbl hbs hv
      go_upto_region 1 with (fail)
      refine wp_region_lit ?_
      iterate 24 go_step
      refine run_slice1_B rfl (.tmp 13) rfl y rfl ?_; obtain ⟨hfin, hK, hb, ho, hbl, hbs, hpl, hv, hmx, hn, hms, hx2⟩ := HF.out
      refine wpList_append_own2 rfl (.tmp 10) (.tmp 14) rfl 0 v ((l ++ p).map B) rfl (ho.far ((Below.refl _ _).alloc (Nat.le_refl _) _)) (some ⟨wr.heap.size, 0, none⟩) 1 [y] 1 rfl rfl (.inr ⟨wr.heap.size, 0, rfl, fun j hj => by
        obtain rfl : j = 0 := by simpa using hj
        exact World.cell?_alloc_mark _ _ _ _ _⟩) (by simp only [List.length_map, List.length_append, List.length_singleton]; have := HB.out.2; omega) (Nat.zero_le _) ?_
      intro v' w1 ho1 hg hv'
      obtain ⟨hG, hG2⟩ := PenAt.grown (m := [y]) (((Below.refl _ wr).alloc (Nat.le_refl _) _ : Below wr.heap.size wr (wr.alloc (.cells #[B y] 5))).block b hbl |>.trans hb) (ho.far ((Below.refl _ _).alloc (Nat.le_refl _) _)) hbs.2 ho1 hg hv' (fun k hk => by have := hbs.1 k hk; simp; omega)
      have hb1 : w1.heap[b]? = some (.cells #[v] 76 (0, 0)) := (hg.block b (by simp; omega) (fun e => own_ne ho hb (by decide) e.symm)).trans ((((Below.refl _ wr).alloc (Nat.le_refl _) _ : Below wr.heap.size wr (wr.alloc (.cells #[B y] 5))).block b hbl).trans hb)
      have d1 : w1.cell? ⟨b, 0, none⟩ = some v := by rw [cell_of_row _ _ _ _ _ _ hb1]; rfl
      have f1 : w1.frozen? ⟨b, 0, none⟩ = false := frozen_of_row w1 b 0 _ _ hb1; obtain ⟨ra, rc, hv1⟩ := ho1.form; obtain ⟨rn, hrn⟩ : ∃ rn, rn = (((l ++ p).map B) ++ [y].map B).length := ⟨_, rfl⟩; rw [← hrn] at hv1; subst hv1
      have HG : Hid (PenAt X (w1.setCell ⟨b, 0, none⟩ (.slice ra rn rc)) b (l ++ (p ++ [y])) ∧ PKept X b w (w1.setCell ⟨b, 0, none⟩ (.slice ra rn rc))) := by
        refine ⟨?_, (hK.trans (PKept.of_below ((Below.refl _ wr).alloc (Nat.le_refl _) _))).trans hG2⟩; rw [← List.append_assoc]; exact hG
      clear hrn hG hG2 ho1 hg hv' hb1 hfin hK hb ho hbl hbs hpl hv hmx hn hms hx2 d0; dsimp only; go_wp2_with (fail); obtain ⟨hfin, hK, hb, ho, hbl, hbs, hpl, hv, hmx, hn, hms, hx2⟩ := HF.out
      exact ⟨⟨n', m, p ++ [y], by omega, hmx, by omega, by rw [HM.out]; rfl, hfin, by simp only [List.length_append, List.length_singleton]; omega, HG.out.1, HG.out.2⟩, by simp [intOf]; omega⟩
end Go.Proofs.YtdmnhgbdeifpbaaDoor
namespace Go.Proofs.YtdmnhgbdeifpbaaDoor
open Go Go.RowKit
theorem pnumber_any (w : World) (X : Nat → Prop) (b n : Nat) (l : List (BitVec 8)) (h : n < 9223372036854775808) (hP : PenAt X w b l) (hX : ∀ k, X k → k < w.heap.size) (hl : l.length ≤ 1073741000) :
    Calls Tryd.prog 42 #[.pointer (some ⟨b, 0, none⟩), .int .i64 (n : Int)] w (PenEnd X b w (l ++ wordL n) (.bool true)) := by
  have hcv := fun w => run_conv_i64_u64n w n h
  have HS := Lib.hid (pword_any w X b l n (by omega) hP hX hl)
  have h1 : ¬ (n : Int) < 0 := by omega
  clear h hP hX hl
  go_enter Tryd.func42, Tryd.ntmps42
  go_wp2_with (fail); refine HS.out.mono ?_; rintro e w1 ⟨rfl, h1, h2⟩; have HF := Lib.hid (And.intro h1 h2); clear h1 h2; dsimp only; go_wp2_with (fail); go_ret; exact ⟨rfl, HF.out⟩
theorem run_conv_i64_u64z (w : World) (n : Int) (h1 : -9223372036854775808 ≤ n) (h2 : n < 9223372036854775808) : (convert 3 95 (.int .i64 n)).run Tryd.prog w = .ok (.int .u64 (if 0 ≤ n then n else n + 18446744073709551616)) w := by
  simp [convert, Conv.intToInt, run_underlying Tryd.underlying3, run_underlying Tryd.underlying95, IntKind.wrap, IntKind.bits, IntKind.signed]
  split <;> omega
theorem wrap_u64 (x : Int) : IntKind.u64.wrap x = x % 18446744073709551616 := by
  simp [IntKind.wrap, IntKind.bits, IntKind.signed]
theorem not64 (x : Nat) (h : x < 18446744073709551616) : (BitVec.ofInt 64 18446744073709551615 ^^^ BitVec.ofInt 64 (x : Int)).toNat = 18446744073709551615 - x := by
  have e : BitVec.ofInt 64 (x : Int) = BitVec.ofNat 64 x := by
    apply BitVec.eq_of_toNat_eq
    simp
  have e2 : BitVec.ofInt 64 18446744073709551615 = BitVec.allOnes 64 := by decide +kernel
  rw [e, e2, BitVec.allOnes_xor, BitVec.toNat_not]; simp; omega
theorem bits_not64 (x : Nat) (h : x < 18446744073709551616) : bits .xor .u64 IntKind.u64.max (x : Int) = ((18446744073709551615 - x : Nat) : Int) := by
  show IntKind.u64.wrap ((BitVec.ofInt 64 18446744073709551615 ^^^ BitVec.ofInt 64 (x : Int)).toNat : Int) = _
  rw [not64 x h, wrapU64 _ (by omega)]
theorem psigned_any (w : World) (X : Nat → Prop) (b : Nat) (n : Int) (l : List (BitVec 8)) (h1 : -9223372036854775808 ≤ n) (h2 : n < 9223372036854775808) (hP : PenAt X w b l) (hX : ∀ k, X k → k < w.heap.size) (hl : l.length ≤ 1073741000) :
    Calls Tryd.prog 84 #[.pointer (some ⟨b, 0, none⟩), .int .i64 n] w (PenEnd X b w (l ++ signedL n) (.tuple #[])) := by
  have HS := Lib.hid (pword_any w X b l (zig n) (zig_lt n h1 h2) hP hX hl); have HG : Hid (signedL n = wordL (zig n)) := Lib.hid rfl; obtain ⟨z, hz⟩ : ∃ z, z = zig n := ⟨_, rfl⟩; have hzl := zig_lt n h1 h2; rw [← hz] at HS HG hzl; have hcv := fun w => run_conv_i64_u64z w n h1 h2; clear hP hX hl
  by_cases hn : 0 ≤ n
  · have hm : (z : Int) = 2 * n := by rw [hz, zig, if_pos hn]; omega
    have hsh : IntKind.u64.wrap (n * 2) = (z : Int) := by rw [wrap_u64]; omega
    simp only [if_pos hn] at hcv
    have h1' : ¬ n < 0 := by omega
    clear hz hm h1 h2 hn hzl
    go_enter Tryd.func84, Tryd.ntmps84
    go_wp2_with (fail); refine HS.out.mono ?_; rintro e w1 ⟨rfl, k1, k2⟩; have HF := Lib.hid (And.intro k1 k2); clear k1 k2; dsimp only; go_wp2_with (fail)
    go_end0
    exact ⟨rfl, by rw [HG.out]; exact HF.out⟩
  · obtain ⟨y, hy⟩ : ∃ y : Nat, (y : Int) = n + 18446744073709551616 := ⟨(n + 18446744073709551616).toNat, by omega⟩
    obtain ⟨q, hq⟩ : ∃ q, q = 18446744073709551615 - z := ⟨_, rfl⟩
    have hm : z = (-(n + 1)).toNat * 2 + 1 := by rw [hz, zig, if_neg hn]; omega
    simp only [if_neg hn] at hcv; rw [← hy] at hcv
    have hsh : IntKind.u64.wrap ((y : Int) * 2) = (q : Int) := by rw [wrap_u64]; omega
    have hnt := bits_not64 q (by omega)
    rw [show 18446744073709551615 - q = z by omega] at hnt
    have h1' : n < 0 := by omega
    clear hz hm h1 h2 hn hzl hq hy
    go_enter Tryd.func84, Tryd.ntmps84
    go_wp2_with (fail); refine HS.out.mono ?_; rintro e w1 ⟨rfl, k1, k2⟩; have HF := Lib.hid (And.intro k1 k2); clear k1 k2; dsimp only; go_wp2_with (fail)
    go_end0
    exact ⟨rfl, by rw [HG.out]; exact HF.out⟩
set_option maxRecDepth 100000 in
theorem pfixed_any (w : World) (X : Nat → Prop) (b n c : Nat) (a : Option Addr) (l m : List (BitVec 8)) (hn : n = m.length) (hm : SrcP w a m.length m) (hP : PenAt X w b l) (hX : ∀ k, X k → k < w.heap.size) (hl : l.length + m.length ≤ 1073741824) :
    Calls Tryd.prog 43 #[.pointer (some ⟨b, 0, none⟩), .slice a n c] w (PenEnd X b w (l ++ m) (.tuple #[])) := by
  obtain ⟨v, hb, ho, hx0⟩ := hP
  have d0 : w.cell? ⟨b, 0, none⟩ = some v := by rw [cell_of_row _ _ _ _ _ _ hb]; rfl
  have HF := Lib.hid (And.intro hn (And.intro hm (And.intro hb (And.intro ho (And.intro (And.intro hX hx0) hl))))); clear hn hm hb ho hX hx0 hl
  go_enter Tryd.func43, Tryd.ntmps43
  go_upto_region 1 with (fail)
  refine wp_region_lit ?_
  iterate 18 go_step
  obtain ⟨hn, hm, hb, ho, ⟨hX, hx0⟩, hl⟩ := HF.out; have hbl := (Array.getElem?_eq_some_iff.1 hb).1
  refine wpList_append_own2 rfl (.tmp 10) (.tmp 11) rfl 0 v (l.map B) rfl ho a c m n hn rfl hm (by simpa using hl) (Nat.zero_le _) ?_
  intro v' w1 ho1 hg hv'; obtain ⟨hG, hG2⟩ := PenAt.grown hb ho hx0 ho1 hg hv' hX
  have hb1 : w1.heap[b]? = some (.cells #[v] 76 (0, 0)) := (hg.block b hbl (fun e => own_ne ho hb (by decide) e.symm)).trans hb
  have d1 : w1.cell? ⟨b, 0, none⟩ = some v := by rw [cell_of_row _ _ _ _ _ _ hb1]; rfl
  have f1 : w1.frozen? ⟨b, 0, none⟩ = false := frozen_of_row w1 b 0 _ _ hb1; obtain ⟨ra, rc, hv1⟩ := ho1.form; obtain ⟨rn, hrn⟩ : ∃ rn, rn = ((l.map B) ++ m.map B).length := ⟨_, rfl⟩; rw [← hrn] at hv1; subst hv1; have HG := Lib.hid (And.intro hG hG2); clear hrn hG hG2 ho1 hg hv' hb1 hn hm hb ho hX hx0 hl d0 hbl; dsimp only; go_wp2_with (fail)
  go_end0
  exact ⟨rfl, HG.out.1, HG.out.2⟩
def SrcK (X : Nat → Prop) (b : Nat) (w : World) (a : Option Addr) (m : List (BitVec 8)) : Prop :=
  m.length = 0 ∨ ∃ ab off, a = some ⟨ab, off, none⟩ ∧ X ab ∧ ab ≠ b ∧ ∀ i < m.length, w.cell? ⟨ab, off + i, none⟩ = some (B (gl m i))
theorem SrcK.srcP {X : Nat → Prop} {b : Nat} {w : World} {a : Option Addr} {m : List (BitVec 8)} (h : SrcK X b w a m) : SrcP w a m.length m := by
  rcases h with h | ⟨ab, off, h1, _, _, h3⟩
  · exact .inl h
  · exact .inr ⟨ab, off, h1, h3⟩
theorem cell_of_heap {w w' : World} {p : Addr} {v : Value} (h : w.cell? p = some v) (he : w'.heap[p.block]? = w.heap[p.block]?) : w'.cell? p = some v := by
  simp only [World.cell?] at h ⊢; rw [he]; exact h
theorem SrcK.kept {X : Nat → Prop} {b : Nat} {w w' : World} {a : Option Addr} {m : List (BitVec 8)} (h : SrcK X b w a m) (hK : PKept X b w w') : SrcK X b w' a m := by
  rcases h with h | ⟨ab, off, h1, h2, h3, h4⟩
  · exact .inl h
  · refine .inr ⟨ab, off, h1, h2, h3, fun i hi => cell_of_heap (h4 i hi) (hK.2.2.2.2.1 ab h2 h3 ?_)⟩; exact block_lt_of_cell (h4 i hi)
theorem ptext_any (w : World) (X : Nat → Prop) (b n c : Nat) (a : Option Addr) (l m : List (BitVec 8)) (hn : n = m.length) (hm : SrcK X b w a m) (h4 : n ≤ 4096) (hP : PenAt X w b l) (hX : ∀ k, X k → k < w.heap.size) (hl : l.length ≤ 1073731000) :
    Calls Tryd.prog 46 #[.pointer (some ⟨b, 0, none⟩), .slice a n c] w (PenEnd X b w (l ++ textL m) (.bool true)) := by
  have h1 : ¬ (4096 : Int) < (n : Int) := by omega
  have HS := Lib.hid (pnumber_any w X b n l (by omega) hP hX (by omega))
  have HF := Lib.hid (And.intro hn (And.intro hm (And.intro hX (And.intro hl h4)))); clear hn hm h4 hP hX hl
  go_enter Tryd.func46, Tryd.ntmps46
  go_wp2_with (fail); refine HS.out.mono ?_; rintro e w1 ⟨rfl, k1, k2⟩; obtain ⟨hn, hm, hX, hl, h4⟩ := HF.out; have hw : (wordL n).length ≤ 10 := wordL_length n
  have HX := Lib.hid (pfixed_any w1 X b n c a (l ++ wordL n) m hn (hm.kept k2).srcP k1 (fun k hk => Nat.lt_of_lt_of_le (hX k hk) k2.size) (by rw [List.length_append]; omega))
  have HY : Hid (l ++ textL m = l ++ wordL n ++ m) := by
    show _ = _
    rw [textL, hn, List.append_assoc]
  have HK := Lib.hid k2; clear hn hm hX hl h4 hw k1 k2; dsimp only; go_wp2_with (fail); refine HX.out.mono ?_; rintro e w2 ⟨rfl, k3, k4⟩; have HZ := Lib.hid (And.intro k3 (HK.out.trans k4)); clear k3 k4; dsimp only; go_wp2_with (fail); go_ret
  exact ⟨rfl, by rw [HY.out]; exact HZ.out⟩
theorem pbytes_any (w : World) (X : Nat → Prop) (b : Nat) (l : List (BitVec 8)) (hP : PenAt X w b l) (hl : l.length ≤ 1073741824) :
    Calls Tryd.prog 45 #[.pointer (some ⟨b, 0, none⟩)] w (BytesEnd w l) := by
  obtain ⟨v, hb, ho, hx0⟩ := hP; obtain ⟨a, c, rfl, h1, h2, hac, h3⟩ := own_src ho
  have d0 : w.cell? ⟨b, 0, none⟩ = some (.slice a l.length c) := by rw [cell_of_row _ _ _ _ _ _ hb]; rfl
  have HS := Lib.hid (bclone_any w a c l.length l rfl h3.srcP hac hl); obtain ⟨n, hn⟩ : ∃ n, n = l.length := ⟨_, rfl⟩; rw [← hn] at d0 HS; clear hb ho h1 h2 h3 hac hl hn
  go_enter Tryd.func45, Tryd.ntmps45
  go_wp2_with (fail); refine HS.out.mono ?_; rintro e w1 ⟨a', c', rfl, k⟩; have HK := Lib.hid k; clear k; dsimp only; go_wp2_with (fail); go_ret; exact ⟨a', c', rfl, HK.out⟩
end Go.Proofs.YtdmnhgbdeifpbaaDoor
