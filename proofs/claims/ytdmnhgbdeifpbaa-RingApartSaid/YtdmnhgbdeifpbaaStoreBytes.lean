/-
  Bytes that a call made itself, what is appended to them; the contract of slices.Clone at bytes.
-/
import Derived.Test.YtdmnhgbdeifpbaaCoreBase
import Derived.Laws.Cover3
namespace Go.Proofs.Ytdmnhgbdeifpbaa
open Go Go.RowKit

theorem info_u8' : ((Try.prog.info? 5).map fun i => (i.zero, i.size, i.bytes)) = some (some (.int .u8 0), 1, 1) := by kernel_rfl
theorem B_one : ∀ (m : List (BitVec 8)), ∀ u ∈ m.map B, u.oneCell' = true := fun m u hu => by
  obtain ⟨x, _, rfl⟩ := List.mem_map.1 hu
  exact B_oneCell x
theorem src_cells {w : World} {ab off : Nat} {m : List (BitVec 8)} (hc : ∀ i < m.length, w.cell? ⟨ab, off + i, none⟩ = some (B (gl m i))) : ∀ (j : Nat) (v : Value), (m.map B)[j]? = some v → w.cell? ((⟨ab, off, none⟩ : Addr).add j) = some v := by
  intro j v hv
  rw [List.getElem?_map] at hv
  cases hx : m[j]? with
  | none => rw [hx] at hv; cases hv
  | some y =>
    rw [hx] at hv
    simp only [Option.map_some, Option.some.injEq] at hv
    have hj : j < m.length := (List.getElem?_eq_some_iff.1 hx).1
    rw [addr_add, hc j hj, ← hv]
    simp [gl, hx]
/-- What a slice of its own is behind an append of any bytes. -/
theorem append_own (w : World) (base : Nat) (v : Value) (xs : List Value) (hown : Own w base 5 v xs) (a : Option Addr) (c : Nat) (m : List (BitVec 8)) (h : SrcP w a m.length m)
    (hl : xs.length + m.length ≤ 1073741824) (hb : base ≤ w.heap.size) (ty : TypeId) :
    ∃ v' w', (Builtin.append_ #[25, 25] ty #[v, .slice a m.length c]).run Try.prog w = .ok v' w' ∧ Own w' base 5 v' (xs ++ m.map B) ∧ w.grownBy w' v.ownBlock ∧ (v'.ownBlock = v.ownBlock ∨ v'.ownBlock = some w.heap.size) := by
  obtain ⟨i, hi, hz, hs, hby⟩ := info_u8
  have some_case : ∀ ad : Addr, (∀ (j : Nat) (u : Value), (m.map B)[j]? = some u → w.cell? (ad.add j) = some u) →
      ∃ v' w', (Builtin.append_ #[25, 25] ty #[v, .slice (some ad) m.length c]).run Try.prog w = .ok v' w' ∧ Own w' base 5 v' (xs ++ m.map B) ∧ w.grownBy w' v.ownBlock ∧ (v'.ownBlock = v.ownBlock ∨ v'.ownBlock = some w.heap.size) := by
    intro ad hc
    obtain ⟨v', w', h1, h2, h3, _, h5⟩ := run_append_own_at (P := Try.prog) w base 25 ty 5 i (.int .u8 0) 1 1 Try.underlying25 hi hz hs hby rfl (by decide) v xs.length xs hown ad m.length c (m.map B) (by simp) hc (B_one m)
      (by unfold maxLen; omega) (by omega) hb
    exact ⟨v', w', h1, by simpa [Own] using h2, h3, h5⟩
  cases a with
  | some ad =>
    rcases h with h | ⟨ab, off, ha, hc⟩
    · exact some_case ad fun j u hj => by
        have : m = [] := List.eq_nil_of_length_eq_zero h
        subst this
        simp at hj
    · cases ha
      exact some_case _ (src_cells hc)
  | none =>
    have h0 : m = [] := by
      rcases h with h | ⟨_, _, ha, _⟩
      · exact List.eq_nil_of_length_eq_zero h
      · cases ha
    subst h0
    refine ⟨v, w, ?_, by simpa using hown, ⟨rfl, rfl, rfl, Nat.le_refl _, fun _ _ _ => rfl⟩, .inl rfl⟩
    rcases hown.2 with ⟨hv, hn⟩ | ⟨g, cap, cur, hv, _, hg, hle, _⟩
    · rw [hv]
      simp [Builtin.append_, run_underlying Try.underlying25, sizeOf, typeInfo, hi, Builtin.lenOf, Builtin.firstCells]
    · rw [hv]
      simp [Builtin.append_, run_underlying Try.underlying25, sizeOf, typeInfo, hi, Builtin.lenOf, Builtin.firstCells, storeCells, loadCells, hle]
theorem wpList_append_own2 {ops : Array Oper} {rest : List Oper} {o : Oper} {a : Act} {Q : Exit → Act → World → Prop} {w : World} (hgd : o.guard = none) (s x : Operand)
    (ho : o.op = .call { callee := .builtin .append, args := #[s, x], argTypes := #[25, 25] }) (base : Nat) (v : Value) (xs : List Value) (hs : a.eval s = v) (hown : Own w base 5 v xs)
    (sa : Option Addr) (c : Nat) (m : List (BitVec 8)) (n : Nat) (hn : n = m.length) (hx : a.eval x = .slice sa n c) (hm : SrcP w sa m.length m) (hl : xs.length + m.length ≤ 1073741824) (hb : base ≤ w.heap.size)
    (h : ∀ v' w', Own w' base 5 v' (xs ++ m.map B) → w.grownBy w' v.ownBlock → (v'.ownBlock = v.ownBlock ∨ v'.ownBlock = some w.heap.size) → wpList Try.prog ops Q rest (a.put o.dst v') w') :
    wpList Try.prog ops Q (o :: rest) a w := by
  refine wpList_plain hgd fun K hK => ?_
  subst hn
  obtain ⟨v', w', hr, h2, h3, h4⟩ := append_own w base v xs hown sa c m hm hl hb o.type
  unfold Oper.wp execOp
  simp only [ho, resolve, invoke, builtin, Sem.run_bind, Sem.run_pure, Result.andThen_ok, List.map_toArray, List.map_cons, List.map_nil, hs, hx, hr]
  exact hK _ _ (h v' w' h2 h3 h4)
def SrcN (B0 : Nat) (w : World) (a : Option Addr) (m : List (BitVec 8)) : Prop :=
  m.length = 0 ∨ ∃ ab off, a = some ⟨ab, off, none⟩ ∧ B0 ≤ ab ∧ ∀ i < m.length, w.cell? ⟨ab, off + i, none⟩ = some (B (gl m i))
theorem SrcN.srcP {B0 : Nat} {w : World} {a : Option Addr} {m : List (BitVec 8)} (h : SrcN B0 w a m) : SrcP w a m.length m := by
  rcases h with h | ⟨ab, off, h1, _, h3⟩
  · exact .inl h
  · exact .inr ⟨ab, off, h1, h3⟩
theorem SrcN.src {B0 : Nat} {w : World} {a : Option Addr} {m : List (BitVec 8)} (h : SrcN B0 w a m) {b : Nat} (hb : b < B0) : Src w b a m.length m 0 := by
  rcases h with h | ⟨ab, off, h1, h2, h3⟩
  · exact .inl h
  · exact .inr ⟨ab, off, h1, by omega, fun i hi => by rw [Nat.zero_add]; exact h3 i hi⟩
theorem SrcN.below {B0 : Nat} {w w' : World} {a : Option Addr} {m : List (BitVec 8)} (h : SrcN B0 w a m) (hB : Below w.heap.size w w') : SrcN B0 w' a m := by
  rcases h with h | ⟨ab, off, h1, h2, h3⟩
  · exact .inl h
  · exact .inr ⟨ab, off, h1, h2, fun i hi => (hB.cell (p := ⟨ab, off + i, none⟩) (block_lt_of_cell (h3 i hi))).trans (h3 i hi)⟩
theorem SrcN.grown {B0 b : Nat} {w w' : World} {a : Option Addr} {m : List (BitVec 8)} (h : SrcN B0 w a m) (hg : w.grownBy w' (some b)) (hb : b < B0) : SrcN B0 w' a m := by
  rcases h with h | ⟨ab, off, h1, h2, h3⟩
  · exact .inl h
  · exact .inr ⟨ab, off, h1, h2, fun i hi => hg.cell (h3 i hi) (by simp; omega)⟩
theorem SrcN.mono {B0 B1 : Nat} {w : World} {a : Option Addr} {m : List (BitVec 8)} (h : SrcN B0 w a m) (hb : B1 ≤ B0) : SrcN B1 w a m := by
  rcases h with h | ⟨ab, off, h1, h2, h3⟩
  · exact .inl h
  · exact .inr ⟨ab, off, h1, by omega, h3⟩
theorem own_src {w : World} {base : Nat} {v : Value} {m : List (BitVec 8)} (h : Own w base 5 v (m.map B)) : ∃ a c, v = .slice a m.length c ∧ m.length ≤ c ∧ c ≤ 9223372036854775807 ∧ (a = none → c = 0) ∧ SrcN base w a m := by
  rcases h.2 with ⟨hv, hn⟩ | ⟨g, cap, cur, hv, hb, hg, hle, hm, hs, ht⟩
  · have h0 : m.length = 0 := by simpa using hn
    exact ⟨none, 0, by rw [hv, h0], by omega, by omega, fun _ => rfl, .inl h0⟩
  · have hlen : (m.map B).length = m.length := by simp
    rw [hlen] at hv hle
    subst hv
    refine ⟨some ⟨g, 0, none⟩, cap, rfl, hle, by unfold maxLen at hm; omega, (fun h => by cases h), .inr ⟨g, 0, rfl, hb, fun i hi => ?_⟩⟩
    have := Own.cellAt (xs := m.map B) (by rw [hlen]; exact h) i (by rw [hlen]; exact hi)
    rw [Nat.zero_add, this]
    simp [gl, hi]
/-- What a call that makes bytes leaves. -/
def BytesEnd (w : World) (m : List (BitVec 8)) (e : Ending) (w' : World) : Prop :=
  ∃ a c, e = .returned (.slice a m.length c) ∧ m.length ≤ c ∧ c ≤ 9223372036854775807 ∧ (a = none → c = 0) ∧ SrcN w.heap.size w' a m ∧ Below w.heap.size w w'
theorem run_eql_nil_some (w : World) (a : Addr) (l c : Nat) : (binOp .eql 25 (.slice (some a) l c) (.slice none 0 0)).run Try.prog w = .ok (.bool false) w := by
  simp only [binOp]
  simp [run_equal_slice_nil w 25 5 (some a) l c Try.underlying25]
theorem run_eql_nil_none (w : World) (l c : Nat) : (binOp .eql 25 (.slice none l c) (.slice none 0 0)).run Try.prog w = .ok (.bool true) w := by
  simp only [binOp]
  simp [run_equal_slice_nil w 25 5 none l c Try.underlying25]
attribute [go_sem] run_eql_nil_some run_eql_nil_none
theorem clone_nil (w : World) : Calls Try.prog 32 #[.slice none 0 0] w fun e w' => e = .returned (.slice none 0 0) ∧ w' = w := by
  go_enter Try.func32, Try.ntmps32
  go_wp2_with (fail)
  go_ret
  exact ⟨rfl, rfl⟩
set_option maxRecDepth 100000 in
theorem sclone_any (w : World) (a : Option Addr) (c n : Nat) (m : List (BitVec 8)) (hn : n = m.length) (h : SrcP w a m.length m) (hc : a = none → c = 0) (hl : m.length ≤ 1073741824) :
    Calls Try.prog 32 #[.slice a n c] w (BytesEnd w m) := by
  cases a with
  | none =>
    have hm : m = [] := by
      rcases h with h | ⟨_, _, h, _⟩
      · exact List.eq_nil_of_length_eq_zero h
      · cases h
    subst hm
    have := hc rfl
    subst this
    subst hn
    refine (clone_nil w).mono fun e w' ⟨he, hw⟩ => ?_
    subst hw
    exact ⟨none, 0, he, Nat.le_refl _, by omega, fun _ => rfl, .inl rfl, Below.refl _ _⟩
  | some ad =>
    have HH := Lib.hid (And.intro hn (And.intro h hl))
    clear hn h hl hc
    go_enter Try.func32, Try.ntmps32
    go_upto_region 3 with (fail)
    refine wp_region_lit ?_
    iterate 6 go_step
    refine wpList_append_own2 rfl (.tmp 5) (.tmp 6) rfl w.heap.size (.slice (some ⟨w.heap.size, 0, none⟩) 0 0) [] rfl (Own.lit w #[] 5 (Nat.le_refl _) (by simp)) (some ad) c m n HH.out.1 rfl
      (HH.out.2.1.below ((Below.refl _ w).alloc (Nat.le_refl _) _)) (by have := HH.out.2.2; simpa using this) (by simp) ?_
    intro v' w1 ho hg hv
    rw [List.nil_append] at ho
    obtain ⟨a', c', rfl, h1, h2, h2b, h3⟩ := own_src ho
    have hB : Below w.heap.size w w1 := by
      refine ((Below.refl _ w).alloc (Nat.le_refl _) _).trans ⟨hg.os, hg.tape, hg.output, hg.size, fun k hk => hg.block k (by simp; omega) ?_⟩
      show some k ≠ some w.heap.size
      simp
      omega
    have HF : Hid (m.length ≤ c' ∧ c' ≤ 9223372036854775807 ∧ (a' = none → c' = 0) ∧ SrcN w.heap.size w1 a' m ∧ Below w.heap.size w w1) := ⟨h1, h2, h2b, h3, hB⟩
    clear ho hg hv h1 h2 h2b h3 hB
    dsimp only
    go_wp2_with (fail)
    go_ret
    exact ⟨a', c', rfl, HF.out⟩
end Go.Proofs.Ytdmnhgbdeifpbaa
