/-
  A pen in memory: its own row, what is appended to it.
  Bytes that a call made itself; the contract of bytes.Clone.
  The contract of a pen's word.
  The contracts of a pen's methods: Number, Signed, Text, Fixed, Bytes; of a nil one's.
-/
import Derived.Test.YtbfioekbahcicaaPenPure
import Derived.Test.YtbfioekbahcicaaCoreBase
import Derived.Laws.Cover3
import Derived.Test.YtbfioekbahcicaaRefPen
namespace Go.Proofs.Ytbfioekbahcicaa
open Go Go.RowKit

theorem info_u8' : ((Try.prog.info? 5).map fun i => (i.zero, i.size, i.bytes)) = some (some (.int .u8 0), 1, 1) := by kernel_rfl
theorem B_one : ∀ (m : List (BitVec 8)), ∀ u ∈ m.map B, u.oneCell' = true := fun m u hu => by
  obtain ⟨x, _, rfl⟩ := List.mem_map.1 hu
  exact B_oneCell x
theorem src_cells {w : World} {ab off : Nat} {m : List (BitVec 8)} (hc : ∀ i < m.length, w.cell? ⟨ab, off + i, none⟩ = some (B (gl m i))) : ∀ (j : Nat) (v : Value), (m.map B)[j]? = some v → w.cell? ((⟨ab, off, none⟩ : Addr).add j) = some v := by
  intro j v hv
  rw [List.getElem?_map] at hv
  cases hx : m[j]? with
  | none => rw [hx] at hv; cases hv
  | some y =>
    rw [hx] at hv
    simp only [Option.map_some, Option.some.injEq] at hv
    have hj : j < m.length := (List.getElem?_eq_some_iff.1 hx).1
    rw [addr_add, hc j hj, ← hv]
    simp [gl, hx]
/-- What a pen's methods leave as it was: all of X but the pen's block, and all rows of another type than the pen's own. -/
def PKept (X : Nat → Prop) (b : Nat) (w w' : World) : Prop :=
  w'.os = w.os ∧ w'.tape = w.tape ∧ w'.output = w.output ∧ w.heap.size ≤ w'.heap.size ∧ (∀ k, X k → k ≠ b → k < w.heap.size → w'.heap[k]? = w.heap[k]?) ∧
    ∀ (k : Nat) (c : Array Value) (t : TypeId) (fr : Nat × Nat), w.heap[k]? = some (Obj.cells c t fr) → t ≠ 5 → k ≠ b → w'.heap[k]? = some (Obj.cells c t fr)
theorem PKept.refl (X : Nat → Prop) (b : Nat) (w : World) : PKept X b w w := ⟨rfl, rfl, rfl, Nat.le_refl _, fun _ _ _ _ => rfl, fun _ _ _ _ h _ _ => h⟩
theorem PKept.trans {X : Nat → Prop} {b : Nat} {w w1 w2 : World} (h : PKept X b w w1) (k : PKept X b w1 w2) : PKept X b w w2 :=
  ⟨k.1.trans h.1, k.2.1.trans h.2.1, k.2.2.1.trans h.2.2.1, Nat.le_trans h.2.2.2.1 k.2.2.2.1, fun i hi hne hl => (k.2.2.2.2.1 i hi hne (Nat.lt_of_lt_of_le hl h.2.2.2.1)).trans (h.2.2.2.2.1 i hi hne hl),
    fun i c t fr hi ht hne => k.2.2.2.2.2 i c t fr (h.2.2.2.2.2 i c t fr hi ht hne) ht hne⟩
theorem PKept.of_below {X : Nat → Prop} {b : Nat} {w w' : World} (h : Below w.heap.size w w') : PKept X b w w' :=
  ⟨h.os, h.tape, h.output, h.size, fun k _ _ hk => h.block k hk, fun k _ _ _ hk _ _ => (h.block k (Array.getElem?_eq_some_iff.1 hk).1).trans hk⟩
theorem PKept.mono {X Y : Nat → Prop} {b : Nat} {w w' : World} (h : PKept X b w w') (hY : ∀ k, Y k → X k) : PKept Y b w w' := ⟨h.1, h.2.1, h.2.2.1, h.2.2.2.1, fun k hk => h.2.2.2.2.1 k (hY k hk), h.2.2.2.2.2⟩
theorem PKept.below {X : Nat → Prop} {b B : Nat} {w w' : World} (h : PKept X b w w') (hB : ∀ k < B, X k) (hb : B ≤ b) (hs : B ≤ w.heap.size) : Below B w w' :=
  ⟨h.1, h.2.1, h.2.2.1, h.2.2.2.1, fun k hk => h.2.2.2.2.1 k (hB k hk) (by omega) (by omega)⟩
theorem PKept.set {X : Nat → Prop} {b : Nat} (w : World) (v : Value) : PKept X b w (w.setCell ⟨b, 0, none⟩ v) :=
  ⟨rfl, rfl, rfl, by simp [World.setCell], fun k _ hne _ => heap_setCell_other _ _ _ _ (fun e => hne (by rw [e])), fun k c t fr hk _ hne => (heap_setCell_other _ _ _ _ (fun e => hne (by rw [e]))).trans hk⟩
theorem PKept.own {X : Nat → Prop} {b : Nat} {w w' : World} {v : Value} {xs : List Value} (h : Own w 0 5 v xs) (hX : ∀ g, v.ownBlock = some g → ¬ X g) (hg : w.grownBy w' v.ownBlock) : PKept X b w w' := by
  refine ⟨hg.os, hg.tape, hg.output, hg.size, fun k hk _ hl => hg.block k hl (fun he => hX k he.symm hk), fun k c t fr hk ht _ => (hg.block k (Array.getElem?_eq_some_iff.1 hk).1 fun he => ?_).trans hk⟩
  rcases h.2 with ⟨hv, _⟩ | ⟨g, cap, cur, hv, _, hrow, _⟩
  · rw [hv] at he
    cases he
  · rw [hv] at he
    injection he with he
    subst he
    rw [hk] at hrow
    injection hrow with hrow
    injection hrow with _ e2
    exact ht e2
theorem PKept.row {X : Nat → Prop} {b : Nat} {w w' : World} (h : PKept X b w w') {k : Nat} {c : Array Value} {t : TypeId} {fr : Nat × Nat} (hk : w.heap[k]? = some (.cells c t fr)) (ht : t ≠ 5) (hne : k ≠ b) : w'.heap[k]? = some (.cells c t fr) := h.2.2.2.2.2 k c t fr hk ht hne
theorem PKept.size {X : Nat → Prop} {b : Nat} {w w' : World} (h : PKept X b w w') : w.heap.size ≤ w'.heap.size := h.2.2.2.1
theorem own_ne {base b : Nat} {w : World} {v u : Value} {xs : List Value} {t : TypeId} (h : Own w base 5 v xs) (hb : w.heap[b]? = some (.cells #[u] t (0, 0))) (ht : t ≠ 5) : v.ownBlock ≠ some b := by
  intro he
  rcases h.2 with ⟨hv, _⟩ | ⟨g, cap, cur, hv, _, hrow, _⟩
  · rw [hv] at he
    cases he
  · rw [hv] at he
    injection he with he
    have : g = b := he
    subst this
    rw [hb] at hrow
    injection hrow with hrow
    injection hrow with _ e2
    exact ht e2
end Go.Proofs.Ytbfioekbahcicaa
namespace Go.Proofs.Ytbfioekbahcicaa
open Go Go.RowKit

/-- The n bytes from place a on are those of m; they lie in a block of B0 or behind. -/
def SrcN (B0 : Nat) (w : World) (a : Option Addr) (m : List (BitVec 8)) : Prop :=
  m.length = 0 ∨ ∃ ab off, a = some ⟨ab, off, none⟩ ∧ B0 ≤ ab ∧ ∀ i < m.length, w.cell? ⟨ab, off + i, none⟩ = some (B (gl m i))
theorem SrcN.srcP {B0 : Nat} {w : World} {a : Option Addr} {m : List (BitVec 8)} (h : SrcN B0 w a m) : SrcP w a m.length m := by
  rcases h with h | ⟨ab, off, h1, _, h3⟩
  · exact .inl h
  · exact .inr ⟨ab, off, h1, h3⟩
theorem SrcN.src {B0 : Nat} {w : World} {a : Option Addr} {m : List (BitVec 8)} (h : SrcN B0 w a m) {b : Nat} (hb : b < B0) : Src w b a m.length m 0 := by
  rcases h with h | ⟨ab, off, h1, h2, h3⟩
  · exact .inl h
  · exact .inr ⟨ab, off, h1, by omega, fun i hi => by rw [Nat.zero_add]; exact h3 i hi⟩
theorem SrcN.below {B0 : Nat} {w w' : World} {a : Option Addr} {m : List (BitVec 8)} (h : SrcN B0 w a m) (hB : Below w.heap.size w w') : SrcN B0 w' a m := by
  rcases h with h | ⟨ab, off, h1, h2, h3⟩
  · exact .inl h
  · exact .inr ⟨ab, off, h1, h2, fun i hi => (hB.cell (p := ⟨ab, off + i, none⟩) (block_lt_of_cell (h3 i hi))).trans (h3 i hi)⟩
theorem SrcN.grown {B0 b : Nat} {w w' : World} {a : Option Addr} {m : List (BitVec 8)} (h : SrcN B0 w a m) (hg : w.grownBy w' (some b)) (hb : b < B0) : SrcN B0 w' a m := by
  rcases h with h | ⟨ab, off, h1, h2, h3⟩
  · exact .inl h
  · exact .inr ⟨ab, off, h1, h2, fun i hi => hg.cell (h3 i hi) (by simp; omega)⟩
theorem SrcN.mono {B0 B1 : Nat} {w : World} {a : Option Addr} {m : List (BitVec 8)} (h : SrcN B0 w a m) (hb : B1 ≤ B0) : SrcN B1 w a m := by
  rcases h with h | ⟨ab, off, h1, h2, h3⟩
  · exact .inl h
  · exact .inr ⟨ab, off, h1, by omega, h3⟩
theorem own_src {w : World} {base : Nat} {v : Value} {m : List (BitVec 8)} (h : Own w base 5 v (m.map B)) : ∃ a c, v = .slice a m.length c ∧ m.length ≤ c ∧ c ≤ 9223372036854775807 ∧ (a = none → c = 0) ∧ SrcN base w a m := by
  rcases h.2 with ⟨hv, hn⟩ | ⟨g, cap, cur, hv, hb, hg, hle, hm, hs, ht⟩
  · have h0 : m.length = 0 := by simpa using hn
    exact ⟨none, 0, by rw [hv, h0], by omega, by omega, fun _ => rfl, .inl h0⟩
  · have hlen : (m.map B).length = m.length := by simp
    rw [hlen] at hv hle
    subst hv
    refine ⟨some ⟨g, 0, none⟩, cap, rfl, hle, by unfold maxLen at hm; omega, (fun h => by cases h), .inr ⟨g, 0, rfl, hb, fun i hi => ?_⟩⟩
    have := Own.cellAt (xs := m.map B) (by rw [hlen]; exact h) i (by rw [hlen]; exact hi)
    rw [Nat.zero_add, this]
    simp [gl, hi]
/-- What a call that makes bytes leaves. -/
def BytesEnd (w : World) (m : List (BitVec 8)) (e : Ending) (w' : World) : Prop :=
  ∃ a c, e = .returned (.slice a m.length c) ∧ m.length ≤ c ∧ c ≤ 9223372036854775807 ∧ (a = none → c = 0) ∧ SrcN w.heap.size w' a m ∧ Below w.heap.size w w'
end Go.Proofs.Ytbfioekbahcicaa
namespace Go.Proofs.Ytbfioekbahcicaa
open Go Go.RowKit

theorem run_conv_u64_B8 (w : World) (x : Nat) : (convert 68 5 (.int .u64 (x : Int))).run Try.prog w = .ok (B (BitVec.ofNat 8 x)) w := by
  simp [convert, Conv.intToInt, run_underlying Try.underlying68, run_underlying Try.underlying5, B, IntKind.wrap, IntKind.bits, IntKind.signed]
theorem or128 : ∀ y : Fin 256, (BitVec.ofNat 8 y.val ||| 128#8) = BitVec.ofNat 8 (128 + y.val % 128) := by decide +kernel
theorem ofNat_or (x : Nat) : (BitVec.ofNat 8 x ||| 128#8) = BitVec.ofNat 8 (128 + x % 128) := by
  have h := or128 ⟨x % 256, by omega⟩
  have e1 : BitVec.ofNat 8 (x % 256) = BitVec.ofNat 8 x := by
    apply BitVec.eq_of_toNat_eq
    simp
  have e2 : x % 256 % 128 = x % 128 := by omega
  simp only at h
  rw [e1, e2] at h
  exact h
end Go.Proofs.Ytbfioekbahcicaa
namespace Go.Proofs.Ytbfioekbahcicaa
open Go Go.RowKit

theorem run_conv_i64_u64z (w : World) (n : Int) (h1 : -9223372036854775808 ≤ n) (h2 : n < 9223372036854775808) : (convert 3 68 (.int .i64 n)).run Try.prog w = .ok (.int .u64 (if 0 ≤ n then n else n + 18446744073709551616)) w := by
  simp [convert, Conv.intToInt, run_underlying Try.underlying3, run_underlying Try.underlying68, IntKind.wrap, IntKind.bits, IntKind.signed]
  split <;> omega
theorem wrap_u64 (x : Int) : IntKind.u64.wrap x = x % 18446744073709551616 := by
  simp [IntKind.wrap, IntKind.bits, IntKind.signed]
theorem not64 (x : Nat) (h : x < 18446744073709551616) : (BitVec.ofInt 64 18446744073709551615 ^^^ BitVec.ofInt 64 (x : Int)).toNat = 18446744073709551615 - x := by
  have e : BitVec.ofInt 64 (x : Int) = BitVec.ofNat 64 x := by
    apply BitVec.eq_of_toNat_eq
    simp
  have e2 : BitVec.ofInt 64 18446744073709551615 = BitVec.allOnes 64 := by decide +kernel
  rw [e, e2, BitVec.allOnes_xor, BitVec.toNat_not]
  simp
  omega
theorem bits_not64 (x : Nat) (h : x < 18446744073709551616) : bits .xor .u64 IntKind.u64.max (x : Int) = ((18446744073709551615 - x : Nat) : Int) := by
  show IntKind.u64.wrap ((BitVec.ofInt 64 18446744073709551615 ^^^ BitVec.ofInt 64 (x : Int)).toNat : Int) = _
  rw [not64 x h, wrapU64 _ (by omega)]
/-- The bytes m, which lie where a pen's methods don't write. -/
def SrcK (X : Nat → Prop) (b : Nat) (w : World) (a : Option Addr) (m : List (BitVec 8)) : Prop :=
  m.length = 0 ∨ ∃ ab off, a = some ⟨ab, off, none⟩ ∧ X ab ∧ ab ≠ b ∧ ∀ i < m.length, w.cell? ⟨ab, off + i, none⟩ = some (B (gl m i))
theorem SrcK.srcP {X : Nat → Prop} {b : Nat} {w : World} {a : Option Addr} {m : List (BitVec 8)} (h : SrcK X b w a m) : SrcP w a m.length m := by
  rcases h with h | ⟨ab, off, h1, _, _, h3⟩
  · exact .inl h
  · exact .inr ⟨ab, off, h1, h3⟩
theorem cell_of_heap {w w' : World} {p : Addr} {v : Value} (h : w.cell? p = some v) (he : w'.heap[p.block]? = w.heap[p.block]?) : w'.cell? p = some v := by
  simp only [World.cell?] at h ⊢
  rw [he]
  exact h
theorem SrcK.kept {X : Nat → Prop} {b : Nat} {w w' : World} {a : Option Addr} {m : List (BitVec 8)} (h : SrcK X b w a m) (hK : PKept X b w w') : SrcK X b w' a m := by
  rcases h with h | ⟨ab, off, h1, h2, h3, h4⟩
  · exact .inl h
  · refine .inr ⟨ab, off, h1, h2, h3, fun i hi => cell_of_heap (h4 i hi) (hK.2.2.2.2.1 ab h2 h3 ?_)⟩
    exact block_lt_of_cell (h4 i hi)
end Go.Proofs.Ytbfioekbahcicaa
