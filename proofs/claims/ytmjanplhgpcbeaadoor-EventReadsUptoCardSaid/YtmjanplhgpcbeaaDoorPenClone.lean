/-
  Bytes that a call made itself; the contract of bytes.Clone.
-/
import Derived.Test.YtmjanplhgpcbeaaDoorPenMem
import Derived.Laws.Cover3
namespace Go.Proofs.YtmjanplhgpcbeaaDoor
open Go Go.RowKit

/-- The n bytes from place a on are those of m; they lie in a block of B0 or behind. -/
def SrcN (B0 : Nat) (w : World) (a : Option Addr) (m : List (BitVec 8)) : Prop :=
  m.length = 0 ∨ ∃ ab off, a = some ⟨ab, off, none⟩ ∧ B0 ≤ ab ∧ ∀ i < m.length, w.cell? ⟨ab, off + i, none⟩ = some (B (gl m i))
theorem SrcN.srcP {B0 : Nat} {w : World} {a : Option Addr} {m : List (BitVec 8)} (h : SrcN B0 w a m) : SrcP w a m.length m := by
  rcases h with h | ⟨ab, off, h1, _, h3⟩
  · exact .inl h
  · exact .inr ⟨ab, off, h1, h3⟩
theorem SrcN.src {B0 : Nat} {w : World} {a : Option Addr} {m : List (BitVec 8)} (h : SrcN B0 w a m) {b : Nat} (hb : b < B0) : Src w b a m.length m 0 := by
  rcases h with h | ⟨ab, off, h1, h2, h3⟩
  · exact .inl h
  · exact .inr ⟨ab, off, h1, by omega, fun i hi => by rw [Nat.zero_add]; exact h3 i hi⟩
theorem SrcN.below {B0 : Nat} {w w' : World} {a : Option Addr} {m : List (BitVec 8)} (h : SrcN B0 w a m) (hB : Below w.heap.size w w') : SrcN B0 w' a m := by
  rcases h with h | ⟨ab, off, h1, h2, h3⟩
  · exact .inl h
  · exact .inr ⟨ab, off, h1, h2, fun i hi => (hB.cell (p := ⟨ab, off + i, none⟩) (block_lt_of_cell (h3 i hi))).trans (h3 i hi)⟩
theorem SrcN.grown {B0 b : Nat} {w w' : World} {a : Option Addr} {m : List (BitVec 8)} (h : SrcN B0 w a m) (hg : w.grownBy w' (some b)) (hb : b < B0) : SrcN B0 w' a m := by
  rcases h with h | ⟨ab, off, h1, h2, h3⟩
  · exact .inl h
  · exact .inr ⟨ab, off, h1, h2, fun i hi => hg.cell (h3 i hi) (by simp; omega)⟩
theorem SrcN.mono {B0 B1 : Nat} {w : World} {a : Option Addr} {m : List (BitVec 8)} (h : SrcN B0 w a m) (hb : B1 ≤ B0) : SrcN B1 w a m := by
  rcases h with h | ⟨ab, off, h1, h2, h3⟩
  · exact .inl h
  · exact .inr ⟨ab, off, h1, by omega, h3⟩
theorem own_src {w : World} {base : Nat} {v : Value} {m : List (BitVec 8)} (h : Own w base 5 v (m.map B)) : ∃ a c, v = .slice a m.length c ∧ m.length ≤ c ∧ c ≤ 9223372036854775807 ∧ (a = none → c = 0) ∧ SrcN base w a m := by
  rcases h.2 with ⟨hv, hn⟩ | ⟨g, cap, cur, hv, hb, hg, hle, hm, hs, ht⟩
  · have h0 : m.length = 0 := by simpa using hn
    exact ⟨none, 0, by rw [hv, h0], by omega, by omega, fun _ => rfl, .inl h0⟩
  · have hlen : (m.map B).length = m.length := by simp
    rw [hlen] at hv hle
    subst hv
    refine ⟨some ⟨g, 0, none⟩, cap, rfl, hle, by unfold maxLen at hm; omega, (fun h => by cases h), .inr ⟨g, 0, rfl, hb, fun i hi => ?_⟩⟩
    have := Own.cellAt (xs := m.map B) (by rw [hlen]; exact h) i (by rw [hlen]; exact hi)
    rw [Nat.zero_add, this]
    simp [gl, hi]
/-- What a call that makes bytes leaves. -/
def BytesEnd (w : World) (m : List (BitVec 8)) (e : Ending) (w' : World) : Prop :=
  ∃ a c, e = .returned (.slice a m.length c) ∧ m.length ≤ c ∧ c ≤ 9223372036854775807 ∧ (a = none → c = 0) ∧ SrcN w.heap.size w' a m ∧ Below w.heap.size w w'
theorem run_eql_nil_some (w : World) (a : Addr) (l c : Nat) : (binOp .eql 29 (.slice (some a) l c) (.slice none 0 0)).run Tryd.prog w = .ok (.bool false) w := by
  simp only [binOp]
  simp [run_equal_slice_nil w 29 5 (some a) l c Tryd.underlying29]
theorem run_eql_nil_none (w : World) (l c : Nat) : (binOp .eql 29 (.slice none l c) (.slice none 0 0)).run Tryd.prog w = .ok (.bool true) w := by
  simp only [binOp]
  simp [run_equal_slice_nil w 29 5 none l c Tryd.underlying29]
attribute [go_sem] run_eql_nil_some run_eql_nil_none
theorem clone_nil (w : World) : Calls Tryd.prog 41 #[.slice none 0 0] w fun e w' => e = .returned (.slice none 0 0) ∧ w' = w := by
  go_enter Tryd.func41, Tryd.ntmps41
  go_wp2_with (fail)
  go_ret
  exact ⟨rfl, rfl⟩
set_option maxRecDepth 100000 in
theorem bclone_any (w : World) (a : Option Addr) (c n : Nat) (m : List (BitVec 8)) (hn : n = m.length) (h : SrcP w a m.length m) (hc : a = none → c = 0) (hl : m.length ≤ 1073741824) :
    Calls Tryd.prog 41 #[.slice a n c] w (BytesEnd w m) := by
  cases a with
  | none =>
    have hm : m = [] := by
      rcases h with h | ⟨_, _, h, _⟩
      · exact List.eq_nil_of_length_eq_zero h
      · cases h
    subst hm
    have := hc rfl
    subst this
    subst hn
    refine (clone_nil w).mono fun e w' ⟨he, hw⟩ => ?_
    subst hw
    exact ⟨none, 0, he, Nat.le_refl _, by omega, fun _ => rfl, .inl rfl, Below.refl _ _⟩
  | some ad =>
    have HH := Lib.hid (And.intro hn (And.intro h hl))
    clear hn h hl hc
    go_enter Tryd.func41, Tryd.ntmps41
    go_upto_region 3 with (fail)
    refine wp_region_lit ?_
    iterate 6 go_step
    refine wpList_append_own2 rfl (.tmp 5) (.tmp 6) rfl w.heap.size (.slice (some ⟨w.heap.size, 0, none⟩) 0 0) [] rfl (Own.lit w #[] 5 (Nat.le_refl _) (by simp)) (some ad) c m n HH.out.1 rfl
      (HH.out.2.1.below ((Below.refl _ w).alloc (Nat.le_refl _) _)) (by have := HH.out.2.2; simpa using this) (by simp) ?_
    intro v' w1 ho hg hv
    rw [List.nil_append] at ho
    obtain ⟨a', c', rfl, h1, h2, h2b, h3⟩ := own_src ho
    have hB : Below w.heap.size w w1 := by
      refine ((Below.refl _ w).alloc (Nat.le_refl _) _).trans ⟨hg.os, hg.tape, hg.output, hg.size, fun k hk => hg.block k (by simp; omega) ?_⟩
      show some k ≠ some w.heap.size
      simp
      omega
    have HF : Hid (m.length ≤ c' ∧ c' ≤ 9223372036854775807 ∧ (a' = none → c' = 0) ∧ SrcN w.heap.size w1 a' m ∧ Below w.heap.size w w1) := ⟨h1, h2, h2b, h3, hB⟩
    clear ho hg hv h1 h2 h2b h3 hB
    dsimp only
    go_wp2_with (fail)
    go_ret
    exact ⟨a', c', rfl, HF.out⟩
end Go.Proofs.YtmjanplhgpcbeaaDoor
