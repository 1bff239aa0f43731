/-
  What must be answered ahead of everything else: the contract of layer 12's first.
-/
import Derived.Test.YtdmnhgbdeifpbaaStoreWhole
import Derived.Test.YtdmnhgbdeifpbaaStoreWrite
namespace Go.Proofs.Ytdmnhgbdeifpbaa
open Go Go.RowKit

/-- A block that is none of the store's. -/
def Aside (f : StF) (w : World) (k : Nat) : Prop := k < w.heap.size ∧ ¬ f.has k
/-- The store goes from one world to the next: its own new place, and whatever is aside stays. -/
def Next (base : Nat) (f : StF) (s : StS) (w w' : World) (f' : StF) : Prop :=
  f'.b = f.b ∧ StAt w' base f' s ∧ Below base w w' ∧ (∀ k, Aside f w k → Aside f' w' k ∧ w'.heap[k]? = w.heap[k]?)
theorem SEnd.next {w w' : World} {base : Nat} {f : StF} {s0 s : StS} (h0 : StAt w base f s0) (hb : base ≤ w.heap.size) (h : SEnd w base f s w') : ∃ f', Next base f s w w' f' := by
  obtain ⟨f', h1, h2, h3, h4⟩ := h
  refine ⟨f', h2, h1, h0.below h4 hb, fun k hk => ⟨⟨Nat.lt_of_lt_of_le hk.1 h4.size, fun hf => ?_⟩, h4.block k hk.1 hk.2⟩⟩
  rcases h3 k hf with h | h
  · exact hk.2 h
  · have := hk.1; omega
theorem Next.far {base : Nat} {f : StF} {s0 : StS} {w w' : World} (h0 : StAt w base f s0) (hb : base ≤ w.heap.size) (hB : Below w.heap.size w w') : Next base f s0 w w' f :=
  ⟨rfl, h0.far hB, hB.mono hb, fun k hk => ⟨⟨Nat.lt_of_lt_of_le hk.1 hB.size, hk.2⟩, hB.block k hk.1⟩⟩
theorem Next.kept {base : Nat} {f : StF} {s0 s : StS} {w w' : World} (h0 : StAt w base f s0) (hb : base ≤ w.heap.size) (h1 : StAt w' base f s) (hk : SKept f w w') : Next base f s w w' f :=
  ⟨rfl, h1, h0.below hk hb, fun k hk' => ⟨⟨Nat.lt_of_lt_of_le hk'.1 hk.size, hk'.2⟩, hk.block k hk'.1 hk'.2⟩⟩
/-- Bytes that lie aside. -/
def SrcA (f : StF) (w : World) (a : Option Addr) (m : List (BitVec 8)) : Prop :=
  m.length = 0 ∨ ∃ ab off, a = some ⟨ab, off, none⟩ ∧ Aside f w ab ∧ ∀ i < m.length, w.cell? ⟨ab, off + i, none⟩ = some (B (gl m i))
theorem SrcA.src {f : StF} {w : World} {a : Option Addr} {m : List (BitVec 8)} (h : SrcA f w a m) : SrcP w a m.length m := by
  rcases h with h | ⟨ab, off, h1, _, h3⟩
  · exact .inl h
  · exact .inr ⟨ab, off, h1, h3⟩
theorem SrcA.next {base : Nat} {f f' : StF} {s : StS} {w w' : World} {a : Option Addr} {m : List (BitVec 8)} (h : SrcA f w a m) (hn : Next base f s w w' f') : SrcA f' w' a m := by
  rcases h with h | ⟨ab, off, h1, h2, h3⟩
  · exact .inl h
  · obtain ⟨k1, k2⟩ := hn.2.2.2 ab h2
    refine .inr ⟨ab, off, h1, k1, fun i hi => ?_⟩
    rw [World.cell?_of_block (w := w) k2]
    exact h3 i hi
theorem SrcA.of_new {f : StF} {w w' : World} {base : Nat} {s s' : StS} {a : Option Addr} {m : List (BitVec 8)} (h0 : StAt w base f s) (h : SrcN w.heap.size w' a m) (_h1 : StAt w' base f s') : SrcA f w' a m := by
  rcases h with h | ⟨ab, off, h1, h2, h3⟩
  · exact .inl h
  · by_cases hm : m.length = 0
    · exact .inl hm
    · exact .inr ⟨ab, off, h1, ⟨block_lt_of_cell (h3 0 (by omega)), fun hf => by have := h0.lt hf; omega⟩, h3⟩
theorem SrcA.not {f : StF} {w : World} {a : Option Addr} {m : List (BitVec 8)} (h : SrcA f w a m) (hm : m.length ≠ 0) : ∀ ab, a.map (·.block) = some ab → ¬ f.has ab := by
  rcases h with h | ⟨ab, off, rfl, h2, _⟩
  · exact absurd h hm
  · intro ab' h
    simp at h
    subst h
    exact h2.2
def firstB : List (BitVec 8) := ((List.replicate 128 (0 : BitVec 8)).set 0 7).set 127 9
theorem firstB_length : firstB.length = 128 := by simp [firstB]
def fst0 : StS := StS.new 2
def fst1 : StS := fst0.wrote 1 firstB
def fst2 : StS := fst1.crashed [] 0 1
def fst3 : StS := fst2.told 1
def fst4 : StS := fst3.wrote 1 firstB
def fst5 : StS := fst4.synced
def fst6 : StS := fst5.crashed [] (-1) 0
def fst7 : StS := fst6.told 1
theorem fst2_read : gl (fst2.new'.getD 1 []) 0 = 7 ∧ gl (fst2.new'.getD 1 []) 127 = 0 ∧ (fst2.new'.getD 1 []).length = 128 := by decide +kernel
theorem fst6_read : gl (fst6.new'.getD 1 []) 127 = 9 ∧ (fst6.new'.getD 1 []).length = 128 := by decide +kernel
end Go.Proofs.Ytdmnhgbdeifpbaa
