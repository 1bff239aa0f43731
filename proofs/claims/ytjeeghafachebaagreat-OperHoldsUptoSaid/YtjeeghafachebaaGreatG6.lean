/-
  Part 6 of 53 of what the proof leans on.
-/
import Derived.Test.YtjeeghafachebaaGreatG2
import Derived.Laws.Cover3
import Derived.Test.YtjeeghafachebaaGreatG1
import Derived.Test.YtjeeghafachebaaGreatG4
import Derived.Lib.LaidTab
import Derived.Lib.AppendIntMem
import Derived.Lib.Atoi
import Derived.Lib.ItoaMem
import Derived.Test.YtjeeghafachebaaGreatG3
import Derived.Test.YtjeeghafachebaaGreatG5
import Derived.Lib.AtoiAll
import Derived.Lib.AtoiTie
import Derived.Lib.Split
import Derived.Lib.IndexLaws
namespace Go.Proofs.YtjeeghafachebaaGreat
open Go Go.ChangeShapes Go.WideShapes Go.ChangeAt Go.WideMaps Go.WideElems Go.RowKit
structure StT (R : World → World → Prop) where
  p : World → Value → Prop
  st : ∀ w w' v, R w w' → p w v → p w' v
def stE {R : World → World → Prop} (x : Value) : StT R := ⟨fun _ v => v = x, fun _ _ _ _ h => h⟩
def vOfT {R : World → World → Prop} (Vs : List (StT R)) : Nat → World → Value → Prop := fun i => (Vs.getD i ⟨fun _ _ => True, fun _ _ _ _ h => h⟩).p
theorem vOfT_st {R : World → World → Prop} (Vs : List (StT R)) : ∀ i w w' v, R w w' → vOfT Vs i w v → vOfT Vs i w' v := fun i => (Vs.getD i ⟨fun _ _ => True, fun _ _ _ _ h => h⟩).st
end Go.Proofs.YtjeeghafachebaaGreat
namespace Go.Proofs.YtjeeghafachebaaGreat
open Go Go.RowKit
end Go.Proofs.YtjeeghafachebaaGreat
namespace Go.Proofs.YtjeeghafachebaaGreat
open Go Go.ChangeShapes Go.WideShapes Go.ChangeAt Go.WideMaps Go.WideElems Go.RowKit
end Go.Proofs.YtjeeghafachebaaGreat
namespace Go.Proofs.YtjeeghafachebaaGreat
open Go Go.RowKit
end Go.Proofs.YtjeeghafachebaaGreat
namespace Go.Proofs.YtjeeghafachebaaGreat
open Go Go.RowKit
def Sign (c : UInt8) : Prop := c = 43 ∨ c = 45
instance (c : UInt8) : Decidable (Sign c) := by unfold Sign; exact inferInstance
end Go.Proofs.YtjeeghafachebaaGreat
namespace Go.Proofs.YtjeeghafachebaaGreat
open Go Go.RowKit
end Go.Proofs.YtjeeghafachebaaGreat
namespace Go.Proofs.YtjeeghafachebaaGreat
open Go Go.RowKit
end Go.Proofs.YtjeeghafachebaaGreat
namespace Go.Proofs.YtjeeghafachebaaGreat
open Go Go.RowKit
def zeroI : ItemL := ⟨0, [], 0, 0⟩
theorem item_size : (Tryz.prog.info? 42).map (·.size) = some 4 := by kernel_rfl
theorem item_one (x : ItemL) : x.cells.all (·.oneCell') = true := by
  rw [Array.all_eq_true']; intro v hv; simp only [ItemL.cells, List.mem_toArray, List.mem_cons, List.not_mem_nil, or_false] at hv
  rcases hv with rfl | rfl | rfl | rfl <;> rfl
end Go.Proofs.YtjeeghafachebaaGreat
namespace Go.Proofs.YtjeeghafachebaaGreat
open Go Go.RowKit
end Go.Proofs.YtjeeghafachebaaGreat
namespace Go.Proofs.YtjeeghafachebaaGreat
open Go Go.RowKit
theorem take_next {α : Type} {l : List α} {t : Nat} {x : α} (h : l[t]? = some x) : l.take (t + 1) = l.take t ++ [x] := by
  have ht : t < l.length := (List.getElem?_eq_some_iff.1 h).1; rw [List.take_succ_eq_append_getElem ht]; rw [List.getElem?_eq_getElem ht] at h; simp only [Option.some.injEq] at h; rw [h]
theorem ItemsAt.get {w : World} {a : Option Addr} {l : List ItemL} (h : ItemsAt w a l) {t : Nat} (ht : t < l.length) : ∃ x b o, l[t]? = some x ∧ a = some ⟨b, o, none⟩ ∧ w.cell? ⟨b, o + t * 4, none⟩ = some (.int .i64 x.kind) ∧ w.cell? ⟨b, o + t * 4 + 1, none⟩ = some (Sv x.key) ∧
    w.cell? ⟨b, o + t * 4 + 2, none⟩ = some (.int .i64 x.time) ∧ w.cell? ⟨b, o + t * 4 + 3, none⟩ = some (.int .i64 x.value) := by
  rcases h with h | ⟨b, o, h, h'⟩
  · rw [h] at ht; simp at ht
  · exact ⟨l[t], b, o, List.getElem?_eq_getElem ht, h, h' t _ (List.getElem?_eq_getElem ht) 0 _ rfl, h' t _ (List.getElem?_eq_getElem ht) 1 _ rfl, h' t _ (List.getElem?_eq_getElem ht) 2 _ rfl, h' t _ (List.getElem?_eq_getElem ht) 3 _ rfl⟩
end Go.Proofs.YtjeeghafachebaaGreat
namespace Go.Proofs.YtjeeghafachebaaGreat
open Go Go.RowKit
end Go.Proofs.YtjeeghafachebaaGreat
namespace Go.Proofs.YtjeeghafachebaaGreat
open Go Go.RowKit
end Go.Proofs.YtjeeghafachebaaGreat
namespace Go.Proofs.YtjeeghafachebaaGreat
open Go Go.RowKit
end Go.Proofs.YtjeeghafachebaaGreat
namespace Go.Proofs.YtjeeghafachebaaGreat
open Go Go.RowKit
structure QueryL where
  kind : Int
  size : Int
  slide : Int
  late : Int
  agg : Int
  k : Int
deriving DecidableEq
def QueryL.cells (q : QueryL) : Array Value := #[.int .i64 q.kind, .int .i64 q.size, .int .i64 q.slide, .int .i64 q.late, .int .i64 q.agg, .int .i64 q.k]
def QueryL.winB (q : QueryL) : Bool :=
  decide (1 ≤ q.size ∧ q.size ≤ 1073741824) && if q.kind = 2 then decide (1 ≤ q.slide ∧ q.slide ≤ q.size ∧ q.size ≤ 16 * q.slide) else decide ((q.kind = 1 ∨ q.kind = 3) ∧ q.slide = 0)
def QueryL.aggB (q : QueryL) : Bool := if q.agg = 6 then decide (1 ≤ q.k ∧ q.k ≤ 8) else decide (1 ≤ q.agg ∧ q.agg ≤ 7 ∧ q.k = 0)
def QueryL.rightB (q : QueryL) : Bool := q.winB && decide (0 ≤ q.late ∧ q.late ≤ 1073741824) && q.aggB
theorem rightQ_cases {q : QueryL} (h : q.rightB = true) :
    (1 ≤ q.size ∧ q.size ≤ 1073741824) ∧ (0 ≤ q.late ∧ q.late ≤ 1073741824) ∧ (q.kind = 1 ∨ q.kind = 2 ∨ q.kind = 3) ∧ (q.kind = 2 → 1 ≤ q.slide ∧ q.slide ≤ q.size ∧ q.size ≤ 16 * q.slide) ∧ (q.kind ≠ 2 → q.slide = 0) ∧
    (1 ≤ q.agg ∧ q.agg ≤ 7) ∧ (q.agg = 6 → 1 ≤ q.k ∧ q.k ≤ 8) ∧ (q.agg ≠ 6 → q.k = 0) := by
  simp only [QueryL.rightB, QueryL.winB, QueryL.aggB, Bool.and_eq_true, decide_eq_true_eq] at h; obtain ⟨⟨⟨h1, h2⟩, h3⟩, h4⟩ := h; refine ⟨h1, h3, ?_⟩
  split at h2 <;> split at h4 <;> simp only [decide_eq_true_eq] at h2 h4 <;> refine ⟨?_, ?_, ?_, ?_, ?_, ?_⟩ <;> omega
theorem rightQ_bd {q : QueryL} (h : q.rightB = true) : 0 ≤ q.kind ∧ q.kind ≤ 3 ∧ 0 ≤ q.size ∧ q.size ≤ 1073741824 ∧ 0 ≤ q.slide ∧ q.slide ≤ 1073741824 ∧ 0 ≤ q.late ∧ q.late ≤ 1073741824 ∧ 0 ≤ q.agg ∧ q.agg ≤ 7 ∧ 0 ≤ q.k ∧ q.k ≤ 8 := by
  obtain ⟨h1, h2, h3, h4, h5, h6, h7, h8⟩ := rightQ_cases h
  by_cases hk : q.kind = 2 <;> by_cases ha : q.agg = 6
  · have := h4 hk; have := h7 ha; omega
  · have := h4 hk; have := h8 ha; omega
  · have := h5 hk; have := h7 ha; omega
  · have := h5 hk; have := h8 ha; omega
end Go.Proofs.YtjeeghafachebaaGreat
