/-
  New rows of bytes, and when two sums are the same.
-/
import Derived.Test.YtmdacfbhfacniaaDoorLocalOps
import Derived.Test.YtmdacfbhfacniaaDoorArrEq
namespace Go.Proofs.YtmdacfbhfacniaaDoor
open Go.RowKit

theorem src_new {w : World} {g : Nat} {cs : Array Value} {e : TypeId} {fr : Nat × Nat} {m : List (BitVec 8)} (hg : w.heap[g]? = some (.cells cs e fr)) (hc : ∀ i < m.length, cs[i]? = some (B (gl m i))) :
    SrcP w (some ⟨g, 0, none⟩) m.length m := by
  refine .inr ⟨g, 0, rfl, fun i hi => ?_⟩
  rw [cell_of_row w g _ cs e fr hg, Nat.zero_add]
  exact hc i hi

/-- A new row, marked behind its end. -/
theorem conv_new (w : World) (cs : Array Value) (e : TypeId) (n : Nat) :
    Below w.heap.size w ((w.alloc (.cells cs e)).freeze ⟨w.heap.size, n, none⟩ 1) ∧ (∃ fr, ((w.alloc (.cells cs e)).freeze ⟨w.heap.size, n, none⟩ 1).heap[w.heap.size]? = some (.cells cs e fr)) ∧
    w.heap.size < ((w.alloc (.cells cs e)).freeze ⟨w.heap.size, n, none⟩ 1).heap.size := by
  have h := (Lay.freeze (w.alloc (.cells cs e)) w.heap.size n).2 _ _ _ _ (heap_alloc_new w _)
  refine ⟨((Below.refl _ w).alloc (Nat.le_refl _) _).trans (below_freeze _ _ _ (Nat.le_refl _)), h, ?_⟩
  obtain ⟨fr, h⟩ := h
  exact (Array.getElem?_eq_some_iff.1 h).1

theorem ShaA_cell (l : List (BitVec 8)) (i : Nat) (h : i < 32) : (ShaA l)[i]? = some (B (byteAt (shaSt l) i)) := by simp [ShaA, Spell, h]
theorem eql_sum (l l' : List (BitVec 8)) (h : l = l') : (∀ w, (Op.equalIn 10000 25 (.agg (ShaA l)) (.agg (ShaA l'))).run Tryd.prog w = .ok true w) ∧ (∀ w, (binOp .eql 25 (.agg (ShaA l)) (.agg (ShaA l'))).run Tryd.prog w = .ok (.bool true) w) ∧
    (∀ (o1 o2 : Operand) (w : World), (eqGuard .eql 25 o1 o2 (.agg (ShaA l)) (.agg (ShaA l'))).run Tryd.prog w = .ok () w) := by
  subst h
  have h1 : ∀ w, (Op.equalIn 10000 25 (.agg (ShaA l)) (.agg (ShaA l))).run Tryd.prog w = .ok true w := fun w => by
    have := run_equalIn_bytes 9998 25 5 32 Tryd.underlying25 Tryd.underlying5 Tryd.sizeOf5 Tryd.isAgg5 (byteAt (shaSt l)) (byteAt (shaSt l)) (ShaA l) (ShaA l) (ShaA_cell l) (ShaA_cell l) w
    rw [this]
    congr 1
    simp
  refine ⟨h1, fun w => ?_, fun o1 o2 w => run_eqGuard_agg w .eql 25 o1 o2 _ _ (by kernel_rfl)⟩
  rw [run_eql_struct, h1]
  rfl

end Go.Proofs.YtmdacfbhfacniaaDoor
