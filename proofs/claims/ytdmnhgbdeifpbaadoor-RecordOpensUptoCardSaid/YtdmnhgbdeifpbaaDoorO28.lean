/-
  Part 28 of 42 of what the proof leans on.
-/
import Derived.Test.YtdmnhgbdeifpbaaDoorO26
import Derived.Test.YtdmnhgbdeifpbaaDoorO27
import Derived.Test.YtdmnhgbdeifpbaaDoorO19
import Derived.Test.YtdmnhgbdeifpbaaDoorO1
namespace Go.Proofs.YtdmnhgbdeifpbaaDoor
open Go Go.RowKit
theorem wp_alloc_of {o : Oper} {a : Act} {w : World} {K : Act → World → Prop} {Q : Exit → Act → World → Prop} (t : TypeId) (ho : o.op = .alloc t) {Z : Array Value} (hz : ∀ w, (zeroValue t).run Tryd.prog w = .ok (.agg Z) w)
    (h : K (a.put o.dst (.pointer (some ⟨w.heap.size, 0, none⟩))) (w.alloc (.cells Z t))) : o.wp Tryd.prog a w K Q := by
  have hh := hz w
  have hK : ∀ A, A = a.put o.dst (.pointer (some ⟨w.heap.size, 0, none⟩)) → K A (w.alloc (.cells Z t)) := fun A hA => by rw [hA]; exact h
  clear h; unfold Oper.wp execOp
  go_simp
  exact hK _ rfl
end Go.Proofs.YtdmnhgbdeifpbaaDoor
namespace Go.Proofs.YtdmnhgbdeifpbaaDoor
open Go Go.RowKit
theorem row_ne14 {w : World} {a b : Nat} {c c' : Array Value} (h : w.heap[a]? = some (.cells c 25 (0, 0))) (h' : w.heap[b]? = some (.cells c' 23 (0, 0))) : a ≠ b := by
  rintro rfl; rw [h] at h'
  injection h' with h'
  injection h' with _ e
  exact absurd e (by decide)
theorem back_set {w0 w : World} {a b : Nat} {c c' : Array Value} {t t' : TypeId} (h : w.heap[a]? = some (.cells c t (0, 0))) (h' : w.heap[b]? = some (.cells c' t' (0, 0))) (ha : w0.heap.size ≤ a) (hne : a ≠ b) (C : Array Value) :
    Below w0.heap.size w (w.setRow a C) ∧ (w.setRow a C).heap[a]? = some (.cells C t (0, 0)) ∧ (w.setRow a C).heap[b]? = some (.cells c' t' (0, 0)) :=
  ⟨⟨rfl, rfl, rfl, by simp [World.setRow], fun k hk => setRow_other w a k C (by omega)⟩, setRow_heap w a _ _ _ _ h, (setRow_other w a b C hne.symm).trans h'⟩
theorem wpList_eql_root {ops : Array Oper} {rest : List Oper} {o : Oper} {a : Act} {w : World} {Q : Exit → Act → World → Prop} (hw : Region.wanted o (yielded ops a.tmps) = true) (x y : Operand) (z : TypeId) (ho : o.op = .binOp .eql 23 x y z) (r : List (BitVec 8)) (hr : r.length = 32)
    (hx : a.eval x = .agg (byA r)) (hy : a.eval y = .agg (byA r)) (h : wpList Tryd.prog ops Q rest (a.put o.dst (.bool true)) w) : wpList Tryd.prog ops Q (o :: rest) a w :=
  wpList_wanted hw fun K hK => by
    have g := run_eql_root w r r hr hr; rw [decide_eq_true rfl] at g; unfold Oper.wp execOp; simp only [ho, hx, hy, Sem.run_bind, run_guard_root, g, Result.andThen_ok, Sem.run_pure]; exact hK _ _ h
def BackCut (w : World) (C : Array Value) (kv : Value) (ahead : List (BitVec 8)) (ov : Value) (s3 s4 s5 s6 : Value) (wx : World) : Prop :=
  ∃ xb hb : Nat, s3 = .pointer (some ⟨xb, 0, none⟩) ∧ s4 = kv ∧ s5 = .pointer (some ⟨hb, 0, none⟩) ∧ s6 = ov ∧ Below w.heap.size w wx ∧ wx.heap[xb]? = some (.cells C 25 (0, 0)) ∧ wx.heap[hb]? = some (.cells (byA ahead) 23 (0, 0))
end Go.Proofs.YtdmnhgbdeifpbaaDoor
