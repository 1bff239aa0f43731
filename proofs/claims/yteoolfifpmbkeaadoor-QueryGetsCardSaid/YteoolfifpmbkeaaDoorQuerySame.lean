/-
  Queries side by side; a query's row in memory.
-/
import Derived.Test.YteoolfifpmbkeaaDoorQueryAsked
import Derived.Laws.StructEq
import Derived.Test.YteoolfifpmbkeaaDoorRows
import Derived.Test.YteoolfifpmbkeaaDoorItems
namespace Go.Proofs.YteoolfifpmbkeaaDoor
open Go Go.RowKit

/-- The same query? -/
def sameQ (x y : QueryL) : Bool := x.kind == y.kind && (x.size == y.size && (x.slide == y.slide && (x.late == y.late && (x.agg == y.agg && x.k == y.k))))
theorem sameQ_iff (x y : QueryL) : sameQ x y = true ↔ x = y := by
  obtain ⟨a, b, c, d, e, f⟩ := x
  obtain ⟨a', b', c', d', e', f'⟩ := y
  simp [sameQ]
theorem map6 {α β : Type} (g : α → β) : ∀ (l : List α) (a b c d e f : β), l.map g = [a, b, c, d, e, f] → ∃ x0 x1 x2 x3 x4 x5, l = [x0, x1, x2, x3, x4, x5] ∧ g x0 = a ∧ g x1 = b ∧ g x2 = c ∧ g x3 = d ∧ g x4 = e ∧ g x5 = f
  | [x0, x1, x2, x3, x4, x5], _, _, _, _, _, _, h => by
    simp only [List.map_cons, List.map_nil, List.cons.injEq, and_true] at h
    exact ⟨x0, x1, x2, x3, x4, x5, rfl, h⟩
  | [], _, _, _, _, _, _, h => by simp at h
  | [_], _, _, _, _, _, _, h => by simp at h
  | [_, _], _, _, _, _, _, _, h => by simp at h
  | [_, _, _], _, _, _, _, _, _, h => by simp at h
  | [_, _, _, _], _, _, _, _, _, _, h => by simp at h
  | [_, _, _, _, _], _, _, _, _, _, _, h => by simp at h
  | _ :: _ :: _ :: _ :: _ :: _ :: _ :: _, _, _, _, _, _, _, h => by simp at h
theorem run_equal_query (w : World) (x y : QueryL) : (Op.equalIn 10000 23 (.agg x.cells) (.agg y.cells)).run Tryd.prog w = .ok (sameQ x y) w := by
  rw [run_equalIn_agg w 9999 23 _ _ (by kernel_rfl) (by kernel_rfl)]
  have hm : (Tryd.prog.fieldsOf 23).toList.map (fun f => (f.name, f.type, f.offset)) = [("Kind", 3, 0), ("Size", 3, 1), ("Slide", 3, 2), ("Late", 3, 3), ("Agg", 3, 4), ("K", 3, 5)] := by kernel_rfl
  generalize (Tryd.prog.fieldsOf 23).toList = l at hm
  obtain ⟨f0, f1, f2, f3, f4, f5, rfl, h0, h1, h2, h3, h4, h5⟩ := map6 _ _ _ _ _ _ _ _ hm
  obtain ⟨n0, t0, o0⟩ : f0.name = "Kind" ∧ f0.type = 3 ∧ f0.offset = 0 := by simpa using h0
  obtain ⟨n1, t1, o1⟩ : f1.name = "Size" ∧ f1.type = 3 ∧ f1.offset = 1 := by simpa using h1
  obtain ⟨n2, t2, o2⟩ : f2.name = "Slide" ∧ f2.type = 3 ∧ f2.offset = 2 := by simpa using h2
  obtain ⟨n3, t3, o3⟩ : f3.name = "Late" ∧ f3.type = 3 ∧ f3.offset = 3 := by simpa using h3
  obtain ⟨n4, t4, o4⟩ : f4.name = "Agg" ∧ f4.type = 3 ∧ f4.offset = 4 := by simpa using h4
  obtain ⟨n5, t5, o5⟩ : f5.name = "K" ∧ f5.type = 3 ∧ f5.offset = 5 := by simpa using h5
  obtain ⟨a, b, c, d, e, f⟩ := x
  obtain ⟨a', b', c', d', e', f'⟩ := y
  have p : ∀ (cs : Array Value) (i : Nat) (n : Int), cs[i]? = some (.int .i64 n) → (part 3 cs i).run Tryd.prog w = .ok (.int .i64 n) w := fun cs i n h => by
    have hl := (Array.getElem?_eq_some_iff.1 h).1
    simp [part, go_sem, h]
  have e1 : ∀ (d : Nat) (a b : Int), (Op.equalIn (d + 1) 3 (.int .i64 a) (.int .i64 b)).run Tryd.prog w = .ok (a == b) w := fun d a b => run_equalIn_int w d 3 .i64 .i64 a b Tryd.underlying3
  rw [eqF_step (.int .i64 a) (.int .i64 a') (a == a') (by rw [n0]; decide) (by rw [t0, o0]; exact p _ 0 a rfl) (by rw [t0, o0]; exact p _ 0 a' rfl) (by rw [t0]; exact e1 9998 a a'),
    eqF_step (.int .i64 b) (.int .i64 b') (b == b') (by rw [n1]; decide) (by rw [t1, o1]; exact p _ 1 b rfl) (by rw [t1, o1]; exact p _ 1 b' rfl) (by rw [t1]; exact e1 9998 b b'),
    eqF_step (.int .i64 c) (.int .i64 c') (c == c') (by rw [n2]; decide) (by rw [t2, o2]; exact p _ 2 c rfl) (by rw [t2, o2]; exact p _ 2 c' rfl) (by rw [t2]; exact e1 9998 c c'),
    eqF_step (.int .i64 d) (.int .i64 d') (d == d') (by rw [n3]; decide) (by rw [t3, o3]; exact p _ 3 d rfl) (by rw [t3, o3]; exact p _ 3 d' rfl) (by rw [t3]; exact e1 9998 d d'),
    eqF_step (.int .i64 e) (.int .i64 e') (e == e') (by rw [n4]; decide) (by rw [t4, o4]; exact p _ 4 e rfl) (by rw [t4, o4]; exact p _ 4 e' rfl) (by rw [t4]; exact e1 9998 e e'),
    eqF_step (.int .i64 f) (.int .i64 f') (f == f') (by rw [n5]; decide) (by rw [t5, o5]; exact p _ 5 f rfl) (by rw [t5, o5]; exact p _ 5 f' rfl) (by rw [t5]; exact e1 9998 f f')]
  simp only [sameQ]
  cases a == a' <;> cases b == b' <;> cases c == c' <;> cases d == d' <;> cases e == e' <;> cases f == f' <;> rfl
theorem run_eql_query (w : World) (x y : QueryL) : (binOp .eql 23 (.agg x.cells) (.agg y.cells)).run Tryd.prog w = .ok (.bool (sameQ x y)) w := by
  rw [run_eql_struct, run_equal_query]
  rfl
theorem run_neq_query (w : World) (x y : QueryL) : (binOp .neq 23 (.agg x.cells) (.agg y.cells)).run Tryd.prog w = .ok (.bool (!sameQ x y)) w := by
  rw [run_neq_struct, run_equal_query]
  rfl
theorem run_guard_query (w : World) (op : BinOp) (o1 o2 : Operand) (x y : QueryL) : (eqGuard op 23 o1 o2 (.agg x.cells) (.agg y.cells)).run Tryd.prog w = .ok () w := run_eqGuard_agg w op _ o1 o2 _ _ (by kernel_rfl)
/-- A query's row. -/
def RowQ (w : World) (g : Nat) (x : QueryL) : Prop := w.heap[g]? = some (.cells x.cells 23 (0, 0))
theorem RowQ.below {w w' : World} {g : Nat} {x : QueryL} (h : RowQ w g x) (hB : Below w.heap.size w w') : RowQ w' g x := (hB.block _ (Array.getElem?_eq_some_iff.1 h).1).trans h
theorem RowQ.cell {w : World} {g : Nat} {x : QueryL} (h : RowQ w g x) (i : Nat) {v : Value} (hi : x.cells[i]? = some v) : w.cell? ⟨g, i, none⟩ = some v := by
  rw [cell_of_row _ _ _ _ _ _ h]
  exact hi
theorem RowQ.lt {w : World} {g : Nat} {x : QueryL} (h : RowQ w g x) : g < w.heap.size := (Array.getElem?_eq_some_iff.1 h).1
def D6 (w : World) (g : Nat) (kind size slide late agg k : Int) : Prop :=
  w.cell? ⟨g, 0, none⟩ = some (.int .i64 kind) ∧ w.cell? ⟨g, 1, none⟩ = some (.int .i64 size) ∧ w.cell? ⟨g, 2, none⟩ = some (.int .i64 slide) ∧ w.cell? ⟨g, 3, none⟩ = some (.int .i64 late) ∧ w.cell? ⟨g, 4, none⟩ = some (.int .i64 agg) ∧ w.cell? ⟨g, 5, none⟩ = some (.int .i64 k)
theorem RowQ.d6 {w : World} {g : Nat} {x : QueryL} (h : RowQ w g x) : D6 w g x.kind x.size x.slide x.late x.agg x.k := ⟨h.cell 0 rfl, h.cell 1 rfl, h.cell 2 rfl, h.cell 3 rfl, h.cell 4 rfl, h.cell 5 rfl⟩
/-- A query stored into a new row. -/
theorem stored_query (w : World) (x : QueryL) : RowQ ((w.alloc (Obj.cells #[.int .i64 0, .int .i64 0, .int .i64 0, .int .i64 0, .int .i64 0, .int .i64 0] 23)).setRow w.heap.size x.cells) w.heap.size x ∧
    Below w.heap.size w ((w.alloc (Obj.cells #[.int .i64 0, .int .i64 0, .int .i64 0, .int .i64 0, .int .i64 0, .int .i64 0] 23)).setRow w.heap.size x.cells) :=
  ⟨setRow_heap _ _ _ _ _ _ (heap_alloc_new w _), ((Below.refl _ w).alloc (Nat.le_refl _) _).trans ⟨rfl, rfl, rfl, by simp [World.setRow], fun i hi => setRow_other _ _ _ _ (by omega)⟩⟩
end Go.Proofs.YteoolfifpmbkeaaDoor
