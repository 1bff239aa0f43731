/-
  Windows in memory: their rows, lists of them, windows side by side; a window off a tape, plain.
-/
import Derived.Test.YtbfioekbahcicaaWinsPure
import Derived.Test.YtbfioekbahcicaaQueryAll
import Derived.Test.YtbfioekbahcicaaEventAll
import Derived.Test.YtbfioekbahcicaaReadBack
namespace Go.Proofs.Ytbfioekbahcicaa
open Go Go.ChangeShapes Go.WideShapes Go.ChangeAt Go.WideMaps Go.WideElems Go.RowKit

theorem heap_alloc_size (w : World) (o : Obj) : (w.alloc o).heap.size = w.heap.size + 1 := by
  show (w.heap.push o).size = _
  exact Array.size_push ..
theorem window_size : (Try.prog.info? 24).map (·.size) = some 3 := by kernel_rfl
theorem window_one (x : WindowL) : x.cells.all (·.oneCell') = true := by
  rw [Array.all_eq_true']
  intro v hv
  simp only [WindowL.cells, List.mem_toArray, List.mem_cons, List.not_mem_nil, or_false] at hv
  rcases hv with rfl | rfl | rfl <;> rfl
/-- A window's row. -/
def RowW (w : World) (b : Nat) (x : WindowL) : Prop := w.heap[b]? = some (.cells x.cells 24 (0, 0))
theorem RowW.lt {w : World} {b : Nat} {x : WindowL} (h : RowW w b x) : b < w.heap.size := (Array.getElem?_eq_some_iff.1 h).1
theorem RowW.below {w w' : World} {b : Nat} {x : WindowL} (h : RowW w b x) (hB : Below w.heap.size w w') : RowW w' b x := (hB.block b h.lt).trans h
theorem RowW.cell {w : World} {b : Nat} {x : WindowL} (h : RowW w b x) (i : Nat) {v : Value} (hi : x.cells[i]? = some v) : w.cell? ⟨b, i, none⟩ = some v := by
  rw [cell_of_row _ _ _ _ _ _ h]
  exact hi
def D3 (w : World) (b : Nat) (key : List (BitVec 8)) (lo hi : Int) : Prop := w.cell? ⟨b, 0, none⟩ = some (Sv key) ∧ w.cell? ⟨b, 1, none⟩ = some (.int .i64 lo) ∧ w.cell? ⟨b, 2, none⟩ = some (.int .i64 hi)
theorem RowW.d3 {w : World} {b : Nat} {x : WindowL} (h : RowW w b x) : D3 w b x.key x.lo x.hi := ⟨h.cell 0 rfl, h.cell 1 rfl, h.cell 2 rfl⟩
theorem stored_window (w : World) (x : WindowL) : RowW ((w.alloc (Obj.cells zeroW.cells 24)).setRow w.heap.size x.cells) w.heap.size x ∧ Below w.heap.size w ((w.alloc (Obj.cells zeroW.cells 24)).setRow w.heap.size x.cells) :=
  ⟨setRow_heap _ _ _ _ _ _ (heap_alloc_new w _), ((Below.refl _ w).alloc (Nat.le_refl _) _).trans ⟨rfl, rfl, rfl, by simp [World.setRow], fun k hk => setRow_other _ _ _ _ (by omega)⟩⟩
/-- A window's own variable: a new row that a function boxes its argument in. -/
theorem boxW_cells (w : World) (x : WindowL) : ∀ w', Below (w.alloc (.cells x.cells 24)).heap.size (w.alloc (.cells x.cells 24)) w' → ∀ i v, x.cells[i]? = some v → w'.cell? ⟨w.heap.size, i, none⟩ = some v := by
  intro w' hB i v hi
  have hrow := heap_alloc_new w (.cells x.cells 24)
  rw [cell_of_row w' _ i _ _ _ ((hB.block _ (Array.getElem?_eq_some_iff.1 hrow).1).trans hrow)]
  exact hi
/-- The same window? -/
def sameW (x y : WindowL) : Bool := decide (x.key = y.key) && (x.lo == y.lo && x.hi == y.hi)
theorem sameW_iff (x y : WindowL) : sameW x y = true ↔ x = y := by
  obtain ⟨a, b, c⟩ := x
  obtain ⟨a', b', c'⟩ := y
  simp [sameW]
theorem map3 {α β : Type} (g : α → β) : ∀ (l : List α) (a b c : β), l.map g = [a, b, c] → ∃ x0 x1 x2, l = [x0, x1, x2] ∧ g x0 = a ∧ g x1 = b ∧ g x2 = c
  | [], _, _, _, h => by simp at h
  | [_], _, _, _, h => by simp at h
  | [_, _], _, _, _, h => by simp at h
  | [x0, x1, x2], _, _, _, h => by
    simp only [List.map_cons, List.map_nil, List.cons.injEq, and_true] at h
    exact ⟨x0, x1, x2, rfl, h⟩
  | _ :: _ :: _ :: _ :: _, _, _, _, h => by simp at h
theorem run_equal_window (w : World) (x y : WindowL) : (Op.equalIn 10000 24 (.agg x.cells) (.agg y.cells)).run Try.prog w = .ok (sameW x y) w := by
  rw [run_equalIn_agg w 9999 24 _ _ (by kernel_rfl) (by kernel_rfl)]
  have hm : (Try.prog.fieldsOf 24).toList.map (fun f => (f.name, f.type, f.offset)) = [("Key", 9, 0), ("From", 3, 1), ("To", 3, 2)] := by kernel_rfl
  generalize (Try.prog.fieldsOf 24).toList = l at hm
  obtain ⟨f0, f1, f2, rfl, hq⟩ := map3 _ _ _ _ _ hm
  obtain ⟨h0, h1, h2⟩ := hq
  obtain ⟨n0, t0, o0⟩ : f0.name = "Key" ∧ f0.type = 9 ∧ f0.offset = 0 := by simpa using h0
  obtain ⟨n1, t1, o1⟩ : f1.name = "From" ∧ f1.type = 3 ∧ f1.offset = 1 := by simpa using h1
  obtain ⟨n2, t2, o2⟩ : f2.name = "To" ∧ f2.type = 3 ∧ f2.offset = 2 := by simpa using h2
  have p0 : ∀ z : WindowL, (part 9 z.cells 0).run Try.prog w = .ok (Sv z.key) w := fun z => by simp [part, go_sem, WindowL.cells]
  have p1 : ∀ z : WindowL, (part 3 z.cells 1).run Try.prog w = .ok (.int .i64 z.lo) w := fun z => by simp [part, go_sem, WindowL.cells]
  have p2 : ∀ z : WindowL, (part 3 z.cells 2).run Try.prog w = .ok (.int .i64 z.hi) w := fun z => by simp [part, go_sem, WindowL.cells]
  have e1 : ∀ (d : Nat) (a b : Int), (Op.equalIn (d + 1) 3 (.int .i64 a) (.int .i64 b)).run Try.prog w = .ok (a == b) w := fun d a b => run_equalIn_int w d 3 .i64 .i64 a b Try.underlying3
  have e2 : ∀ (d : Nat) (a b : List (BitVec 8)), (Op.equalIn (d + 1) 9 (Sv a) (Sv b)).run Try.prog w = .ok (decide (a = b)) w := fun d a b => by
    rw [Sv, Sv, run_equalIn_string w d 9 _ _ Try.underlying9, str_eq]
  obtain ⟨a, b, c⟩ := x
  obtain ⟨a', b', c'⟩ := y
  rw [eqF_step (Sv a) (Sv a') (decide (a = a')) (by rw [n0]; decide) (by rw [t0, o0]; exact p0 ⟨a, b, c⟩) (by rw [t0, o0]; exact p0 ⟨a', b', c'⟩) (by rw [t0]; exact e2 9998 a a'),
    eqF_step (.int .i64 b) (.int .i64 b') (b == b') (by rw [n1]; decide) (by rw [t1, o1]; exact p1 ⟨a, b, c⟩) (by rw [t1, o1]; exact p1 ⟨a', b', c'⟩) (by rw [t1]; exact e1 9998 b b'),
    eqF_step (.int .i64 c) (.int .i64 c') (c == c') (by rw [n2]; decide) (by rw [t2, o2]; exact p2 ⟨a, b, c⟩) (by rw [t2, o2]; exact p2 ⟨a', b', c'⟩) (by rw [t2]; exact e1 9998 c c')]
  simp only [sameW]
  cases decide (a = a') <;> cases b == b' <;> cases c == c' <;> rfl
theorem run_eql_window (w : World) (x y : WindowL) : (binOp .eql 24 (.agg x.cells) (.agg y.cells)).run Try.prog w = .ok (.bool (sameW x y)) w := by
  rw [run_eql_struct, run_equal_window]
  rfl
theorem run_neq_window (w : World) (x y : WindowL) : (binOp .neq 24 (.agg x.cells) (.agg y.cells)).run Try.prog w = .ok (.bool (!sameW x y)) w := by
  rw [run_neq_struct, run_equal_window]
  rfl
theorem run_guard_window (w : World) (op : BinOp) (o1 o2 : Operand) (x y : WindowL) : (eqGuard op 24 o1 o2 (.agg x.cells) (.agg y.cells)).run Try.prog w = .ok () w := run_eqGuard_agg w op _ o1 o2 _ _ (by kernel_rfl)
/-- A list of windows that lies at an address. -/
def WinsAt (w : World) (a : Option Addr) (l : List WindowL) : Prop :=
  l = [] ∨ ∃ b o, a = some ⟨b, o, none⟩ ∧ ∀ i x, l[i]? = some x → ∀ j v, x.cells[j]? = some v → w.cell? ⟨b, o + i * 3 + j, none⟩ = some v
theorem WinsAt.below {w w' : World} {a : Option Addr} {l : List WindowL} (h : WinsAt w a l) (hB : Below w.heap.size w w') : WinsAt w' a l := by
  rcases h with h | ⟨b, o, h, h'⟩
  · exact .inl h
  · exact .inr ⟨b, o, h, fun i x hx j v hv => (hB.cell (block_lt_of_cell (h' i x hx j v hv))).trans (h' i x hx j v hv)⟩
/-- A call's answer: a list of windows in new memory. -/
def WinsEnd (w : World) (l : List WindowL) (e : Ending) (w' : World) : Prop := ∃ a c, e = .returned (.slice a l.length c) ∧ l.length ≤ c ∧ WinsAt w' a l ∧ Below w.heap.size w w'
theorem cellsW_lt {x : WindowL} {j : Nat} {v : Value} (h : x.cells[j]? = some v) : j < 3 := by
  have := (Array.getElem?_eq_some_iff.1 h).1
  simpa [WindowL.cells] using this
/-- A slice of windows that a call made itself. -/
def cellsLW (l : List WindowL) : List Value := l.flatMap fun x => x.cells.toList
def OwnW (w : World) (base : Nat) (v : Value) (l : List WindowL) : Prop := w.ownsRow base 24 3 v l.length (cellsLW l)
theorem cellsLW_length (l : List WindowL) : (cellsLW l).length = l.length * 3 := by
  induction l with
  | nil => rfl
  | cons x l ih =>
    have : (cellsLW (x :: l)).length = 3 + (cellsLW l).length := by
      show (x.cells.toList ++ cellsLW l).length = _
      rw [List.length_append]
      rfl
    rw [this, ih, List.length_cons]
    omega
theorem cellsLW_at (l : List WindowL) : ∀ (i : Nat) (x : WindowL) (j : Nat) (v : Value), l[i]? = some x → x.cells[j]? = some v → (cellsLW l)[i * 3 + j]? = some v := by
  induction l with
  | nil => intro i x j v h; simp at h
  | cons y l ih =>
    intro i x j v h hv
    have hj : j < 3 := cellsW_lt hv
    have hy : (cellsLW (y :: l)) = y.cells.toList ++ cellsLW l := rfl
    have hys : y.cells.toList.length = 3 := rfl
    cases i with
    | zero =>
      simp only [List.getElem?_cons_zero, Option.some.injEq] at h
      subst h
      rw [hy, Nat.zero_mul, Nat.zero_add, List.getElem?_append_left (by omega)]
      simpa using hv
    | succ i =>
      rw [hy, List.getElem?_append_right (by omega), hys, show (i + 1) * 3 + j - 3 = i * 3 + j by omega]
      exact ih i x j v (by simpa using h) hv
theorem OwnW.nil (w : World) (base : Nat) : OwnW w base (.slice none 0 0) [] := World.ownsRow_nil w base _ 3
theorem OwnW.form {w : World} {base : Nat} {v : Value} {l : List WindowL} (h : OwnW w base v l) : ∃ a c, v = .slice a l.length c ∧ l.length ≤ c ∧ WinsAt w a l := by
  have hh := h
  rcases h.2 with ⟨h1, h2⟩ | ⟨g, cap, cur, h1, _, _, hle, _⟩
  · exact ⟨none, 0, by rw [h1, h2], by omega, .inl (List.eq_nil_of_length_eq_zero h2)⟩
  · refine ⟨_, _, h1, hle, .inr ⟨g, 0, rfl, fun i x hx j u hu => ?_⟩⟩
    unfold OwnW at hh
    rw [h1] at hh
    have hi : i < l.length := (List.getElem?_eq_some_iff.1 hx).1
    have hj : j < 3 := cellsW_lt hu
    rw [show 0 + i * 3 + j = i * 3 + j by omega, World.ownsRow.cellAt hh _ (by omega)]
    exact cellsLW_at l i x j u hx hu
theorem OwnW.kept {w w' : World} {base : Nat} {v : Value} {l : List WindowL} (h : OwnW w base v l) {row : Option Nat} (hg : w.grownBy w' row) (hne : v.ownBlock = none ∨ v.ownBlock ≠ row) : OwnW w' base v l := World.ownsRow.kept h hg hne
theorem OwnW.far {w w' : World} {base : Nat} {v : Value} {l : List WindowL} (h : OwnW w base v l) (hB : Below w.heap.size w w') : OwnW w' base v l :=
  h.kept (grown_none_below hB) (by cases hv : v.ownBlock <;> simp)
theorem OwnW.lt {w : World} {base : Nat} {v : Value} {l : List WindowL} (h : OwnW w base v l) {k : Nat} (hk : v.ownBlock = some k) : base ≤ k ∧ k < w.heap.size := World.ownsRow.lt h k hk
theorem cellsLW_snoc (l : List WindowL) (x : WindowL) : cellsLW (l ++ [x]) = cellsLW l ++ x.cells.toList := by simp [cellsLW]
theorem wpList_pushW {ops : Array Oper} {rest : List Oper} {o : Oper} {a : Act} {Q : Exit → Act → World → Prop} {w : World} (hgd : o.guard = none) (s x : Operand)
    (ho : o.op = .call { callee := .builtin .append, args := #[s, x], argTypes := #[22, 22] })
    (base : Nat) (v : Value) (l : List WindowL) (hs : a.eval s = v) (hown : OwnW w base v l) (u : WindowL) (g : Nat) (hx : a.eval x = .slice (some ⟨g, 0, none⟩) 1 1) (hu : ∀ j z, u.cells[j]? = some z → w.cell? ⟨g, j, none⟩ = some z)
    (hlen : l.length + 1 ≤ 1000000) (hbase : base ≤ w.heap.size)
    (h : ∀ v' w', OwnW w' base v' (l ++ [u]) → w.grownBy w' v.ownBlock → (v'.ownBlock = v.ownBlock ∨ v'.ownBlock = some w.heap.size) → wpList Try.prog ops Q rest (a.put o.dst v') w') :
    wpList Try.prog ops Q (o :: rest) a w := by
  obtain ⟨i, hi, hz0, hz1, hz2⟩ := info_parts (P := Try.prog) (e := 24) (z := .agg #[.string ⟨#[]⟩, .int .i64 0, .int .i64 0]) (size := 3) (bytes := 32) (by kernel_rfl)
  refine wpList_append_own_at _ hgd s x 22 ho base 24 i _ 3 32 Try.underlying22 hi hz0 hz1 hz2 rfl (by decide) v l.length (cellsLW l) hs hown ⟨g, 0, none⟩ 1 1 u.cells.toList hx rfl ?_ ?_ (by unfold maxLen; omega) (by omega) hbase ?_
  · intro j z hj
    rw [addr_add, Nat.zero_add]
    exact hu j z (by simpa using hj)
  · intro z hz
    exact Array.all_eq_true'.1 (window_one u) z (by simpa using hz)
  · intro v' w' k1 k2 _ k4
    refine h v' w' ?_ k2 k4
    unfold OwnW
    rw [cellsLW_snoc, List.length_append]
    exact k1
theorem OwnW.new1 (w : World) (base : Nat) (hb : base ≤ w.heap.size) (u : WindowL) : OwnW (w.alloc (.cells u.cells 24)) base (.slice (some ⟨w.heap.size, 0, none⟩) 1 1) [u] := by
  refine ⟨rfl, .inr ⟨w.heap.size, 1, u.cells, rfl, hb, heap_alloc_new w _, Nat.le_refl _, by decide, rfl, ?_⟩⟩
  simp [cellsLW, WindowL.cells]
theorem OwnW.below {w w' : World} {base : Nat} {v : Value} {l : List WindowL} (h : OwnW w base v l) (hg : w.grownBy w' v.ownBlock) (hb : base ≤ w.heap.size) : Below base w w' :=
  ⟨hg.os, hg.tape, hg.output, hg.size, fun k hk => hg.block k (by omega) (fun he => by have := h.lt he.symm; omega)⟩
theorem cellsLW_of {l : List WindowL} {b o : Nat} {w : World} (h : ∀ i x, l[i]? = some x → ∀ j v, x.cells[j]? = some v → w.cell? ⟨b, o + i * 3 + j, none⟩ = some v) : ∀ (n : Nat) (u : Value), (cellsLW l)[n]? = some u → w.cell? ((⟨b, o, none⟩ : Addr).add n) = some u := by
  intro n u hu
  have hn := (List.getElem?_eq_some_iff.1 hu).1
  rw [cellsLW_length] at hn
  have hi : n / 3 < l.length := by omega
  have hx : l[n / 3]? = some l[n / 3] := List.getElem?_eq_getElem hi
  have hj : n % 3 < 3 := by omega
  obtain ⟨v, hv⟩ : ∃ v, (l[n / 3]).cells[n % 3]? = some v := by
    have hs : (l[n / 3]).cells.size = 3 := rfl
    exact ⟨_, Array.getElem?_eq_getElem (by rw [hs]; exact hj)⟩
  have h1 := cellsLW_at l (n / 3) _ (n % 3) v hx hv
  have e : n / 3 * 3 + n % 3 = n := by omega
  rw [e, hu] at h1
  cases h1
  rw [addr_add]
  have h2 := h (n / 3) _ hx (n % 3) u hv
  rwa [Nat.add_assoc, e] at h2
theorem window_parts : ((Try.prog.info? 24).map fun i => (i.zero, i.size, i.bytes)) = some (some (.agg #[.string ⟨#[]⟩, .int .i64 0, .int .i64 0]), 3, 32) := by kernel_rfl
theorem cellsLW_one (l : List WindowL) : ∀ u ∈ cellsLW l, u.oneCell' = true := by
  intro u hu
  obtain ⟨x, _, hx⟩ := List.mem_flatMap.1 hu
  exact Array.all_eq_true'.1 (window_one x) u (by simpa using hx)
/-- A slice of windows of its own behind an append of any windows. -/
theorem append_ownW (w : World) (base : Nat) (v : Value) (l1 l2 : List WindowL) (hown : OwnW w base v l1) (a : Option Addr) (c : Nat) (h : WinsAt w a l2) (hl : l1.length + l2.length ≤ 1000000) (hb : base ≤ w.heap.size) (ty : TypeId) :
    ∃ v' w', (Builtin.append_ #[22, 22] ty #[v, .slice a l2.length c]).run Try.prog w = .ok v' w' ∧ OwnW w' base v' (l1 ++ l2) ∧ w.grownBy w' v.ownBlock ∧ (v'.ownBlock = v.ownBlock ∨ v'.ownBlock = some w.heap.size) := by
  obtain ⟨i, hi, hz, hs, hby⟩ := info_parts window_parts
  have some_case : ∀ ad : Addr, (∀ (j : Nat) (u : Value), (cellsLW l2)[j]? = some u → w.cell? (ad.add j) = some u) →
      ∃ v' w', (Builtin.append_ #[22, 22] ty #[v, .slice (some ad) l2.length c]).run Try.prog w = .ok v' w' ∧ OwnW w' base v' (l1 ++ l2) ∧ w.grownBy w' v.ownBlock ∧ (v'.ownBlock = v.ownBlock ∨ v'.ownBlock = some w.heap.size) := by
    intro ad hc
    obtain ⟨v', w', h1, h2, h3, _, h5⟩ := run_append_own_at (P := Try.prog) w base 22 ty 24 i _ 3 32 Try.underlying22 hi hz hs hby rfl (by decide) v l1.length (cellsLW l1) hown ad l2.length c (cellsLW l2) (cellsLW_length l2) hc (cellsLW_one l2)
      (by unfold maxLen; omega) (by omega) hb
    refine ⟨v', w', h1, ?_, h3, h5⟩
    unfold OwnW
    rw [List.length_append, show cellsLW (l1 ++ l2) = cellsLW l1 ++ cellsLW l2 by simp [cellsLW]]
    exact h2
  cases a with
  | some ad =>
    rcases h with rfl | ⟨b, o, ha, hc⟩
    · exact some_case ad fun j u hj => by simp [cellsLW] at hj
    · cases ha
      exact some_case _ (cellsLW_of hc)
  | none =>
    have h0 : l2 = [] := by
      rcases h with h | ⟨_, _, ha, _⟩
      · exact h
      · cases ha
    subst h0
    refine ⟨v, w, ?_, by simpa using hown, ⟨rfl, rfl, rfl, Nat.le_refl _, fun _ _ _ => rfl⟩, .inl rfl⟩
    rcases hown.2 with ⟨hv, hn⟩ | ⟨g, cap, cur, hv, _, hg, hle, _⟩
    · rw [hv]
      simp [Builtin.append_, run_underlying Try.underlying22, sizeOf, typeInfo, hi, Builtin.lenOf, Builtin.firstCells]
    · rw [hv]
      simp [Builtin.append_, run_underlying Try.underlying22, sizeOf, typeInfo, hi, Builtin.lenOf, Builtin.firstCells, storeCells, loadCells, hle]
theorem wpList_appendW {ops : Array Oper} {rest : List Oper} {o : Oper} {a : Act} {Q : Exit → Act → World → Prop} {w : World} (hgd : o.guard = none) (s x : Operand)
    (ho : o.op = .call { callee := .builtin .append, args := #[s, x], argTypes := #[22, 22] }) (base : Nat) (v : Value) (l1 l2 : List WindowL) (hs : a.eval s = v) (hown : OwnW w base v l1)
    (sa : Option Addr) (c n : Nat) (hn : n = l2.length) (hx : a.eval x = .slice sa n c) (hm : WinsAt w sa l2) (hl : l1.length + l2.length ≤ 1000000) (hb : base ≤ w.heap.size)
    (h : ∀ v' w', OwnW w' base v' (l1 ++ l2) → w.grownBy w' v.ownBlock → (v'.ownBlock = v.ownBlock ∨ v'.ownBlock = some w.heap.size) → wpList Try.prog ops Q rest (a.put o.dst v') w') :
    wpList Try.prog ops Q (o :: rest) a w := by
  refine wpList_plain hgd fun K hK => ?_
  subst hn
  obtain ⟨v', w', hr, h2, h3, h4⟩ := append_ownW w base v l1 l2 hown sa c hm hl hb o.type
  unfold Oper.wp execOp
  simp only [ho, resolve, invoke, builtin, Sem.run_bind, Sem.run_pure, Result.andThen_ok, List.map_toArray, List.map_cons, List.map_nil, hs, hx, hr]
  exact hK _ _ (h v' w' h2 h3 h4)
/-- '[]api.Window{x}': a new row of one window. -/
theorem wpList_slice1_W {ops : Array Oper} {rest : List Oper} {o : Oper} {a : Act} {w : World} {Q : Exit → Act → World → Prop} (hg : o.guard = none) (y : Operand) (ho : o.op = .buildSlice 22 1 #[(0, y)]) (x : WindowL) (hy : a.eval y = .agg x.cells)
    (h : wpList Try.prog ops Q rest (a.put o.dst (.slice (some ⟨w.heap.size, 0, none⟩) 1 1)) (w.alloc (.cells x.cells 24))) : wpList Try.prog ops Q (o :: rest) a w := by
  have hF : Instr.fill (fun i => some (i * 3, 3)) ((Array.range (1 * 3)).map ((Value.agg #[.string ⟨#[]⟩, .int .i64 0, .int .i64 0]).cells[· % (Value.agg #[.string ⟨#[]⟩, .int .i64 0, .int .i64 0]).cells.size]!)) [(0, .agg x.cells)] = some x.cells := by kernel_rfl
  obtain ⟨i, hi, hz0, hz1, hz2⟩ := info_parts window_parts
  refine wpList_buildSlice hg 22 24 1 _ ho x.cells i _ Try.underlying22 hi hz0 (by rw [hz1]; decide) (by rw [hz1]; decide) ?_ h
  rw [hz1]
  simp only [List.map_toArray, List.map_cons, List.map_nil, hy]
  exact hF
theorem wpList_build_on {P : Program} {ops : Array Oper} {rest : List Oper} {o : Oper} {a : Act} {w : World} {Q : Exit → Act → World → Prop} (hw : Region.wanted o (yielded ops a.tmps) = true) (t : TypeId) (parts : Array (Nat × Operand)) (ho : o.op = .build t parts)
    (cells : Array Value) (hf : P.built t (parts.map fun (i, x) => (i, a.eval x)).toList = some cells) (h : wpList P ops Q rest (a.put o.dst (.agg cells)) w) : wpList P ops Q (o :: rest) a w := by
  unfold wpList
  rw [if_pos hw]
  exact .inl (wp_build t parts ho (by rw [hf]; rfl) (by rw [hf]; exact h))
theorem built_window (k : List (BitVec 8)) (a b : Int) : Try.prog.built 24 [(0, Sv k), (1, .int .i64 a), (2, .int .i64 b)] = some (WindowL.mk k a b).cells := by kernel_rfl
/-- The window that is next on a tape. -/
def TapeL.win0 (t : TapeL) : WindowL × TapeL :=
  (⟨(t.text 16).1, ((t.text 16).2.number 9223372036854775807).1, ((t.text 16).2.number 9223372036854775807).1 + (((t.text 16).2.number 9223372036854775807).2.number 9223372036854775807).1⟩, (((t.text 16).2.number 9223372036854775807).2.number 9223372036854775807).2)
def TapeL.lastW (x : WindowL) (t : TapeL) : TapeL := if x.rightB then t else t.fail 11
def TapeL.window (t : TapeL) : WindowL × TapeL := (if (TapeL.lastW t.win0.1 t.win0.2).e = 0 then t.win0.1 else zeroW, TapeL.lastW t.win0.1 t.win0.2)
theorem window_back {x : WindowL} (h : x.rightB = true) (r : List (BitVec 8)) : (TapeL.mk (x.bytes ++ r) 0).window = (x, ⟨r, 0⟩) := by
  obtain ⟨h1, h2, h3, h4, h5, h6, h7⟩ := rightW_cases h
  have e : x.bytes ++ r = textL x.key ++ (wordL x.lo.toNat ++ (wordL (x.hi - x.lo).toNat ++ r)) := by simp [WindowL.bytes, numberL, List.append_assoc]
  have n1 := back_text16 x.key (wordL x.lo.toNat ++ (wordL (x.hi - x.lo).toNat ++ r)) h3
  have n2 := back_number x.lo.toNat 9223372036854775807 (by omega) (by omega) (wordL (x.hi - x.lo).toNat ++ r)
  have n3 := back_number (x.hi - x.lo).toNat 9223372036854775807 (by omega) (by omega) r
  have key : (TapeL.mk (x.bytes ++ r) 0).win0 = (x, ⟨r, 0⟩) := by
    rw [e, TapeL.win0, n1]
    simp only
    rw [n2]
    simp only
    rw [n3]
    obtain ⟨k, lo, hi⟩ := x
    simp only [Prod.mk.injEq, WindowL.mk.injEq, and_true, true_and]
    simp only at h4 h6
    omega
  rw [TapeL.window, key]
  simp only [TapeL.lastW, h, if_true]
end Go.Proofs.Ytbfioekbahcicaa
