/-
  Part 23 of 53 of what the proof leans on.
-/
import Derived.Test.YtjeeghafachebaaGreatG22
import Derived.Test.YtjeeghafachebaaGreatG21
namespace Go.Proofs.YtjeeghafachebaaGreat
open Go Go.ChangeShapes Go.WideShapes Go.ChangeAt Go.WideMaps Go.WideElems Go.RowKit
structure PaneV where
  p : PaneL
  tv : Value
  z : Value
  ht : tv.oneCell' = true
  hz : z.oneCell' = true
def PaneV.cells (x : PaneV) : Array Value := #[Sv x.p.w.key, .int .i64 x.p.w.lo, .int .i64 x.p.w.hi, .int .i64 x.p.a.n, .int .i64 x.p.a.a, x.tv, x.z, .int .i64 x.p.r]
def zeroPV : PaneV := ⟨zeroP, nilV, zeroZ, rfl, rfl⟩
theorem pane_size : (Tryz.prog.info? 55).map (·.size) = some 8 := by kernel_rfl
theorem pane_one (x : PaneV) : x.cells.all (·.oneCell') = true := by
  rw [Array.all_eq_true']; intro v hv; simp only [PaneV.cells, List.mem_toArray, List.mem_cons, List.not_mem_nil, or_false] at hv
  rcases hv with rfl | rfl | rfl | rfl | rfl | rfl | rfl | rfl <;> first | rfl | exact x.ht | exact x.hz
structure OutV where
  o : OutE
  tv : Value
  ht : tv.oneCell' = true
def OutV.cells (x : OutV) : Array Value := #[.bool x.o.late, .int .i64 x.o.item.kind, Sv x.o.item.key, .int .i64 x.o.item.time, .int .i64 x.o.item.value, Sv x.o.w.key, .int .i64 x.o.w.lo, .int .i64 x.o.w.hi, .int .i64 x.o.r, x.tv]
def zeroO : OutE := ⟨false, zeroI, zeroW, 0, []⟩
def zeroOV : OutV := ⟨zeroO, nilV, rfl⟩
theorem out_size : (Tryz.prog.info? 50).map (·.size) = some 10 := by kernel_rfl
theorem out_one (x : OutV) : x.cells.all (·.oneCell') = true := by
  rw [Array.all_eq_true']; intro v hv; simp only [OutV.cells, List.mem_toArray, List.mem_cons, List.not_mem_nil, or_false] at hv
  rcases hv with rfl | rfl | rfl | rfl | rfl | rfl | rfl | rfl | rfl | rfl <;> first | rfl | exact x.ht
def GoodP (w : World) (x : PaneV) : Prop := IntsAt w x.tv x.p.a.top ∧ WholeZ x.z x.p.a.u x.p.a.v
def GoodO (w : World) (x : OutV) : Prop := IntsAt w x.tv x.o.v
theorem GoodP.below {w w' : World} {x : PaneV} (h : GoodP w x) (hB : Below w.heap.size w w') : GoodP w' x := ⟨h.1.below hB, h.2⟩
theorem GoodO.below {w w' : World} {x : OutV} (h : GoodO w x) (hB : Below w.heap.size w w') : GoodO w' x := IntsAt.below h hB
def RowP (w : World) (b : Nat) (x : PaneV) : Prop := w.heap[b]? = some (.cells x.cells 55 (0, 0))
theorem RowP.lt {w : World} {b : Nat} {x : PaneV} (h : RowP w b x) : b < w.heap.size := (Array.getElem?_eq_some_iff.1 h).1
theorem RowP.below {w w' : World} {b : Nat} {x : PaneV} (h : RowP w b x) (hB : Below w.heap.size w w') : RowP w' b x := (hB.block b h.lt).trans h
theorem RowP.cell {w : World} {b : Nat} {x : PaneV} (h : RowP w b x) (i : Nat) {v : Value} (hi : x.cells[i]? = some v) : w.cell? ⟨b, i, none⟩ = some v := by
  rw [cell_of_row _ _ _ _ _ _ h]; exact hi
theorem RowP.fro {w : World} {b : Nat} {x : PaneV} (h : RowP w b x) (i : Nat) : w.frozen? ⟨b, i, none⟩ = false := by
  unfold RowP at h; simp [World.frozen?, h]
theorem RowP.grown {w w' : World} {b : Nat} {x : PaneV} {row : Option Nat} (h : RowP w b x) (hg : w.grownBy w' row) (hne : some b ≠ row) : RowP w' b x := (hg.block b h.lt hne).trans h
theorem RowP.reset {w : World} {b : Nat} {x : PaneV} (h : RowP w b x) (y : PaneV) : RowP (w.setRow b y.cells) b y := setRow_heap w b _ _ _ _ h
theorem stored_pane (w : World) (x : PaneV) : RowP ((w.alloc (Obj.cells zeroPV.cells 55)).setRow w.heap.size x.cells) w.heap.size x ∧ Below w.heap.size w ((w.alloc (Obj.cells zeroPV.cells 55)).setRow w.heap.size x.cells) :=
  ⟨setRow_heap _ _ _ _ _ _ (heap_alloc_new w _), ((Below.refl _ w).alloc (Nat.le_refl _) _).trans ⟨rfl, rfl, rfl, by simp [World.setRow], fun k hk => setRow_other _ _ _ _ (by omega)⟩⟩
def PanesAt (w : World) (a : Option Addr) (l : List PaneV) : Prop :=
  l = [] ∨ ∃ b o, a = some ⟨b, o, none⟩ ∧ ∀ i x, l[i]? = some x → ∀ j v, x.cells[j]? = some v → w.cell? ⟨b, o + i * 8 + j, none⟩ = some v
theorem PanesAt.below {w w' : World} {a : Option Addr} {l : List PaneV} (h : PanesAt w a l) (hB : Below w.heap.size w w') : PanesAt w' a l := by
  rcases h with h | ⟨b, o, h, h'⟩
  · exact .inl h
  · exact .inr ⟨b, o, h, fun i x hx j v hv => (hB.cell (block_lt_of_cell (h' i x hx j v hv))).trans (h' i x hx j v hv)⟩
theorem cellsP_lt {x : PaneV} {j : Nat} {v : Value} (h : x.cells[j]? = some v) : j < 8 := by
  have := (Array.getElem?_eq_some_iff.1 h).1
  simpa [PaneV.cells] using this
def cellsLP (l : List PaneV) : List Value := l.flatMap fun x => x.cells.toList
def OwnP (w : World) (base : Nat) (v : Value) (l : List PaneV) : Prop := w.ownsRow base 55 8 v l.length (cellsLP l)
theorem cellsLP_length (l : List PaneV) : (cellsLP l).length = l.length * 8 := by
  induction l with
  | nil => rfl
  | cons x l ih =>
    have : (cellsLP (x :: l)).length = 8 + (cellsLP l).length := by
      show (x.cells.toList ++ cellsLP l).length = _
      rw [List.length_append]; rfl
    rw [this, ih, List.length_cons]; omega
theorem cellsLP_at (l : List PaneV) : ∀ (i : Nat) (x : PaneV) (j : Nat) (v : Value), l[i]? = some x → x.cells[j]? = some v → (cellsLP l)[i * 8 + j]? = some v := by
  induction l with
  | nil => intro i x j v h; simp at h
  | cons y l ih =>
    intro i x j v h hv; have hj : j < 8 := cellsP_lt hv; have hy : (cellsLP (y :: l)) = y.cells.toList ++ cellsLP l := rfl; have hys : y.cells.toList.length = 8 := rfl
    cases i with
    | zero =>
      simp only [List.getElem?_cons_zero, Option.some.injEq] at h; subst h
      rw [hy, Nat.zero_mul, Nat.zero_add, List.getElem?_append_left (by omega)]
      simpa using hv
    | succ i =>
      rw [hy, List.getElem?_append_right (by omega), hys, show (i + 1) * 8 + j - 8 = i * 8 + j by omega]
      exact ih i x j v (by simpa using h) hv
theorem OwnP.nil (w : World) (base : Nat) : OwnP w base (.slice none 0 0) [] := World.ownsRow_nil w base _ 8
theorem OwnP.form {w : World} {base : Nat} {v : Value} {l : List PaneV} (h : OwnP w base v l) : ∃ a c, v = .slice a l.length c ∧ l.length ≤ c ∧ PanesAt w a l := by
  have hh := h
  rcases h.2 with ⟨h1, h2⟩ | ⟨g, cap, cur, h1, _, _, hle, _⟩
  · exact ⟨none, 0, by rw [h1, h2], by omega, .inl (List.eq_nil_of_length_eq_zero h2)⟩
  · refine ⟨_, _, h1, hle, .inr ⟨g, 0, rfl, fun i x hx j u hu => ?_⟩⟩; unfold OwnP at hh; rw [h1] at hh; have hi : i < l.length := (List.getElem?_eq_some_iff.1 hx).1; have hj : j < 8 := cellsP_lt hu
    rw [show 0 + i * 8 + j = i * 8 + j by omega, World.ownsRow.cellAt hh _ (by omega)]
    exact cellsLP_at l i x j u hx hu
theorem OwnP.kept {w w' : World} {base : Nat} {v : Value} {l : List PaneV} (h : OwnP w base v l) {row : Option Nat} (hg : w.grownBy w' row) (hne : v.ownBlock = none ∨ v.ownBlock ≠ row) : OwnP w' base v l := World.ownsRow.kept h hg hne
theorem OwnP.far {w w' : World} {base : Nat} {v : Value} {l : List PaneV} (h : OwnP w base v l) (hB : Below w.heap.size w w') : OwnP w' base v l :=
  h.kept (grown_none_below hB) (by cases hv : v.ownBlock <;> simp)
theorem OwnP.lt {w : World} {base : Nat} {v : Value} {l : List PaneV} (h : OwnP w base v l) {k : Nat} (hk : v.ownBlock = some k) : base ≤ k ∧ k < w.heap.size := World.ownsRow.lt h k hk
theorem cellsLP_snoc (l : List PaneV) (x : PaneV) : cellsLP (l ++ [x]) = cellsLP l ++ x.cells.toList := by simp [cellsLP]
theorem wpList_pushP {ops : Array Oper} {rest : List Oper} {o : Oper} {a : Act} {Q : Exit → Act → World → Prop} {w : World} (hgd : o.guard = none) (s x : Operand)
    (ho : o.op = .call { callee := .builtin .append, args := #[s, x], argTypes := #[27, 27] })
    (base : Nat) (v : Value) (l : List PaneV) (hs : a.eval s = v) (hown : OwnP w base v l) (u : PaneV) (g : Nat) (hx : a.eval x = .slice (some ⟨g, 0, none⟩) 1 1) (hu : ∀ j z, u.cells[j]? = some z → w.cell? ⟨g, j, none⟩ = some z)
    (hlen : l.length + 1 ≤ 1000000) (hbase : base ≤ w.heap.size)
    (h : ∀ v' w', OwnP w' base v' (l ++ [u]) → w.grownBy w' v.ownBlock → (v'.ownBlock = v.ownBlock ∨ v'.ownBlock = some w.heap.size) → wpList Tryz.prog ops Q rest (a.put o.dst v') w') :
    wpList Tryz.prog ops Q (o :: rest) a w := by
  obtain ⟨i, hi, hz0, hz1, hz2⟩ := info_parts (P := Tryz.prog) (e := 55) (z := .agg #[.string ⟨#[]⟩, .int .i64 0, .int .i64 0, .int .i64 0, .int .i64 0, .slice none 0 0, .complex .f64 0 0, .int .i64 0]) (size := 8) (bytes := 96) (by kernel_rfl)
  refine wpList_append_own_at _ hgd s x 27 ho base 55 i _ 8 96 Tryz.underlying27 hi hz0 hz1 hz2 rfl (by decide) v l.length (cellsLP l) hs hown ⟨g, 0, none⟩ 1 1 u.cells.toList hx rfl ?_ ?_ (by unfold maxLen; omega) (by omega) hbase ?_
  · intro j z hj; rw [addr_add, Nat.zero_add]
    exact hu j z (by simpa using hj)
  · intro z hz
    exact Array.all_eq_true'.1 (pane_one u) z (by simpa using hz)
  · intro v' w' k1 k2 _ k4; refine h v' w' ?_ k2 k4; unfold OwnP; rw [cellsLP_snoc, List.length_append]; exact k1
theorem cellsLP_of {l : List PaneV} {b o : Nat} {w : World} (h : ∀ i x, l[i]? = some x → ∀ j v, x.cells[j]? = some v → w.cell? ⟨b, o + i * 8 + j, none⟩ = some v) : ∀ (n : Nat) (u : Value), (cellsLP l)[n]? = some u → w.cell? ((⟨b, o, none⟩ : Addr).add n) = some u := by
  intro n u hu; have hn := (List.getElem?_eq_some_iff.1 hu).1; rw [cellsLP_length] at hn
  have hi : n / 8 < l.length := by omega
  have hx : l[n / 8]? = some l[n / 8] := List.getElem?_eq_getElem hi
  have hj : n % 8 < 8 := by omega
  obtain ⟨v, hv⟩ : ∃ v, (l[n / 8]).cells[n % 8]? = some v := by
    have hs : (l[n / 8]).cells.size = 8 := rfl
    exact ⟨_, Array.getElem?_eq_getElem (by rw [hs]; exact hj)⟩
  have h1 := cellsLP_at l (n / 8) _ (n % 8) v hx hv
  have e : n / 8 * 8 + n % 8 = n := by omega
  rw [e, hu] at h1
  cases h1
  rw [addr_add]; have h2 := h (n / 8) _ hx (n % 8) u hv
  rwa [Nat.add_assoc, e] at h2
theorem pane_parts : ((Tryz.prog.info? 55).map fun i => (i.zero, i.size, i.bytes)) = some (some (.agg #[.string ⟨#[]⟩, .int .i64 0, .int .i64 0, .int .i64 0, .int .i64 0, .slice none 0 0, .complex .f64 0 0, .int .i64 0]), 8, 96) := by kernel_rfl
theorem cellsLP_one (l : List PaneV) : ∀ u ∈ cellsLP l, u.oneCell' = true := by
  intro u hu; obtain ⟨x, _, hx⟩ := List.mem_flatMap.1 hu
  exact Array.all_eq_true'.1 (pane_one x) u (by simpa using hx)
theorem wpList_slice1_P {ops : Array Oper} {rest : List Oper} {o : Oper} {a : Act} {w : World} {Q : Exit → Act → World → Prop} (hg : o.guard = none) (y : Operand) (ho : o.op = .buildSlice 27 1 #[(0, y)]) (x : PaneV) (hy : a.eval y = .agg x.cells)
    (h : wpList Tryz.prog ops Q rest (a.put o.dst (.slice (some ⟨w.heap.size, 0, none⟩) 1 1)) (w.alloc (.cells x.cells 55))) : wpList Tryz.prog ops Q (o :: rest) a w := by
  have hF : Instr.fill (fun i => some (i * 8, 8)) ((Array.range (1 * 8)).map ((Value.agg #[.string ⟨#[]⟩, .int .i64 0, .int .i64 0, .int .i64 0, .int .i64 0, .slice none 0 0, .complex .f64 0 0, .int .i64 0]).cells[· % (Value.agg #[.string ⟨#[]⟩, .int .i64 0, .int .i64 0, .int .i64 0, .int .i64 0, .slice none 0 0, .complex .f64 0 0, .int .i64 0]).cells.size]!)) [(0, .agg x.cells)] = some x.cells := by kernel_rfl
  obtain ⟨i, hi, hz0, hz1, hz2⟩ := info_parts pane_parts
  refine wpList_buildSlice hg 27 55 1 _ ho x.cells i _ Tryz.underlying27 hi hz0 (by rw [hz1]; decide) (by rw [hz1]; decide) ?_ h
  rw [hz1]; simp only [List.map_toArray, List.map_cons, List.map_nil, hy]; exact hF
theorem OwnP.mono {w : World} {base base' : Nat} {v : Value} {l : List PaneV} (h : OwnP w base v l) (hb : base' ≤ base) : OwnP w base' v l := by
  refine ⟨h.1, ?_⟩
  rcases h.2 with h | ⟨g, c, cur, h1, h2, r⟩
  · exact .inl h
  · exact .inr ⟨g, c, cur, h1, Nat.le_trans hb h2, r⟩
theorem wp_storeP {o : Oper} {a : Act} {w : World} {K : Act → World → Prop} {Q : Exit → Act → World → Prop} (x y : Operand) (ho : o.op = .store 55 x y) (g : Nat) (u old : PaneV)
    (hx : a.eval x = .pointer (some ⟨g, 0, none⟩)) (hy : a.eval y = .agg u.cells) (hg : RowP w g old) (h : K (a.put o.dst undef) (w.setRow g u.cells)) : o.wp Tryz.prog a w K Q :=
  wp_store_row _ x y ho g u.cells hx hy _ old.cells hg pane_size rfl (pane_one u) h
theorem OwnP.fro {w : World} {base g c n : Nat} {l : List PaneV} (h : OwnP w base (.slice (some ⟨g, 0, none⟩) n c) l) (hn : n = l.length) (j : Nat) : w.frozen? ⟨g, j, none⟩ = false := by
  subst hn; exact World.ownsRow.frozenAt h j
theorem PanesAt.take {w : World} {a : Option Addr} {l : List PaneV} (h : PanesAt w a l) (i : Nat) : PanesAt w a (l.take i) := by
  rcases h with h | ⟨b, o, h, h'⟩
  · left
    rw [h, List.take_nil]
  · right
    refine ⟨b, o, h, fun j x hx => h' j x ?_⟩; rw [List.getElem?_take] at hx
    split at hx
    · exact hx
    · cases hx
theorem PanesAt.cut {w : World} {b o : Nat} {l : List PaneV} (h : PanesAt w (some ⟨b, o, none⟩) l) (i : Nat) : PanesAt w (some ⟨b, o + i * 8, none⟩) (l.drop i) := by
  rcases h with h | ⟨b', o', h, h'⟩
  · left
    rw [h, List.drop_nil]
  · right
    cases h
    refine ⟨b, o + i * 8, rfl, fun j x hx k v hv => ?_⟩; rw [List.getElem?_drop] at hx; have := h' (i + j) x hx k v hv
    rwa [show o + (i + j) * 8 + k = o + i * 8 + j * 8 + k by omega] at this
theorem run_sliceP_h (w : World) (a : Option Addr) (n c i : Nat) (h : i ≤ c) :
    (Instr.slice 27 (.slice a n c) none (some (.int .i64 (i : Int))) none).run Tryz.prog w = .ok (.slice a i c) w := by
  have hz : ∀ w, (sizeOf 55).run Tryz.prog w = .ok 8 w := Tryz.sizeOf55
  cases a <;> simp [Instr.slice, run_underlying Tryz.underlying27, Instr.sliceBounds, run_sliceBound, hz, h, addr_add0]
def D8 (w : World) (b : Nat) (x : PaneV) : Prop := w.cell? ⟨b, 0, none⟩ = some (Sv x.p.w.key) ∧ w.cell? ⟨b, 1, none⟩ = some (.int .i64 x.p.w.lo) ∧ w.cell? ⟨b, 2, none⟩ = some (.int .i64 x.p.w.hi) ∧ w.cell? ⟨b, 3, none⟩ = some (.int .i64 x.p.a.n) ∧ w.cell? ⟨b, 4, none⟩ = some (.int .i64 x.p.a.a) ∧ w.cell? ⟨b, 5, none⟩ = some x.tv ∧ w.cell? ⟨b, 6, none⟩ = some x.z ∧ w.cell? ⟨b, 7, none⟩ = some (.int .i64 x.p.r)
theorem RowP.d8 {w : World} {b : Nat} {x : PaneV} (h : RowP w b x) : D8 w b x := ⟨h.cell 0 rfl, h.cell 1 rfl, h.cell 2 rfl, h.cell 3 rfl, h.cell 4 rfl, h.cell 5 rfl, h.cell 6 rfl, h.cell 7 rfl⟩
def RowO (w : World) (b : Nat) (x : OutV) : Prop := w.heap[b]? = some (.cells x.cells 50 (0, 0))
theorem RowO.lt {w : World} {b : Nat} {x : OutV} (h : RowO w b x) : b < w.heap.size := (Array.getElem?_eq_some_iff.1 h).1
theorem RowO.below {w w' : World} {b : Nat} {x : OutV} (h : RowO w b x) (hB : Below w.heap.size w w') : RowO w' b x := (hB.block b h.lt).trans h
theorem RowO.cell {w : World} {b : Nat} {x : OutV} (h : RowO w b x) (i : Nat) {v : Value} (hi : x.cells[i]? = some v) : w.cell? ⟨b, i, none⟩ = some v := by
  rw [cell_of_row _ _ _ _ _ _ h]; exact hi
theorem stored_out (w : World) (x : OutV) : RowO ((w.alloc (Obj.cells zeroOV.cells 50)).setRow w.heap.size x.cells) w.heap.size x ∧ Below w.heap.size w ((w.alloc (Obj.cells zeroOV.cells 50)).setRow w.heap.size x.cells) :=
  ⟨setRow_heap _ _ _ _ _ _ (heap_alloc_new w _), ((Below.refl _ w).alloc (Nat.le_refl _) _).trans ⟨rfl, rfl, rfl, by simp [World.setRow], fun k hk => setRow_other _ _ _ _ (by omega)⟩⟩
def OutsAt (w : World) (a : Option Addr) (l : List OutV) : Prop :=
  l = [] ∨ ∃ b o, a = some ⟨b, o, none⟩ ∧ ∀ i x, l[i]? = some x → ∀ j v, x.cells[j]? = some v → w.cell? ⟨b, o + i * 10 + j, none⟩ = some v
theorem OutsAt.below {w w' : World} {a : Option Addr} {l : List OutV} (h : OutsAt w a l) (hB : Below w.heap.size w w') : OutsAt w' a l := by
  rcases h with h | ⟨b, o, h, h'⟩
  · exact .inl h
  · exact .inr ⟨b, o, h, fun i x hx j v hv => (hB.cell (block_lt_of_cell (h' i x hx j v hv))).trans (h' i x hx j v hv)⟩
theorem cellsO_lt {x : OutV} {j : Nat} {v : Value} (h : x.cells[j]? = some v) : j < 10 := by
  have := (Array.getElem?_eq_some_iff.1 h).1
  simpa [OutV.cells] using this
def cellsLO (l : List OutV) : List Value := l.flatMap fun x => x.cells.toList
def OwnO (w : World) (base : Nat) (v : Value) (l : List OutV) : Prop := w.ownsRow base 50 10 v l.length (cellsLO l)
theorem cellsLO_length (l : List OutV) : (cellsLO l).length = l.length * 10 := by
  induction l with
  | nil => rfl
  | cons x l ih =>
    have : (cellsLO (x :: l)).length = 10 + (cellsLO l).length := by
      show (x.cells.toList ++ cellsLO l).length = _
      rw [List.length_append]; rfl
    rw [this, ih, List.length_cons]; omega
theorem cellsLO_at (l : List OutV) : ∀ (i : Nat) (x : OutV) (j : Nat) (v : Value), l[i]? = some x → x.cells[j]? = some v → (cellsLO l)[i * 10 + j]? = some v := by
  induction l with
  | nil => intro i x j v h; simp at h
  | cons y l ih =>
    intro i x j v h hv; have hj : j < 10 := cellsO_lt hv; have hy : (cellsLO (y :: l)) = y.cells.toList ++ cellsLO l := rfl; have hys : y.cells.toList.length = 10 := rfl
    cases i with
    | zero =>
      simp only [List.getElem?_cons_zero, Option.some.injEq] at h; subst h
      rw [hy, Nat.zero_mul, Nat.zero_add, List.getElem?_append_left (by omega)]
      simpa using hv
    | succ i =>
      rw [hy, List.getElem?_append_right (by omega), hys, show (i + 1) * 10 + j - 10 = i * 10 + j by omega]
      exact ih i x j v (by simpa using h) hv
theorem OwnO.nil (w : World) (base : Nat) : OwnO w base (.slice none 0 0) [] := World.ownsRow_nil w base _ 10
theorem OwnO.form {w : World} {base : Nat} {v : Value} {l : List OutV} (h : OwnO w base v l) : ∃ a c, v = .slice a l.length c ∧ l.length ≤ c ∧ OutsAt w a l := by
  have hh := h
  rcases h.2 with ⟨h1, h2⟩ | ⟨g, cap, cur, h1, _, _, hle, _⟩
  · exact ⟨none, 0, by rw [h1, h2], by omega, .inl (List.eq_nil_of_length_eq_zero h2)⟩
  · refine ⟨_, _, h1, hle, .inr ⟨g, 0, rfl, fun i x hx j u hu => ?_⟩⟩; unfold OwnO at hh; rw [h1] at hh; have hi : i < l.length := (List.getElem?_eq_some_iff.1 hx).1; have hj : j < 10 := cellsO_lt hu
    rw [show 0 + i * 10 + j = i * 10 + j by omega, World.ownsRow.cellAt hh _ (by omega)]
    exact cellsLO_at l i x j u hx hu
theorem OwnO.kept {w w' : World} {base : Nat} {v : Value} {l : List OutV} (h : OwnO w base v l) {row : Option Nat} (hg : w.grownBy w' row) (hne : v.ownBlock = none ∨ v.ownBlock ≠ row) : OwnO w' base v l := World.ownsRow.kept h hg hne
theorem OwnO.far {w w' : World} {base : Nat} {v : Value} {l : List OutV} (h : OwnO w base v l) (hB : Below w.heap.size w w') : OwnO w' base v l :=
  h.kept (grown_none_below hB) (by cases hv : v.ownBlock <;> simp)
theorem OwnO.lt {w : World} {base : Nat} {v : Value} {l : List OutV} (h : OwnO w base v l) {k : Nat} (hk : v.ownBlock = some k) : base ≤ k ∧ k < w.heap.size := World.ownsRow.lt h k hk
theorem cellsLO_snoc (l : List OutV) (x : OutV) : cellsLO (l ++ [x]) = cellsLO l ++ x.cells.toList := by simp [cellsLO]
theorem wpList_pushO {ops : Array Oper} {rest : List Oper} {o : Oper} {a : Act} {Q : Exit → Act → World → Prop} {w : World} (hgd : o.guard = none) (s x : Operand)
    (ho : o.op = .call { callee := .builtin .append, args := #[s, x], argTypes := #[30, 30] })
    (base : Nat) (v : Value) (l : List OutV) (hs : a.eval s = v) (hown : OwnO w base v l) (u : OutV) (g : Nat) (hx : a.eval x = .slice (some ⟨g, 0, none⟩) 1 1) (hu : ∀ j z, u.cells[j]? = some z → w.cell? ⟨g, j, none⟩ = some z)
    (hlen : l.length + 1 ≤ 1000000) (hbase : base ≤ w.heap.size)
    (h : ∀ v' w', OwnO w' base v' (l ++ [u]) → w.grownBy w' v.ownBlock → (v'.ownBlock = v.ownBlock ∨ v'.ownBlock = some w.heap.size) → wpList Tryz.prog ops Q rest (a.put o.dst v') w') :
    wpList Tryz.prog ops Q (o :: rest) a w := by
  obtain ⟨i, hi, hz0, hz1, hz2⟩ := info_parts (P := Tryz.prog) (e := 50) (z := .agg #[.bool false, .int .i64 0, .string ⟨#[]⟩, .int .i64 0, .int .i64 0, .string ⟨#[]⟩, .int .i64 0, .int .i64 0, .int .i64 0, .slice none 0 0]) (size := 10) (bytes := 112) (by kernel_rfl)
  refine wpList_append_own_at _ hgd s x 30 ho base 50 i _ 10 112 Tryz.underlying30 hi hz0 hz1 hz2 rfl (by decide) v l.length (cellsLO l) hs hown ⟨g, 0, none⟩ 1 1 u.cells.toList hx rfl ?_ ?_ (by unfold maxLen; omega) (by omega) hbase ?_
  · intro j z hj; rw [addr_add, Nat.zero_add]
    exact hu j z (by simpa using hj)
  · intro z hz
    exact Array.all_eq_true'.1 (out_one u) z (by simpa using hz)
  · intro v' w' k1 k2 _ k4; refine h v' w' ?_ k2 k4; unfold OwnO; rw [cellsLO_snoc, List.length_append]; exact k1
theorem cellsLO_of {l : List OutV} {b o : Nat} {w : World} (h : ∀ i x, l[i]? = some x → ∀ j v, x.cells[j]? = some v → w.cell? ⟨b, o + i * 10 + j, none⟩ = some v) : ∀ (n : Nat) (u : Value), (cellsLO l)[n]? = some u → w.cell? ((⟨b, o, none⟩ : Addr).add n) = some u := by
  intro n u hu; have hn := (List.getElem?_eq_some_iff.1 hu).1; rw [cellsLO_length] at hn
  have hi : n / 10 < l.length := by omega
  have hx : l[n / 10]? = some l[n / 10] := List.getElem?_eq_getElem hi
  have hj : n % 10 < 10 := by omega
  obtain ⟨v, hv⟩ : ∃ v, (l[n / 10]).cells[n % 10]? = some v := by
    have hs : (l[n / 10]).cells.size = 10 := rfl
    exact ⟨_, Array.getElem?_eq_getElem (by rw [hs]; exact hj)⟩
  have h1 := cellsLO_at l (n / 10) _ (n % 10) v hx hv
  have e : n / 10 * 10 + n % 10 = n := by omega
  rw [e, hu] at h1
  cases h1
  rw [addr_add]; have h2 := h (n / 10) _ hx (n % 10) u hv
  rwa [Nat.add_assoc, e] at h2
theorem out_parts : ((Tryz.prog.info? 50).map fun i => (i.zero, i.size, i.bytes)) = some (some (.agg #[.bool false, .int .i64 0, .string ⟨#[]⟩, .int .i64 0, .int .i64 0, .string ⟨#[]⟩, .int .i64 0, .int .i64 0, .int .i64 0, .slice none 0 0]), 10, 112) := by kernel_rfl
theorem cellsLO_one (l : List OutV) : ∀ u ∈ cellsLO l, u.oneCell' = true := by
  intro u hu; obtain ⟨x, _, hx⟩ := List.mem_flatMap.1 hu
  exact Array.all_eq_true'.1 (out_one x) u (by simpa using hx)
theorem append_ownO (w : World) (base : Nat) (v : Value) (l1 l2 : List OutV) (hown : OwnO w base v l1) (a : Option Addr) (c : Nat) (h : OutsAt w a l2) (hl : l1.length + l2.length ≤ 1000000) (hb : base ≤ w.heap.size) (ty : TypeId) :
    ∃ v' w', (Builtin.append_ #[30, 30] ty #[v, .slice a l2.length c]).run Tryz.prog w = .ok v' w' ∧ OwnO w' base v' (l1 ++ l2) ∧ w.grownBy w' v.ownBlock ∧ (v'.ownBlock = v.ownBlock ∨ v'.ownBlock = some w.heap.size) := by
  obtain ⟨i, hi, hz, hs, hby⟩ := info_parts out_parts; have some_case : ∀ ad : Addr, (∀ (j : Nat) (u : Value), (cellsLO l2)[j]? = some u → w.cell? (ad.add j) = some u) →
      ∃ v' w', (Builtin.append_ #[30, 30] ty #[v, .slice (some ad) l2.length c]).run Tryz.prog w = .ok v' w' ∧ OwnO w' base v' (l1 ++ l2) ∧ w.grownBy w' v.ownBlock ∧ (v'.ownBlock = v.ownBlock ∨ v'.ownBlock = some w.heap.size) := by
    intro ad hc
    obtain ⟨v', w', h1, h2, h3, _, h5⟩ := run_append_own_at (P := Tryz.prog) w base 30 ty 50 i _ 10 112 Tryz.underlying30 hi hz hs hby rfl (by decide) v l1.length (cellsLO l1) hown ad l2.length c (cellsLO l2) (cellsLO_length l2) hc (cellsLO_one l2)
      (by unfold maxLen; omega) (by omega) hb
    refine ⟨v', w', h1, ?_, h3, h5⟩; unfold OwnO
    rw [List.length_append, show cellsLO (l1 ++ l2) = cellsLO l1 ++ cellsLO l2 by simp [cellsLO]]
    exact h2
  cases a with
  | some ad =>
    rcases h with rfl | ⟨b, o, ha, hc⟩
    · exact some_case ad fun j u hj => by simp [cellsLO] at hj
    · cases ha
      exact some_case _ (cellsLO_of hc)
  | none =>
    have h0 : l2 = [] := by
      rcases h with h | ⟨_, _, ha, _⟩
      · exact h
      · cases ha
    subst h0
    refine ⟨v, w, ?_, by simpa using hown, ⟨rfl, rfl, rfl, Nat.le_refl _, fun _ _ _ => rfl⟩, .inl rfl⟩
    rcases hown.2 with ⟨hv, hn⟩ | ⟨g, cap, cur, hv, _, hg, hle, _⟩
    · rw [hv]; simp [Builtin.append_, run_underlying Tryz.underlying30, sizeOf, typeInfo, hi, Builtin.lenOf, Builtin.firstCells]
    · rw [hv]; simp [Builtin.append_, run_underlying Tryz.underlying30, sizeOf, typeInfo, hi, Builtin.lenOf, Builtin.firstCells, storeCells, loadCells, hle]
theorem wpList_slice1_O {ops : Array Oper} {rest : List Oper} {o : Oper} {a : Act} {w : World} {Q : Exit → Act → World → Prop} (hg : o.guard = none) (y : Operand) (ho : o.op = .buildSlice 30 1 #[(0, y)]) (x : OutV) (hy : a.eval y = .agg x.cells)
    (h : wpList Tryz.prog ops Q rest (a.put o.dst (.slice (some ⟨w.heap.size, 0, none⟩) 1 1)) (w.alloc (.cells x.cells 50))) : wpList Tryz.prog ops Q (o :: rest) a w := by
  have hF : Instr.fill (fun i => some (i * 10, 10)) ((Array.range (1 * 10)).map ((Value.agg #[.bool false, .int .i64 0, .string ⟨#[]⟩, .int .i64 0, .int .i64 0, .string ⟨#[]⟩, .int .i64 0, .int .i64 0, .int .i64 0, .slice none 0 0]).cells[· % (Value.agg #[.bool false, .int .i64 0, .string ⟨#[]⟩, .int .i64 0, .int .i64 0, .string ⟨#[]⟩, .int .i64 0, .int .i64 0, .int .i64 0, .slice none 0 0]).cells.size]!)) [(0, .agg x.cells)] = some x.cells := by kernel_rfl
  obtain ⟨i, hi, hz0, hz1, hz2⟩ := info_parts out_parts
  refine wpList_buildSlice hg 30 50 1 _ ho x.cells i _ Tryz.underlying30 hi hz0 (by rw [hz1]; decide) (by rw [hz1]; decide) ?_ h
  rw [hz1]; simp only [List.map_toArray, List.map_cons, List.map_nil, hy]; exact hF
theorem wp_slice1_O {o : Oper} {a : Act} {w : World} {K : Act → World → Prop} {Q : Exit → Act → World → Prop} (y : Operand) (ho : o.op = .buildSlice 30 1 #[(0, y)]) (x : OutV) (hy : a.eval y = .agg x.cells)
    (h : K (a.put o.dst (.slice (some ⟨w.heap.size, 0, none⟩) 1 1)) (w.alloc (.cells x.cells 50))) : o.wp Tryz.prog a w K Q := by
  have hF : Instr.fill (fun i => some (i * 10, 10)) ((Array.range (1 * 10)).map ((Value.agg #[.bool false, .int .i64 0, .string ⟨#[]⟩, .int .i64 0, .int .i64 0, .string ⟨#[]⟩, .int .i64 0, .int .i64 0, .int .i64 0, .slice none 0 0]).cells[· % (Value.agg #[.bool false, .int .i64 0, .string ⟨#[]⟩, .int .i64 0, .int .i64 0, .string ⟨#[]⟩, .int .i64 0, .int .i64 0, .int .i64 0, .slice none 0 0]).cells.size]!)) [(0, .agg x.cells)] = some x.cells := by kernel_rfl
  obtain ⟨i, hi, hz0, hz1, hz2⟩ := info_parts out_parts
  refine wp_buildSlice 30 50 1 _ ho x.cells i _ Tryz.underlying30 hi hz0 (by rw [hz1]; decide) (by rw [hz1]; decide) ?_ h
  rw [hz1]; simp only [List.map_toArray, List.map_cons, List.map_nil, hy]; exact hF
theorem OutsAt.one {w : World} {g : Nat} {y : OutV} (h : ∀ j z, y.cells[j]? = some z → w.cell? ⟨g, j, none⟩ = some z) : OutsAt w (some ⟨g, 0, none⟩) [y] := by
  refine .inr ⟨g, 0, rfl, fun i x hx j v hv => ?_⟩
  cases i with
  | zero =>
    simp only [List.getElem?_cons_zero, Option.some.injEq] at hx; subst hx
    rw [show 0 + 0 * 10 + j = j by omega]
    exact h j v hv
  | succ i => simp at hx
theorem wp_appendO {o : Oper} {a : Act} {w : World} {K : Act → World → Prop} {Q : Exit → Act → World → Prop} (s x : Operand)
    (ho : o.op = .call { callee := .builtin .append, args := #[s, x], argTypes := #[30, 30] }) (base : Nat) (v : Value) (l1 l2 : List OutV) (hs : a.eval s = v) (hown : OwnO w base v l1)
    (sa : Option Addr) (c n : Nat) (hn : n = l2.length) (hx : a.eval x = .slice sa n c) (hm : OutsAt w sa l2) (hl : l1.length + l2.length ≤ 1000000) (hb : base ≤ w.heap.size)
    (h : ∀ v' w', OwnO w' base v' (l1 ++ l2) → w.grownBy w' v.ownBlock → (v'.ownBlock = v.ownBlock ∨ v'.ownBlock = some w.heap.size) → K (a.put o.dst v') w') : o.wp Tryz.prog a w K Q := by
  subst hn; obtain ⟨v', w', hr, h2, h3, h4⟩ := append_ownO w base v l1 l2 hown sa c hm hl hb o.type; unfold Oper.wp execOp; simp only [ho, resolve, invoke, builtin, Sem.run_bind, Sem.run_pure, Result.andThen_ok, List.map_toArray, List.map_cons, List.map_nil, hs, hx, hr]; exact h v' w' h2 h3 h4
def D10 (w : World) (b : Nat) (x : OutV) : Prop := w.cell? ⟨b, 0, none⟩ = some (.bool x.o.late) ∧ w.cell? ⟨b, 1, none⟩ = some (.int .i64 x.o.item.kind) ∧ w.cell? ⟨b, 2, none⟩ = some (Sv x.o.item.key) ∧ w.cell? ⟨b, 3, none⟩ = some (.int .i64 x.o.item.time) ∧ w.cell? ⟨b, 4, none⟩ = some (.int .i64 x.o.item.value) ∧ w.cell? ⟨b, 5, none⟩ = some (Sv x.o.w.key) ∧ w.cell? ⟨b, 6, none⟩ = some (.int .i64 x.o.w.lo) ∧ w.cell? ⟨b, 7, none⟩ = some (.int .i64 x.o.w.hi) ∧ w.cell? ⟨b, 8, none⟩ = some (.int .i64 x.o.r) ∧ w.cell? ⟨b, 9, none⟩ = some x.tv
theorem RowO.d10 {w : World} {b : Nat} {x : OutV} (h : RowO w b x) : D10 w b x := ⟨h.cell 0 rfl, h.cell 1 rfl, h.cell 2 rfl, h.cell 3 rfl, h.cell 4 rfl, h.cell 5 rfl, h.cell 6 rfl, h.cell 7 rfl, h.cell 8 rfl, h.cell 9 rfl⟩
end Go.Proofs.YtjeeghafachebaaGreat
