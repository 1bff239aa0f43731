/-
  Part 14 of 53 of what the proof leans on.
-/
import Derived.Test.YtjeeghafachebaaGreatRows
import Derived.Test.YtjeeghafachebaaGreatG12
import Derived.Test.YtjeeghafachebaaGreatG2
import Derived.Lib.LaidTab
import Derived.Lib.AppendIntMem
import Derived.Test.YtjeeghafachebaaGreatG13
import Derived.Test.YtjeeghafachebaaGreatG3
import Derived.Lib.AtoiAll
import Derived.Lib.CutLaws
import Derived.Laws.StructEq
import Derived.Test.YtjeeghafachebaaGreatG5
import Derived.Test.YtjeeghafachebaaGreatG6
namespace Go.Proofs.YtjeeghafachebaaGreat
open Go Go.RowKit
end Go.Proofs.YtjeeghafachebaaGreat
namespace Go.Proofs.YtjeeghafachebaaGreat
open Go Go.RowKit
end Go.Proofs.YtjeeghafachebaaGreat
namespace Go.Proofs.YtjeeghafachebaaGreat
open Go Go.RowKit
end Go.Proofs.YtjeeghafachebaaGreat
namespace Go.Proofs.YtjeeghafachebaaGreat
open Go Go.RowKit
theorem query_size : (Tryz.prog.info? 23).map (·.size) = some 6 := by kernel_rfl
theorem query_one (q : QueryL) : q.cells.all (·.oneCell') = true := by
  rw [Array.all_eq_true']; intro v hv; simp only [QueryL.cells, List.mem_toArray, List.mem_cons, List.not_mem_nil, or_false] at hv
  rcases hv with rfl | rfl | rfl | rfl | rfl | rfl <;> rfl
theorem results_cell_row {P : Program} {fn : Func} {p : Tmp} {ty : TypeId} (h : fn.results = #[.cell p ty]) (tmps : Array Value) (w : World) (g : Nat) (t : TypeId) (cs : Array Value) (fr : Nat × Nat) (d : TypeDesc)
    (hp : tmps.getD p undef = .pointer (some ⟨g, 0, none⟩)) (hg : w.heap[g]? = some (.cells cs t fr))
    (hu : P.underlying ty = some d) (hd : (match d with | .struct _ | .array _ _ => true | _ => false) = true) (hi : (P.info? ty).map (·.size) = some cs.size) :
    (results fn tmps).run P w = .ok (.agg cs) w := by
  have hp' : tmps[p]?.getD undef = .pointer (some ⟨g, 0, none⟩) := by simpa using hp
  simp [results, h, hp', asAddr, run_loadVar_row w g t ty cs fr d hg hu hd hi]
end Go.Proofs.YtjeeghafachebaaGreat
namespace Go.Proofs.YtjeeghafachebaaGreat
open Go Go.RowKit
theorem results_cell_row_tmp {P : Program} {fn : Func} {p u : Tmp} {ty : TypeId} (h : fn.results = #[.cell p ty, .tmp u]) (tmps : Array Value) (w : World) (g : Nat) (t : TypeId) (cs : Array Value) (fr : Nat × Nat) (d : TypeDesc)
    (hp : tmps.getD p undef = .pointer (some ⟨g, 0, none⟩)) (hg : w.heap[g]? = some (.cells cs t fr))
    (hu : P.underlying ty = some d) (hd : (match d with | .struct _ | .array _ _ => true | _ => false) = true) (hi : (P.info? ty).map (·.size) = some cs.size) :
    (results fn tmps).run P w = .ok (.tuple #[.agg cs, tmps.getD u undef]) w := by
  have hp' : tmps[p]?.getD undef = .pointer (some ⟨g, 0, none⟩) := by simpa using hp
  simp [results, h, hp', asAddr, run_loadVar_row w g t ty cs fr d hg hu hd hi]
end Go.Proofs.YtjeeghafachebaaGreat
namespace Go.Proofs.YtjeeghafachebaaGreat
open Go Go.RowKit
def RowQ (w : World) (g : Nat) (x : QueryL) : Prop := w.heap[g]? = some (.cells x.cells 23 (0, 0))
theorem RowQ.below {w w' : World} {g : Nat} {x : QueryL} (h : RowQ w g x) (hB : Below w.heap.size w w') : RowQ w' g x := (hB.block _ (Array.getElem?_eq_some_iff.1 h).1).trans h
theorem RowQ.cell {w : World} {g : Nat} {x : QueryL} (h : RowQ w g x) (i : Nat) {v : Value} (hi : x.cells[i]? = some v) : w.cell? ⟨g, i, none⟩ = some v := by
  rw [cell_of_row _ _ _ _ _ _ h]; exact hi
theorem RowQ.lt {w : World} {g : Nat} {x : QueryL} (h : RowQ w g x) : g < w.heap.size := (Array.getElem?_eq_some_iff.1 h).1
def D6 (w : World) (g : Nat) (kind size slide late agg k : Int) : Prop :=
  w.cell? ⟨g, 0, none⟩ = some (.int .i64 kind) ∧ w.cell? ⟨g, 1, none⟩ = some (.int .i64 size) ∧ w.cell? ⟨g, 2, none⟩ = some (.int .i64 slide) ∧ w.cell? ⟨g, 3, none⟩ = some (.int .i64 late) ∧ w.cell? ⟨g, 4, none⟩ = some (.int .i64 agg) ∧ w.cell? ⟨g, 5, none⟩ = some (.int .i64 k)
theorem RowQ.d6 {w : World} {g : Nat} {x : QueryL} (h : RowQ w g x) : D6 w g x.kind x.size x.slide x.late x.agg x.k := ⟨h.cell 0 rfl, h.cell 1 rfl, h.cell 2 rfl, h.cell 3 rfl, h.cell 4 rfl, h.cell 5 rfl⟩
theorem stored_query (w : World) (x : QueryL) : RowQ ((w.alloc (Obj.cells #[.int .i64 0, .int .i64 0, .int .i64 0, .int .i64 0, .int .i64 0, .int .i64 0] 23)).setRow w.heap.size x.cells) w.heap.size x ∧
    Below w.heap.size w ((w.alloc (Obj.cells #[.int .i64 0, .int .i64 0, .int .i64 0, .int .i64 0, .int .i64 0, .int .i64 0] 23)).setRow w.heap.size x.cells) :=
  ⟨setRow_heap _ _ _ _ _ _ (heap_alloc_new w _), ((Below.refl _ w).alloc (Nat.le_refl _) _).trans ⟨rfl, rfl, rfl, by simp [World.setRow], fun i hi => setRow_other _ _ _ _ (by omega)⟩⟩
end Go.Proofs.YtjeeghafachebaaGreat
namespace Go.Proofs.YtjeeghafachebaaGreat
open Go Go.RowKit
structure WindowL where
  key : List (BitVec 8)
  lo : Int
  hi : Int
deriving DecidableEq
def zeroW : WindowL := ⟨[], 0, 0⟩
def WindowL.cells (x : WindowL) : Array Value := #[Sv x.key, .int .i64 x.lo, .int .i64 x.hi]
def WindowL.rightB (x : WindowL) : Bool := nameB x.key && decide (0 ≤ x.lo ∧ x.lo ≤ 1099511627776 ∧ x.lo < x.hi ∧ x.hi ≤ 4398046511104)
def ordI (a b : Int) : Int := if a < b then -1 else if b < a then 1 else 0
def ltS (a b : List (BitVec 8)) : Bool := Op.bytesLess (strOf a).toList (strOf b).toList
def ordS (a b : List (BitVec 8)) : Int := if ltS a b = true then -1 else if ltS b a = true then 1 else 0
def firstI (a b c : Int) : Int := if a ≠ 0 then a else if b ≠ 0 then b else c
def cmpW (a b : WindowL) : Int := firstI (ordI a.hi b.hi) (ordI a.lo b.lo) (ordS a.key b.key)
def placeW (a b : WindowL) : Int := firstI (ordS a.key b.key) (ordI a.lo b.lo) (ordI a.hi b.hi)
def ripeW (x : WindowL) (mark : Int) : Bool := x.rightB && decide (x.hi ≤ mark)
def goneW (q : QueryL) (x : WindowL) (mark : Int) : Bool := q.rightB && x.rightB && decide (x.hi + q.late ≤ mark)
theorem bytesLess_total : ∀ x y : List UInt8, (!Op.bytesLess x y && !(x == y)) = Op.bytesLess y x
  | [], [] => rfl
  | [], _ :: _ => rfl
  | _ :: _, [] => rfl
  | a :: x, b :: y => by
    have ih := bytesLess_total x y; simp only [Op.bytesLess, List.cons_beq_cons]
    by_cases h : a = b
    · subst h
      have h0 : ¬ a < a := fun h => absurd (UInt8.lt_iff_toNat_lt.1 h) (by omega)
      simp only [h0, decide_false, beq_self_eq_true, Bool.true_and, Bool.false_or]; exact ih
    · have hn : a.toNat ≠ b.toNat := fun e => h (UInt8.toNat_inj.1 e)
      have e1 : (a == b) = false := by simpa using h
      have e2 : (b == a) = false := by simpa using fun e => h e.symm
      simp only [e1, e2, Bool.false_and, Bool.or_false, Bool.not_false, Bool.and_true]
      by_cases hl : a < b
      · have := UInt8.lt_iff_toNat_lt.1 hl
        rw [decide_eq_true hl, decide_eq_false (fun h' => by have := UInt8.lt_iff_toNat_lt.1 h'; omega)]
        rfl
      · have : b < a := UInt8.lt_iff_toNat_lt.2 (by have h' : ¬ a.toNat < b.toNat := fun h' => hl (UInt8.lt_iff_toNat_lt.2 h'); omega)
        rw [decide_eq_false hl, decide_eq_true this]; rfl
theorem ordS_self (a : List (BitVec 8)) : ordS a a = 0 := by
  have h := bytesLess_total (strOf a).toList (strOf a).toList; rw [beq_self_eq_true, Bool.not_true, Bool.and_false] at h; unfold ordS ltS; rw [← h]; rfl
theorem rightW_cases {x : WindowL} (h : x.rightB = true) : nameB x.key = true ∧ 1 ≤ x.key.length ∧ x.key.length ≤ 16 ∧ 0 ≤ x.lo ∧ x.lo ≤ 1099511627776 ∧ x.lo < x.hi ∧ x.hi ≤ 4398046511104 := by
  simp only [WindowL.rightB, Bool.and_eq_true, decide_eq_true_eq] at h; obtain ⟨h1, h2⟩ := h; have h3 := h1; simp only [nameB, Bool.and_eq_true, decide_eq_true_eq] at h3; exact ⟨h1, h3.2.1, h3.2.2, h2⟩
def stepQ (q : QueryL) : Int := if q.kind = 2 then q.slide else q.size
def winAt (q : QueryL) (key : List (BitVec 8)) (k : Int) : WindowL := ⟨key, k * stepQ q, k * stepQ q + q.size⟩
def loK (q : QueryL) (t : Int) : Int := if t < q.size then 0 else (t - q.size) / stepQ q + 1
def runW (q : QueryL) (key : List (BitVec 8)) (k : Int) (n : Nat) : List WindowL := (List.range n).map fun (i : Nat) => winAt q key (k + (i : Int))
def okAsk (q : QueryL) (key : List (BitVec 8)) (t : Int) : Bool := q.rightB && nameB key && decide (0 ≤ t ∧ t ≤ 1099511627776)
def ofW (q : QueryL) (key : List (BitVec 8)) (t : Int) : List WindowL :=
  if okAsk q key t = true then (if q.kind = 3 then [⟨key, t, t + q.size⟩] else runW q key (loK q t) (t / stepQ q + 1 - loK q t).toNat) else []
theorem runW_length (q : QueryL) (key : List (BitVec 8)) (k : Int) (n : Nat) : (runW q key k n).length = n := by simp [runW]
theorem stepQ_pos {q : QueryL} (h : q.rightB = true) : 1 ≤ stepQ q ∧ stepQ q ≤ q.size ∧ q.size ≤ 16 * stepQ q ∧ 1 ≤ q.size ∧ q.size ≤ 1073741824 := by
  obtain ⟨h1, _, h2, h4, h5, _⟩ := rightQ_cases h; unfold stepQ
  by_cases k2 : q.kind = 2
  · have := h4 k2; rw [if_pos k2]; omega
  · rw [if_neg k2]; omega
theorem loK_spec {q : QueryL} (h : q.rightB = true) {t : Int} (k : Int) (hk : 0 ≤ k) : t < k * stepQ q + q.size ↔ loK q t ≤ k := by
  obtain ⟨s1, s2, s3, s4, s5⟩ := stepQ_pos h
  have hm : 0 ≤ k * stepQ q := Int.mul_nonneg hk (by omega)
  unfold loK
  by_cases hlt : t < q.size
  · rw [if_pos hlt]; omega
  · rw [if_neg hlt]
    have e : (t - q.size) / stepQ q < k ↔ t - q.size < k * stepQ q := Int.ediv_lt_iff_lt_mul (by omega)
    omega
theorem loK_bd {q : QueryL} (h : q.rightB = true) {t : Int} (ht : 0 ≤ t) : 0 ≤ loK q t ∧ loK q t ≤ t / stepQ q ∧ t / stepQ q + 1 - loK q t ≤ 16 := by
  obtain ⟨s1, s2, s3, s4, s5⟩ := stepQ_pos h
  have hK0 : 0 ≤ t / stepQ q := Int.ediv_nonneg ht (by omega)
  have hK1 : t / stepQ q * stepQ q ≤ t := Int.ediv_mul_le _ (by omega)
  have hK2 : t < t / stepQ q * stepQ q + stepQ q := by
    have := Int.lt_ediv_add_one_mul_self t (show 0 < stepQ q by omega)
    rw [Int.add_mul, Int.one_mul] at this; exact this
  have hl0 : 0 ≤ loK q t := by
    unfold loK
    by_cases hlt : t < q.size
    · rw [if_pos hlt]; omega
    · rw [if_neg hlt]
      have := Int.ediv_nonneg (show 0 ≤ t - q.size by omega) (show 0 ≤ stepQ q by omega)
      omega
  refine ⟨hl0, (loK_spec h _ hK0).1 (by omega), ?_⟩
  by_cases h16 : t / stepQ q - 16 < 0
  · omega
  · have hs := not_congr (loK_spec h (t := t) (t / stepQ q - 16) (by omega))
    have e : (t / stepQ q - 16) * stepQ q = t / stepQ q * stepQ q - 16 * stepQ q := by rw [Int.sub_mul]
    rw [e] at hs
    have := hs.1 (by omega)
    omega
theorem ofW_len (q : QueryL) (key : List (BitVec 8)) (t : Int) : (ofW q key t).length ≤ 16 := by
  unfold ofW
  split
  · rename_i h
    simp only [okAsk, Bool.and_eq_true, decide_eq_true_eq] at h
    split
    · simp
    · rw [runW_length]; have := loK_bd h.1.1 h.2.1; omega
  · simp
end Go.Proofs.YtjeeghafachebaaGreat
namespace Go.Proofs.YtjeeghafachebaaGreat
open Go Go.ChangeShapes Go.WideShapes Go.ChangeAt Go.WideMaps Go.WideElems Go.RowKit
theorem heap_alloc_size (w : World) (o : Obj) : (w.alloc o).heap.size = w.heap.size + 1 := by
  show (w.heap.push o).size = _
  exact Array.size_push ..
theorem window_size : (Tryz.prog.info? 47).map (·.size) = some 3 := by kernel_rfl
theorem window_one (x : WindowL) : x.cells.all (·.oneCell') = true := by
  rw [Array.all_eq_true']; intro v hv; simp only [WindowL.cells, List.mem_toArray, List.mem_cons, List.not_mem_nil, or_false] at hv
  rcases hv with rfl | rfl | rfl <;> rfl
def RowW (w : World) (b : Nat) (x : WindowL) : Prop := w.heap[b]? = some (.cells x.cells 47 (0, 0))
theorem RowW.lt {w : World} {b : Nat} {x : WindowL} (h : RowW w b x) : b < w.heap.size := (Array.getElem?_eq_some_iff.1 h).1
theorem RowW.below {w w' : World} {b : Nat} {x : WindowL} (h : RowW w b x) (hB : Below w.heap.size w w') : RowW w' b x := (hB.block b h.lt).trans h
theorem RowW.cell {w : World} {b : Nat} {x : WindowL} (h : RowW w b x) (i : Nat) {v : Value} (hi : x.cells[i]? = some v) : w.cell? ⟨b, i, none⟩ = some v := by
  rw [cell_of_row _ _ _ _ _ _ h]; exact hi
def D3 (w : World) (b : Nat) (key : List (BitVec 8)) (lo hi : Int) : Prop := w.cell? ⟨b, 0, none⟩ = some (Sv key) ∧ w.cell? ⟨b, 1, none⟩ = some (.int .i64 lo) ∧ w.cell? ⟨b, 2, none⟩ = some (.int .i64 hi)
theorem RowW.d3 {w : World} {b : Nat} {x : WindowL} (h : RowW w b x) : D3 w b x.key x.lo x.hi := ⟨h.cell 0 rfl, h.cell 1 rfl, h.cell 2 rfl⟩
theorem stored_window (w : World) (x : WindowL) : RowW ((w.alloc (Obj.cells zeroW.cells 47)).setRow w.heap.size x.cells) w.heap.size x ∧ Below w.heap.size w ((w.alloc (Obj.cells zeroW.cells 47)).setRow w.heap.size x.cells) :=
  ⟨setRow_heap _ _ _ _ _ _ (heap_alloc_new w _), ((Below.refl _ w).alloc (Nat.le_refl _) _).trans ⟨rfl, rfl, rfl, by simp [World.setRow], fun k hk => setRow_other _ _ _ _ (by omega)⟩⟩
def sameW (x y : WindowL) : Bool := decide (x.key = y.key) && (x.lo == y.lo && x.hi == y.hi)
theorem sameW_iff (x y : WindowL) : sameW x y = true ↔ x = y := by
  obtain ⟨a, b, c⟩ := x; obtain ⟨a', b', c'⟩ := y; simp [sameW]
theorem map3 {α β : Type} (g : α → β) : ∀ (l : List α) (a b c : β), l.map g = [a, b, c] → ∃ x0 x1 x2, l = [x0, x1, x2] ∧ g x0 = a ∧ g x1 = b ∧ g x2 = c
  | [], _, _, _, h => by simp at h
  | [_], _, _, _, h => by simp at h
  | [_, _], _, _, _, h => by simp at h
  | [x0, x1, x2], _, _, _, h => by
    simp only [List.map_cons, List.map_nil, List.cons.injEq, and_true] at h; exact ⟨x0, x1, x2, rfl, h⟩
  | _ :: _ :: _ :: _ :: _, _, _, _, h => by simp at h
theorem run_equal_window (w : World) (x y : WindowL) : (Op.equalIn 10000 47 (.agg x.cells) (.agg y.cells)).run Tryz.prog w = .ok (sameW x y) w := by
  rw [run_equalIn_agg w 9999 47 _ _ (by kernel_rfl) (by kernel_rfl)]
  have hm : (Tryz.prog.fieldsOf 47).toList.map (fun f => (f.name, f.type, f.offset)) = [("Key", 9, 0), ("From", 3, 1), ("To", 3, 2)] := by kernel_rfl
  generalize (Tryz.prog.fieldsOf 47).toList = l at hm
  obtain ⟨f0, f1, f2, rfl, hq⟩ := map3 _ _ _ _ _ hm; obtain ⟨h0, h1, h2⟩ := hq
  obtain ⟨n0, t0, o0⟩ : f0.name = "Key" ∧ f0.type = 9 ∧ f0.offset = 0 := by simpa using h0
  obtain ⟨n1, t1, o1⟩ : f1.name = "From" ∧ f1.type = 3 ∧ f1.offset = 1 := by simpa using h1
  obtain ⟨n2, t2, o2⟩ : f2.name = "To" ∧ f2.type = 3 ∧ f2.offset = 2 := by simpa using h2
  have p0 : ∀ z : WindowL, (part 9 z.cells 0).run Tryz.prog w = .ok (Sv z.key) w := fun z => by simp [part, go_sem, WindowL.cells]
  have p1 : ∀ z : WindowL, (part 3 z.cells 1).run Tryz.prog w = .ok (.int .i64 z.lo) w := fun z => by simp [part, go_sem, WindowL.cells]
  have p2 : ∀ z : WindowL, (part 3 z.cells 2).run Tryz.prog w = .ok (.int .i64 z.hi) w := fun z => by simp [part, go_sem, WindowL.cells]
  have e1 : ∀ (d : Nat) (a b : Int), (Op.equalIn (d + 1) 3 (.int .i64 a) (.int .i64 b)).run Tryz.prog w = .ok (a == b) w := fun d a b => run_equalIn_int w d 3 .i64 .i64 a b Tryz.underlying3
  have e2 : ∀ (d : Nat) (a b : List (BitVec 8)), (Op.equalIn (d + 1) 9 (Sv a) (Sv b)).run Tryz.prog w = .ok (decide (a = b)) w := fun d a b => by
    rw [Sv, Sv, run_equalIn_string w d 9 _ _ Tryz.underlying9, str_eq]
  obtain ⟨a, b, c⟩ := x; obtain ⟨a', b', c'⟩ := y
  rw [eqF_step (Sv a) (Sv a') (decide (a = a')) (by rw [n0]; decide) (by rw [t0, o0]; exact p0 ⟨a, b, c⟩) (by rw [t0, o0]; exact p0 ⟨a', b', c'⟩) (by rw [t0]; exact e2 9998 a a'),
    eqF_step (.int .i64 b) (.int .i64 b') (b == b') (by rw [n1]; decide) (by rw [t1, o1]; exact p1 ⟨a, b, c⟩) (by rw [t1, o1]; exact p1 ⟨a', b', c'⟩) (by rw [t1]; exact e1 9998 b b'),
    eqF_step (.int .i64 c) (.int .i64 c') (c == c') (by rw [n2]; decide) (by rw [t2, o2]; exact p2 ⟨a, b, c⟩) (by rw [t2, o2]; exact p2 ⟨a', b', c'⟩) (by rw [t2]; exact e1 9998 c c')]
  simp only [sameW]
  cases decide (a = a') <;> cases b == b' <;> cases c == c' <;> rfl
theorem run_eql_window (w : World) (x y : WindowL) : (binOp .eql 47 (.agg x.cells) (.agg y.cells)).run Tryz.prog w = .ok (.bool (sameW x y)) w := by
  rw [run_eql_struct, run_equal_window]; rfl
theorem run_guard_window (w : World) (op : BinOp) (o1 o2 : Operand) (x y : WindowL) : (eqGuard op 47 o1 o2 (.agg x.cells) (.agg y.cells)).run Tryz.prog w = .ok () w := run_eqGuard_agg w op _ o1 o2 _ _ (by kernel_rfl)
def WinsAt (w : World) (a : Option Addr) (l : List WindowL) : Prop :=
  l = [] ∨ ∃ b o, a = some ⟨b, o, none⟩ ∧ ∀ i x, l[i]? = some x → ∀ j v, x.cells[j]? = some v → w.cell? ⟨b, o + i * 3 + j, none⟩ = some v
theorem WinsAt.below {w w' : World} {a : Option Addr} {l : List WindowL} (h : WinsAt w a l) (hB : Below w.heap.size w w') : WinsAt w' a l := by
  rcases h with h | ⟨b, o, h, h'⟩
  · exact .inl h
  · exact .inr ⟨b, o, h, fun i x hx j v hv => (hB.cell (block_lt_of_cell (h' i x hx j v hv))).trans (h' i x hx j v hv)⟩
def WinsEnd (w : World) (l : List WindowL) (e : Ending) (w' : World) : Prop := ∃ a c, e = .returned (.slice a l.length c) ∧ l.length ≤ c ∧ WinsAt w' a l ∧ Below w.heap.size w w'
theorem cellsW_lt {x : WindowL} {j : Nat} {v : Value} (h : x.cells[j]? = some v) : j < 3 := by
  have := (Array.getElem?_eq_some_iff.1 h).1
  simpa [WindowL.cells] using this
def cellsLW (l : List WindowL) : List Value := l.flatMap fun x => x.cells.toList
def OwnW (w : World) (base : Nat) (v : Value) (l : List WindowL) : Prop := w.ownsRow base 47 3 v l.length (cellsLW l)
theorem cellsLW_length (l : List WindowL) : (cellsLW l).length = l.length * 3 := by
  induction l with
  | nil => rfl
  | cons x l ih =>
    have : (cellsLW (x :: l)).length = 3 + (cellsLW l).length := by
      show (x.cells.toList ++ cellsLW l).length = _
      rw [List.length_append]; rfl
    rw [this, ih, List.length_cons]; omega
theorem cellsLW_at (l : List WindowL) : ∀ (i : Nat) (x : WindowL) (j : Nat) (v : Value), l[i]? = some x → x.cells[j]? = some v → (cellsLW l)[i * 3 + j]? = some v := by
  induction l with
  | nil => intro i x j v h; simp at h
  | cons y l ih =>
    intro i x j v h hv; have hj : j < 3 := cellsW_lt hv; have hy : (cellsLW (y :: l)) = y.cells.toList ++ cellsLW l := rfl; have hys : y.cells.toList.length = 3 := rfl
    cases i with
    | zero =>
      simp only [List.getElem?_cons_zero, Option.some.injEq] at h; subst h
      rw [hy, Nat.zero_mul, Nat.zero_add, List.getElem?_append_left (by omega)]
      simpa using hv
    | succ i =>
      rw [hy, List.getElem?_append_right (by omega), hys, show (i + 1) * 3 + j - 3 = i * 3 + j by omega]
      exact ih i x j v (by simpa using h) hv
theorem OwnW.nil (w : World) (base : Nat) : OwnW w base (.slice none 0 0) [] := World.ownsRow_nil w base _ 3
theorem OwnW.form {w : World} {base : Nat} {v : Value} {l : List WindowL} (h : OwnW w base v l) : ∃ a c, v = .slice a l.length c ∧ l.length ≤ c ∧ WinsAt w a l := by
  have hh := h
  rcases h.2 with ⟨h1, h2⟩ | ⟨g, cap, cur, h1, _, _, hle, _⟩
  · exact ⟨none, 0, by rw [h1, h2], by omega, .inl (List.eq_nil_of_length_eq_zero h2)⟩
  · refine ⟨_, _, h1, hle, .inr ⟨g, 0, rfl, fun i x hx j u hu => ?_⟩⟩; unfold OwnW at hh; rw [h1] at hh; have hi : i < l.length := (List.getElem?_eq_some_iff.1 hx).1; have hj : j < 3 := cellsW_lt hu
    rw [show 0 + i * 3 + j = i * 3 + j by omega, World.ownsRow.cellAt hh _ (by omega)]
    exact cellsLW_at l i x j u hx hu
theorem OwnW.kept {w w' : World} {base : Nat} {v : Value} {l : List WindowL} (h : OwnW w base v l) {row : Option Nat} (hg : w.grownBy w' row) (hne : v.ownBlock = none ∨ v.ownBlock ≠ row) : OwnW w' base v l := World.ownsRow.kept h hg hne
theorem OwnW.far {w w' : World} {base : Nat} {v : Value} {l : List WindowL} (h : OwnW w base v l) (hB : Below w.heap.size w w') : OwnW w' base v l :=
  h.kept (grown_none_below hB) (by cases hv : v.ownBlock <;> simp)
theorem OwnW.lt {w : World} {base : Nat} {v : Value} {l : List WindowL} (h : OwnW w base v l) {k : Nat} (hk : v.ownBlock = some k) : base ≤ k ∧ k < w.heap.size := World.ownsRow.lt h k hk
theorem cellsLW_snoc (l : List WindowL) (x : WindowL) : cellsLW (l ++ [x]) = cellsLW l ++ x.cells.toList := by simp [cellsLW]
theorem wpList_pushW {ops : Array Oper} {rest : List Oper} {o : Oper} {a : Act} {Q : Exit → Act → World → Prop} {w : World} (hgd : o.guard = none) (s x : Operand)
    (ho : o.op = .call { callee := .builtin .append, args := #[s, x], argTypes := #[84, 84] })
    (base : Nat) (v : Value) (l : List WindowL) (hs : a.eval s = v) (hown : OwnW w base v l) (u : WindowL) (g : Nat) (hx : a.eval x = .slice (some ⟨g, 0, none⟩) 1 1) (hu : ∀ j z, u.cells[j]? = some z → w.cell? ⟨g, j, none⟩ = some z)
    (hlen : l.length + 1 ≤ 1000000) (hbase : base ≤ w.heap.size)
    (h : ∀ v' w', OwnW w' base v' (l ++ [u]) → w.grownBy w' v.ownBlock → (v'.ownBlock = v.ownBlock ∨ v'.ownBlock = some w.heap.size) → wpList Tryz.prog ops Q rest (a.put o.dst v') w') :
    wpList Tryz.prog ops Q (o :: rest) a w := by
  obtain ⟨i, hi, hz0, hz1, hz2⟩ := info_parts (P := Tryz.prog) (e := 47) (z := .agg #[.string ⟨#[]⟩, .int .i64 0, .int .i64 0]) (size := 3) (bytes := 32) (by kernel_rfl)
  refine wpList_append_own_at _ hgd s x 84 ho base 47 i _ 3 32 Tryz.underlying84 hi hz0 hz1 hz2 rfl (by decide) v l.length (cellsLW l) hs hown ⟨g, 0, none⟩ 1 1 u.cells.toList hx rfl ?_ ?_ (by unfold maxLen; omega) (by omega) hbase ?_
  · intro j z hj; rw [addr_add, Nat.zero_add]
    exact hu j z (by simpa using hj)
  · intro z hz
    exact Array.all_eq_true'.1 (window_one u) z (by simpa using hz)
  · intro v' w' k1 k2 _ k4; refine h v' w' ?_ k2 k4; unfold OwnW; rw [cellsLW_snoc, List.length_append]; exact k1
theorem OwnW.below {w w' : World} {base : Nat} {v : Value} {l : List WindowL} (h : OwnW w base v l) (hg : w.grownBy w' v.ownBlock) (hb : base ≤ w.heap.size) : Below base w w' :=
  ⟨hg.os, hg.tape, hg.output, hg.size, fun k hk => hg.block k (by omega) (fun he => by have := h.lt he.symm; omega)⟩
theorem cellsLW_of {l : List WindowL} {b o : Nat} {w : World} (h : ∀ i x, l[i]? = some x → ∀ j v, x.cells[j]? = some v → w.cell? ⟨b, o + i * 3 + j, none⟩ = some v) : ∀ (n : Nat) (u : Value), (cellsLW l)[n]? = some u → w.cell? ((⟨b, o, none⟩ : Addr).add n) = some u := by
  intro n u hu; have hn := (List.getElem?_eq_some_iff.1 hu).1; rw [cellsLW_length] at hn
  have hi : n / 3 < l.length := by omega
  have hx : l[n / 3]? = some l[n / 3] := List.getElem?_eq_getElem hi
  have hj : n % 3 < 3 := by omega
  obtain ⟨v, hv⟩ : ∃ v, (l[n / 3]).cells[n % 3]? = some v := by
    have hs : (l[n / 3]).cells.size = 3 := rfl
    exact ⟨_, Array.getElem?_eq_getElem (by rw [hs]; exact hj)⟩
  have h1 := cellsLW_at l (n / 3) _ (n % 3) v hx hv
  have e : n / 3 * 3 + n % 3 = n := by omega
  rw [e, hu] at h1
  cases h1
  rw [addr_add]; have h2 := h (n / 3) _ hx (n % 3) u hv
  rwa [Nat.add_assoc, e] at h2
theorem window_parts : ((Tryz.prog.info? 47).map fun i => (i.zero, i.size, i.bytes)) = some (some (.agg #[.string ⟨#[]⟩, .int .i64 0, .int .i64 0]), 3, 32) := by kernel_rfl
theorem cellsLW_one (l : List WindowL) : ∀ u ∈ cellsLW l, u.oneCell' = true := by
  intro u hu; obtain ⟨x, _, hx⟩ := List.mem_flatMap.1 hu
  exact Array.all_eq_true'.1 (window_one x) u (by simpa using hx)
theorem append_ownW (w : World) (base : Nat) (v : Value) (l1 l2 : List WindowL) (hown : OwnW w base v l1) (a : Option Addr) (c : Nat) (h : WinsAt w a l2) (hl : l1.length + l2.length ≤ 1000000) (hb : base ≤ w.heap.size) (ty : TypeId) :
    ∃ v' w', (Builtin.append_ #[84, 84] ty #[v, .slice a l2.length c]).run Tryz.prog w = .ok v' w' ∧ OwnW w' base v' (l1 ++ l2) ∧ w.grownBy w' v.ownBlock ∧ (v'.ownBlock = v.ownBlock ∨ v'.ownBlock = some w.heap.size) := by
  obtain ⟨i, hi, hz, hs, hby⟩ := info_parts window_parts; have some_case : ∀ ad : Addr, (∀ (j : Nat) (u : Value), (cellsLW l2)[j]? = some u → w.cell? (ad.add j) = some u) →
      ∃ v' w', (Builtin.append_ #[84, 84] ty #[v, .slice (some ad) l2.length c]).run Tryz.prog w = .ok v' w' ∧ OwnW w' base v' (l1 ++ l2) ∧ w.grownBy w' v.ownBlock ∧ (v'.ownBlock = v.ownBlock ∨ v'.ownBlock = some w.heap.size) := by
    intro ad hc
    obtain ⟨v', w', h1, h2, h3, _, h5⟩ := run_append_own_at (P := Tryz.prog) w base 84 ty 47 i _ 3 32 Tryz.underlying84 hi hz hs hby rfl (by decide) v l1.length (cellsLW l1) hown ad l2.length c (cellsLW l2) (cellsLW_length l2) hc (cellsLW_one l2)
      (by unfold maxLen; omega) (by omega) hb
    refine ⟨v', w', h1, ?_, h3, h5⟩; unfold OwnW
    rw [List.length_append, show cellsLW (l1 ++ l2) = cellsLW l1 ++ cellsLW l2 by simp [cellsLW]]
    exact h2
  cases a with
  | some ad =>
    rcases h with rfl | ⟨b, o, ha, hc⟩
    · exact some_case ad fun j u hj => by simp [cellsLW] at hj
    · cases ha
      exact some_case _ (cellsLW_of hc)
  | none =>
    have h0 : l2 = [] := by
      rcases h with h | ⟨_, _, ha, _⟩
      · exact h
      · cases ha
    subst h0
    refine ⟨v, w, ?_, by simpa using hown, ⟨rfl, rfl, rfl, Nat.le_refl _, fun _ _ _ => rfl⟩, .inl rfl⟩
    rcases hown.2 with ⟨hv, hn⟩ | ⟨g, cap, cur, hv, _, hg, hle, _⟩
    · rw [hv]; simp [Builtin.append_, run_underlying Tryz.underlying84, sizeOf, typeInfo, hi, Builtin.lenOf, Builtin.firstCells]
    · rw [hv]; simp [Builtin.append_, run_underlying Tryz.underlying84, sizeOf, typeInfo, hi, Builtin.lenOf, Builtin.firstCells, storeCells, loadCells, hle]
theorem wpList_appendW {ops : Array Oper} {rest : List Oper} {o : Oper} {a : Act} {Q : Exit → Act → World → Prop} {w : World} (hgd : o.guard = none) (s x : Operand)
    (ho : o.op = .call { callee := .builtin .append, args := #[s, x], argTypes := #[84, 84] }) (base : Nat) (v : Value) (l1 l2 : List WindowL) (hs : a.eval s = v) (hown : OwnW w base v l1)
    (sa : Option Addr) (c n : Nat) (hn : n = l2.length) (hx : a.eval x = .slice sa n c) (hm : WinsAt w sa l2) (hl : l1.length + l2.length ≤ 1000000) (hb : base ≤ w.heap.size)
    (h : ∀ v' w', OwnW w' base v' (l1 ++ l2) → w.grownBy w' v.ownBlock → (v'.ownBlock = v.ownBlock ∨ v'.ownBlock = some w.heap.size) → wpList Tryz.prog ops Q rest (a.put o.dst v') w') :
    wpList Tryz.prog ops Q (o :: rest) a w := by
  refine wpList_plain hgd fun K hK => ?_; subst hn; obtain ⟨v', w', hr, h2, h3, h4⟩ := append_ownW w base v l1 l2 hown sa c hm hl hb o.type; unfold Oper.wp execOp; simp only [ho, resolve, invoke, builtin, Sem.run_bind, Sem.run_pure, Result.andThen_ok, List.map_toArray, List.map_cons, List.map_nil, hs, hx, hr]; exact hK _ _ (h v' w' h2 h3 h4)
theorem wpList_slice1_W {ops : Array Oper} {rest : List Oper} {o : Oper} {a : Act} {w : World} {Q : Exit → Act → World → Prop} (hg : o.guard = none) (y : Operand) (ho : o.op = .buildSlice 84 1 #[(0, y)]) (x : WindowL) (hy : a.eval y = .agg x.cells)
    (h : wpList Tryz.prog ops Q rest (a.put o.dst (.slice (some ⟨w.heap.size, 0, none⟩) 1 1)) (w.alloc (.cells x.cells 47))) : wpList Tryz.prog ops Q (o :: rest) a w := by
  have hF : Instr.fill (fun i => some (i * 3, 3)) ((Array.range (1 * 3)).map ((Value.agg #[.string ⟨#[]⟩, .int .i64 0, .int .i64 0]).cells[· % (Value.agg #[.string ⟨#[]⟩, .int .i64 0, .int .i64 0]).cells.size]!)) [(0, .agg x.cells)] = some x.cells := by kernel_rfl
  obtain ⟨i, hi, hz0, hz1, hz2⟩ := info_parts window_parts
  refine wpList_buildSlice hg 84 47 1 _ ho x.cells i _ Tryz.underlying84 hi hz0 (by rw [hz1]; decide) (by rw [hz1]; decide) ?_ h
  rw [hz1]; simp only [List.map_toArray, List.map_cons, List.map_nil, hy]; exact hF
theorem wpList_build_on {P : Program} {ops : Array Oper} {rest : List Oper} {o : Oper} {a : Act} {w : World} {Q : Exit → Act → World → Prop} (hw : Region.wanted o (yielded ops a.tmps) = true) (t : TypeId) (parts : Array (Nat × Operand)) (ho : o.op = .build t parts)
    (cells : Array Value) (hf : P.built t (parts.map fun (i, x) => (i, a.eval x)).toList = some cells) (h : wpList P ops Q rest (a.put o.dst (.agg cells)) w) : wpList P ops Q (o :: rest) a w := by
  unfold wpList; rw [if_pos hw]
  exact .inl (wp_build t parts ho (by rw [hf]; rfl) (by rw [hf]; exact h))
theorem built_window (k : List (BitVec 8)) (a b : Int) : Tryz.prog.built 47 [(0, Sv k), (1, .int .i64 a), (2, .int .i64 b)] = some (WindowL.mk k a b).cells := by kernel_rfl
end Go.Proofs.YtjeeghafachebaaGreat
