/-
  The contract of package query's Text; its tables of words.
  The contracts of strings.Cut at a blank, of package query's next word (a closure), and of its number; what they tell, plain.
  The contracts of package query's kind, agg and number: what a word tells.
  The contract of package query's asked: the query that a text is about.
  The contract of package query's Parse.
  Queries side by side; a query's row in memory.
-/
import Derived.Test.YtkgmcjeficgciaaDoorRows
import Derived.Test.YtkgmcjeficgciaaDoorQueryRight
import Derived.Test.YtkgmcjeficgciaaDoorCoreItoa
import Derived.Test.YtkgmcjeficgciaaDoorLate
import Derived.Test.YtkgmcjeficgciaaDoorEventNumber
import Derived.Lib.CutLaws
import Derived.Laws.StructEq
import Derived.Test.YtkgmcjeficgciaaDoorItems
namespace Go.Proofs.YtkgmcjeficgciaaDoor
open Go Go.RowKit

def kindsL : List (List (BitVec 8)) := [[], wTumbling, wSliding, wSession]
def aggsL : List (List (BitVec 8)) := [[], wCount, wSum, wMin, wMax, wMean, wTop, wSwing]
theorem kindW_at (n : Nat) (h : n < 4) : kindsL.getD n [] = kindW (n : Int) := by
  obtain rfl | rfl | rfl | rfl : n = 0 ∨ n = 1 ∨ n = 2 ∨ n = 3 := by omega
  all_goals decide
theorem aggW_at (n : Nat) (h : n < 8) : aggsL.getD n [] = aggW (n : Int) := by
  obtain rfl | rfl | rfl | rfl | rfl | rfl | rfl | rfl : n = 0 ∨ n = 1 ∨ n = 2 ∨ n = 3 ∨ n = 4 ∨ n = 5 ∨ n = 6 ∨ n = 7 := by omega
  all_goals decide
theorem kindW_len (n : Int) : (kindW n).length ≤ 8 := by
  unfold kindW
  repeat' split
  all_goals decide
theorem aggW_len (n : Int) : (aggW n).length ≤ 8 := by
  unfold aggW
  repeat' split
  all_goals decide
theorem sizeStr (w : World) : (sizeOf 9).run Tryd.prog w = .ok 1 w := by
  have h : (Tryd.prog.info? 9).map (·.size) = some 1 := by kernel_rfl
  cases hq : Tryd.prog.info? 9 with
  | none => simp [hq] at h
  | some i => simp [hq] at h; simp [sizeOf, typeInfo, hq, h]
theorem run_indexAt_arr {P : Program} (T e n : Nat) (hT : P.underlying T = some (.array n e)) (hz : ∀ w, (sizeOf e).run P w = .ok 1 w) (b k : Nat) (hk : k < n) (w : World) :
    (Instr.indexAt T (.pointer (some ⟨b, 0, none⟩)) (.int .i64 (k : Int))).run P w = .ok (.pointer (some ⟨b, k, none⟩)) w := by
  simp [Instr.indexAt, run_underlying hT, Instr.sureAddr, asIntOf, hz, addr_add, hk]
def bLate : List (BitVec 8) := [32, 108, 97, 116, 101, 32]
end Go.Proofs.YtkgmcjeficgciaaDoor
namespace Go.Proofs.YtkgmcjeficgciaaDoor
open Go Go.RowKit

/-- Ahead of the first blank, and behind it. -/
def cutL : List (BitVec 8) → List (BitVec 8) × List (BitVec 8)
  | [] => ([], [])
  | c :: r => if c = 32 then ([], r) else (c :: (cutL r).1, (cutL r).2)
theorem cutL_len : ∀ s, (cutL s).1.length ≤ s.length ∧ (cutL s).2.length ≤ s.length
  | [] => ⟨Nat.le_refl _, Nat.le_refl _⟩
  | c :: r => by
    have := cutL_len r
    unfold cutL
    split
    · exact ⟨Nat.zero_le _, Nat.le_succ _⟩
    · simp only [List.length_cons]
      omega
theorem cutL_text (a r : List (BitVec 8)) (h : ∀ c ∈ a, c ≠ 32) : cutL (a ++ 32 :: r) = (a, r) := by
  induction a with
  | nil => simp [cutL]
  | cons c a ih =>
    rw [List.cons_append, cutL, if_neg (h c (by simp)), ih fun d hd => h d (by simp [hd])]
theorem cutL_last (a : List (BitVec 8)) (h : ∀ c ∈ a, c ≠ 32) : cutL a = (a, []) := by
  induction a with
  | nil => rfl
  | cons c a ih =>
    rw [cutL, if_neg (h c (by simp)), ih fun d hd => h d (by simp [hd])]
theorem cutL_cases : ∀ s : List (BitVec 8), (∃ a r, s = a ++ 32 :: r ∧ (∀ c ∈ a, c ≠ 32)) ∨ (∀ c ∈ s, c ≠ 32)
  | [] => .inr (by simp)
  | c :: r => by
    by_cases h : c = 32
    · exact .inl ⟨[], r, by rw [h]; rfl, by simp⟩
    · rcases cutL_cases r with ⟨a, t, rfl, ha⟩ | hr
      · exact .inl ⟨c :: a, t, rfl, fun d hd => by rcases List.mem_cons.1 hd with rfl | hd; exact h; exact ha d hd⟩
      · exact .inr fun d hd => by rcases List.mem_cons.1 hd with rfl | hd; exact h; exact hr d hd
theorem lv_ne {a : List (BitVec 8)} (h : ∀ c ∈ a, c ≠ 32) : noBlank (lvB a) := by
  intro c hc e
  obtain ⟨x, hx, rfl⟩ := List.mem_map.1 hc
  refine h x hx (BitVec.eq_of_toNat_eq ?_)
  have h1 : (UInt8.ofNat x.toNat).toNat = 32 := by rw [e]; rfl
  have hx := x.isLt
  have h2 : (UInt8.ofNat x.toNat).toNat = x.toNat := by
    rw [UInt8.toNat_ofNat']
    exact Nat.mod_eq_of_lt hx
  rw [← h2, h1]
  rfl
theorem cut_lv (s : List (BitVec 8)) : (Lib.cut (lvB s) [32]).1 = lvB (cutL s).1 ∧ (Lib.cut (lvB s) [32]).2.1 = lvB (cutL s).2 := by
  rcases cutL_cases s with ⟨a, r, rfl, ha⟩ | hs
  · rw [cutL_text a r ha, lvB_append]
    have e : lvB (32 :: r) = 32 :: lvB r := rfl
    have hi := index_text (lvB a) (lvB r) (lv_ne ha)
    rw [e]
    unfold Lib.cut
    rw [hi, if_pos (by omega)]
    simp
  · rw [cutL_last s hs]
    unfold Lib.cut
    rw [index_blank _ (lv_ne hs), if_neg (by omega)]
    exact ⟨rfl, rfl⟩
def cutB (s : List (BitVec 8)) : Bool := (Lib.cut (lvB s) [32]).2.2
/-- How long a needle the library looks for: it lies in the world. -/
def MaxIn (w : World) : Prop := ∃ m, w.cell? ⟨0, 0, none⟩ = some (.int .i64 m)
theorem MaxIn.below {w w' : World} (h : MaxIn w) (hB : Below w.heap.size w w') : MaxIn w' := by
  obtain ⟨m, h⟩ := h
  exact ⟨m, (hB.cell (block_lt_of_cell h)).trans h⟩
theorem qcut_any (w : World) (s : List (BitVec 8)) (hl : s.length ≤ 1000000) (hM : MaxIn w) :
    Calls Tryd.prog 50 #[Sv s, .string ⟨#[32]⟩] w fun e w' => e = .returned (.tuple #[Sv (cutL s).1, Sv (cutL s).2, .bool (cutB s)]) ∧ ∃ n, w' = w.drewN n := by
  obtain ⟨m, hm⟩ := hM
  have hsz : (⟨(lvB s).toArray⟩ : ByteArray).size = s.length := by
    show (lvB s).toArray.size = _
    rw [List.size_toArray, lvB_length]
  have h := Tryd.strings_Cut ⟨(lvB s).toArray⟩ ⟨#[32]⟩ m w (by rw [hsz]; omega) hm
  rw [← Sv_lv] at h
  obtain ⟨h1, h2⟩ := cut_lv s
  rw [show (⟨(lvB s).toArray⟩ : ByteArray).data.toList = lvB s from rfl, show (⟨#[32]⟩ : ByteArray).data.toList = [32] from rfl, h1, h2, ← Sv_lv, ← Sv_lv] at h
  exact h
/-- A captured string. -/
def CutAt (w : World) (sb : Nat) (s : List (BitVec 8)) : Prop := w.heap[sb]? = some (.cells #[Sv s] 9 (0, 0))
end Go.Proofs.YtkgmcjeficgciaaDoor
namespace Go.Proofs.YtkgmcjeficgciaaDoor
open Go Go.RowKit

/-- The place of the first word that is w; 0: none. -/
def findL : List (List (BitVec 8)) → Nat → List (BitVec 8) → Nat
  | [], _, _ => 0
  | a :: r, n, w => if a = w then n else findL r (n + 1) w
theorem find_hit : ∀ (l : List (List (BitVec 8))) (n k : Nat) (w : List (BitVec 8)), k < l.length → (∀ j < k, l.getD j [] ≠ w) → l.getD k [] = w → findL l n w = n + k
  | [], _, _, _, h, _, _ => by simp at h
  | a :: r, n, 0, w, _, _, h => by
    have : a = w := by simpa using h
    rw [findL, if_pos this]
    rfl
  | a :: r, n, k + 1, w, hk, hn, h => by
    have h0 : a ≠ w := by simpa using hn 0 (by omega)
    rw [findL, if_neg h0, find_hit r (n + 1) k w (by simpa using hk) (fun j hj => by simpa using hn (j + 1) (by omega)) (by simpa using h)]
    omega
theorem find_none : ∀ (l : List (List (BitVec 8))) (n : Nat) (w : List (BitVec 8)), (∀ j < l.length, l.getD j [] ≠ w) → findL l n w = 0
  | [], _, _, _ => rfl
  | a :: r, n, w, hn => by
    have h0 : a ≠ w := by simpa using hn 0 (by simp)
    rw [findL, if_neg h0, find_none r (n + 1) w fun j hj => by simpa using hn (j + 1) (by simpa using hj)]
theorem kindOf_find (w : List (BitVec 8)) : kindOf w = (findL kindsL 0 w : Int) := by
  by_cases h : w = []
  · subst h; decide
  · unfold kindOf kindsL
    simp only [findL, eq_comm (b := w)]
    rw [if_neg h]
    by_cases h1 : w = wTumbling
    · rw [if_pos h1, if_pos h1]; rfl
    rw [if_neg h1, if_neg h1]
    by_cases h2 : w = wSliding
    · rw [if_pos h2, if_pos h2]; rfl
    rw [if_neg h2, if_neg h2]
    by_cases h3 : w = wSession
    · rw [if_pos h3, if_pos h3]; rfl
    rw [if_neg h3, if_neg h3]
    rfl
theorem aggOf_find (w : List (BitVec 8)) : aggOf w = (findL aggsL 0 w : Int) := by
  by_cases h : w = []
  · subst h; decide
  · unfold aggOf aggsL
    simp only [findL, eq_comm (b := w)]
    rw [if_neg h]
    by_cases h1 : w = wCount
    · rw [if_pos h1, if_pos h1]; rfl
    rw [if_neg h1, if_neg h1]
    by_cases h2 : w = wSum
    · rw [if_pos h2, if_pos h2]; rfl
    rw [if_neg h2, if_neg h2]
    by_cases h3 : w = wMin
    · rw [if_pos h3, if_pos h3]; rfl
    rw [if_neg h3, if_neg h3]
    by_cases h4 : w = wMax
    · rw [if_pos h4, if_pos h4]; rfl
    rw [if_neg h4, if_neg h4]
    by_cases h5 : w = wMean
    · rw [if_pos h5, if_pos h5]; rfl
    rw [if_neg h5, if_neg h5]
    by_cases h6 : w = wTop
    · rw [if_pos h6, if_pos h6]; rfl
    rw [if_neg h6, if_neg h6]
    by_cases h7 : w = wSwing
    · rw [if_pos h7, if_pos h7]; rfl
    rw [if_neg h7, if_neg h7]
    rfl
def FindRel (l : List (List (BitVec 8))) (word : List (BitVec 8)) (i : Value) : Prop := ∃ k : Nat, k ≤ l.length ∧ i = .int .i64 (k : Int) ∧ ∀ j < k, l.getD j [] ≠ word
theorem isAggStr (w : World) : (isAgg 9).run Tryd.prog w = .ok false w := run_isAgg_plain Tryd.underlying9 rfl w
end Go.Proofs.YtkgmcjeficgciaaDoor
namespace Go.Proofs.YtkgmcjeficgciaaDoor
open Go Go.RowKit

/-- The query that a text is about. -/
def askedL (s : List (BitVec 8)) : QueryL :=
  let c1 := cutL s
  let c2 := cutL c1.2
  let c3 := if kindOf c1.1 = 2 then cutL c2.2 else ([], c2.2)
  let c4 := cutL c3.2
  let c5 := cutL c4.2
  let c6 := cutL c5.2
  ⟨kindOf c1.1, numL c2.1, if kindOf c1.1 = 2 then numL c3.1 else 0, numL c5.1, aggOf c6.1, if aggOf c6.1 = 6 then numL (cutL c6.2).1 else 0⟩
theorem query_size : (Tryd.prog.info? 23).map (·.size) = some 6 := by kernel_rfl
theorem query_one (q : QueryL) : q.cells.all (·.oneCell') = true := by
  rw [Array.all_eq_true']
  intro v hv
  simp only [QueryL.cells, List.mem_toArray, List.mem_cons, List.not_mem_nil, or_false] at hv
  rcases hv with rfl | rfl | rfl | rfl | rfl | rfl <;> rfl
/-- The text's rest, captured, lies behind w's end, and behind it the result's row. -/
def AskAt (w : World) (r : List (BitVec 8)) (w' : World) : Prop := Below w.heap.size w w' ∧ CutAt w' w.heap.size r ∧ w'.heap[w.heap.size + 1]? = some (.cells zeroQ.cells 23 (0, 0))
theorem AskAt.below {w w' w3 : World} {r : List (BitVec 8)} (h : AskAt w r w') (hB : Below w'.heap.size w' w3) : AskAt w r w3 :=
  ⟨h.1.trans (hB.mono h.1.size), (hB.block _ (Array.getElem?_eq_some_iff.1 h.2.1).1).trans h.2.1, (hB.block _ (Array.getElem?_eq_some_iff.1 h.2.2).1).trans h.2.2⟩
theorem AskAt.word {w w' w3 : World} {r r2 : List (BitVec 8)} (h : AskAt w r w') (hS : CutAt w3 w.heap.size r2) (hg : w'.grownBy w3 (some w.heap.size)) : AskAt w r2 w3 :=
  ⟨h.1.trans ⟨hg.os, hg.tape, hg.output, Nat.le_trans (Nat.le_refl _) hg.size, fun k hk => hg.block k (Nat.lt_of_lt_of_le hk h.1.size) (by simp; omega)⟩, hS, (hg.block _ (Array.getElem?_eq_some_iff.1 h.2.2).1 (by simp)).trans h.2.2⟩
def AskQ (w : World) (qb : Nat) (r : List (BitVec 8)) (q : QueryL) (w' : World) : Prop := AskAt w r w' ∧ w'.heap[qb]? = some (.cells q.cells 23 (0, 0)) ∧ w.heap.size + 1 < qb
theorem AskQ.below {w w' w3 : World} {qb : Nat} {r : List (BitVec 8)} {q : QueryL} (h : AskQ w qb r q w') (hB : Below w'.heap.size w' w3) : AskQ w qb r q w3 :=
  ⟨h.1.below hB, (hB.block _ (Array.getElem?_eq_some_iff.1 h.2.1).1).trans h.2.1, h.2.2⟩
theorem AskQ.word {w w' w3 : World} {qb : Nat} {r r2 : List (BitVec 8)} {q : QueryL} (h : AskQ w qb r q w') (hS : CutAt w3 w.heap.size r2) (hg : w'.grownBy w3 (some w.heap.size)) : AskQ w qb r2 q w3 :=
  ⟨h.1.word hS hg, (hg.block _ (Array.getElem?_eq_some_iff.1 h.2.1).1 (by have := h.2.2; simp; omega)).trans h.2.1, h.2.2⟩
theorem AskQ.cell {w w' : World} {qb : Nat} {r : List (BitVec 8)} {q : QueryL} (h : AskQ w qb r q w') (i : Nat) {v : Value} (hi : q.cells[i]? = some v) : w'.cell? ⟨qb, i, none⟩ = some v := by
  rw [cell_of_row _ _ _ _ _ _ h.2.1]
  exact hi
theorem AskQ.fro {w w' : World} {qb : Nat} {r : List (BitVec 8)} {q : QueryL} (h : AskQ w qb r q w') (i : Nat) : w'.frozen? ⟨qb, i, none⟩ = false := frozen_of_row _ _ _ _ _ h.2.1
theorem AskQ.set {w w' : World} {qb : Nat} {r : List (BitVec 8)} {q q2 : QueryL} (h : AskQ w qb r q w') (i : Nat) (v : Value) (hy : q2.cells = q.cells.setIfInBounds i v) : AskQ w qb r q2 (w'.setCell ⟨qb, i, none⟩ v) := by
  obtain ⟨⟨h1, h2, h3⟩, h4, h5⟩ := h
  refine ⟨⟨h1.trans ⟨rfl, rfl, rfl, by simp [World.setCell], fun k hk => heap_setCell_other _ _ _ _ (by show k ≠ qb; omega)⟩, (heap_setCell_other _ _ _ _ (by show w.heap.size ≠ qb; omega)).trans h2, (heap_setCell_other _ _ _ _ (by show w.heap.size + 1 ≠ qb; omega)).trans h3⟩, ?_, h5⟩
  rw [hy]
  exact heap_setCell_same _ _ _ _ _ _ h4
theorem AskQ.fin {w w' : World} {qb : Nat} {r : List (BitVec 8)} {q : QueryL} (h : AskQ w qb r q w') (cs : Array Value) :
    Below w.heap.size w (w'.setRow (w.heap.size + 1) cs) ∧ (w'.setRow (w.heap.size + 1) cs).heap[w.heap.size + 1]? = some (.cells cs 23 (0, 0)) :=
  ⟨h.1.1.trans ⟨rfl, rfl, rfl, by simp [World.setRow], fun k hk => setRow_other _ _ _ _ (by omega)⟩, setRow_heap _ _ _ _ _ _ h.1.2.2⟩
theorem results_cell_row {P : Program} {fn : Func} {p : Tmp} {ty : TypeId} (h : fn.results = #[.cell p ty]) (tmps : Array Value) (w : World) (g : Nat) (t : TypeId) (cs : Array Value) (fr : Nat × Nat) (d : TypeDesc)
    (hp : tmps.getD p undef = .pointer (some ⟨g, 0, none⟩)) (hg : w.heap[g]? = some (.cells cs t fr))
    (hu : P.underlying ty = some d) (hd : (match d with | .struct _ | .array _ _ => true | _ => false) = true) (hi : (P.info? ty).map (·.size) = some cs.size) :
    (results fn tmps).run P w = .ok (.agg cs) w := by
  have hp' : tmps[p]?.getD undef = .pointer (some ⟨g, 0, none⟩) := by simpa using hp
  simp [results, h, hp', asAddr, run_loadVar_row w g t ty cs fr d hg hu hd hi]
end Go.Proofs.YtkgmcjeficgciaaDoor
namespace Go.Proofs.YtkgmcjeficgciaaDoor
open Go Go.RowKit

/-- What Parse tells. -/
def parseQ (s : List (BitVec 8)) : QueryL × Bool := if (askedL s).rightB = true ∧ (askedL s).text = s then (askedL s, true) else (zeroQ, false)
theorem results_cell_row_tmp {P : Program} {fn : Func} {p u : Tmp} {ty : TypeId} (h : fn.results = #[.cell p ty, .tmp u]) (tmps : Array Value) (w : World) (g : Nat) (t : TypeId) (cs : Array Value) (fr : Nat × Nat) (d : TypeDesc)
    (hp : tmps.getD p undef = .pointer (some ⟨g, 0, none⟩)) (hg : w.heap[g]? = some (.cells cs t fr))
    (hu : P.underlying ty = some d) (hd : (match d with | .struct _ | .array _ _ => true | _ => false) = true) (hi : (P.info? ty).map (·.size) = some cs.size) :
    (results fn tmps).run P w = .ok (.tuple #[.agg cs, tmps.getD u undef]) w := by
  have hp' : tmps[p]?.getD undef = .pointer (some ⟨g, 0, none⟩) := by simpa using hp
  simp [results, h, hp', asAddr, run_loadVar_row w g t ty cs fr d hg hu hd hi]
/-- The result's row at w's end, a query's own row behind it. -/
def PQ (w : World) (xb : Nat) (x : QueryL) (w' : World) : Prop :=
  Below w.heap.size w w' ∧ w'.heap[w.heap.size]? = some (.cells zeroQ.cells 23 (0, 0)) ∧ w'.heap[xb]? = some (.cells x.cells 23 (0, 0)) ∧ w.heap.size < xb
theorem PQ.below {w w' w3 : World} {xb : Nat} {x : QueryL} (h : PQ w xb x w') (hB : Below w'.heap.size w' w3) : PQ w xb x w3 :=
  ⟨h.1.trans (hB.mono h.1.size), (hB.block _ (Array.getElem?_eq_some_iff.1 h.2.1).1).trans h.2.1, (hB.block _ (Array.getElem?_eq_some_iff.1 h.2.2.1).1).trans h.2.2.1, h.2.2.2⟩
theorem PQ.cell {w w' : World} {xb : Nat} {x : QueryL} (h : PQ w xb x w') (i : Nat) {v : Value} (hi : x.cells[i]? = some v) : w'.cell? ⟨xb, i, none⟩ = some v := by
  rw [cell_of_row _ _ _ _ _ _ h.2.2.1]
  exact hi
theorem PQ.fin {w w' : World} {xb : Nat} {x : QueryL} (h : PQ w xb x w') (cs : Array Value) : Below w.heap.size w (w'.setRow w.heap.size cs) ∧ (w'.setRow w.heap.size cs).heap[w.heap.size]? = some (.cells cs 23 (0, 0)) :=
  ⟨h.1.trans ⟨rfl, rfl, rfl, by simp [World.setRow], fun k hk => setRow_other _ _ _ _ (by omega)⟩, setRow_heap _ _ _ _ _ _ h.2.1⟩
end Go.Proofs.YtkgmcjeficgciaaDoor
namespace Go.Proofs.YtkgmcjeficgciaaDoor
open Go Go.RowKit

/-- The same query? -/
def sameQ (x y : QueryL) : Bool := x.kind == y.kind && (x.size == y.size && (x.slide == y.slide && (x.late == y.late && (x.agg == y.agg && x.k == y.k))))
theorem sameQ_iff (x y : QueryL) : sameQ x y = true ↔ x = y := by
  obtain ⟨a, b, c, d, e, f⟩ := x
  obtain ⟨a', b', c', d', e', f'⟩ := y
  simp [sameQ]
theorem map6 {α β : Type} (g : α → β) : ∀ (l : List α) (a b c d e f : β), l.map g = [a, b, c, d, e, f] → ∃ x0 x1 x2 x3 x4 x5, l = [x0, x1, x2, x3, x4, x5] ∧ g x0 = a ∧ g x1 = b ∧ g x2 = c ∧ g x3 = d ∧ g x4 = e ∧ g x5 = f
  | [x0, x1, x2, x3, x4, x5], _, _, _, _, _, _, h => by
    simp only [List.map_cons, List.map_nil, List.cons.injEq, and_true] at h
    exact ⟨x0, x1, x2, x3, x4, x5, rfl, h⟩
  | [], _, _, _, _, _, _, h => by simp at h
  | [_], _, _, _, _, _, _, h => by simp at h
  | [_, _], _, _, _, _, _, _, h => by simp at h
  | [_, _, _], _, _, _, _, _, _, h => by simp at h
  | [_, _, _, _], _, _, _, _, _, _, h => by simp at h
  | [_, _, _, _, _], _, _, _, _, _, _, h => by simp at h
  | _ :: _ :: _ :: _ :: _ :: _ :: _ :: _, _, _, _, _, _, _, h => by simp at h
theorem run_equal_query (w : World) (x y : QueryL) : (Op.equalIn 10000 23 (.agg x.cells) (.agg y.cells)).run Tryd.prog w = .ok (sameQ x y) w := by
  rw [run_equalIn_agg w 9999 23 _ _ (by kernel_rfl) (by kernel_rfl)]
  have hm : (Tryd.prog.fieldsOf 23).toList.map (fun f => (f.name, f.type, f.offset)) = [("Kind", 3, 0), ("Size", 3, 1), ("Slide", 3, 2), ("Late", 3, 3), ("Agg", 3, 4), ("K", 3, 5)] := by kernel_rfl
  generalize (Tryd.prog.fieldsOf 23).toList = l at hm
  obtain ⟨f0, f1, f2, f3, f4, f5, rfl, h0, h1, h2, h3, h4, h5⟩ := map6 _ _ _ _ _ _ _ _ hm
  obtain ⟨n0, t0, o0⟩ : f0.name = "Kind" ∧ f0.type = 3 ∧ f0.offset = 0 := by simpa using h0
  obtain ⟨n1, t1, o1⟩ : f1.name = "Size" ∧ f1.type = 3 ∧ f1.offset = 1 := by simpa using h1
  obtain ⟨n2, t2, o2⟩ : f2.name = "Slide" ∧ f2.type = 3 ∧ f2.offset = 2 := by simpa using h2
  obtain ⟨n3, t3, o3⟩ : f3.name = "Late" ∧ f3.type = 3 ∧ f3.offset = 3 := by simpa using h3
  obtain ⟨n4, t4, o4⟩ : f4.name = "Agg" ∧ f4.type = 3 ∧ f4.offset = 4 := by simpa using h4
  obtain ⟨n5, t5, o5⟩ : f5.name = "K" ∧ f5.type = 3 ∧ f5.offset = 5 := by simpa using h5
  obtain ⟨a, b, c, d, e, f⟩ := x
  obtain ⟨a', b', c', d', e', f'⟩ := y
  have p : ∀ (cs : Array Value) (i : Nat) (n : Int), cs[i]? = some (.int .i64 n) → (part 3 cs i).run Tryd.prog w = .ok (.int .i64 n) w := fun cs i n h => by
    have hl := (Array.getElem?_eq_some_iff.1 h).1
    simp [part, go_sem, h]
  have e1 : ∀ (d : Nat) (a b : Int), (Op.equalIn (d + 1) 3 (.int .i64 a) (.int .i64 b)).run Tryd.prog w = .ok (a == b) w := fun d a b => run_equalIn_int w d 3 .i64 .i64 a b Tryd.underlying3
  rw [eqF_step (.int .i64 a) (.int .i64 a') (a == a') (by rw [n0]; decide) (by rw [t0, o0]; exact p _ 0 a rfl) (by rw [t0, o0]; exact p _ 0 a' rfl) (by rw [t0]; exact e1 9998 a a'),
    eqF_step (.int .i64 b) (.int .i64 b') (b == b') (by rw [n1]; decide) (by rw [t1, o1]; exact p _ 1 b rfl) (by rw [t1, o1]; exact p _ 1 b' rfl) (by rw [t1]; exact e1 9998 b b'),
    eqF_step (.int .i64 c) (.int .i64 c') (c == c') (by rw [n2]; decide) (by rw [t2, o2]; exact p _ 2 c rfl) (by rw [t2, o2]; exact p _ 2 c' rfl) (by rw [t2]; exact e1 9998 c c'),
    eqF_step (.int .i64 d) (.int .i64 d') (d == d') (by rw [n3]; decide) (by rw [t3, o3]; exact p _ 3 d rfl) (by rw [t3, o3]; exact p _ 3 d' rfl) (by rw [t3]; exact e1 9998 d d'),
    eqF_step (.int .i64 e) (.int .i64 e') (e == e') (by rw [n4]; decide) (by rw [t4, o4]; exact p _ 4 e rfl) (by rw [t4, o4]; exact p _ 4 e' rfl) (by rw [t4]; exact e1 9998 e e'),
    eqF_step (.int .i64 f) (.int .i64 f') (f == f') (by rw [n5]; decide) (by rw [t5, o5]; exact p _ 5 f rfl) (by rw [t5, o5]; exact p _ 5 f' rfl) (by rw [t5]; exact e1 9998 f f')]
  simp only [sameQ]
  cases a == a' <;> cases b == b' <;> cases c == c' <;> cases d == d' <;> cases e == e' <;> cases f == f' <;> rfl
theorem run_eql_query (w : World) (x y : QueryL) : (binOp .eql 23 (.agg x.cells) (.agg y.cells)).run Tryd.prog w = .ok (.bool (sameQ x y)) w := by
  rw [run_eql_struct, run_equal_query]
  rfl
theorem run_neq_query (w : World) (x y : QueryL) : (binOp .neq 23 (.agg x.cells) (.agg y.cells)).run Tryd.prog w = .ok (.bool (!sameQ x y)) w := by
  rw [run_neq_struct, run_equal_query]
  rfl
theorem run_guard_query (w : World) (op : BinOp) (o1 o2 : Operand) (x y : QueryL) : (eqGuard op 23 o1 o2 (.agg x.cells) (.agg y.cells)).run Tryd.prog w = .ok () w := run_eqGuard_agg w op _ o1 o2 _ _ (by kernel_rfl)
/-- A query's row. -/
def RowQ (w : World) (g : Nat) (x : QueryL) : Prop := w.heap[g]? = some (.cells x.cells 23 (0, 0))
theorem RowQ.below {w w' : World} {g : Nat} {x : QueryL} (h : RowQ w g x) (hB : Below w.heap.size w w') : RowQ w' g x := (hB.block _ (Array.getElem?_eq_some_iff.1 h).1).trans h
theorem RowQ.cell {w : World} {g : Nat} {x : QueryL} (h : RowQ w g x) (i : Nat) {v : Value} (hi : x.cells[i]? = some v) : w.cell? ⟨g, i, none⟩ = some v := by
  rw [cell_of_row _ _ _ _ _ _ h]
  exact hi
theorem RowQ.lt {w : World} {g : Nat} {x : QueryL} (h : RowQ w g x) : g < w.heap.size := (Array.getElem?_eq_some_iff.1 h).1
def D6 (w : World) (g : Nat) (kind size slide late agg k : Int) : Prop :=
  w.cell? ⟨g, 0, none⟩ = some (.int .i64 kind) ∧ w.cell? ⟨g, 1, none⟩ = some (.int .i64 size) ∧ w.cell? ⟨g, 2, none⟩ = some (.int .i64 slide) ∧ w.cell? ⟨g, 3, none⟩ = some (.int .i64 late) ∧ w.cell? ⟨g, 4, none⟩ = some (.int .i64 agg) ∧ w.cell? ⟨g, 5, none⟩ = some (.int .i64 k)
theorem RowQ.d6 {w : World} {g : Nat} {x : QueryL} (h : RowQ w g x) : D6 w g x.kind x.size x.slide x.late x.agg x.k := ⟨h.cell 0 rfl, h.cell 1 rfl, h.cell 2 rfl, h.cell 3 rfl, h.cell 4 rfl, h.cell 5 rfl⟩
/-- A query stored into a new row. -/
theorem stored_query (w : World) (x : QueryL) : RowQ ((w.alloc (Obj.cells #[.int .i64 0, .int .i64 0, .int .i64 0, .int .i64 0, .int .i64 0, .int .i64 0] 23)).setRow w.heap.size x.cells) w.heap.size x ∧
    Below w.heap.size w ((w.alloc (Obj.cells #[.int .i64 0, .int .i64 0, .int .i64 0, .int .i64 0, .int .i64 0, .int .i64 0] 23)).setRow w.heap.size x.cells) :=
  ⟨setRow_heap _ _ _ _ _ _ (heap_alloc_new w _), ((Below.refl _ w).alloc (Nat.le_refl _) _).trans ⟨rfl, rfl, rfl, by simp [World.setRow], fun i hi => setRow_other _ _ _ _ (by omega)⟩⟩
end Go.Proofs.YtkgmcjeficgciaaDoor
