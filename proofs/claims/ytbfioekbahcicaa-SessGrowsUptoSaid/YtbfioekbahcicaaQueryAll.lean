/-
  The contract of package query's Text; its tables of words.
  The contracts of strings.Cut at a blank, of package query's next word (a closure), and of its number; what they tell, plain.
  The contracts of package query's kind, agg and number: what a word tells.
  The contract of package query's asked: the query that a text is about.
  The contract of package query's Parse.
  Queries side by side; a query's row in memory.
-/
import Derived.Test.YtbfioekbahcicaaRows
import Derived.Test.YtbfioekbahcicaaQueryRight
import Derived.Test.YtbfioekbahcicaaCoreItoa
import Derived.Test.YtbfioekbahcicaaLate
import Derived.Test.YtbfioekbahcicaaEventNumber
import Derived.Lib.CutLaws
import Derived.Laws.StructEq
import Derived.Test.YtbfioekbahcicaaItems
namespace Go.Proofs.Ytbfioekbahcicaa
open Go Go.RowKit

def kindsL : List (List (BitVec 8)) := [[], wTumbling, wSliding, wSession]
def aggsL : List (List (BitVec 8)) := [[], wCount, wSum, wMin, wMax, wMean, wTop, wSwing]
theorem kindW_at (n : Nat) (h : n < 4) : kindsL.getD n [] = kindW (n : Int) := by
  obtain rfl | rfl | rfl | rfl : n = 0 ∨ n = 1 ∨ n = 2 ∨ n = 3 := by omega
  all_goals decide
theorem aggW_at (n : Nat) (h : n < 8) : aggsL.getD n [] = aggW (n : Int) := by
  obtain rfl | rfl | rfl | rfl | rfl | rfl | rfl | rfl : n = 0 ∨ n = 1 ∨ n = 2 ∨ n = 3 ∨ n = 4 ∨ n = 5 ∨ n = 6 ∨ n = 7 := by omega
  all_goals decide
theorem kindW_len (n : Int) : (kindW n).length ≤ 8 := by
  unfold kindW
  repeat' split
  all_goals decide
theorem aggW_len (n : Int) : (aggW n).length ≤ 8 := by
  unfold aggW
  repeat' split
  all_goals decide
theorem sizeStr (w : World) : (sizeOf 9).run Try.prog w = .ok 1 w := by
  have h : (Try.prog.info? 9).map (·.size) = some 1 := by kernel_rfl
  cases hq : Try.prog.info? 9 with
  | none => simp [hq] at h
  | some i => simp [hq] at h; simp [sizeOf, typeInfo, hq, h]
theorem run_indexAt_arr {P : Program} (T e n : Nat) (hT : P.underlying T = some (.array n e)) (hz : ∀ w, (sizeOf e).run P w = .ok 1 w) (b k : Nat) (hk : k < n) (w : World) :
    (Instr.indexAt T (.pointer (some ⟨b, 0, none⟩)) (.int .i64 (k : Int))).run P w = .ok (.pointer (some ⟨b, k, none⟩)) w := by
  simp [Instr.indexAt, run_underlying hT, Instr.sureAddr, asIntOf, hz, addr_add, hk]
def bLate : List (BitVec 8) := [32, 108, 97, 116, 101, 32]
end Go.Proofs.Ytbfioekbahcicaa
namespace Go.Proofs.Ytbfioekbahcicaa
open Go Go.RowKit

/-- Ahead of the first blank, and behind it. -/
def cutL : List (BitVec 8) → List (BitVec 8) × List (BitVec 8)
  | [] => ([], [])
  | c :: r => if c = 32 then ([], r) else (c :: (cutL r).1, (cutL r).2)
theorem cutL_len : ∀ s, (cutL s).1.length ≤ s.length ∧ (cutL s).2.length ≤ s.length
  | [] => ⟨Nat.le_refl _, Nat.le_refl _⟩
  | c :: r => by
    have := cutL_len r
    unfold cutL
    split
    · exact ⟨Nat.zero_le _, Nat.le_succ _⟩
    · simp only [List.length_cons]
      omega
theorem cutL_text (a r : List (BitVec 8)) (h : ∀ c ∈ a, c ≠ 32) : cutL (a ++ 32 :: r) = (a, r) := by
  induction a with
  | nil => simp [cutL]
  | cons c a ih =>
    rw [List.cons_append, cutL, if_neg (h c (by simp)), ih fun d hd => h d (by simp [hd])]
theorem cutL_last (a : List (BitVec 8)) (h : ∀ c ∈ a, c ≠ 32) : cutL a = (a, []) := by
  induction a with
  | nil => rfl
  | cons c a ih =>
    rw [cutL, if_neg (h c (by simp)), ih fun d hd => h d (by simp [hd])]
theorem cutL_cases : ∀ s : List (BitVec 8), (∃ a r, s = a ++ 32 :: r ∧ (∀ c ∈ a, c ≠ 32)) ∨ (∀ c ∈ s, c ≠ 32)
  | [] => .inr (by simp)
  | c :: r => by
    by_cases h : c = 32
    · exact .inl ⟨[], r, by rw [h]; rfl, by simp⟩
    · rcases cutL_cases r with ⟨a, t, rfl, ha⟩ | hr
      · exact .inl ⟨c :: a, t, rfl, fun d hd => by rcases List.mem_cons.1 hd with rfl | hd; exact h; exact ha d hd⟩
      · exact .inr fun d hd => by rcases List.mem_cons.1 hd with rfl | hd; exact h; exact hr d hd
theorem lv_ne {a : List (BitVec 8)} (h : ∀ c ∈ a, c ≠ 32) : noBlank (lvB a) := by
  intro c hc e
  obtain ⟨x, hx, rfl⟩ := List.mem_map.1 hc
  refine h x hx (BitVec.eq_of_toNat_eq ?_)
  have h1 : (UInt8.ofNat x.toNat).toNat = 32 := by rw [e]; rfl
  have hx := x.isLt
  have h2 : (UInt8.ofNat x.toNat).toNat = x.toNat := by
    rw [UInt8.toNat_ofNat']
    exact Nat.mod_eq_of_lt hx
  rw [← h2, h1]
  rfl
theorem cut_lv (s : List (BitVec 8)) : (Lib.cut (lvB s) [32]).1 = lvB (cutL s).1 ∧ (Lib.cut (lvB s) [32]).2.1 = lvB (cutL s).2 := by
  rcases cutL_cases s with ⟨a, r, rfl, ha⟩ | hs
  · rw [cutL_text a r ha, lvB_append]
    have e : lvB (32 :: r) = 32 :: lvB r := rfl
    have hi := index_text (lvB a) (lvB r) (lv_ne ha)
    rw [e]
    unfold Lib.cut
    rw [hi, if_pos (by omega)]
    simp
  · rw [cutL_last s hs]
    unfold Lib.cut
    rw [index_blank _ (lv_ne hs), if_neg (by omega)]
    exact ⟨rfl, rfl⟩
def cutB (s : List (BitVec 8)) : Bool := (Lib.cut (lvB s) [32]).2.2
/-- A captured string. -/
def CutAt (w : World) (sb : Nat) (s : List (BitVec 8)) : Prop := w.heap[sb]? = some (.cells #[Sv s] 9 (0, 0))
end Go.Proofs.Ytbfioekbahcicaa
namespace Go.Proofs.Ytbfioekbahcicaa
open Go Go.RowKit

/-- The place of the first word that is w; 0: none. -/
def findL : List (List (BitVec 8)) → Nat → List (BitVec 8) → Nat
  | [], _, _ => 0
  | a :: r, n, w => if a = w then n else findL r (n + 1) w
theorem find_hit : ∀ (l : List (List (BitVec 8))) (n k : Nat) (w : List (BitVec 8)), k < l.length → (∀ j < k, l.getD j [] ≠ w) → l.getD k [] = w → findL l n w = n + k
  | [], _, _, _, h, _, _ => by simp at h
  | a :: r, n, 0, w, _, _, h => by
    have : a = w := by simpa using h
    rw [findL, if_pos this]
    rfl
  | a :: r, n, k + 1, w, hk, hn, h => by
    have h0 : a ≠ w := by simpa using hn 0 (by omega)
    rw [findL, if_neg h0, find_hit r (n + 1) k w (by simpa using hk) (fun j hj => by simpa using hn (j + 1) (by omega)) (by simpa using h)]
    omega
theorem find_none : ∀ (l : List (List (BitVec 8))) (n : Nat) (w : List (BitVec 8)), (∀ j < l.length, l.getD j [] ≠ w) → findL l n w = 0
  | [], _, _, _ => rfl
  | a :: r, n, w, hn => by
    have h0 : a ≠ w := by simpa using hn 0 (by simp)
    rw [findL, if_neg h0, find_none r (n + 1) w fun j hj => by simpa using hn (j + 1) (by simpa using hj)]
theorem kindOf_find (w : List (BitVec 8)) : kindOf w = (findL kindsL 0 w : Int) := by
  by_cases h : w = []
  · subst h; decide
  · unfold kindOf kindsL
    simp only [findL, eq_comm (b := w)]
    rw [if_neg h]
    by_cases h1 : w = wTumbling
    · rw [if_pos h1, if_pos h1]; rfl
    rw [if_neg h1, if_neg h1]
    by_cases h2 : w = wSliding
    · rw [if_pos h2, if_pos h2]; rfl
    rw [if_neg h2, if_neg h2]
    by_cases h3 : w = wSession
    · rw [if_pos h3, if_pos h3]; rfl
    rw [if_neg h3, if_neg h3]
    rfl
theorem aggOf_find (w : List (BitVec 8)) : aggOf w = (findL aggsL 0 w : Int) := by
  by_cases h : w = []
  · subst h; decide
  · unfold aggOf aggsL
    simp only [findL, eq_comm (b := w)]
    rw [if_neg h]
    by_cases h1 : w = wCount
    · rw [if_pos h1, if_pos h1]; rfl
    rw [if_neg h1, if_neg h1]
    by_cases h2 : w = wSum
    · rw [if_pos h2, if_pos h2]; rfl
    rw [if_neg h2, if_neg h2]
    by_cases h3 : w = wMin
    · rw [if_pos h3, if_pos h3]; rfl
    rw [if_neg h3, if_neg h3]
    by_cases h4 : w = wMax
    · rw [if_pos h4, if_pos h4]; rfl
    rw [if_neg h4, if_neg h4]
    by_cases h5 : w = wMean
    · rw [if_pos h5, if_pos h5]; rfl
    rw [if_neg h5, if_neg h5]
    by_cases h6 : w = wTop
    · rw [if_pos h6, if_pos h6]; rfl
    rw [if_neg h6, if_neg h6]
    by_cases h7 : w = wSwing
    · rw [if_pos h7, if_pos h7]; rfl
    rw [if_neg h7, if_neg h7]
    rfl
def FindRel (l : List (List (BitVec 8))) (word : List (BitVec 8)) (i : Value) : Prop := ∃ k : Nat, k ≤ l.length ∧ i = .int .i64 (k : Int) ∧ ∀ j < k, l.getD j [] ≠ word
end Go.Proofs.Ytbfioekbahcicaa
namespace Go.Proofs.Ytbfioekbahcicaa
open Go Go.RowKit

/-- The query that a text is about. -/
def askedL (s : List (BitVec 8)) : QueryL :=
  let c1 := cutL s
  let c2 := cutL c1.2
  let c3 := if kindOf c1.1 = 2 then cutL c2.2 else ([], c2.2)
  let c4 := cutL c3.2
  let c5 := cutL c4.2
  let c6 := cutL c5.2
  ⟨kindOf c1.1, numL c2.1, if kindOf c1.1 = 2 then numL c3.1 else 0, numL c5.1, aggOf c6.1, if aggOf c6.1 = 6 then numL (cutL c6.2).1 else 0⟩
theorem query_one (q : QueryL) : q.cells.all (·.oneCell') = true := by
  rw [Array.all_eq_true']
  intro v hv
  simp only [QueryL.cells, List.mem_toArray, List.mem_cons, List.not_mem_nil, or_false] at hv
  rcases hv with rfl | rfl | rfl | rfl | rfl | rfl <;> rfl
theorem results_cell_row {P : Program} {fn : Func} {p : Tmp} {ty : TypeId} (h : fn.results = #[.cell p ty]) (tmps : Array Value) (w : World) (g : Nat) (t : TypeId) (cs : Array Value) (fr : Nat × Nat) (d : TypeDesc)
    (hp : tmps.getD p undef = .pointer (some ⟨g, 0, none⟩)) (hg : w.heap[g]? = some (.cells cs t fr))
    (hu : P.underlying ty = some d) (hd : (match d with | .struct _ | .array _ _ => true | _ => false) = true) (hi : (P.info? ty).map (·.size) = some cs.size) :
    (results fn tmps).run P w = .ok (.agg cs) w := by
  have hp' : tmps[p]?.getD undef = .pointer (some ⟨g, 0, none⟩) := by simpa using hp
  simp [results, h, hp', asAddr, run_loadVar_row w g t ty cs fr d hg hu hd hi]
end Go.Proofs.Ytbfioekbahcicaa
namespace Go.Proofs.Ytbfioekbahcicaa
open Go Go.RowKit

/-- What Parse tells. -/
def parseQ (s : List (BitVec 8)) : QueryL × Bool := if (askedL s).rightB = true ∧ (askedL s).text = s then (askedL s, true) else (zeroQ, false)
theorem results_cell_row_tmp {P : Program} {fn : Func} {p u : Tmp} {ty : TypeId} (h : fn.results = #[.cell p ty, .tmp u]) (tmps : Array Value) (w : World) (g : Nat) (t : TypeId) (cs : Array Value) (fr : Nat × Nat) (d : TypeDesc)
    (hp : tmps.getD p undef = .pointer (some ⟨g, 0, none⟩)) (hg : w.heap[g]? = some (.cells cs t fr))
    (hu : P.underlying ty = some d) (hd : (match d with | .struct _ | .array _ _ => true | _ => false) = true) (hi : (P.info? ty).map (·.size) = some cs.size) :
    (results fn tmps).run P w = .ok (.tuple #[.agg cs, tmps.getD u undef]) w := by
  have hp' : tmps[p]?.getD undef = .pointer (some ⟨g, 0, none⟩) := by simpa using hp
  simp [results, h, hp', asAddr, run_loadVar_row w g t ty cs fr d hg hu hd hi]
end Go.Proofs.Ytbfioekbahcicaa
namespace Go.Proofs.Ytbfioekbahcicaa
open Go Go.RowKit

/-- The same query? -/
def sameQ (x y : QueryL) : Bool := x.kind == y.kind && (x.size == y.size && (x.slide == y.slide && (x.late == y.late && (x.agg == y.agg && x.k == y.k))))
theorem sameQ_iff (x y : QueryL) : sameQ x y = true ↔ x = y := by
  obtain ⟨a, b, c, d, e, f⟩ := x
  obtain ⟨a', b', c', d', e', f'⟩ := y
  simp [sameQ]
theorem map6 {α β : Type} (g : α → β) : ∀ (l : List α) (a b c d e f : β), l.map g = [a, b, c, d, e, f] → ∃ x0 x1 x2 x3 x4 x5, l = [x0, x1, x2, x3, x4, x5] ∧ g x0 = a ∧ g x1 = b ∧ g x2 = c ∧ g x3 = d ∧ g x4 = e ∧ g x5 = f
  | [x0, x1, x2, x3, x4, x5], _, _, _, _, _, _, h => by
    simp only [List.map_cons, List.map_nil, List.cons.injEq, and_true] at h
    exact ⟨x0, x1, x2, x3, x4, x5, rfl, h⟩
  | [], _, _, _, _, _, _, h => by simp at h
  | [_], _, _, _, _, _, _, h => by simp at h
  | [_, _], _, _, _, _, _, _, h => by simp at h
  | [_, _, _], _, _, _, _, _, _, h => by simp at h
  | [_, _, _, _], _, _, _, _, _, _, h => by simp at h
  | [_, _, _, _, _], _, _, _, _, _, _, h => by simp at h
  | _ :: _ :: _ :: _ :: _ :: _ :: _ :: _, _, _, _, _, _, _, h => by simp at h
def D6 (w : World) (g : Nat) (kind size slide late agg k : Int) : Prop :=
  w.cell? ⟨g, 0, none⟩ = some (.int .i64 kind) ∧ w.cell? ⟨g, 1, none⟩ = some (.int .i64 size) ∧ w.cell? ⟨g, 2, none⟩ = some (.int .i64 slide) ∧ w.cell? ⟨g, 3, none⟩ = some (.int .i64 late) ∧ w.cell? ⟨g, 4, none⟩ = some (.int .i64 agg) ∧ w.cell? ⟨g, 5, none⟩ = some (.int .i64 k)
end Go.Proofs.Ytbfioekbahcicaa
