/-
  Layer 6 as plain functions: queries, their bytes, their texts, and what is parsed: no program here.
-/
import Derived.Test.YtbfioekbahcicaaRefTexts
namespace Go.Proofs.Ytbfioekbahcicaa
open Go Go.RowKit

def wTumbling : List (BitVec 8) := [116, 117, 109, 98, 108, 105, 110, 103]
def wSliding : List (BitVec 8) := [115, 108, 105, 100, 105, 110, 103]
def wSession : List (BitVec 8) := [115, 101, 115, 115, 105, 111, 110]
def wLate : List (BitVec 8) := [108, 97, 116, 101]
def wCount : List (BitVec 8) := [99, 111, 117, 110, 116]
def wSum : List (BitVec 8) := [115, 117, 109]
def wMin : List (BitVec 8) := [109, 105, 110]
def wMax : List (BitVec 8) := [109, 97, 120]
def wMean : List (BitVec 8) := [109, 101, 97, 110]
def wTop : List (BitVec 8) := [116, 111, 112]
def wSwing : List (BitVec 8) := [115, 119, 105, 110, 103]
/-- A query. -/
structure QueryL where
  kind : Int
  size : Int
  slide : Int
  late : Int
  agg : Int
  k : Int
deriving DecidableEq
def zeroQ : QueryL := ⟨0, 0, 0, 0, 0, 0⟩
def QueryL.cells (q : QueryL) : Array Value := #[.int .i64 q.kind, .int .i64 q.size, .int .i64 q.slide, .int .i64 q.late, .int .i64 q.agg, .int .i64 q.k]
def QueryL.winB (q : QueryL) : Bool :=
  decide (1 ≤ q.size ∧ q.size ≤ 1073741824) && if q.kind = 2 then decide (1 ≤ q.slide ∧ q.slide ≤ q.size ∧ q.size ≤ 16 * q.slide) else decide ((q.kind = 1 ∨ q.kind = 3) ∧ q.slide = 0)
def QueryL.aggB (q : QueryL) : Bool := if q.agg = 6 then decide (1 ≤ q.k ∧ q.k ≤ 8) else decide (1 ≤ q.agg ∧ q.agg ≤ 7 ∧ q.k = 0)
def QueryL.rightB (q : QueryL) : Bool := q.winB && decide (0 ≤ q.late ∧ q.late ≤ 1073741824) && q.aggB
def QueryL.slides (q : QueryL) : Int := if q.rightB then if q.kind = 2 then (q.size + q.slide - 1) / q.slide else 1 else 0
def QueryL.bytes (q : QueryL) : List (BitVec 8) := numberL q.kind ++ numberL q.size ++ numberL q.slide ++ numberL q.late ++ numberL q.agg ++ numberL q.k
def kindW (n : Int) : List (BitVec 8) := if n = 1 then wTumbling else if n = 2 then wSliding else if n = 3 then wSession else []
def aggW (n : Int) : List (BitVec 8) :=
  if n = 1 then wCount else if n = 2 then wSum else if n = 3 then wMin else if n = 4 then wMax else if n = 5 then wMean else if n = 6 then wTop else if n = 7 then wSwing else []
def kindOf (w : List (BitVec 8)) : Int := if w = wTumbling then 1 else if w = wSliding then 2 else if w = wSession then 3 else 0
def aggOf (w : List (BitVec 8)) : Int :=
  if w = wCount then 1 else if w = wSum then 2 else if w = wMin then 3 else if w = wMax then 4 else if w = wMean then 5 else if w = wTop then 6 else if w = wSwing then 7 else 0
/-- A query's words. -/
def QueryL.words (q : QueryL) : List (List (BitVec 8)) :=
  kindW q.kind :: itoaL q.size :: ((if q.kind = 2 then [itoaL q.slide] else []) ++ wLate :: itoaL q.late :: aggW q.agg :: (if q.agg = 6 then [itoaL q.k] else []))
def QueryL.text (q : QueryL) : List (BitVec 8) :=
  kindW q.kind ++ bBlank ++ itoaL q.size ++ (if q.kind = 2 then bBlank ++ itoaL q.slide else []) ++ (bBlank ++ wLate ++ bBlank ++ itoaL q.late ++ bBlank ++ aggW q.agg) ++ (if q.agg = 6 then bBlank ++ itoaL q.k else [])
def QueryL.told (q : QueryL) : List (BitVec 8) := if q.rightB then q.text else []
theorem text_join (q : QueryL) : q.text = joinL q.words := by
  unfold QueryL.text QueryL.words
  by_cases h1 : q.kind = 2 <;> by_cases h2 : q.agg = 6 <;> simp [h1, h2, joinL, List.append_assoc]
theorem rightQ_cases {q : QueryL} (h : q.rightB = true) :
    (1 ≤ q.size ∧ q.size ≤ 1073741824) ∧ (0 ≤ q.late ∧ q.late ≤ 1073741824) ∧ (q.kind = 1 ∨ q.kind = 2 ∨ q.kind = 3) ∧ (q.kind = 2 → 1 ≤ q.slide ∧ q.slide ≤ q.size ∧ q.size ≤ 16 * q.slide) ∧ (q.kind ≠ 2 → q.slide = 0) ∧
    (1 ≤ q.agg ∧ q.agg ≤ 7) ∧ (q.agg = 6 → 1 ≤ q.k ∧ q.k ≤ 8) ∧ (q.agg ≠ 6 → q.k = 0) := by
  simp only [QueryL.rightB, QueryL.winB, QueryL.aggB, Bool.and_eq_true, decide_eq_true_eq] at h
  obtain ⟨⟨⟨h1, h2⟩, h3⟩, h4⟩ := h
  refine ⟨h1, h3, ?_⟩
  split at h2 <;> split at h4 <;> simp only [decide_eq_true_eq] at h2 h4 <;> refine ⟨?_, ?_, ?_, ?_, ?_, ?_⟩ <;> omega
theorem rightQ_bd {q : QueryL} (h : q.rightB = true) : 0 ≤ q.kind ∧ q.kind ≤ 3 ∧ 0 ≤ q.size ∧ q.size ≤ 1073741824 ∧ 0 ≤ q.slide ∧ q.slide ≤ 1073741824 ∧ 0 ≤ q.late ∧ q.late ≤ 1073741824 ∧ 0 ≤ q.agg ∧ q.agg ≤ 7 ∧ 0 ≤ q.k ∧ q.k ≤ 8 := by
  obtain ⟨h1, h2, h3, h4, h5, h6, h7, h8⟩ := rightQ_cases h
  by_cases hk : q.kind = 2 <;> by_cases ha : q.agg = 6
  · have := h4 hk; have := h7 ha; omega
  · have := h4 hk; have := h8 ha; omega
  · have := h5 hk; have := h7 ha; omega
  · have := h5 hk; have := h8 ha; omega
/-- Words put together, split again. -/
theorem split_join : ∀ (ws : List (List (BitVec 8))) (o : List (List (BitVec 8))), ws ≠ [] → (∀ w ∈ ws, ∀ c ∈ w, c ≠ 32) → ∀ p, (joinL ws).foldl splitStep (o, []) = p → p.1 ++ [p.2] = o ++ ws
  | [], _, h, _, _, _ => absurd rfl h
  | [a], o, _, hb, p, hp => by
    rw [joinL, splitS_word o a [] (hb a (by simp))] at hp
    rw [← hp]
    simp
  | a :: b :: r, o, _, hb, p, hp => by
    rw [joinL, List.foldl_append, List.foldl_append, splitS_word o a [] (hb a (by simp)), bBlank, List.foldl_cons, List.foldl_nil, splitStep, if_pos rfl] at hp
    have := split_join (b :: r) (o ++ [[] ++ a]) (by simp) (fun w hw => hb w (by simp [hw])) p hp
    rw [this]
    simp
theorem splitL_join (ws : List (List (BitVec 8))) (h : ws ≠ []) (hb : ∀ w ∈ ws, ∀ c ∈ w, c ≠ 32) : splitL (joinL ws) = ws := by
  have := split_join ws [] h hb _ rfl
  rw [splitL, splitS, this]
  rfl
theorem kindW_noBlank (n : Int) : ∀ c ∈ kindW n, c ≠ 32 := by
  unfold kindW
  split
  · decide
  · split
    · decide
    · split
      · decide
      · decide
theorem aggW_noBlank (n : Int) : ∀ c ∈ aggW n, c ≠ 32 := by
  unfold aggW
  repeat' split
  all_goals decide
theorem kindOf_W {n : Int} (h : n = 1 ∨ n = 2 ∨ n = 3) : kindOf (kindW n) = n := by rcases h with rfl | rfl | rfl <;> decide
theorem aggOf_W {n : Int} (h : 1 ≤ n ∧ n ≤ 7) : aggOf (aggW n) = n := by
  obtain rfl | rfl | rfl | rfl | rfl | rfl | rfl : n = 1 ∨ n = 2 ∨ n = 3 ∨ n = 4 ∨ n = 5 ∨ n = 6 ∨ n = 7 := by omega
  all_goals decide
theorem kindW_of {w : List (BitVec 8)} (h : kindOf w ≠ 0) : kindW (kindOf w) = w := by
  unfold kindOf at h ⊢
  by_cases h1 : w = wTumbling
  · rw [if_pos h1, h1]; rfl
  · rw [if_neg h1] at h ⊢
    by_cases h2 : w = wSliding
    · rw [if_pos h2, h2]; rfl
    · rw [if_neg h2] at h ⊢
      by_cases h3 : w = wSession
      · rw [if_pos h3, h3]; rfl
      · rw [if_neg h3] at h; exact absurd rfl h
theorem aggW_of {w : List (BitVec 8)} (h : aggOf w ≠ 0) : aggW (aggOf w) = w := by
  unfold aggOf at h ⊢
  by_cases h1 : w = wCount
  · rw [if_pos h1, h1]; rfl
  rw [if_neg h1] at h ⊢
  by_cases h2 : w = wSum
  · rw [if_pos h2, h2]; rfl
  rw [if_neg h2] at h ⊢
  by_cases h3 : w = wMin
  · rw [if_pos h3, h3]; rfl
  rw [if_neg h3] at h ⊢
  by_cases h4 : w = wMax
  · rw [if_pos h4, h4]; rfl
  rw [if_neg h4] at h ⊢
  by_cases h5 : w = wMean
  · rw [if_pos h5, h5]; rfl
  rw [if_neg h5] at h ⊢
  by_cases h6 : w = wTop
  · rw [if_pos h6, h6]; rfl
  rw [if_neg h6] at h ⊢
  by_cases h7 : w = wSwing
  · rw [if_pos h7, h7]; rfl
  rw [if_neg h7] at h
  exact absurd rfl h
theorem words_noBlank (q : QueryL) : ∀ w ∈ q.words, ∀ c ∈ w, c ≠ 32 := by
  intro w hw
  have h4 : ∀ c ∈ wLate, c ≠ 32 := by decide
  unfold QueryL.words at hw
  rcases List.mem_cons.1 hw with h | hw
  · rw [h]; exact kindW_noBlank _
  rcases List.mem_cons.1 hw with h | hw
  · rw [h]; exact itoaL_noBlank _
  rcases List.mem_append.1 hw with hw | hw
  · split at hw
    · rw [List.mem_singleton.1 hw]; exact itoaL_noBlank _
    · cases hw
  rcases List.mem_cons.1 hw with h | hw
  · rw [h]; exact h4
  rcases List.mem_cons.1 hw with h | hw
  · rw [h]; exact itoaL_noBlank _
  rcases List.mem_cons.1 hw with h | hw
  · rw [h]; exact aggW_noBlank _
  split at hw
  · rw [List.mem_singleton.1 hw]; exact itoaL_noBlank _
  · cases hw
theorem split_text (q : QueryL) : splitL q.text = q.words := by
  rw [text_join]
  exact splitL_join _ (by unfold QueryL.words; simp) (words_noBlank q)
end Go.Proofs.Ytbfioekbahcicaa
