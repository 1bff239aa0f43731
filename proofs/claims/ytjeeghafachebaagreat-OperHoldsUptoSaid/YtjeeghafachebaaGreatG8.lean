/-
  Part 8 of 53 of what the proof leans on.
-/
import Derived.Test.YtjeeghafachebaaGreatG6
import Derived.Test.YtjeeghafachebaaGreatG7
namespace Go.Proofs.YtjeeghafachebaaGreat
open Go Go.RowKit
def cge (x : Int) (l : List Int) : Nat := l.countP (fun y => decide (x ≤ y))
def Falling (l : List Int) : Prop := l.Pairwise (fun a b => b ≤ a)
instance (l : List Int) : Decidable (Falling l) := inferInstanceAs (Decidable (l.Pairwise _))
def insL (v : Int) : List Int → List Int
  | [] => [v]
  | a :: r => if a < v then v :: a :: r else a :: insL v r
def topL (k : Nat) (l : List Int) : List Int := (l.foldr insL []).take k
theorem cge_nil (x : Int) : cge x [] = 0 := rfl
theorem cge_cons (x a : Int) (l : List Int) : cge x (a :: l) = cge x l + if x ≤ a then 1 else 0 := by
  unfold cge; rw [List.countP_cons]
  by_cases h : x ≤ a <;> simp [h]
theorem cge_perm {l m : List Int} (h : l.Perm m) (x : Int) : cge x l = cge x m := h.countP_eq _
theorem cge_ins (x v : Int) : ∀ l, cge x (insL v l) = cge x l + if x ≤ v then 1 else 0
  | [] => by rw [insL, cge_cons, cge_nil]
  | a :: r => by
    rw [insL]
    split
    · rw [cge_cons, cge_cons]
    · rw [cge_cons, cge_ins x v r, cge_cons]; omega
theorem ins_length (v : Int) : ∀ l, (insL v l).length = l.length + 1
  | [] => rfl
  | a :: r => by
    rw [insL]
    split
    · rfl
    · rw [List.length_cons, ins_length v r, List.length_cons]
theorem ins_mem (v : Int) : ∀ l x, x ∈ insL v l ↔ x = v ∨ x ∈ l
  | [], x => by simp [insL]
  | a :: r, x => by
    rw [insL]
    split
    · simp
    · rw [List.mem_cons, ins_mem v r x, List.mem_cons]
      constructor
      · rintro (h | h | h) <;> simp [h]
      · rintro (h | h | h) <;> simp [h]
theorem ins_falling (v : Int) : ∀ l, Falling l → Falling (insL v l)
  | [], _ => by simp [insL, Falling]
  | a :: r, h => by
    obtain ⟨h1, h2⟩ := List.pairwise_cons.1 h; rw [insL]
    split
    · rename_i hv
      refine List.pairwise_cons.2 ⟨fun b hb => ?_, h⟩
      rcases List.mem_cons.1 hb with rfl | hb
      · omega
      · have := h1 b hb; omega
    · rename_i hv
      refine List.pairwise_cons.2 ⟨fun b hb => ?_, ins_falling v r h2⟩
      rcases (ins_mem v r b).1 hb with rfl | hb
      · omega
      · exact h1 b hb
theorem cge_zero {x : Int} {l : List Int} (h : ∀ y ∈ l, y < x) : cge x l = 0 := by
  unfold cge; rw [List.countP_eq_zero]; intro y hy; have := h y hy; simp only [decide_eq_true_eq]; omega
theorem fall_ext : ∀ {s t : List Int}, Falling s → Falling t → (∀ x, cge x s = cge x t) → s = t
  | [], [], _, _, _ => rfl
  | [], b :: t, _, _, h => by
    have := h b; rw [cge_nil, cge_cons, if_pos (Int.le_refl b)] at this; omega
  | a :: s, [], _, _, h => by
    have := h a; rw [cge_nil, cge_cons, if_pos (Int.le_refl a)] at this; omega
  | a :: s, b :: t, hs, ht, h => by
    obtain ⟨s1, s2⟩ := List.pairwise_cons.1 hs; obtain ⟨t1, t2⟩ := List.pairwise_cons.1 ht
    have hab : a = b := by
      rcases Int.lt_trichotomy a b with hl | he | hg
      · have := h b
        rw [cge_zero (l := a :: s) (fun y hy => by
          rcases List.mem_cons.1 hy with rfl | hy
          · exact hl
          · have := s1 y hy
            omega), cge_cons, if_pos (Int.le_refl b)] at this
        omega
      · exact he
      · have := h a
        rw [cge_zero (l := b :: t) (fun y hy => by
          rcases List.mem_cons.1 hy with rfl | hy
          · exact hg
          · have := t1 y hy
            omega), cge_cons, if_pos (Int.le_refl a)] at this
        omega
    subst hab
    rw [fall_ext s2 t2 (fun x => by
      have := h x; rw [cge_cons, cge_cons] at this
      omega)]
theorem fold_falling : ∀ l : List Int, Falling (l.foldr insL [])
  | [] => List.Pairwise.nil
  | a :: r => ins_falling a _ (fold_falling r)
theorem cge_fold (x : Int) : ∀ l : List Int, cge x (l.foldr insL []) = cge x l
  | [] => rfl
  | a :: r => by rw [List.foldr_cons, cge_ins, cge_fold x r, cge_cons]
theorem fold_length : ∀ l : List Int, (l.foldr insL []).length = l.length
  | [] => rfl
  | a :: r => by rw [List.foldr_cons, ins_length, fold_length r, List.length_cons]
theorem top_length (k : Nat) (l : List Int) : (topL k l).length = min k l.length := by rw [topL, List.length_take, fold_length]
structure AggL where
  n : Int
  a : Int
  top : List Int
  u : Int
  v : Int
deriving DecidableEq
def zeroA : AggL := ⟨0, 0, [], 0, 0⟩
def mostA (agg : Int) : Int := if agg = 2 ∨ agg = 5 then 4398046511104 else if agg = 3 ∨ agg = 4 then 1099511627776 else 0
def AggL.rightB (q : QueryL) (a : AggL) : Bool :=
  q.rightB && decide (0 ≤ a.n ∧ a.n ≤ 1073741824) && decide (InP a.u a.v) && decide (-mostA q.agg ≤ a.a ∧ a.a ≤ mostA q.agg) && decide (q.agg ≠ 7 → a.u = 0 ∧ a.v = 0) && decide (a.n = 0 → a.a = 0 ∧ a.u = 0 ∧ a.v = 0) &&
    decide ((a.top.length : Int) = if q.agg = 6 then min a.n q.k else 0) && decide (∀ x ∈ a.top, -1099511627776 ≤ x ∧ x ≤ 1099511627776) && decide (Falling a.top)
theorem turnP_bd (v : Int) : -1 ≤ (turnP v).1 ∧ (turnP v).1 ≤ 1 ∧ -1 ≤ (turnP v).2 ∧ (turnP v).2 ≤ 1 := by
  unfold turnP
  split
  · omega
  split
  · omega
  split <;> omega
end Go.Proofs.YtjeeghafachebaaGreat
