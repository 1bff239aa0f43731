/-
  Layer 4 as plain functions: ranges, turns, sides: no program here.
-/
import Derived.Test.YtoelfjhejfgkiaaDoorCoreFloor
namespace Go.Proofs.YtoelfjhejfgkiaaDoor
open Go.RowKit

def InP (re im : Int) : Prop := -1073741824 ≤ re ∧ re ≤ 1073741824 ∧ -1073741824 ≤ im ∧ im ≤ 1073741824
instance (re im : Int) : Decidable (InP re im) := by unfold InP; exact inferInstance
def inB (re im : Int) : Bool := decide (InP re im)
/-- A float that is a whole number in range. -/
def WholeF (x : Nat) : Prop := ∃ n : Int, -1073741824 ≤ n ∧ n ≤ 1073741824 ∧ FRep x n
def turnP (q : Int) : Int × Int := if q % 4 = 0 then (1, 0) else if q % 4 = 1 then (0, 1) else if q % 4 = 2 then (-1, 0) else (0, -1)
/-- Turned by k quarters, from 1 on. -/
def turnN : Nat → Int × Int
  | 0 => (1, 0)
  | k + 1 => ((turnN k).1 * 0 - (turnN k).2 * 1, (turnN k).1 * 1 + (turnN k).2 * 0)
theorem turnN_eq (q : Int) (k : Nat) (h : (k : Int) = q % 4) : turnN k = turnP q := by
  have hk : k = 0 ∨ k = 1 ∨ k = 2 ∨ k = 3 := by omega
  unfold turnP
  rcases hk with rfl | rfl | rfl | rfl
  · rw [if_pos (by omega)]; rfl
  · rw [if_neg (by omega), if_pos (by omega)]; rfl
  · rw [if_neg (by omega), if_neg (by omega), if_pos (by omega)]; rfl
  · rw [if_neg (by omega), if_neg (by omega), if_neg (by omega)]; rfl
theorem turnN_bd (k : Nat) : ∀ n, n = turnN k → -1 ≤ n.1 ∧ n.1 ≤ 1 ∧ -1 ≤ n.2 ∧ n.2 ≤ 1 := by
  induction k with
  | zero => rintro n rfl; decide
  | succ k ih =>
    rintro n rfl
    have := ih _ rfl
    simp only [turnN]
    omega
def sideP (re im : Int) : Int :=
  if re = 0 ∧ im = 0 then -1 else if 0 < re ∧ -re ≤ im ∧ im < re then 0 else if 0 < im ∧ -im < re ∧ re ≤ im then 1 else if re < 0 ∧ re < im ∧ im ≤ -re then 2 else 3
/-- Turned back by k quarters. -/
def backN (re im : Int) : Nat → Int × Int
  | 0 => (re, im)
  | k + 1 => ((backN re im k).1 * 0 - (backN re im k).2 * -1, (backN re im k).1 * -1 + (backN re im k).2 * 0)
theorem backN_is (re im : Int) : backN re im 0 = (re, im) ∧ backN re im 1 = (im, -re) ∧ backN re im 2 = (-re, -im) ∧ backN re im 3 = (-im, re) := by
  refine ⟨rfl, ?_, ?_, ?_⟩ <;> simp only [backN, Prod.mk.injEq] <;> omega
/-- It points to the right, or straight down to the right. -/
def faces (z : Int × Int) : Bool := decide (0 < z.1 ∧ -z.1 ≤ z.2 ∧ z.2 < z.1)
theorem side_first (re im : Int) (h0 : ¬ (re = 0 ∧ im = 0)) (k : Nat) (hk : k < 4) (hn : ∀ j < k, faces (backN re im j) = false) (hf : faces (backN re im k) = true) : sideP re im = (k : Int) := by
  obtain ⟨b0, b1, b2, b3⟩ := backN_is re im
  unfold sideP
  rw [if_neg h0]
  have hk4 : k = 0 ∨ k = 1 ∨ k = 2 ∨ k = 3 := by omega
  rcases hk4 with rfl | rfl | rfl | rfl
  · rw [b0] at hf
    simp only [faces, decide_eq_true_eq] at hf
    rw [if_pos hf]; rfl
  · have h1 := hn 0 (by omega)
    rw [b0] at h1
    rw [b1] at hf
    simp only [faces, decide_eq_true_eq, decide_eq_false_iff_not] at hf h1
    rw [if_neg h1, if_pos (by omega)]; rfl
  · have h1 := hn 0 (by omega)
    have h2 := hn 1 (by omega)
    rw [b0] at h1
    rw [b1] at h2
    rw [b2] at hf
    simp only [faces, decide_eq_true_eq, decide_eq_false_iff_not] at hf h1 h2
    rw [if_neg h1, if_neg (by omega), if_pos (by omega)]; rfl
  · have h1 := hn 0 (by omega)
    have h2 := hn 1 (by omega)
    have h3 := hn 2 (by omega)
    rw [b0] at h1
    rw [b1] at h2
    rw [b2] at h3
    simp only [faces, decide_eq_false_iff_not] at h1 h2 h3
    rw [if_neg h1, if_neg (by omega), if_neg (by omega)]; rfl
theorem side_some (re im : Int) (h0 : ¬ (re = 0 ∧ im = 0)) (hn : ∀ j < 4, faces (backN re im j) = false) : False := by
  obtain ⟨b0, b1, b2, b3⟩ := backN_is re im
  have h1 := hn 0 (by omega)
  have h2 := hn 1 (by omega)
  have h3 := hn 2 (by omega)
  have h4 := hn 3 (by omega)
  rw [b0] at h1
  rw [b1] at h2
  rw [b2] at h3
  rw [b3] at h4
  simp only [faces, decide_eq_false_iff_not] at h1 h2 h3 h4
  omega
theorem backN_bd (re im : Int) (h : InP re im) (k : Nat) (hk : k < 5) : InP (backN re im k).1 (backN re im k).2 := by
  obtain ⟨b0, b1, b2, b3⟩ := backN_is re im
  have b4 : backN re im 4 = (re, im) := by
    show ((backN re im 3).1 * 0 - (backN re im 3).2 * -1, (backN re im 3).1 * -1 + (backN re im 3).2 * 0) = _
    rw [b3]
    simp only [Prod.mk.injEq]
    omega
  have hk4 : k = 0 ∨ k = 1 ∨ k = 2 ∨ k = 3 ∨ k = 4 := by omega
  unfold InP at h ⊢
  rcases hk4 with rfl | rfl | rfl | rfl | rfl
  · rw [b0]; exact h
  · rw [b1]; show _ ∧ _ ∧ _ ∧ _; simp only; omega
  · rw [b2]; show _ ∧ _ ∧ _ ∧ _; simp only; omega
  · rw [b3]; show _ ∧ _ ∧ _ ∧ _; simp only; omega
  · rw [b4]; exact h
/-- A product of two numbers in range. -/
theorem prod_bd {a b A B : Int} (ha : -A ≤ a ∧ a ≤ A) (hb : -B ≤ b ∧ b ≤ B) : -(A * B) ≤ a * b ∧ a * b ≤ A * B := by
  have hA : 0 ≤ A := by omega
  have hB : 0 ≤ B := by omega
  have h : (a * b).natAbs ≤ (A * B).natAbs := by
    rw [Int.natAbs_mul, Int.natAbs_mul]
    exact Nat.mul_le_mul (by omega) (by omega)
  have hp : 0 ≤ A * B := Int.mul_nonneg hA hB
  omega
end Go.Proofs.YtoelfjhejfgkiaaDoor
