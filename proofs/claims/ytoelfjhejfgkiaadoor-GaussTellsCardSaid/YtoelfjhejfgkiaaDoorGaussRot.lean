/-
  Turned by quarters: plain; and complex numbers that are unlike.
-/
import Derived.Test.YtoelfjhejfgkiaaDoorGaussFirst
namespace Go.Proofs.YtoelfjhejfgkiaaDoor
open Go Go.RowKit Ieee

theorem CRep.neq {z1 z2 : Value} {u v a b : Int} (h : CRep z1 u v) (k : CRep z2 a b) (t : TypeId) (w : World) : (binOp .neq t z1 z2).run Tryd.prog w = .ok (.bool (!decide (u = a ∧ v = b))) w := by
  obtain ⟨x, x2, rfl, h1, h2⟩ := h
  obtain ⟨y, y2, rfl, k1, k2⟩ := k
  have e1 : (Op.Complex.cmp .eql .f64 x y).run Tryd.prog w = .ok (decide (u = a)) w := by
    show Result.ok (double.order x y == some .eq) w = _
    rw [frep_order h1 k1, cmp_eq]
  have e2 : (Op.Complex.cmp .eql .f64 x2 y2).run Tryd.prog w = .ok (decide (v = b)) w := by
    show Result.ok (double.order x2 y2 == some .eq) w = _
    rw [frep_order h2 k2, cmp_eq]
  show (Op.complexOp .neq .f64 x x2 y y2).run Tryd.prog w = _
  simp only [Op.complexOp, Sem.run_bind, e1, e2, Result.andThen_ok]
  simp
/-- Turned by k quarters, from (u, v) on. -/
def rotN (u v : Int) : Nat → Int × Int
  | 0 => (u, v)
  | k + 1 => (-(rotN u v k).2, (rotN u v k).1)
theorem rotN_four (u v : Int) : rotN u v 4 = (u, v) := by
  simp only [rotN, Prod.mk.injEq]
  omega
theorem rotN_in {u v : Int} (h : InP u v) (k : Nat) : InP (rotN u v k).1 (rotN u v k).2 := by
  induction k with
  | zero => exact h
  | succ k ih =>
    unfold InP at ih ⊢
    simp only [rotN]
    omega
theorem rotN_norm (u v : Int) (k : Nat) : (rotN u v k).1 * (rotN u v k).1 + (rotN u v k).2 * (rotN u v k).2 = u * u + v * v := by
  induction k with
  | zero => rfl
  | succ k ih =>
    simp only [rotN, Int.neg_mul_neg]
    omega
theorem side_turn (p q : Int) (h : ¬ (p = 0 ∧ q = 0)) : sideP (-q) p = (sideP p q + 1).tmod 4 ∧ 0 ≤ sideP p q ∧ sideP p q ≤ 3 := by
  have hc : sideP p q = 0 ∧ (0 < p ∧ -p ≤ q ∧ q < p) ∨ sideP p q = 1 ∧ (0 < q ∧ -q < p ∧ p ≤ q) ∧ ¬ (0 < p ∧ -p ≤ q ∧ q < p) ∨ sideP p q = 2 ∧ (p < 0 ∧ p < q ∧ q ≤ -p) ∧ ¬ (0 < p ∧ -p ≤ q ∧ q < p) ∧ ¬ (0 < q ∧ -q < p ∧ p ≤ q) ∨
      sideP p q = 3 ∧ ¬ (0 < p ∧ -p ≤ q ∧ q < p) ∧ ¬ (0 < q ∧ -q < p ∧ p ≤ q) ∧ ¬ (p < 0 ∧ p < q ∧ q ≤ -p) := by
    unfold sideP
    rw [if_neg h]
    by_cases h1 : 0 < p ∧ -p ≤ q ∧ q < p
    · rw [if_pos h1]; exact .inl ⟨rfl, h1⟩
    · rw [if_neg h1]
      by_cases h2 : 0 < q ∧ -q < p ∧ p ≤ q
      · rw [if_pos h2]; exact .inr (.inl ⟨rfl, h2, h1⟩)
      · rw [if_neg h2]
        by_cases h3 : p < 0 ∧ p < q ∧ q ≤ -p
        · rw [if_pos h3]; exact .inr (.inr (.inl ⟨rfl, h3, h1, h2⟩))
        · rw [if_neg h3]; exact .inr (.inr (.inr ⟨rfl, h1, h2, h3⟩))
  have hn : ¬ (-q = 0 ∧ p = 0) := by omega
  rcases hc with ⟨e, c⟩ | ⟨e, c, d⟩ | ⟨e, c, d1, d2⟩ | ⟨e, d1, d2, d3⟩
  · rw [e]
    refine ⟨?_, by omega, by omega⟩
    unfold sideP
    rw [if_neg hn, if_neg (by omega), if_pos (by omega)]
    rfl
  · rw [e]
    refine ⟨?_, by omega, by omega⟩
    unfold sideP
    rw [if_neg hn, if_neg (by omega), if_neg (by omega), if_pos (by omega)]
    rfl
  · rw [e]
    refine ⟨?_, by omega, by omega⟩
    unfold sideP
    rw [if_neg hn, if_neg (by omega), if_neg (by omega), if_neg (by omega)]
    rfl
  · rw [e]
    refine ⟨?_, by omega, by omega⟩
    unfold sideP
    rw [if_neg hn, if_pos (by omega)]
    rfl
theorem norm_prod (u v a b : Int) : (u * u + v * v) * (a * a + b * b) = (u * a - v * b) * (u * a - v * b) + (u * b + v * a) * (u * b + v * a) := by
  simp only [Int.sub_mul, Int.mul_sub, Int.add_mul, Int.mul_add]
  have e1 : u * u * (a * a) = u * a * (u * a) := by ac_rfl
  have e2 : v * v * (a * a) = v * a * (v * a) := by ac_rfl
  have e3 : u * u * (b * b) = u * b * (u * b) := by ac_rfl
  have e4 : v * v * (b * b) = v * b * (v * b) := by ac_rfl
  have e5 : v * b * (u * a) = u * b * (v * a) := by ac_rfl
  have e6 : u * a * (v * b) = u * b * (v * a) := by ac_rfl
  have e7 : v * a * (u * b) = u * b * (v * a) := by ac_rfl
  rw [e1, e2, e3, e4, e5, e6, e7]
  omega
end Go.Proofs.YtoelfjhejfgkiaaDoor
