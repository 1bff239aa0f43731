/-
  The contracts of the reference's Right, Gone, order, keys (layer 8).
-/
import Derived.Test.YtbfioekbahcicaaWinsRow
import Derived.Test.YtbfioekbahcicaaRefTexts
import Derived.Test.YtbfioekbahcicaaRefQRight
namespace Go.Proofs.Ytbfioekbahcicaa
open Go Go.RowKit

set_option maxRecDepth 100000 in
theorem rwRight_any (w : World) (x : WindowL) (hl : x.key.length ≤ 1000000) :
    Calls Try.prog 13 #[.agg x.cells] w (Below0 w (.bool x.rightB)) := by
  obtain ⟨key, lo, hi⟩ := x
  obtain ⟨r, hr⟩ : ∃ r, r = (WindowL.mk key lo hi).rightB := ⟨_, rfl⟩
  rw [← hr]
  have hN := fun w => erName_any w key hl
  obtain ⟨nb, hnb⟩ : ∃ b, b = nameB key := ⟨_, rfl⟩
  rw [← hnb] at hN
  simp only [WindowL.rightB] at hr
  rw [← hnb] at hr
  have HNm := Lib.hid hN
  clear hnb hN hl
  unfold WindowL.cells
  cases nb with
  | false =>
    obtain rfl : r = false := by rw [hr]; rfl
    clear hr
    go_enter Try.func13, Try.ntmps13
    go_wp2_with (fail)
    refine (HNm.out _).mono ?_
    rintro e w3 ⟨rfl, rfl⟩
    dsimp only
    go_wp2_with (fail)
    go_ret
    exact ⟨rfl, (Below.refl _ w).alloc (Nat.le_refl _) _⟩
  | true =>
    rw [Bool.true_and] at hr
    by_cases h0 : 0 ≤ lo
    case neg =>
      obtain rfl : r = false := by rw [hr, decide_eq_false (by omega)]
      have d0 : decide (0 ≤ lo) = false := decide_eq_false h0
      clear hr
      go_enter Try.func13, Try.ntmps13
      go_wp2_with (fail)
      refine (HNm.out _).mono ?_
      rintro e w3 ⟨rfl, rfl⟩
      dsimp only
      go_wp2_with (fail)
      go_ret
      exact ⟨rfl, (Below.refl _ w).alloc (Nat.le_refl _) _⟩
    by_cases h1 : lo ≤ 1099511627776
    case neg =>
      obtain rfl : r = false := by rw [hr, decide_eq_false (by omega)]
      have d1 : decide (lo ≤ 1099511627776) = false := decide_eq_false h1
      clear hr
      go_enter Try.func13, Try.ntmps13
      go_wp2_with (fail)
      refine (HNm.out _).mono ?_
      rintro e w3 ⟨rfl, rfl⟩
      dsimp only
      go_wp2_with (fail)
      go_ret
      exact ⟨rfl, (Below.refl _ w).alloc (Nat.le_refl _) _⟩
    by_cases h2 : lo < hi
    case neg =>
      obtain rfl : r = false := by rw [hr, decide_eq_false (by omega)]
      have d2 : decide (lo < hi) = false := decide_eq_false h2
      clear hr
      go_enter Try.func13, Try.ntmps13
      go_wp2_with (fail)
      refine (HNm.out _).mono ?_
      rintro e w3 ⟨rfl, rfl⟩
      dsimp only
      go_wp2_with (fail)
      go_ret
      exact ⟨rfl, (Below.refl _ w).alloc (Nat.le_refl _) _⟩
    by_cases h3 : hi ≤ 4398046511104
    case neg =>
      obtain rfl : r = false := by rw [hr, decide_eq_false (by omega)]
      have d3 : decide (hi ≤ 4398046511104) = false := decide_eq_false h3
      clear hr
      go_enter Try.func13, Try.ntmps13
      go_wp2_with (fail)
      refine (HNm.out _).mono ?_
      rintro e w3 ⟨rfl, rfl⟩
      dsimp only
      go_wp2_with (fail)
      go_ret
      exact ⟨rfl, (Below.refl _ w).alloc (Nat.le_refl _) _⟩
    obtain rfl : r = true := by rw [hr, decide_eq_true (by omega)]
    clear hr
    go_enter Try.func13, Try.ntmps13
    go_wp2_with (fail)
    refine (HNm.out _).mono ?_
    rintro e w3 ⟨rfl, rfl⟩
    dsimp only
    go_wp2_with (fail)
    go_ret
    exact ⟨rfl, (Below.refl _ w).alloc (Nat.le_refl _) _⟩
set_option maxRecDepth 100000 in
theorem rwOrder_any (w : World) (a b : Int) : Calls Try.prog 33 #[.int .i64 a, .int .i64 b] w fun e w' => e = .returned (.int .i64 (ordI a b)) ∧ w' = w := by
  unfold ordI
  by_cases h1 : a < b
  · rw [if_pos h1]
    go_enter Try.func33, Try.ntmps33
    go_wp2_with (fail)
    go_ret
    exact ⟨rfl, rfl⟩
  rw [if_neg h1]
  by_cases h2 : b < a
  · rw [if_pos h2]
    go_enter Try.func33, Try.ntmps33
    go_wp2_with (fail)
    go_ret
    exact ⟨rfl, rfl⟩
  rw [if_neg h2]
  go_enter Try.func33, Try.ntmps33
  go_wp2_with (fail)
  go_ret
  exact ⟨rfl, rfl⟩
theorem run_lss_Sv {P : Program} (w : World) (t : TypeId) (a b : List (BitVec 8)) : (binOp .lss t (Sv a) (Sv b)).run P w = .ok (.bool (ltS a b)) w := by
  simp [Sv, binOp, Op.stringOp, ltS]
theorem run_gtr_Sv {P : Program} (w : World) (t : TypeId) (a b : List (BitVec 8)) : (binOp .gtr t (Sv a) (Sv b)).run P w = .ok (.bool (ltS b a)) w := by
  rw [ltS, ← bytesLess_total]
  simp [Sv, binOp, Op.stringOp]
set_option maxRecDepth 100000 in
theorem rwKeys_any (w : World) (a b : List (BitVec 8)) : Calls Try.prog 32 #[Sv a, Sv b] w fun e w' => e = .returned (.int .i64 (ordS a b)) ∧ w' = w := by
  have l1 : ∀ w, (binOp .lss 9 (Sv a) (Sv b)).run Try.prog w = .ok (.bool (ltS a b)) w := fun w => run_lss_Sv w _ a b
  have l2 : ∀ w, (binOp .gtr 9 (Sv a) (Sv b)).run Try.prog w = .ok (.bool (ltS b a)) w := fun w => run_gtr_Sv w _ a b
  unfold ordS
  obtain ⟨p, hp⟩ : ∃ p, p = ltS a b := ⟨_, rfl⟩
  obtain ⟨q, hq⟩ : ∃ q, q = ltS b a := ⟨_, rfl⟩
  rw [← hp] at l1 ⊢
  rw [← hq] at l2 ⊢
  clear hp hq
  cases p with
  | true =>
    rw [if_pos rfl]
    go_enter Try.func32, Try.ntmps32
    go_wp2_with (fail)
    go_ret
    exact ⟨rfl, rfl⟩
  | false =>
    rw [if_neg (by decide)]
    cases q with
    | true =>
      rw [if_pos rfl]
      go_enter Try.func32, Try.ntmps32
      go_wp2_with (fail)
      go_ret
      exact ⟨rfl, rfl⟩
    | false =>
      rw [if_neg (by decide)]
      go_enter Try.func32, Try.ntmps32
      go_wp2_with (fail)
      go_ret
      exact ⟨rfl, rfl⟩
end Go.Proofs.Ytbfioekbahcicaa
