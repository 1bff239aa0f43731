/-
  The contract of the reference's Right: a query.
-/
import Derived.Test.YtkgmcjeficgciaaDoorQueryPure
import Derived.Test.YtkgmcjeficgciaaDoorLocal
namespace Go.Proofs.YtkgmcjeficgciaaDoor
open Go Go.RowKit

theorem rightB_no {kind size slide late agg k : Int} (h : kind < 1 ∨ 3 < kind ∨ size < 1 ∨ 1073741824 < size ∨ late < 0 ∨ 1073741824 < late ∨ agg < 1 ∨ 7 < agg) : (QueryL.mk kind size slide late agg k).rightB = false := by
  cases hr : (QueryL.mk kind size slide late agg k).rightB with
  | false => rfl
  | true =>
    obtain ⟨h1, h2, h3, _, _, h6, _, _⟩ := rightQ_cases hr
    simp only at h1 h2 h3 h6
    omega
theorem rightB_in {kind size slide late agg k : Int} (h : 1 ≤ kind ∧ kind ≤ 3 ∧ 1 ≤ size ∧ size ≤ 1073741824 ∧ 0 ≤ late ∧ late ≤ 1073741824 ∧ 1 ≤ agg ∧ agg ≤ 7) :
    (QueryL.mk kind size slide late agg k).rightB = ((if kind = 2 then decide (1 ≤ slide ∧ slide ≤ size ∧ size ≤ 16 * slide) else decide (slide = 0)) && (if agg = 6 then decide (1 ≤ k ∧ k ≤ 8) else decide (k = 0))) := by
  unfold QueryL.rightB QueryL.winB QueryL.aggB
  simp only
  rw [decide_eq_true (show 1 ≤ size ∧ size ≤ 1073741824 by omega), decide_eq_true (show 0 ≤ late ∧ late ≤ 1073741824 by omega), Bool.true_and, Bool.and_true]
  congr 1
  · split
    · rfl
    · exact decide_eq_decide.2 ⟨fun h => h.2, fun h => ⟨by omega, h⟩⟩
  · split
    · rfl
    · exact decide_eq_decide.2 ⟨fun h => h.2.2, fun h => ⟨by omega, by omega, h⟩⟩
set_option maxRecDepth 100000 in
set_option maxHeartbeats 2000000 in
theorem rqRight_any (w : World) (q : QueryL) : Calls Tryd.prog 24 #[.agg q.cells] w (Below0 w (.bool q.rightB)) := by
  obtain ⟨kind, size, slide, late, agg, k⟩ := q
  obtain ⟨r, hr⟩ : ∃ r, r = (QueryL.mk kind size slide late agg k).rightB := ⟨_, rfl⟩
  rw [← hr]
  unfold QueryL.cells
  by_cases t0 : kind < 1
  · obtain rfl : r = false := by rw [hr, rightB_no (by omega)]
    clear hr
    go_enter Tryd.func24, Tryd.ntmps24
    go_wp2_with (fail)
    go_ret
    exact ⟨rfl, (Below.refl _ w).alloc (Nat.le_refl _) _⟩
  by_cases t1 : 3 < kind
  · obtain rfl : r = false := by rw [hr, rightB_no (by omega)]
    clear hr
    go_enter Tryd.func24, Tryd.ntmps24
    go_wp2_with (fail)
    go_ret
    exact ⟨rfl, (Below.refl _ w).alloc (Nat.le_refl _) _⟩
  by_cases t2 : size < 1
  · obtain rfl : r = false := by rw [hr, rightB_no (by omega)]
    clear hr
    go_enter Tryd.func24, Tryd.ntmps24
    go_wp2_with (fail)
    go_ret
    exact ⟨rfl, (Below.refl _ w).alloc (Nat.le_refl _) _⟩
  by_cases t3 : 1073741824 < size
  · obtain rfl : r = false := by rw [hr, rightB_no (by omega)]
    clear hr
    go_enter Tryd.func24, Tryd.ntmps24
    go_wp2_with (fail)
    go_ret
    exact ⟨rfl, (Below.refl _ w).alloc (Nat.le_refl _) _⟩
  by_cases t4 : late < 0
  · obtain rfl : r = false := by rw [hr, rightB_no (by omega)]
    clear hr
    go_enter Tryd.func24, Tryd.ntmps24
    go_wp2_with (fail)
    go_ret
    exact ⟨rfl, (Below.refl _ w).alloc (Nat.le_refl _) _⟩
  by_cases t5 : 1073741824 < late
  · obtain rfl : r = false := by rw [hr, rightB_no (by omega)]
    clear hr
    go_enter Tryd.func24, Tryd.ntmps24
    go_wp2_with (fail)
    go_ret
    exact ⟨rfl, (Below.refl _ w).alloc (Nat.le_refl _) _⟩
  by_cases t6 : agg < 1
  · obtain rfl : r = false := by rw [hr, rightB_no (by omega)]
    clear hr
    go_enter Tryd.func24, Tryd.ntmps24
    go_wp2_with (fail)
    go_ret
    exact ⟨rfl, (Below.refl _ w).alloc (Nat.le_refl _) _⟩
  by_cases t7 : 7 < agg
  · obtain rfl : r = false := by rw [hr, rightB_no (by omega)]
    clear hr
    go_enter Tryd.func24, Tryd.ntmps24
    go_wp2_with (fail)
    go_ret
    exact ⟨rfl, (Below.refl _ w).alloc (Nat.le_refl _) _⟩
  rw [rightB_in (by omega)] at hr
  by_cases k2 : kind = 2
  · subst k2
    rw [if_pos rfl] at hr
    by_cases s3 : slide < 1
    · obtain rfl : r = false := by rw [hr, decide_eq_false (by omega), Bool.false_and]
      clear hr
      go_enter Tryd.func24, Tryd.ntmps24
      go_wp2_with (fail)
      go_ret
      exact ⟨rfl, (Below.refl _ w).alloc (Nat.le_refl _) _⟩
    by_cases s4 : size < slide
    · obtain rfl : r = false := by rw [hr, decide_eq_false (by omega), Bool.false_and]
      clear hr
      go_enter Tryd.func24, Tryd.ntmps24
      go_wp2_with (fail)
      go_ret
      exact ⟨rfl, (Below.refl _ w).alloc (Nat.le_refl _) _⟩
    by_cases s5 : 16 * slide < size
    · obtain rfl : r = false := by rw [hr, decide_eq_false (by omega), Bool.false_and]
      clear hr
      go_enter Tryd.func24, Tryd.ntmps24
      go_wp2_with (fail)
      go_ret
      exact ⟨rfl, (Below.refl _ w).alloc (Nat.le_refl _) _⟩
    rw [decide_eq_true (by omega), Bool.true_and] at hr
    by_cases a6 : agg = 6
    · subst a6
      rw [if_pos rfl] at hr
      by_cases s0 : k < 1
      · obtain rfl : r = false := by rw [hr, decide_eq_false (by omega)]
        clear hr
        have d0 : decide ((1 : Int) ≤ k) = false := decide_eq_false (by omega)
        go_enter Tryd.func24, Tryd.ntmps24
        go_wp2_with (fail)
        go_ret
        exact ⟨rfl, (Below.refl _ w).alloc (Nat.le_refl _) _⟩
      have d0 : decide ((1 : Int) ≤ k) = true := decide_eq_true (by omega)
      by_cases s1 : 8 < k
      · obtain rfl : r = false := by rw [hr, decide_eq_false (by omega)]
        clear hr
        have d1 : decide (k ≤ (8 : Int)) = false := decide_eq_false (by omega)
        go_enter Tryd.func24, Tryd.ntmps24
        go_wp2_with (fail)
        go_ret
        exact ⟨rfl, (Below.refl _ w).alloc (Nat.le_refl _) _⟩
      · obtain rfl : r = true := by rw [hr, decide_eq_true (by omega)]
        clear hr
        have d1 : decide (k ≤ (8 : Int)) = true := decide_eq_true (by omega)
        go_enter Tryd.func24, Tryd.ntmps24
        go_wp2_with (fail)
        go_ret
        exact ⟨rfl, (Below.refl _ w).alloc (Nat.le_refl _) _⟩
    · rw [if_neg a6] at hr
      have e6 : (agg == 6) = false := by simpa using a6
      by_cases s2 : k = 0
      · subst s2
        obtain rfl : r = true := by rw [hr, decide_eq_true (by omega)]
        clear hr a6
        go_enter Tryd.func24, Tryd.ntmps24
        go_wp2_with (fail)
        go_ret
        exact ⟨rfl, (Below.refl _ w).alloc (Nat.le_refl _) _⟩
      · obtain rfl : r = false := by rw [hr, decide_eq_false (by omega)]
        have e0 : (k == 0) = false := by simpa using s2
        clear hr a6 s2
        go_enter Tryd.func24, Tryd.ntmps24
        go_wp2_with (fail)
        go_ret
        exact ⟨rfl, (Below.refl _ w).alloc (Nat.le_refl _) _⟩
  · rw [if_neg k2] at hr
    have e2 : (kind == 2) = false := by simpa using k2
    have e2n : (kind != 2) = true := by simpa using k2
    by_cases s3 : slide = 0
    · subst s3
      rw [decide_eq_true rfl, Bool.true_and] at hr
      clear k2
      by_cases a6 : agg = 6
      · subst a6
        rw [if_pos rfl] at hr
        by_cases s0 : k < 1
        · obtain rfl : r = false := by rw [hr, decide_eq_false (by omega)]
          clear hr
          have d0 : decide ((1 : Int) ≤ k) = false := decide_eq_false (by omega)
          go_enter Tryd.func24, Tryd.ntmps24
          go_wp2_with (fail)
          go_ret
          exact ⟨rfl, (Below.refl _ w).alloc (Nat.le_refl _) _⟩
        have d0 : decide ((1 : Int) ≤ k) = true := decide_eq_true (by omega)
        by_cases s1 : 8 < k
        · obtain rfl : r = false := by rw [hr, decide_eq_false (by omega)]
          clear hr
          have d1 : decide (k ≤ (8 : Int)) = false := decide_eq_false (by omega)
          go_enter Tryd.func24, Tryd.ntmps24
          go_wp2_with (fail)
          go_ret
          exact ⟨rfl, (Below.refl _ w).alloc (Nat.le_refl _) _⟩
        · obtain rfl : r = true := by rw [hr, decide_eq_true (by omega)]
          clear hr
          have d1 : decide (k ≤ (8 : Int)) = true := decide_eq_true (by omega)
          go_enter Tryd.func24, Tryd.ntmps24
          go_wp2_with (fail)
          go_ret
          exact ⟨rfl, (Below.refl _ w).alloc (Nat.le_refl _) _⟩
      · rw [if_neg a6] at hr
        have e6 : (agg == 6) = false := by simpa using a6
        by_cases s2 : k = 0
        · subst s2
          obtain rfl : r = true := by rw [hr, decide_eq_true (by omega)]
          clear hr a6
          go_enter Tryd.func24, Tryd.ntmps24
          go_wp2_with (fail)
          go_ret
          exact ⟨rfl, (Below.refl _ w).alloc (Nat.le_refl _) _⟩
        · obtain rfl : r = false := by rw [hr, decide_eq_false (by omega)]
          have e0 : (k == 0) = false := by simpa using s2
          clear hr a6 s2
          go_enter Tryd.func24, Tryd.ntmps24
          go_wp2_with (fail)
          go_ret
          exact ⟨rfl, (Below.refl _ w).alloc (Nat.le_refl _) _⟩
    · obtain rfl : r = false := by rw [hr, decide_eq_false s3, Bool.false_and]
      have e3 : (slide == 0) = false := by simpa using s3
      have e3n : (slide != 0) = true := by simpa using s3
      clear hr k2 s3
      go_enter Tryd.func24, Tryd.ntmps24
      go_wp2_with (fail)
      go_ret
      exact ⟨rfl, (Below.refl _ w).alloc (Nat.le_refl _) _⟩
end Go.Proofs.YtkgmcjeficgciaaDoor
