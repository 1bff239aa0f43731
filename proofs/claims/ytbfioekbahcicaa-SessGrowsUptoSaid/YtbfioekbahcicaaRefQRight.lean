/-
  The contract of the reference's Right: a query.
-/
import Derived.Test.YtbfioekbahcicaaQueryPure
import Derived.Test.YtbfioekbahcicaaLocal
namespace Go.Proofs.Ytbfioekbahcicaa
open Go Go.RowKit

theorem rightB_no {kind size slide late agg k : Int} (h : kind < 1 ∨ 3 < kind ∨ size < 1 ∨ 1073741824 < size ∨ late < 0 ∨ 1073741824 < late ∨ agg < 1 ∨ 7 < agg) : (QueryL.mk kind size slide late agg k).rightB = false := by
  cases hr : (QueryL.mk kind size slide late agg k).rightB with
  | false => rfl
  | true =>
    obtain ⟨h1, h2, h3, _, _, h6, _, _⟩ := rightQ_cases hr
    simp only at h1 h2 h3 h6
    omega
theorem rightB_in {kind size slide late agg k : Int} (h : 1 ≤ kind ∧ kind ≤ 3 ∧ 1 ≤ size ∧ size ≤ 1073741824 ∧ 0 ≤ late ∧ late ≤ 1073741824 ∧ 1 ≤ agg ∧ agg ≤ 7) :
    (QueryL.mk kind size slide late agg k).rightB = ((if kind = 2 then decide (1 ≤ slide ∧ slide ≤ size ∧ size ≤ 16 * slide) else decide (slide = 0)) && (if agg = 6 then decide (1 ≤ k ∧ k ≤ 8) else decide (k = 0))) := by
  unfold QueryL.rightB QueryL.winB QueryL.aggB
  simp only
  rw [decide_eq_true (show 1 ≤ size ∧ size ≤ 1073741824 by omega), decide_eq_true (show 0 ≤ late ∧ late ≤ 1073741824 by omega), Bool.true_and, Bool.and_true]
  congr 1
  · split
    · rfl
    · exact decide_eq_decide.2 ⟨fun h => h.2, fun h => ⟨by omega, h⟩⟩
  · split
    · rfl
    · exact decide_eq_decide.2 ⟨fun h => h.2.2, fun h => ⟨by omega, by omega, h⟩⟩
end Go.Proofs.Ytbfioekbahcicaa
