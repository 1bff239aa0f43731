/-
  The contract of package event's Text.
-/
import Derived.Test.YteoolfifpmbkeaaDoorEventName
import Derived.Test.YteoolfifpmbkeaaDoorLocal
namespace Go.Proofs.YteoolfifpmbkeaaDoor
open Go Go.RowKit

def ItemL.told (x : ItemL) : List (BitVec 8) := if x.rightB then x.text else []
theorem right_cases {kind : Int} {key : List (BitVec 8)} {time value : Int} (h : (ItemL.mk kind key time value).rightB = true) :
    (0 ≤ time ∧ time ≤ 1099511627776) ∧ ((kind = 2 ∧ key = [] ∧ value = 0) ∨ (kind = 1 ∧ nameB key = true ∧ 1 ≤ key.length ∧ key.length ≤ 16 ∧ -1099511627776 ≤ value ∧ value ≤ 1099511627776)) := by
  simp only [ItemL.rightB, Bool.and_eq_true, decide_eq_true_eq] at h
  refine ⟨h.1, ?_⟩
  have h2 := h.2
  split at h2
  · rename_i hk
    exact .inl ⟨hk, by simpa using h2⟩
  · simp only [Bool.and_eq_true, decide_eq_true_eq] at h2
    have hn := h2.1.2
    simp only [nameB, Bool.and_eq_true, decide_eq_true_eq] at hn
    exact .inr ⟨h2.1.1, h2.1.2, hn.2.1, hn.2.2, h2.2.1, h2.2.2⟩
end Go.Proofs.YteoolfifpmbkeaaDoor
