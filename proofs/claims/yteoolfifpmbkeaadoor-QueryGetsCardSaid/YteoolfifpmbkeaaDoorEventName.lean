/-
  The contracts of package event's sign, Name and Right.
-/
import Derived.Test.YteoolfifpmbkeaaDoorEventPure
import Derived.Test.YteoolfifpmbkeaaDoorRefPen
namespace Go.Proofs.YteoolfifpmbkeaaDoor
open Go Go.RowKit

def ENameRel (w : World) (s : List (BitVec 8)) (_i v : Value) (wr : World) : Prop := ∃ k : Nat, k ≤ s.length ∧ v = .int .i64 (k : Int) ∧ wr = w ∧ (s.take k).all (fun c => nameC c.toNat) = true
end Go.Proofs.YteoolfifpmbkeaaDoor
