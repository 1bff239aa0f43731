/-
  The contract of package event's number: a word's number, 0 where it is none.
-/
import Derived.Test.YtbfioekbahcicaaEventPure
import Derived.Test.YtbfioekbahcicaaRefPen
import Derived.Lib.AtoiAll
namespace Go.Proofs.Ytbfioekbahcicaa
open Go Go.RowKit

/-- Bytes, as the library has them. -/
def lvB (l : List (BitVec 8)) : List UInt8 := l.map fun c => UInt8.ofNat c.toNat
theorem Sv_lv (l : List (BitVec 8)) : Sv l = .string ⟨(lvB l).toArray⟩ := by
  unfold Sv
  congr 1
  have : (strOf l).data = (lvB l).toArray := strOf_data l
  cases h : strOf l with
  | mk d =>
    rw [h] at this
    rw [← this]
def numL (l : List (BitVec 8)) : Int := match Lib.atoiAll (lvB l) with | .ok v => v | _ => 0
end Go.Proofs.Ytbfioekbahcicaa
