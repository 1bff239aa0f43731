/-
  The contract of package event's number: a word's number, 0 where it is none.
-/
import Derived.Test.YtkgmcjeficgciaaDoorEventPure
import Derived.Test.YtkgmcjeficgciaaDoorRefPen
import Derived.Lib.AtoiAll
namespace Go.Proofs.YtkgmcjeficgciaaDoor
open Go Go.RowKit

/-- What lies below the program's first block: the errors' variables, as strconv's contracts ask for them. -/
def ErrsIn (w : World) : Prop := ∀ g : Nat, g = 2 ∨ g = 3 → ∃ ev, w.cell? ⟨g, 0, none⟩ = some ev ∧ (ev = .nilIface ∨ ∃ te pe, ev = .iface te pe)
/-- Bytes, as the library has them. -/
def lvB (l : List (BitVec 8)) : List UInt8 := l.map fun c => UInt8.ofNat c.toNat
theorem Sv_lv (l : List (BitVec 8)) : Sv l = .string ⟨(lvB l).toArray⟩ := by
  unfold Sv
  congr 1
  have : (strOf l).data = (lvB l).toArray := strOf_data l
  cases h : strOf l with
  | mk d =>
    rw [h] at this
    rw [← this]
def numL (l : List (BitVec 8)) : Int := match Lib.atoiAll (lvB l) with | .ok v => v | _ => 0
end Go.Proofs.YtkgmcjeficgciaaDoor
