/-
  What comes in by a row's reading: the library's table of powers; pairs of numbers.
-/
import Derived.Test.YtoelfjhejfgkiaaDoorGaussFirst
import Derived.Test.YtoelfjhejfgkiaaDoorRows
import Derived.Test.YtoelfjhejfgkiaaDoorCoreOpen
import Derived.ProofKit
import Derived.OpenShut
import Derived.ChangeOld
import Derived.LaidMore
import Derived.Lay
import Derived.Stop.Joined
import Derived.Stop.LaidErr
import Derived.Lib.LaidTab
import Derived.SizedLaws
import Derived.WideKeyPair
namespace Go.Proofs.YtoelfjhejfgkiaaDoor
open Go Go.ChangeShapes Go.WideShapes Go.ChangeAt Go.WideMaps Go.WideElems Go.RowKit

def laidG : List (String × DataW Unit) := Rows.gaussRingRow.laid
theorem tPow : (Tryd.prog.globals[4]?).map (·.type) = some 122 := by kernel_rfl
theorem cells64 : Tryd.prog.cellsOf 79 = 1 := by kernel_rfl
theorem cellsPow : Tryd.prog.cellsOf 122 = 20 := by kernel_rfl
theorem laidG_is : ∃ a b r, laidG = a :: b :: ("internal/strconv.uint64pow10", Lib.tabData .u64 Lib.pow10Tab) :: r := by
  have e : (Rows.laid_internal_strconv_uint64pow10 : DataW Unit) = Lib.tabData .u64 Lib.pow10Tab := by kernel_rfl
  unfold laidG Rows.gaussRingRow
  dsimp only
  rw [e]
  exact ⟨_, _, _, rfl⟩
theorem pow_of_laid {w : World} (h : laidMetH Tryd.prog laidG w) : PowTab w := by
  rw [MakeChecks.laidMetH_plain _ _ _ (by kernel_rfl)] at h
  obtain ⟨a, b, r, e⟩ := laidG_is
  rw [e] at h
  exact Lib.tabIs_of_head gPow tPow Tryd.underlying122 Tryd.underlying79 cells64 cellsPow h.tail.tail
theorem laid_met (os : Os) (args : Array Value) : laidMetH Tryd.prog laidG ((World.laidAll Tryd.prog os laidG).forCall (fun _ _ => 0) ⟨#[], args, []⟩).memory := by
  rw [MakeChecks.laidMetH_plain _ _ _ (by kernel_rfl)]
  exact laidMet_laidAll _ (by kernel_rfl) (by kernel_rfl)
theorem laid_shaped (os : Os) (args : Array Value) : ((World.laidAll Tryd.prog os laidG).forCall (fun _ _ => 0) ⟨#[], args, []⟩).Shaped Tryd.prog := World.shaped_of_ZipB (by kernel_rfl) (by kernel_rfl)
end Go.Proofs.YtoelfjhejfgkiaaDoor
