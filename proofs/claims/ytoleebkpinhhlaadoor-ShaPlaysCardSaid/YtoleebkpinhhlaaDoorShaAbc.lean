/-
  The sum of abc, by the kernel.
-/
import Derived.Test.YtoleebkpinhhlaaDoorShaSum
import Derived.KernelRfl
namespace Go.Proofs.YtoleebkpinhhlaaDoor
open Go.RowKit

def abc : List (BitVec 8) := [97, 98, 99]
theorem abc_b0 : byteAt (shaSt abc) 0 = 0xba := by kernel_rfl
theorem abc_b31 : byteAt (shaSt abc) 31 = 0xad := by kernel_rfl
end Go.Proofs.YtoleebkpinhhlaaDoor
