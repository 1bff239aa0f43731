/-
  Package wins's contracts, in one place; what its calls ask of a world.
-/
import Derived.Test.YtkgmcjeficgciaaDoorWinsCmp
import Derived.Test.YtkgmcjeficgciaaDoorWinsPut
import Derived.Test.YtkgmcjeficgciaaDoorWinsGetOwn
import Derived.Test.YtkgmcjeficgciaaDoorWinsParse
import Derived.Test.YtkgmcjeficgciaaDoorWinsOf
namespace Go.Proofs.YtkgmcjeficgciaaDoor
open Go Go.RowKit

/-- What the windows' calls ask of a world: the table of powers, the errors, the library's own limit. -/
def WinsIn (w : World) : Prop := PowTab w ∧ ErrsIn w ∧ MaxIn w
theorem WinsIn.below {w w' : World} (h : WinsIn w) (hB : Below w.heap.size w w') : WinsIn w' := ⟨h.1.below hB, h.2.1.below hB, h.2.2.below hB⟩
theorem wtext_any (w : World) (x : WindowL) (hl : x.key.length ≤ 1000000) (hI : WinsIn w) : Calls Tryd.prog 18 #[.agg x.cells] w (Below0 w (Sv x.told)) := wtextP_any w x hl hI.1
theorem wparse_any (w : World) (s : List (BitVec 8)) (hl : s.length ≤ 900) (hI : WinsIn w) : Calls Tryd.prog 27 #[Sv s] w (Below0 w (.tuple #[.agg (parseW s).1.cells, .bool (parseW s).2])) := wparseP_any w s hl hI
end Go.Proofs.YtkgmcjeficgciaaDoor
