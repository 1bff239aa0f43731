/-
  The contracts of package query's windows, aggregate and Right.
-/
import Derived.Test.YtbfioekbahcicaaQueryPure
import Derived.Test.YtbfioekbahcicaaLocal
namespace Go.Proofs.Ytbfioekbahcicaa
open Go Go.RowKit

end Go.Proofs.Ytbfioekbahcicaa
