/-
  Appends to lists of the call's own whose elements have several cells, and where the list lies behind it.
-/
import Derived.Test.YtdbgkbgodnknnaaEls
import Derived.Maps.AppendAt
import Derived.Deep.RegionHeld3
namespace Go.Proofs.Ytdbgkbgodnknnaa
open Go.RowKit
set_option linter.unusedVariables false
set_option linter.unusedSimpArgs false

end Go.Proofs.Ytdbgkbgodnknnaa
