/-
  The document's own order of keys (hourglassref10: Cmp).
-/
import Derived.Test.YtdbgkbgodnknnaaKeyMem
import Derived.BigRegion
namespace Go.Proofs.Ytdbgkbgodnknnaa
open Go.RowKit
set_option linter.unusedVariables false

end Go.Proofs.Ytdbgkbgodnknnaa
