/-
  The document's own order of keys (hourglassref10: Cmp).
-/
import Derived.Test.YtfaojmognbgnfabBase
import Derived.BigRegion
namespace Go.Proofs.Ytfaojmognbgnfab
open Go.RowKit
set_option linter.unusedVariables false

end Go.Proofs.Ytfaojmognbgnfab
