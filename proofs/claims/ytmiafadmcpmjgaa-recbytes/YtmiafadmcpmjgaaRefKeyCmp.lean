/-
  The document's own order of keys (hourglassref10: Cmp).
-/
import Derived.Test.YtmiafadmcpmjgaaKb
import Derived.BigRegion
namespace Go.Proofs.Ytmiafadmcpmjgaa
open Go.RowKit
set_option linter.unusedVariables false

end Go.Proofs.Ytmiafadmcpmjgaa
