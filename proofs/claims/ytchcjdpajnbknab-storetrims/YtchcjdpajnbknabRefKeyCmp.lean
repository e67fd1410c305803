/-
  The document's own order of keys (hourglassref10: Cmp).
-/
import Derived.Test.YtchcjdpajnbknabBase
import Derived.BigRegion
namespace Go.Proofs.Ytchcjdpajnbknab
open Go.RowKit
set_option linter.unusedVariables false

end Go.Proofs.Ytchcjdpajnbknab
