/-
  The document's own order of keys (hourglassref10: Cmp).
-/
import Derived.Test.YthgkbabikeknlaaBase
import Derived.BigRegion
namespace Go.Proofs.Ythgkbabikeknlaa
open Go.RowKit
set_option linter.unusedVariables false

end Go.Proofs.Ythgkbabikeknlaa
