/-
  What the document's own stamps (hourglassref6: Good, Cmp, Pack, Unpack, Max, Digits, Text) answer.
-/
import Derived.Test.YtdbgkbgodnknnaaStampPlain
import Derived.Test.YtdbgkbgodnknnaaRowBase
import Derived.Deep.RegionHeld3
namespace Go.Proofs.Ytdbgkbgodnknnaa
open Go.RowKit
set_option linter.unusedVariables false

end Go.Proofs.Ytdbgkbgodnknnaa
