/-
  What the document's own stamps (hourglassref6: Good, Cmp, Pack, Unpack, Max, Digits, Text) answer.
-/
import Derived.Test.YtfaojmognbgnfabPa
import Derived.Test.YtfaojmognbgnfabBase
import Derived.Deep.RegionHeld3
namespace Go.Proofs.Ytfaojmognbgnfab
open Go.RowKit
set_option linter.unusedVariables false

end Go.Proofs.Ytfaojmognbgnfab
