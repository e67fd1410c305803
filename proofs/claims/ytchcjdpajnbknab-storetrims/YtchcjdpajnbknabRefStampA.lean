/-
  What the document's own stamps (hourglassref6: Good, Cmp, Pack, Unpack, Max, Digits, Text) answer.
-/
import Derived.Test.YtchcjdpajnbknabPa
import Derived.Test.YtchcjdpajnbknabBase
import Derived.Deep.RegionHeld3
namespace Go.Proofs.Ytchcjdpajnbknab
open Go.RowKit
set_option linter.unusedVariables false

end Go.Proofs.Ytchcjdpajnbknab
