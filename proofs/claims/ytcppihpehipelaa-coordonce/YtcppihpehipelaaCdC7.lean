/-
  The landed coord: Play.
-/
import Derived.Test.YtcppihpehipelaaCdC6
namespace Go.Proofs.Ytcppihpehipelaa
open Go.RowKit
set_option linter.unusedVariables false
set_option linter.unusedSimpArgs false

end Go.Proofs.Ytcppihpehipelaa
