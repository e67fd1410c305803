/-
  The document's own routes: Split, Parts.
-/
import Derived.Test.YtdbgkbgodnknnaaRefRou1
namespace Go.Proofs.Ytdbgkbgodnknnaa
open Go.RowKit
set_option linter.unusedVariables false
set_option linter.unusedSimpArgs false

end Go.Proofs.Ytdbgkbgodnknnaa
