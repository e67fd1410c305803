/-
  The document's own routes: Split, Parts.
  The document's own routes: Cover.
-/
import Derived.Test.YtdbgkbgodnknnaaAu2
namespace Go.Proofs.Ytdbgkbgodnknnaa
open Go.RowKit
set_option linter.unusedVariables false
set_option linter.unusedSimpArgs false

end Go.Proofs.Ytdbgkbgodnknnaa

namespace Go.Proofs.Ytdbgkbgodnknnaa
open Go.RowKit
set_option linter.unusedVariables false
set_option linter.unusedSimpArgs false

end Go.Proofs.Ytdbgkbgodnknnaa

