/-
  Writes, and lists of one to three writes, made of their parts.
-/
import Derived.Test.YtdbgkbgodnknnaaWrtMem
import Derived.Test.YtdbgkbgodnknnaaFill
namespace Go.Proofs.Ytdbgkbgodnknnaa
open Go.RowKit
set_option linter.unusedVariables false

end Go.Proofs.Ytdbgkbgodnknnaa
