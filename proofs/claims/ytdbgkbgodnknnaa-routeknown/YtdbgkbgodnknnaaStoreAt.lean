/-
  What is seen of a key behind a put: at times ahead of it nothing has turned; just at it, it is seen. No program is named here.
-/
import Derived.Test.YtdbgkbgodnknnaaStoreFacts
namespace Go.Proofs.Ytdbgkbgodnknnaa
open Go.RowKit
set_option linter.unusedVariables false

/-- A write: its key, its value, whether it is gone. -/
structure Wrt where
  k : List Int
  v : List Int
  g : Bool
end Go.Proofs.Ytdbgkbgodnknnaa
