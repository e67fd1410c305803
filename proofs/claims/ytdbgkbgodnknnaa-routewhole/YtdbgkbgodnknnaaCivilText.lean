/-
  Plain facts on chapter 4's texts: a date's bytes, their order, and back.
-/
import Derived.Test.YtdbgkbgodnknnaaCivilPlain
import Derived.Laws.BytesArg
namespace Go.Proofs.Ytdbgkbgodnknnaa
set_option linter.unusedVariables false

def rest (xs : List Int) : List Int := if xs.head? = some 45 then xs.tail else xs
end Go.Proofs.Ytdbgkbgodnknnaa
