/-
  What follows for chains: puts in any order, what a trim leaves to be seen, how many are behind a time.
-/
import Derived.Test.YtdbgkbgodnknnaaChainPlain
namespace Go.Proofs.Ytdbgkbgodnknnaa
set_option linter.unusedVariables false

/-! ### At -/
theorem at_one {L : List Ver} (h : One L) (t n : Int) : atV L zeroK t n = L.reverse.find? (fun X => decide (cmpS X.t X.n t n ≤ 0)) := by
  unfold atV
  rw [one_chain h]
/-! ### Trim -/
/-! ### Since -/
end Go.Proofs.Ytdbgkbgodnknnaa
