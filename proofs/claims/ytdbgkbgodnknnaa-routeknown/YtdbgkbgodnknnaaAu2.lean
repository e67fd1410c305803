/-
  The document's own routes: NewRoute, Of.
  The document's own routes: Split, Parts.
  The document's own routes: Cover.
-/
import Derived.Test.YtdbgkbgodnknnaaRouC6
namespace Go.Proofs.Ytdbgkbgodnknnaa
open Go.RowKit
set_option linter.unusedVariables false
set_option linter.unusedSimpArgs false

/-- What a walk over points knows: all up to here may be, and rise. -/
structure RisR (w u : World) (P : List (List Int)) (n : Nat) : Prop where
  below : Below w.heap.size w u
  good : ∀ j, j < n → goodK (P.getD j []) = true
  rise : ∀ j, j + 1 < n → lexC (P.getD j []) (P.getD (j + 1) []) < 0
theorem RisR.may {w u : World} {P : List (List Int)} {n : Nat} (h : RisR w u P n) (hn : n = P.length) (h7 : P.length ≤ 7) : mayR P = true := by
  unfold mayR
  rw [decide_eq_true h7, Bool.true_and, Bool.and_eq_true]
  refine ⟨List.all_eq_true.2 (fun x hx => ?_), decide_eq_true (fun j hj => h.rise j (by omega))⟩
  obtain ⟨j, hj⟩ := List.mem_iff_getElem?.1 hx
  have := h.good j (by rw [hn]; exact lt_of_get hj)
  rwa [getD_of hj] at this
end Go.Proofs.Ytdbgkbgodnknnaa

namespace Go.Proofs.Ytdbgkbgodnknnaa
open Go.RowKit
set_option linter.unusedVariables false
set_option linter.unusedSimpArgs false

end Go.Proofs.Ytdbgkbgodnknnaa

namespace Go.Proofs.Ytdbgkbgodnknnaa
open Go.RowKit
set_option linter.unusedVariables false
set_option linter.unusedSimpArgs false

end Go.Proofs.Ytdbgkbgodnknnaa

