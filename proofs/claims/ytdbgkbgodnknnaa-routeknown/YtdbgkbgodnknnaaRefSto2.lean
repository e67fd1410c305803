/-
  What the document says of writes (hourglassref10: MayWrites).
-/
import Derived.Test.YtdbgkbgodnknnaaWrtMem
import Derived.Test.YtdbgkbgodnknnaaRefKey
namespace Go.Proofs.Ytdbgkbgodnknnaa
open Go.RowKit
set_option linter.unusedVariables false

/-- May a write be, by itself? -/
def fitW (W : Wrt) : Bool := goodK W.k && decide (W.v.length ≤ 200) && (!W.g || decide (W.v = []))
/-- What MayWrites' rounds hold of the first writes. -/
def Fits (l : List Wrt) (i : Nat) : Prop := (∀ W ∈ l.take i, fitW W = true) ∧ (l.take i).Pairwise (fun A B => A.k ≠ B.k)
theorem Fits.next {l : List Wrt} {i : Nat} {W : Wrt} (h : Fits l i) (hW : l[i]? = some W) (hf : fitW W = true) (hne : ∀ j A, j < i → l[j]? = some A → A.k ≠ W.k) : Fits l (i + 1) := by
  have e : l.take (i + 1) = l.take i ++ [W] := by rw [List.take_add_one, hW]; rfl
  unfold Fits
  rw [e]
  refine ⟨fun V hV => ?_, List.pairwise_append.2 ⟨h.2, by simp, fun A hA B hB => ?_⟩⟩
  · rcases List.mem_append.1 hV with x | x
    · exact h.1 V x
    · simp at x; rw [x]; exact hf
  · simp at hB
    subst hB
    obtain ⟨j, hj, rfl⟩ := List.mem_iff_getElem.1 hA
    rw [List.length_take] at hj
    rw [List.getElem_take]
    exact hne j _ (by omega) (List.getElem?_eq_getElem (by omega))
end Go.Proofs.Ytdbgkbgodnknnaa
