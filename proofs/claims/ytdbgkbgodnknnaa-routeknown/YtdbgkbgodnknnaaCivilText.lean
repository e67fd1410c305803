/-
  Plain facts on chapter 4's texts: a date's bytes, their order, and back.
-/
import Derived.Test.YtdbgkbgodnknnaaCivilPlain
import Derived.Laws.BytesArg
namespace Go.Proofs.Ytdbgkbgodnknnaa
set_option linter.unusedVariables false

/-- So many digits of a number. -/
def pd : Nat → Int → List Int
  | 0, _ => []
  | k + 1, n => pd k (n / 10) ++ [48 + n % 10]
/-- The year's digits. -/
def ab (y : Int) : Int := if y < 0 then -y else y
/-- What stands behind the sign. -/
def body (y m d : Int) : List Int := pd 4 (ab y) ++ (45 :: (pd 2 m ++ (45 :: pd 2 d)))
theorem Gd.ab {y m d : Int} (h : Gd y m d) : 0 ≤ ab y ∧ ab y ≤ 9999 := by
  have := h.1; have := h.2.1
  unfold Go.Proofs.Ytdbgkbgodnknnaa.ab; split <;> omega
def rest (xs : List Int) : List Int := if xs.head? = some 45 then xs.tail else xs
end Go.Proofs.Ytdbgkbgodnknnaa
