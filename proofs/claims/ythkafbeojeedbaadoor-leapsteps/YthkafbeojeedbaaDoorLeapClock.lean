/-
  Plain facts on chapter 5's clock texts, and on the table of the statements' own first question.
-/
import Derived.Test.YthkafbeojeedbaaDoorLeapText
namespace Go.Proofs.YthkafbeojeedbaaDoor
set_option linter.unusedVariables false

/-- A second's hour, minute and second. -/
def hh (s : Int) : Int := if s = 86400 then 23 else s / 3600
def mi (s : Int) : Int := if s = 86400 then 59 else s / 60 % 60
def ss (s : Int) : Int := if s = 86400 then 60 else s % 60
/-- A date's and a second's text. -/
def ckt (y m d s : Int) : List Int := txt y m d ++ 84 :: (pd 2 (hh s) ++ 58 :: (pd 2 (mi s) ++ 58 :: (pd 2 (ss s) ++ [90])))
/-- What a table's text is, line by line. -/
theorem parse_lines {xs : List Int} {ls : List (List Int)} (h : linesOf xs = (ls, [])) (h0 : ls ≠ []) (h1 : ls.length ≤ 60) : parseTb xs = goN [] ls := by
  unfold parseTb cnt
  rw [h]
  simp [h0, h1]
/-- "2016-07-01 36", "2017-01-01 37", a byte 10 behind each. -/
def someT : List Int := [50, 48, 49, 54, 45, 48, 55, 45, 48, 49, 32, 51, 54, 10, 50, 48, 49, 55, 45, 48, 49, 45, 48, 49, 32, 51, 55, 10]
theorem some_lines : linesOf someT = ([txt 2016 7 1 ++ 32 :: ot 36, txt 2017 1 1 ++ 32 :: ot 37], []) := by decide
theorem some_parse : parseTb someT = some [(16983, 36), (17167, 37)] := by
  rw [parse_lines some_lines (by simp) (by simp)]
  have e1 : plN (txt 2016 7 1 ++ 32 :: ot 36) = some (16983, 36) := by rw [pl_line (by decide) (by decide)]; exact congrArg (fun z => some (z, 36)) (by decide)
  have e2 : plN (txt 2017 1 1 ++ 32 :: ot 37) = some (17167, 37) := by rw [pl_line (by decide) (by decide)]; exact congrArg (fun z => some (z, 37)) (by decide)
  rw [goN_cons (acc := []) e1 (fits_none _), List.nil_append]
  unfold goN
  rw [e2]
  simp [Fits, goN]
end Go.Proofs.YthkafbeojeedbaaDoor
