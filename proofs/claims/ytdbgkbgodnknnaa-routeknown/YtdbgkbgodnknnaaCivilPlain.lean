/-
  Plain facts on chapter 4's calendar: long years, months' lengths, a date's day; days are in the order of their dates.
-/
import Derived.Test.YtdbgkbgodnknnaaProg
namespace Go.Proofs.Ytdbgkbgodnknnaa
set_option linter.unusedVariables false

/-- A long year. -/
def lp (y : Int) : Bool := y % 4 == 0 && (y % 100 != 0 || y % 400 == 0)
/-- A month's days. -/
def ml (y m : Int) : Int := if m = 2 then (if lp y = true then 29 else 28) else if m = 4 ∨ m = 6 ∨ m = 9 ∨ m = 11 then 30 else if 1 ≤ m ∧ m ≤ 12 then 31 else 0
theorem ml_none {y m : Int} (h : m < 1 ∨ 12 < m) : ml y m = 0 := by
  unfold ml
  rw [if_neg (by omega), if_neg (by omega), if_neg (by omega)]
theorem ml_pos {y m : Int} (h1 : 1 ≤ m) (h2 : m ≤ 12) : 28 ≤ ml y m ∧ ml y m ≤ 31 := by
  unfold ml
  split
  · split <;> omega
  · split
    · omega
    · rw [if_pos ⟨h1, h2⟩]; omega
theorem ml_le (y m : Int) : 0 ≤ ml y m ∧ ml y m ≤ 31 := by
  by_cases h : 1 ≤ m ∧ m ≤ 12
  · have := ml_pos (y := y) h.1 h.2; omega
  · rw [ml_none (by omega)]; omega
theorem ml_month {y m : Int} (h : 1 ≤ ml y m) : 1 ≤ m ∧ m ≤ 12 := by
  apply Classical.byContradiction
  intro hn
  rw [ml_none (by omega)] at h
  omega
/-- A date. -/
abbrev Gd (y m d : Int) : Prop := -9999 ≤ y ∧ y ≤ 9999 ∧ 1 ≤ d ∧ d ≤ ml y m
theorem Gd.month {y m d : Int} (h : Gd y m d) : 1 ≤ m ∧ m ≤ 12 := ml_month (y := y) (by have := h.2.2; omega)
theorem Gd.day {y m d : Int} (h : Gd y m d) : 1 ≤ d ∧ d ≤ 31 := by have := ml_le y m; have := h.2.2; omega

/-- The days of a year ahead of a month. -/
def md (y m : Int) : Int := (367 * m - 362) / 12 - (if m ≤ 2 then 0 else if lp y = true then 1 else 2)
end Go.Proofs.Ytdbgkbgodnknnaa
