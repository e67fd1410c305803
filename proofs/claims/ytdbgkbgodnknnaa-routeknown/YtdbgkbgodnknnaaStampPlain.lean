/-
  Plain facts on chapter 6: stamps, their order, the greater one, their texts.
-/
import Derived.Test.YtdbgkbgodnknnaaCivilBase
import Derived.Lib.ItoaMem
import Derived.Lib.ItoaLen
namespace Go.Proofs.Ytdbgkbgodnknnaa
open Go.RowKit
set_option linter.unusedVariables false

/-- May a stamp of this time be? -/
abbrev okS (t : Int) : Prop := 0 ≤ t ∧ t ≤ 36028797018963967
/-- One stamp ahead of another. -/
abbrev ltS (t n t' n' : Int) : Prop := t < t' ∨ t = t' ∧ n < n'
/-- How two stamps lie. -/
def cmpS (t n t' n' : Int) : Int := if ltS t n t' n' then -1 else if t = t' ∧ n = n' then 0 else 1
theorem cmp_lt {t n t' n' : Int} (h : ltS t n t' n') : cmpS t n t' n' = -1 := if_pos h
theorem cmp_eq (t n : Int) : cmpS t n t n = 0 := by
  unfold cmpS
  rw [if_neg (by unfold ltS; omega), if_pos ⟨rfl, rfl⟩]
theorem cmp_gt {t n t' n' : Int} (h : ltS t' n' t n) : cmpS t n t' n' = 1 := by
  unfold cmpS
  rw [if_neg (by unfold ltS at *; omega), if_neg (by unfold ltS at h; omega)]
theorem cmp_ways (t n t' n' : Int) : (ltS t n t' n' ∧ cmpS t n t' n' = -1 ∧ cmpS t' n' t n = 1) ∨ (t = t' ∧ n = n' ∧ cmpS t n t' n' = 0 ∧ cmpS t' n' t n = 0) ∨ (ltS t' n' t n ∧ cmpS t n t' n' = 1 ∧ cmpS t' n' t n = -1) := by
  by_cases h1 : ltS t n t' n'
  · exact .inl ⟨h1, cmp_lt h1, cmp_gt h1⟩
  · by_cases h2 : ltS t' n' t n
    · exact .inr (.inr ⟨h2, cmp_gt h2, cmp_lt h2⟩)
    · unfold ltS at h1 h2
      have e1 : t = t' := by omega
      have e2 : n = n' := by omega
      subst e1; subst e2
      exact .inr (.inl ⟨rfl, rfl, cmp_eq _ _, cmp_eq _ _⟩)
end Go.Proofs.Ytdbgkbgodnknnaa
