/-
  Plain facts on chapter 6: stamps, their order, the greater one, their texts.
-/
import Derived.Test.YtchcjdpajnbknabCiv
import Derived.Lib.ItoaMem
import Derived.Lib.ItoaLen
namespace Go.Proofs.Ytchcjdpajnbknab
open Go.RowKit
set_option linter.unusedVariables false

/-- May a stamp of this time be? -/
abbrev okS (t : Int) : Prop := 0 ≤ t ∧ t ≤ 36028797018963967
/-- One stamp ahead of another. -/
abbrev ltS (t n t' n' : Int) : Prop := t < t' ∨ t = t' ∧ n < n'
/-- How two stamps lie. -/
def cmpS (t n t' n' : Int) : Int := if ltS t n t' n' then -1 else if t = t' ∧ n = n' then 0 else 1
theorem cmp_lt {t n t' n' : Int} (h : ltS t n t' n') : cmpS t n t' n' = -1 := if_pos h
theorem cmp_eq (t n : Int) : cmpS t n t n = 0 := by
  unfold cmpS
  rw [if_neg (by unfold ltS; omega), if_pos ⟨rfl, rfl⟩]
theorem cmp_gt {t n t' n' : Int} (h : ltS t' n' t n) : cmpS t n t' n' = 1 := by
  unfold cmpS
  rw [if_neg (by unfold ltS at *; omega), if_neg (by unfold ltS at h; omega)]
theorem cmp_ways (t n t' n' : Int) : (ltS t n t' n' ∧ cmpS t n t' n' = -1 ∧ cmpS t' n' t n = 1) ∨ (t = t' ∧ n = n' ∧ cmpS t n t' n' = 0 ∧ cmpS t' n' t n = 0) ∨ (ltS t' n' t n ∧ cmpS t n t' n' = 1 ∧ cmpS t' n' t n = -1) := by
  by_cases h1 : ltS t n t' n'
  · exact .inl ⟨h1, cmp_lt h1, cmp_gt h1⟩
  · by_cases h2 : ltS t' n' t n
    · exact .inr (.inr ⟨h2, cmp_gt h2, cmp_lt h2⟩)
    · unfold ltS at h1 h2
      have e1 : t = t' := by omega
      have e2 : n = n' := by omega
      subst e1; subst e2
      exact .inr (.inl ⟨rfl, rfl, cmp_eq _ _, cmp_eq _ _⟩)
/-- The greater one. -/
def mxS (t n t' n' : Int) : Int × Int := if ltS t n t' n' then (t', n') else (t, n)
/-- A stamp's text. -/
def tx6 (t n : Int) : ByteArray := ⟨(Lib.itoa t ++ 46 :: Lib.itoa n).toArray⟩
theorem tx6_sum (t n : Int) : (⟨(Lib.itoa t).toArray⟩ ++ ⟨#[46]⟩ ++ ⟨(Lib.itoa n).toArray⟩ : ByteArray) = tx6 t n := by
  apply ByteArray.ext
  simp [tx6]
theorem dec_step {u : Nat} (h : 10 ≤ u) : Lib.decDigits u = Lib.decDigits (u / 10) ++ [UInt8.ofNat (48 + u % 10)] := by
  rw [Lib.decDigits, dif_neg (by omega)]
theorem dec_one {u : Nat} (h : u < 10) : Lib.decDigits u = [UInt8.ofNat (48 + u)] := by
  rw [Lib.decDigits, dif_pos h]
theorem itoa_least : (⟨(Lib.itoa (-9223372036854775808)).toArray⟩ : ByteArray) = ⟨#[45, 57, 50, 50, 51, 51, 55, 50, 48, 51, 54, 56, 53, 52, 55, 55, 53, 56, 48, 56]⟩ := by
  have e : (-9223372036854775808 : Int) = -((9223372036854775808 : Nat) : Int) := by omega
  rw [e, Lib.itoa_neg _ (by omega)]
  simp [Lib.decDigits]
theorem itoa_size (n : Int) (h0 : -9223372036854775808 ≤ n) (h1 : n ≤ 9223372036854775807) : (⟨(Lib.itoa n).toArray⟩ : ByteArray).size ≤ 21 := Lib.itoa_length_le n h0 h1
theorem dec_size (u : Nat) (h : u ≤ 9223372036854775807) : (⟨(Lib.decDigits u).toArray⟩ : ByteArray).size ≤ 21 := by
  have := itoa_size u (by omega) (by omega)
  rw [Lib.itoa_nonneg] at this
  exact this
end Go.Proofs.Ytchcjdpajnbknab
