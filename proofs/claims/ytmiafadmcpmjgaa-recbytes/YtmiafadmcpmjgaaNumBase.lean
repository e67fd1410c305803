/-
  Numbers in groups of seven bits: the steps of a walk that reads one.
-/
import Derived.Test.YtmiafadmcpmjgaaRowBase
import Derived.Test.YtmiafadmcpmjgaaPlain
namespace Go.Proofs.Ytmiafadmcpmjgaa
open Go.RowKit
set_option linter.unusedVariables false

theorem pow7 (k : Nat) (h : k ≤ 8) : (2 : Int) ^ (7 * k) ≤ 72057594037927936 := by
  have : 2 ^ (7 * k) ≤ 2 ^ 56 := Nat.pow_le_pow_right (by omega) (by omega)
  have e : ((2 ^ (7 * k) : Nat) : Int) = (2 : Int) ^ (7 * k) := by simp
  have : ((2 ^ (7 * k) : Nat) : Int) ≤ ((2 ^ 56 : Nat) : Int) := by exact_mod_cast this
  rw [e] at this
  exact this
theorem pow_succ7 (k : Nat) : (2 : Int) ^ (7 * (k + 1)) = 128 * 2 ^ (7 * k) := by
  rw [Nat.mul_succ, Int.pow_add, Int.mul_comm]; rfl
/-- A group below 128 laid above what has been read stays below the next group. -/
theorem group_lt (X c : Int) (k : Nat) (h1 : X < 2 ^ (7 * k)) (c1 : c ≤ 127) : X + c * 2 ^ (7 * k) < 2 ^ (7 * (k + 1)) := by
  have hp : (0 : Int) < 2 ^ (7 * k) := Int.pow_pos (by omega)
  have : c * 2 ^ (7 * k) ≤ 127 * 2 ^ (7 * k) := Int.mul_le_mul_of_nonneg_right c1 (by omega)
  rw [pow_succ7]; omega
theorem ret3 {a b c a' b' c' : Int} (h : (a, b, c) = (a', b', c')) : Ending.returned (.tuple #[.int .u64 a, .int .i64 b, .int .i64 c]) = .returned (.tuple #[.int .u64 a', .int .i64 b', .int .i64 c']) := by
  simp only [Prod.mk.injEq] at h
  obtain ⟨rfl, rfl, rfl⟩ := h; rfl
theorem step_bad {g : Int × Int × Int} {zs r : List Int} {k : Nat} {X c : Int} (hd : g = Pl.getF (10 - k) X k zs) (hz : zs = c :: r) (hf : 10 - k = 9 - k + 1) (hc : c < 128) (hb : (!Pl.goodB c k) = true) : g = (0, 0, 3) := by
  rw [hd, hz, hf, Pl.get_bad hc (by simpa using hb)]
theorem step_good {g : Int × Int × Int} {zs r : List Int} {k : Nat} {X c : Int} (hd : g = Pl.getF (10 - k) X k zs) (hz : zs = c :: r) (hf : 10 - k = 9 - k + 1) (hX : k ≤ 9 → 0 ≤ X ∧ X < 2 ^ (7 * k)) (h10 : k < 10) (c0 : 0 ≤ c) (hc : c < 128) (hb : Pl.goodB c k = true) :
    g = (bits .or .u64 X (IntKind.u64.wrap (c % 128 * 2 ^ (7 * k))), (k : Int) + 1, 0) := by
  rw [hd, hz, hf, Pl.get_end hc hb]
  obtain ⟨x0, x1⟩ := hX (by omega)
  have e : c % 128 = c := by omega
  have hlt : X + c * 2 ^ (7 * k) < 18446744073709551616 := by
    by_cases h9 : k = 9
    · subst h9
      have : c = 1 := by unfold Pl.goodB at hb; simp at hb; exact hb.2
      subst this
      have e9 : (2 : Int) ^ (7 * 9) = 9223372036854775808 := by decide
      rw [e9] at x1 ⊢; omega
    · have h1 := group_lt X c k x1 (by omega)
      have h2 := pow7 k (by omega)
      rw [pow_succ7] at h1
      omega
  rw [e, Pl.or_group X c k x0 x1 c0 hlt]
theorem step_more {g : Int × Int × Int} {zs r : List Int} {k : Nat} {X c : Int} (hd : g = Pl.getF (10 - k) X k zs) (hz : zs = c :: r) (hf : 10 - k = 9 - k + 1) (hX : k ≤ 9 → 0 ≤ X ∧ X < 2 ^ (7 * k)) (h10 : k < 10) (c0 : 0 ≤ c) (c1 : c ≤ 255) (hc : 128 ≤ c) :
    (k + 1 ≤ 9 → 0 ≤ bits .or .u64 X (IntKind.u64.wrap (c % 128 * 2 ^ (7 * k))) ∧ bits .or .u64 X (IntKind.u64.wrap (c % 128 * 2 ^ (7 * k))) < 2 ^ (7 * (k + 1))) ∧
    g = Pl.getF (10 - (k + 1)) (bits .or .u64 X (IntKind.u64.wrap (c % 128 * 2 ^ (7 * k)))) (k + 1) r := by
  obtain ⟨x0, x1⟩ := hX (by omega)
  have e : 10 - (k + 1) = 9 - k := by omega
  rw [hd, hz, hf, Pl.get_more hc, e]
  by_cases h9 : k = 9
  · subst h9; exact ⟨fun h => by omega, rfl⟩
  · have h1 := group_lt X (c % 128) k x1 (by omega)
    have h2 := pow7 k (by omega)
    have hp : (0 : Int) < 2 ^ (7 * k) := Int.pow_pos (by omega)
    have hm : 0 ≤ c % 128 * 2 ^ (7 * k) := Int.mul_nonneg (by omega) (by omega)
    have h3 := h1
    rw [pow_succ7] at h3
    rw [Pl.or_group X (c % 128) k x0 x1 (by omega) (by omega)]
    exact ⟨fun _ => ⟨by omega, h1⟩, rfl⟩
theorem step_out {g : Int × Int × Int} {zs : List Int} {k len : Nat} {X : Int} (hd : g = Pl.getF (10 - k) X k (zs.drop k)) (hl : len = zs.length) (h : ¬ (k < len ∧ k < 10)) : g = (0, 0, 3) := by
  rw [hd]
  by_cases h10 : k < 10
  · rw [List.drop_eq_nil_of_le (by omega), Pl.get_nil]
  · have : 10 - k = 0 := by omega
    rw [this, Pl.get_none]
theorem get_casesF (f : Nat) : ∀ (X : Int) (k : Nat) (zs : List Int), Pl.getF f X k zs = (0, 0, 3) ∨ ∃ V N, Pl.getF f X k zs = (V, N, 0) ∧ 1 ≤ N := by
  induction f with
  | zero => intro X k zs; exact .inl rfl
  | succ f ih =>
    intro X k zs
    cases zs with
    | nil => exact .inl rfl
    | cons c r =>
      by_cases hc : c < 128
      · by_cases hg : Pl.goodB c k = true
        · exact .inr ⟨_, _, Pl.get_end hc hg, by omega⟩
        · exact .inl (Pl.get_bad hc (by simpa using hg))
      · rw [Pl.get_more (by omega)]
        exact ih _ _ _
theorem get_cases (zs : List Int) : Pl.getI zs = (0, 0, 3) ∨ ∃ V N, Pl.getI zs = (V, N, 0) ∧ 1 ≤ N := get_casesF 10 0 0 zs
end Go.Proofs.Ytmiafadmcpmjgaa
