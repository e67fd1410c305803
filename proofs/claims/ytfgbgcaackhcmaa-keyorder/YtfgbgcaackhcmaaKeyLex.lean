/-
  Texts are compared by their bytes: as lists of numbers.
-/
import Derived.Test.YtfgbgcaackhcmaaKeyBase
namespace Go.Proofs.Ytfgbgcaackhcmaa
open Go.RowKit
set_option linter.unusedVariables false

theorem less_lexC (xs : List Int) : ∀ ys : List Int, (∀ z ∈ xs, 0 ≤ z ∧ z ≤ 255) → (∀ z ∈ ys, 0 ≤ z ∧ z ≤ 255) → Op.bytesLess (strOfNums xs).toList (strOfNums ys).toList = decide (lexC xs ys < 0) := by
  have e : ∀ zs : List Int, (strOfNums zs).toList = zs.map fun n => UInt8.ofNat n.toNat := fun zs => by rw [ByteArray.toList_eq]; exact strOfNums_data zs
  induction xs with
  | nil => intro ys _ _; rw [e, e]; cases ys <;> simp [Op.bytesLess, lexC]
  | cons x xs ih =>
    intro ys hx hy
    cases ys with
    | nil => rw [e, e]; simp [Op.bytesLess, lexC]
    | cons y ys =>
      have h := ih ys (fun z hz => hx z (by simp [hz])) (fun z hz => hy z (by simp [hz]))
      rw [e, e] at h
      rw [e, e]
      have bx := hx x (by simp)
      have b2 := hy y (by simp)
      have nx : x.toNat < 256 := by omega
      have ny : y.toNat < 256 := by omega
      have lt : (UInt8.ofNat x.toNat < UInt8.ofNat y.toNat) ↔ x < y := by
        rw [UInt8.lt_iff_toNat_lt]
        simp [Nat.mod_eq_of_lt nx, Nat.mod_eq_of_lt ny]
        omega
      have eq : (UInt8.ofNat x.toNat = UInt8.ofNat y.toNat) ↔ x = y := by
        rw [← UInt8.toNat_inj]
        simp [Nat.mod_eq_of_lt nx, Nat.mod_eq_of_lt ny]
        omega
      simp only [List.map_cons, Op.bytesLess]
      by_cases h1 : x < y
      · have el : lexC (x :: xs) (y :: ys) = -1 := by unfold lexC; rw [if_pos h1]
        rw [el]
        simp [lt.2 h1]
      · by_cases h2 : y < x
        · have hne : ¬ x = y := by omega
          have el : lexC (x :: xs) (y :: ys) = 1 := by unfold lexC; rw [if_neg h1, if_pos h2]
          rw [el]
          simp [lt, eq, h1, hne]
        · have he : x = y := by omega
          have el : lexC (x :: xs) (y :: ys) = lexC xs ys := by
            rw [lexC, if_neg h1, if_neg h2]
          rw [el, ← h]
          simp [he]
theorem text_lt {a b : ByteArray} {xs ys : List Int} (ha : a = strOfNums xs) (hb : b = strOfNums ys) (hx : ∀ z ∈ xs, 0 ≤ z ∧ z ≤ 255) (hy : ∀ z ∈ ys, 0 ≤ z ∧ z ≤ 255) : Op.bytesLess a.toList b.toList = decide (lexC xs ys < 0) := by
  rw [ha, hb]; exact less_lexC xs ys hx hy
theorem text_eq {a b : ByteArray} {xs ys : List Int} (ha : a = strOfNums xs) (hb : b = strOfNums ys) (hx : ∀ z ∈ xs, 0 ≤ z ∧ z ≤ 255) (hy : ∀ z ∈ ys, 0 ≤ z ∧ z ≤ 255) : (a.toList == b.toList) = decide (lexC xs ys = 0) := by
  rw [ha, hb, Bool.eq_iff_iff]
  simp only [beq_iff_eq, decide_eq_true_eq, lexC_zero]
  exact ⟨fun h => str_inj hx hy h, fun h => by rw [h]⟩
end Go.Proofs.Ytfgbgcaackhcmaa
