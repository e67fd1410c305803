/-
  What small functions of package bits answer, for every input: Zig, goodEnd, Len.
-/
import Derived.Test.YtpbjdhinogphfaaProg
import Derived.Test.YtpbjdhinogphfaaPlain
import Derived.WalkKit
import Derived.WalkSpells
import Derived.WalkLawsBesides
namespace Go.Proofs.Ytpbjdhinogphfaa
open Go.RowKit
set_option linter.unusedVariables false

theorem ret_int {k : IntKind} {a b : Int} (h : a = b) : Ending.returned (.int k a) = .returned (.int k b) := by rw [h]

theorem zig_any (v : Int) (w : World) (h0 : -9223372036854775808 ≤ v) (h1 : v ≤ 9223372036854775807) :
    Calls Try.prog 12 #[.int .i64 v] w fun e w' => e = .returned (.int .u64 (Pl.zigI v)) ∧ w' = w := by
  go_enter Try.func12, Try.ntmps12
  go_wp2
  go_ret
  exact ⟨ret_int (Pl.zig_bits v h0 h1), rfl⟩
theorem good_any (c i : Int) (w : World) :
    Calls Try.prog 23 #[.int .u8 c, .int .i64 i] w fun e w' => e = .returned (.bool (Pl.goodB c i)) ∧ w' = w := by
  by_cases h0 : 0 < i
  · by_cases h1 : c = 0
    · have K : Hid (Pl.goodB c i = false) := by simp [Hid, Pl.goodB, h0, h1]
      have h2 : (c == 0) = true := by simp [h1]
      go_enter Try.func23, Try.ntmps23
      go_wp2
      go_ret
      exact ⟨by rw [K.out]; rfl, rfl⟩
    · have h2 : (c == 0) = false := by simp [h1]
      by_cases h3 : i < 9
      · have K : Hid (Pl.goodB c i = true) := by simp [Hid, Pl.goodB, h1, h3]
        go_enter Try.func23, Try.ntmps23
        go_wp2
        go_ret
        exact ⟨by rw [K.out]; rfl, rfl⟩
      · have K : Hid (Pl.goodB c i = (c == 1)) := by simp [Hid, Pl.goodB, h1, h3]
        have h4 : decide (i < 9) = false := by simpa using h3
        go_enter Try.func23, Try.ntmps23
        go_wp2
        go_ret
        exact ⟨by rw [K.out]; simp, rfl⟩
  · have K : Hid (Pl.goodB c i = true) := by have : i < 9 := by omega
                                             simp [Hid, Pl.goodB, h0, this]
    have h3 : i < 9 := by omega
    go_enter Try.func23, Try.ntmps23
    go_wp2
    go_ret
    exact ⟨by rw [K.out]; rfl, rfl⟩
theorem len_any (v : Int) (w : World) (h0 : 0 ≤ v) (h1 : v ≤ 18446744073709551615) :
    Calls Try.prog 15 #[.int .u64 v] w fun e w' => e = .returned (.int .i64 (Pl.putI v).length) ∧ w' = w := by
  have hl := Pl.put_length_le 9 v
  go_enter Try.func15, Try.ntmps15
  go_wp2
  go_loop [0, 3] (fun x n => ∃ (f : Nat) (X : Int) (k : Nat), x = .int .u64 X ∧ n = .int .i64 k ∧ Pl.Fits f X ∧ k + (Pl.putF f X).length = (Pl.putI v).length + 1) (fun x _ => (intOf x).toNat)
  case atStart => exact ⟨9, v, 1, rfl, rfl, Pl.fits_start v h0 h1, by unfold Pl.putI; omega⟩
  case round =>
    obtain ⟨f, X, k, rfl, rfl, hf, hk⟩ := hrel
    have hX : 0 ≤ X := hf.1
    have hp := Pl.put_length_pos f X
    have hl' : (Pl.putI v).length ≤ 10 := hl
    by_cases hlt : X < 128
    · have K : Hid ((Pl.putI v).length = k) := by rw [Pl.put_last hlt] at hk; simp at hk; exact hk.symm
      clear hk
      go_wp2
      go_ret
      exact ⟨by rw [K.out]; rfl, rfl⟩
    · cases f with
      | zero => exact absurd (Pl.fits_zero hf) hlt
      | succ f =>
        have K : Hid (k + 1 + (Pl.putF f (X / 128)).length = (Pl.putI v).length + 1) := by
          rw [Pl.put_more (by omega)] at hk; simp at hk; show _ = _; omega
        have F := Pl.fits_step hf
        have hkb : k ≤ 10 := by omega
        clear hk
        go_wp2
        go_round
        case rel => exact ⟨f, X / 128, k + 1, rfl, by go_num, F, K.out⟩
        case measure => simp [intOf]; omega
end Go.Proofs.Ytpbjdhinogphfaa
