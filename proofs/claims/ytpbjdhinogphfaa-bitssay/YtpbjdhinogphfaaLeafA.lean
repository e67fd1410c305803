/-
  What small functions of package bits answer, for every input: Zag, spare, Sign, Cut.
-/
import Derived.Test.YtpbjdhinogphfaaLeaf
namespace Go.Proofs.Ytpbjdhinogphfaa
open Go.RowKit
set_option linter.unusedVariables false

theorem zag_any (v : Int) (w : World) (h0 : 0 ≤ v) (h1 : v ≤ 18446744073709551615) :
    Calls Try.prog 13 #[.int .u64 v] w fun e w' => e = .returned (.int .i64 (Pl.zagI v)) ∧ w' = w := by
  go_enter Try.func13, Try.ntmps13
  go_wp2
  go_ret
  exact ⟨ret_int (Pl.zag_bits v h0 h1), rfl⟩
theorem spare_any (n : Int) (w : World) (h0 : -9223372036854775808 ≤ n) (h1 : n ≤ 9223372036854775807) :
    Calls Try.prog 24 #[.int .i64 n] w fun e w' => e = .returned (.int .u64 (Pl.spareI n)) ∧ w' = w := by
  by_cases h : 1 ≤ n
  · by_cases h' : n ≤ 64
    · have H : Hid (64 - n = Pl.spareI n) := Pl.spare_in n h h'
      go_enter Try.func24, Try.ntmps24
      go_wp2
      go_ret
      exact ⟨ret_int H.out, rfl⟩
    · have H : Hid (0 = Pl.spareI n) := Pl.spare_out n (by omega)
      go_enter Try.func24, Try.ntmps24
      go_wp2
      go_ret
      exact ⟨ret_int H.out, rfl⟩
  · have H : Hid (0 = Pl.spareI n) := Pl.spare_out n (by omega)
    go_enter Try.func24, Try.ntmps24
    go_wp2
    go_ret
    exact ⟨ret_int H.out, rfl⟩
theorem sign_any (v n : Int) (w : World) (h0 : 0 ≤ v) (h1 : v ≤ 18446744073709551615) (n0 : -9223372036854775808 ≤ n) (n1 : n ≤ 9223372036854775807) :
    Calls Try.prog 14 #[.int .u64 v, .int .i64 n] w fun e w' => e = .returned (.int .i64 (Pl.signI v n)) ∧ w' = w := by
  have hb := Pl.spare_bd n
  go_enter Try.func14, Try.ntmps14
  go_wp2_with (go_at_call 24; refine (spare_any _ _ n0 n1).mono ?_; rintro e w' ⟨rfl, rfl⟩)
  go_ret
  exact ⟨ret_int (Pl.sign_bits v n), rfl⟩
theorem cut_any (v n : Int) (w : World) (h0 : -9223372036854775808 ≤ v) (h1 : v ≤ 9223372036854775807) (n0 : -9223372036854775808 ≤ n) (n1 : n ≤ 9223372036854775807) :
    Calls Try.prog 11 #[.int .i64 v, .int .i64 n] w fun e w' => e = .returned (.tuple #[.int .u64 (Pl.lowI v n), .bool (Pl.signI v n == v)]) ∧ w' = w := by
  have hb := Pl.spare_bd n
  have hl := Pl.low_max v n
  have HL := Pl.low_bits v n
  have HS : Hid (Pl.signI (Pl.lowI v n) n = Pl.signI v n) := Pl.sign_low v n
  go_enter Try.func11, Try.ntmps11
  go_wp2_with (first | (go_at_call 24; refine (spare_any _ _ n0 n1).mono ?_; rintro e w' ⟨rfl, rfl⟩) | (go_at_call 14; refine (sign_any _ _ _ hl.1 hl.2 n0 n1).mono ?_; rintro e w' ⟨rfl, rfl⟩))
  go_ret2
  exact ⟨by rw [HS.out]; rfl, rfl⟩
end Go.Proofs.Ytpbjdhinogphfaa
