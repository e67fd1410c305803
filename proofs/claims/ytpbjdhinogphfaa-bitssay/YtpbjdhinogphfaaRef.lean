/-
  What the document's own Zig, Zag, Sign and Cut answer, for every input: the same numbers.
-/
import Derived.Test.YtpbjdhinogphfaaLeafA
namespace Go.Proofs.Ytpbjdhinogphfaa
open Go.RowKit
set_option linter.unusedVariables false

theorem rzig_any (v : Int) (w : World) (h0 : -9223372036854775808 ≤ v) (h1 : v ≤ 9223372036854775807) :
    Calls Try.prog 19 #[.int .i64 v] w fun e w' => e = .returned (.int .u64 (Pl.zigI v)) ∧ w' = w := by
  by_cases h : 0 ≤ v
  · have H : Hid (Pl.zigI v = 2 * v) := by show _ = _; unfold Pl.zigI; rw [if_pos h]
    go_enter Try.func19, Try.ntmps19
    go_wp2
    go_ret
    exact ⟨ret_int H.out.symm, rfl⟩
  · have H : Hid (Pl.zigI v = 2 * -(v + 1) + 1) := by show _ = _; unfold Pl.zigI; rw [if_neg h]; omega
    go_enter Try.func19, Try.ntmps19
    go_wp2
    go_ret
    exact ⟨ret_int H.out.symm, rfl⟩
theorem rzag_any (v : Int) (w : World) (h0 : 0 ≤ v) (h1 : v ≤ 18446744073709551615) :
    Calls Try.prog 20 #[.int .u64 v] w fun e w' => e = .returned (.int .i64 (Pl.zagI v)) ∧ w' = w := by
  by_cases h : v % 2 = 0
  · have H : Hid (Pl.zagI v = v / 2) := by show _ = _; unfold Pl.zagI; rw [if_pos h]
    have h2 : (v % 2 == 0) = true := by simp [h]
    clear h
    go_enter Try.func20, Try.ntmps20
    go_wp2
    go_ret
    exact ⟨ret_int H.out.symm, rfl⟩
  · have H : Hid (Pl.zagI v = -(v / 2) - 1) := by show _ = _; unfold Pl.zagI; rw [if_neg h]
    have h2 : (v % 2 == 0) = false := by simp [h]
    clear h
    go_enter Try.func20, Try.ntmps20
    go_wp2
    go_ret
    exact ⟨ret_int H.out.symm, rfl⟩
/-- How many bits are meant. -/
def widthI (n : Int) : Int := 64 - Pl.spareI n
theorem width_bd (n : Int) : 1 ≤ widthI n ∧ widthI n ≤ 64 := by unfold widthI; have := Pl.spare_bd n; omega
theorem width_any (n : Int) (w : World) (h0 : -9223372036854775808 ≤ n) (h1 : n ≤ 9223372036854775807) :
    Calls Try.prog 26 #[.int .i64 n] w fun e w' => e = .returned (.int .i64 (widthI n)) ∧ w' = w := by
  by_cases h : 1 ≤ n
  · by_cases h' : n ≤ 64
    · have H : Hid (n = widthI n) := by show _ = _; unfold widthI; have := Pl.spare_in n h h'; omega
      go_enter Try.func26, Try.ntmps26
      go_wp2
      go_ret
      exact ⟨ret_int H.out, rfl⟩
    · have H : Hid (64 = widthI n) := by show _ = _; unfold widthI; have := Pl.spare_out n (by omega); omega
      go_enter Try.func26, Try.ntmps26
      go_wp2
      go_ret
      exact ⟨ret_int H.out, rfl⟩
  · have H : Hid (64 = widthI n) := by show _ = _; unfold widthI; have := Pl.spare_out n (by omega); omega
    go_enter Try.func26, Try.ntmps26
    go_wp2
    go_ret
    exact ⟨ret_int H.out, rfl⟩
theorem low_any (v m : Int) (w : World) (h0 : 0 ≤ v) (h1 : v ≤ 18446744073709551615) (m0 : 1 ≤ m) (m1 : m ≤ 64) :
    Calls Try.prog 25 #[.int .u64 v, .int .i64 m] w fun e w' => e = .returned (.int .u64 (v % 2 ^ m.toNat)) ∧ w' = w := by
  by_cases h : m = 64
  · subst h
    have H : Hid (v = v % 2 ^ (64 : Int).toNat) := by show _ = _; have e : (2 : Int) ^ (64 : Int).toNat = 18446744073709551616 := by decide
                                                      rw [e]; omega
    go_enter Try.func25, Try.ntmps25
    go_wp2
    go_ret
    exact ⟨ret_int H.out, rfl⟩
  · have hb : (m == 64) = false := by simp [h]
    have hm : m ≤ 63 := by omega
    have hp : (0 : Int) < 2 ^ m.toNat := Int.pow_pos (by omega)
    have hw := Pl.whole_wrap m m0 hm
    have hq : Hid (Pl.qI m = 2 ^ m.toNat) := Pl.whole_in m m0 hm
    have hqp : 0 < Pl.qI m := by rw [hq.out]; exact hp
    have hne : (Pl.qI m == 0) = false := beq_eq_false_iff_ne.2 (by omega)
    clear h hp
    go_enter Try.func25, Try.ntmps25
    go_wp2
    go_ret
    exact ⟨ret_int (by rw [hq.out]), rfl⟩
theorem width_q (n : Int) : (2 : Int) ^ (widthI n).toNat = Pl.qI n := rfl
theorem width_h (n : Int) (h : widthI n ≤ 63) : Pl.hI (widthI n) = Pl.hI n ∧ Pl.qI (widthI n) = Pl.qI n := by
  have hw := width_bd n
  have e : Pl.spareI (widthI n) = Pl.spareI n := by
    have := Pl.spare_in (widthI n) hw.1 hw.2
    unfold widthI at this ⊢; omega
  unfold Pl.hI Pl.qI
  rw [e]; exact ⟨rfl, rfl⟩
theorem rsign_any (v n : Int) (w : World) (h0 : 0 ≤ v) (h1 : v ≤ 18446744073709551615) (n0 : -9223372036854775808 ≤ n) (n1 : n ≤ 9223372036854775807) :
    Calls Try.prog 21 #[.int .u64 v, .int .i64 n] w fun e w' => e = .returned (.int .i64 (Pl.signI v n)) ∧ w' = w := by
  have hwb := width_bd n
  have HW : Hid (∀ w, Calls Try.prog 26 #[.int .i64 n] w fun e w' => e = .returned (.int .i64 (widthI n)) ∧ w' = w) := fun w => width_any n w n0 n1
  have HLo : Hid (∀ w, Calls Try.prog 25 #[.int .u64 v, .int .i64 (widthI n)] w fun e w' => e = .returned (.int .u64 (Pl.lowI v n)) ∧ w' = w) := fun w => low_any v (widthI n) w h0 h1 hwb.1 hwb.2
  have hl := Pl.low_bd v n
  have hmx := Pl.low_max v n
  have HSL : Hid (Pl.signI (Pl.lowI v n) n = Pl.signI v n) := Pl.sign_low v n
  have hwh := width_h n
  by_cases hm : widthI n = 64
  · have HS : Hid (wrap64 (Pl.lowI v n) = Pl.signI v n) := by
      have hsp : Pl.spareI n = 0 := by unfold widthI at hm; omega
      show _ = _
      rw [← HSL.out]
      unfold Pl.signI Pl.hI Pl.qI
      rw [hsp]
      unfold wrap64
      have e1 : (2 : Int) ^ (63 - (0 : Int)).toNat = 9223372036854775808 := by decide
      have e2 : (2 : Int) ^ (64 - (0 : Int)).toNat = 18446744073709551616 := by decide
      rw [e1, e2]
    clear hwh hl HSL
    generalize widthI n = m at *
    generalize Pl.lowI v n = R at *
    subst hm
    go_enter Try.func21, Try.ntmps21
    go_wp2_with (first | (go_at_call 26; refine (HW.out _).mono ?_; rintro e w2 ⟨rfl, hw⟩; obtain rfl := hw.symm; clear hw) | (go_at_call 25; refine (HLo.out _).mono ?_; rintro e w2 ⟨rfl, hw⟩; obtain rfl := hw.symm; clear hw))
    go_ret
    exact ⟨ret_int HS.out, rfl⟩
  · have hm63 : widthI n ≤ 63 := by omega
    obtain ⟨eh, eq⟩ := hwh hm63
    have hh := Pl.half_wrap (widthI n) hwb.1 hm63
    have hhb := Pl.h_le (widthI n) hwb.1 hm63
    have hpw : Hid (Pl.hI (widthI n) = 2 ^ (widthI n - 1).toNat) := Pl.half_in (widthI n) hwb.1 hm63
    have hqh := Pl.q_h n
    rw [eh] at hh hhb hpw
    clear eh eq hwh
    have hlt : Pl.lowI v n < 2 * Pl.hI n := by omega
    by_cases hge : Pl.hI n ≤ Pl.lowI v n
    · have HS : Hid (Pl.lowI v n - Pl.hI n - Pl.hI n = Pl.signI v n) := by
        show _ = _
        rw [← HSL.out]
        unfold Pl.signI
        have e : Pl.lowI v n + Pl.hI n = (Pl.lowI v n - Pl.hI n) + 2 * Pl.hI n := by omega
        rw [hqh, e, Int.add_emod_right, Int.emod_eq_of_lt (by omega) (by omega)]
      have HD : Hid (Pl.lowI v n / Pl.hI n = 1) := by
        show _ = _
        have : Pl.lowI v n = (Pl.lowI v n - Pl.hI n) + 1 * Pl.hI n := by omega
        rw [this, Int.add_mul_ediv_right _ _ (by omega), Int.ediv_eq_zero_of_lt (by omega) (by omega)]; rfl
      have hd : (Pl.lowI v n / 2 ^ ((widthI n).toNat - 1) == 1) = true := by
        have e : (widthI n).toNat - 1 = (widthI n - 1).toNat := by omega
        rw [e, ← hpw.out, HD.out]; rfl
      clear hl HSL hqh hm
      generalize widthI n = m at *
      generalize Pl.lowI v n = R at *
      generalize Pl.hI n = h at *
      go_enter Try.func21, Try.ntmps21
      go_wp2_with (first | (go_at_call 26; refine (HW.out _).mono ?_; rintro e w2 ⟨rfl, hw⟩; obtain rfl := hw.symm; clear hw) | (go_at_call 25; refine (HLo.out _).mono ?_; rintro e w2 ⟨rfl, hw⟩; obtain rfl := hw.symm; clear hw))
      go_ret
      exact ⟨ret_int HS.out, rfl⟩
    · have HS : Hid (Pl.lowI v n = Pl.signI v n) := by
        show _ = _
        rw [← HSL.out]
        unfold Pl.signI
        rw [hqh, Int.emod_eq_of_lt (by omega) (by omega)]; omega
      have HD : Hid (Pl.lowI v n / Pl.hI n = 0) := Int.ediv_eq_zero_of_lt (by omega) (by omega)
      have hd : (Pl.lowI v n / 2 ^ ((widthI n).toNat - 1) == 1) = false := by
        have e : (widthI n).toNat - 1 = (widthI n - 1).toNat := by omega
        rw [e, ← hpw.out, HD.out]; rfl
      clear hl HSL hqh hm
      generalize widthI n = m at *
      generalize Pl.lowI v n = R at *
      generalize Pl.hI n = h at *
      go_enter Try.func21, Try.ntmps21
      go_wp2_with (first | (go_at_call 26; refine (HW.out _).mono ?_; rintro e w2 ⟨rfl, hw⟩; obtain rfl := hw.symm; clear hw) | (go_at_call 25; refine (HLo.out _).mono ?_; rintro e w2 ⟨rfl, hw⟩; obtain rfl := hw.symm; clear hw))
      go_ret
      exact ⟨ret_int HS.out, rfl⟩
theorem rcut_any (v n : Int) (w : World) (h0 : -9223372036854775808 ≤ v) (h1 : v ≤ 9223372036854775807) (n0 : -9223372036854775808 ≤ n) (n1 : n ≤ 9223372036854775807) :
    Calls Try.prog 17 #[.int .i64 v, .int .i64 n] w fun e w' => e = .returned (.tuple #[.int .u64 (Pl.lowI v n), .bool (Pl.signI v n == v)]) ∧ w' = w := by
  have hwb := width_bd n
  have hmx := Pl.low_max v n
  have hub : 0 ≤ IntKind.u64.wrap v ∧ IntKind.u64.wrap v ≤ 18446744073709551615 := by rw [IntKind.wrap_u64]; omega
  have HW : Hid (∀ w, Calls Try.prog 26 #[.int .i64 n] w fun e w' => e = .returned (.int .i64 (widthI n)) ∧ w' = w) := fun w => width_any n w n0 n1
  have HLo : Hid (∀ w, Calls Try.prog 25 #[.int .u64 (IntKind.u64.wrap v), .int .i64 (widthI n)] w fun e w' => e = .returned (.int .u64 (Pl.lowI v n)) ∧ w' = w) := fun w => by
    have h := low_any (IntKind.u64.wrap v) (widthI n) w hub.1 hub.2 hwb.1 hwb.2
    have e : IntKind.u64.wrap v % 2 ^ (widthI n).toNat = Pl.lowI v n := by rw [IntKind.wrap_u64]; exact Pl.mod_mod_q v n
    rw [e] at h
    exact h
  have HS : Hid (∀ w, Calls Try.prog 21 #[.int .u64 (Pl.lowI v n), .int .i64 n] w fun e w' => e = .returned (.int .i64 (Pl.signI v n)) ∧ w' = w) := fun w => by
    have h := rsign_any (Pl.lowI v n) n w hmx.1 hmx.2 n0 n1
    rw [Pl.sign_low] at h
    exact h
  clear hub
  go_enter Try.func17, Try.ntmps17
  go_wp2_with (first | (go_at_call 26; refine (HW.out _).mono ?_; rintro e w2 ⟨rfl, hw⟩; obtain rfl := hw.symm; clear hw) | (go_at_call 25; refine (HLo.out _).mono ?_; rintro e w2 ⟨rfl, hw⟩; obtain rfl := hw.symm; clear hw) | (go_at_call 21; refine (HS.out _).mono ?_; rintro e w2 ⟨rfl, hw⟩; obtain rfl := hw.symm; clear hw))
  go_ret2
  exact ⟨rfl, rfl⟩
end Go.Proofs.Ytpbjdhinogphfaa
