/-
  What the document's own calendar (hourglassref4: Leap, Length, Good, first, Days, Of, Weekday) answers.
-/
import Derived.Test.YtglommaegcaodaaDoorCivilBase
namespace Go.Proofs.YtglommaegcaodaaDoor
open Go.RowKit
set_option linter.unusedVariables false

theorem rleap_any (y : Int) (w : World) (h1 : -9223372036854775808 ≤ y) (h2 : y ≤ 9223372036854775807) :
    Calls Tryd.prog 20 #[.int .i64 y] w fun e w' => e = .returned (.bool (lp y)) ∧ w' = w := by
  go_enter Tryd.func20, Tryd.ntmps20
  go_wp2
  all_goals go_ret
  all_goals refine ⟨ret_bool ?_, rfl⟩
  all_goals rw [lp_t]
  all_goals simp [*]
theorem rlength_any (y m : Int) (w : World) (h1 : -9223372036854775808 ≤ y) (h2 : y ≤ 9223372036854775807) (h3 : -9223372036854775808 ≤ m) (h4 : m ≤ 9223372036854775807) :
    Calls Tryd.prog 21 #[.int .i64 y, .int .i64 m] w fun e w' => e = .returned (.int .i64 (ml y m)) ∧ w' = w := by
  have HL : Hid (Calls Tryd.prog 20 #[.int .i64 y] w fun e w' => e = .returned (.bool (lp y)) ∧ w' = w) := rleap_any y w h1 h2
  go_enter Tryd.func21, Tryd.ntmps21
  go_wp2_with (go_at_call 20; refine HL.out.mono ?_; rintro e w1 ⟨rfl, hw⟩; obtain rfl := hw.symm; clear hw)
  all_goals go_ret
  all_goals refine ⟨ret_i ?_, rfl⟩
  all_goals simp only [beq_iff_eq, beq_eq_false_iff_ne, ne_eq] at *
  all_goals unfold ml
  all_goals repeat' split
  all_goals first | omega | simp_all

theorem rgood_any (y m d : Int) (w : World) (h1 : -9223372036854775808 ≤ y) (h2 : y ≤ 9223372036854775807) (h3 : -9223372036854775808 ≤ m) (h4 : m ≤ 9223372036854775807) :
    Calls Tryd.prog 30 #[.agg #[.int .i64 y, .int .i64 m, .int .i64 d]] w fun e w' => e = .returned (.bool (decide (Gd y m d))) ∧ Below w.heap.size w w' := by
  have HL : Hid (∀ w, Calls Tryd.prog 21 #[.int .i64 y, .int .i64 m] w fun e w' => e = .returned (.int .i64 (ml y m)) ∧ w' = w) := fun w => rlength_any y m w h1 h2 h3 h4
  go_enter Tryd.func30, Tryd.ntmps30
  have HB : Hid (∀ o n, Below w.heap.size w ((w.alloc o).drewN n)) := fun o n => below_dN ((Below.refl _ _).alloc (Nat.le_refl _) o) n
  by_cases c1 : -9999 ≤ y
  · by_cases c2 : y ≤ 9999
    · by_cases c3 : 1 ≤ d
      · go_wp2
        go_quiet ((go_at_call 21; exact Calls.quiet_of_same (HL.out _)))
        go_wp2
        go_ret
        exact ⟨ret_bool (by simp [Gd, c1, c2, c3]), HB.out _ _⟩
      · have c3' : decide (1 ≤ d) = false := decide_eq_false c3
        go_wp2
        go_quiet (fail)
        go_wp2
        go_ret
        exact ⟨ret_bool (decide_eq_false (by unfold Gd; omega)).symm, HB.out _ _⟩
    · have c2' : decide (y ≤ 9999) = false := decide_eq_false c2
      go_wp2
      go_quiet (fail)
      go_wp2
      go_ret
      exact ⟨ret_bool (decide_eq_false (by unfold Gd; omega)).symm, HB.out _ _⟩
  · have c1' : decide (-9999 ≤ y) = false := decide_eq_false c1
    go_wp2
    go_quiet (fail)
    go_wp2
    go_ret
    exact ⟨ret_bool (decide_eq_false (by unfold Gd; omega)).symm, HB.out _ _⟩

theorem rfirst_any (y : Int) (w : World) (h1 : -12000 ≤ y) (h2 : y ≤ 12000) :
    Calls Tryd.prog 31 #[.int .i64 y] w fun e w' => e = .returned (.int .i64 (fy y)) ∧ w' = w := by
  have HL : Hid (∀ k w, -20000 ≤ k → k ≤ 20000 → Calls Tryd.prog 20 #[.int .i64 k] w fun e w' => e = .returned (.bool (lp k)) ∧ w' = w) := fun k w h1 h2 => rleap_any k w (by omega) (by omega)
  go_enter Tryd.func31, Tryd.ntmps31
  go_wp2
  go_loop [3, 4] (fun n k => ∃ N K : Int, n = .int .i64 N ∧ k = .int .i64 K ∧ N = fy K ∧ 1970 ≤ K ∧ (K = 1970 ∨ K ≤ y)) (fun _ k => (12000 - intOf k).toNat)
  case atStart => exact ⟨0, 1970, rfl, rfl, fy_0.symm, by omega, .inl rfl⟩
  case round =>
    obtain ⟨N, K, rfl, rfl, hN, hK, hK2⟩ := hrel
    have HN : Hid (N = fy K) := hN
    have hNr : -6000000 ≤ N ∧ N ≤ 6000000 := by unfold fy at hN; omega
    clear hN
    by_cases hlt : y - K ≥ 400
    · go_wp2
      go_round
      case rel => exact ⟨N + 146097, K + 400, by go_num, by go_num, by rw [fy_400, HN.out], by omega, by omega⟩
      case measure => simp [intOf]; omega
    · go_wp2
      clear hNr
      go_loop [3, 4] (fun n k => ∃ N K : Int, n = .int .i64 N ∧ k = .int .i64 K ∧ Hid (N = fy K) ∧ y - K < 400 ∧ K ≤ 12000 ∧ -13000 ≤ K) (fun _ k => (intOf k - y + 400).toNat)
      case atStart => exact ⟨N, K, rfl, rfl, HN, by omega, by omega, by omega⟩
      case round =>
        clear HN hK hK2 hlt
        obtain ⟨N, K, rfl, rfl, HN, hK1, hK2, hK3⟩ := hrel
        have hNr : -6000000 ≤ N ∧ N ≤ 6000000 := by
          have h := HN.out
          unfold fy at h
          omega
        by_cases hlt : y < K
        · go_wp2
          go_round
          case rel => exact ⟨N - 146097, K - 400, by go_num, by go_num, by have h := fy_400 (K - 400); rw [Int.sub_add_cancel] at h; show _ = _; rw [HN.out, h]; omega, by omega, by omega, by omega⟩
          case measure => simp [intOf]; omega
        · go_wp2
          clear hNr
          go_loop [3, 4] (fun n k => ∃ N K : Int, n = .int .i64 N ∧ k = .int .i64 K ∧ Hid (N = fy K) ∧ K ≤ y ∧ -13000 ≤ K) (fun _ k => (y - intOf k).toNat)
          case atStart => exact ⟨N, K, rfl, rfl, HN, by omega, by omega⟩
          case round =>
            clear HN hK1 hK2 hK3 hlt
            obtain ⟨N, K, rfl, rfl, HN, hK1, hK3⟩ := hrel
            have hNr : -6000000 ≤ N ∧ N ≤ 6000000 := by
              have h := HN.out
              unfold fy at h
              omega
            by_cases hlt : K < y
            · cases hlp : lp K
              · go_wp2_with (go_at_call 20; refine (HL.out _ _ (by omega) (by omega)).mono ?_; rintro e w1 ⟨rfl, hw⟩; obtain rfl := hw.symm; clear hw)
                go_round
                case rel => exact ⟨N + 365, K + 1, by go_num, by go_num, by show _ = _; rw [fy_step_short hlp, HN.out], by omega, by omega⟩
                case measure => simp [intOf]; omega
              · go_wp2_with (go_at_call 20; refine (HL.out _ _ (by omega) (by omega)).mono ?_; rintro e w1 ⟨rfl, hw⟩; obtain rfl := hw.symm; clear hw)
                go_round
                case rel => exact ⟨N + 366, K + 1, by go_num, by go_num, by show _ = _; rw [fy_step_long hlp, HN.out], by omega, by omega⟩
                case measure => simp [intOf]; omega
            · obtain rfl : K = y := by omega
              go_wp2
              go_ret
              exact ⟨ret_i HN.out, rfl⟩
end Go.Proofs.YtglommaegcaodaaDoor
