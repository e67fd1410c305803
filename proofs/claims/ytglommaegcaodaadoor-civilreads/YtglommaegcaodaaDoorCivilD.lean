/-
  What the landed calendar (civil: Leap, Length, isDate, yearStart, yearOf, Days, Of) answers.
-/
import Derived.Test.YtglommaegcaodaaDoorCivilBase
namespace Go.Proofs.YtglommaegcaodaaDoor
open Go.RowKit
set_option linter.unusedVariables false

theorem lp_t2 (y : Int) : lp y = (y.tmod 4 == 0 && y.tmod 100 != 0 || y.tmod 400 == 0) := by
  have e1 := tmod0 y 4
  have e2 := tmod0 y 100
  have e3 := tmod0 y 400
  rw [Bool.eq_iff_iff, lp_true]
  simp [e1, e2, e3]
  omega
theorem leap_same (y : Int) (w : World) (h1 : -9223372036854775808 ≤ y) (h2 : y ≤ 9223372036854775807) :
    Calls Tryd.prog 13 #[.int .i64 y] w fun e w' => e = .returned (.bool (lp y)) ∧ w' = w := by
  go_enter Tryd.func13, Tryd.ntmps13
  go_wp2
  all_goals go_ret
  all_goals refine ⟨ret_bool ?_, rfl⟩
  all_goals rw [lp_t2]
  all_goals simp [*]
theorem length_same (y m : Int) (w : World) (h1 : -9223372036854775808 ≤ y) (h2 : y ≤ 9223372036854775807) (h3 : -9223372036854775808 ≤ m) (h4 : m ≤ 9223372036854775807) :
    Calls Tryd.prog 14 #[.int .i64 y, .int .i64 m] w fun e w' => e = .returned (.int .i64 (ml y m)) ∧ w' = w := by
  have HL : Hid (Calls Tryd.prog 13 #[.int .i64 y] w fun e w' => e = .returned (.bool (lp y)) ∧ w' = w) := leap_same y w h1 h2
  go_enter Tryd.func14, Tryd.ntmps14
  go_wp2_with (go_at_call 13; refine HL.out.mono ?_; rintro e w1 ⟨rfl, hw⟩; obtain rfl := hw.symm; clear hw)
  all_goals go_ret
  all_goals refine ⟨ret_i ?_, rfl⟩
  all_goals simp only [beq_iff_eq, beq_eq_false_iff_ne, ne_eq] at *
  all_goals unfold ml
  all_goals repeat' split
  all_goals first | omega | simp_all
theorem isdate_any (y m d : Int) (w : World) (h1 : -9223372036854775808 ≤ y) (h2 : y ≤ 9223372036854775807) (h3 : -9223372036854775808 ≤ m) (h4 : m ≤ 9223372036854775807) :
    Calls Tryd.prog 25 #[.agg #[.int .i64 y, .int .i64 m, .int .i64 d]] w fun e w' => e = .returned (.bool (decide (Gd y m d))) ∧ Below w.heap.size w w' := by
  have HL : Hid (∀ w, Calls Tryd.prog 14 #[.int .i64 y, .int .i64 m] w fun e w' => e = .returned (.int .i64 (ml y m)) ∧ w' = w) := fun w => length_same y m w h1 h2 h3 h4
  go_enter Tryd.func25, Tryd.ntmps25
  have HB : Hid (∀ o n, Below w.heap.size w ((w.alloc o).drewN n)) := fun o n => below_dN ((Below.refl _ _).alloc (Nat.le_refl _) o) n
  by_cases c1 : -9999 ≤ y
  · by_cases c2 : y ≤ 9999
    · by_cases c3 : 1 ≤ d
      · go_wp2
        go_quiet ((go_at_call 14; exact Calls.quiet_of_same (HL.out _)))
        go_wp2
        go_ret
        exact ⟨ret_bool (by simp [Gd, c1, c2, c3]), HB.out _ _⟩
      · have c3' : decide (1 ≤ d) = false := decide_eq_false c3
        go_wp2
        go_quiet (fail)
        go_wp2
        go_ret
        exact ⟨ret_bool (decide_eq_false (by unfold Gd; omega)).symm, HB.out _ _⟩
    · have c2' : decide (y ≤ 9999) = false := decide_eq_false c2
      go_wp2
      go_quiet (fail)
      go_wp2
      go_ret
      exact ⟨ret_bool (decide_eq_false (by unfold Gd; omega)).symm, HB.out _ _⟩
  · have c1' : decide (-9999 ≤ y) = false := decide_eq_false c1
    go_wp2
    go_quiet (fail)
    go_wp2
    go_ret
    exact ⟨ret_bool (decide_eq_false (by unfold Gd; omega)).symm, HB.out _ _⟩
theorem start_eq (y : Int) (h : -10000 ≤ y) : -4371953 + 365 * (y + 10000) + (y + 10000 + 3).tdiv 4 - (y + 10000 + 99).tdiv 100 + (y + 10000 + 399).tdiv 400 = fy y := by
  rw [td_pos (by omega), td_pos (by omega), td_pos (by omega)]
  unfold fy
  omega
theorem start_any (y : Int) (w : World) (h1 : -10000 ≤ y) (h2 : y ≤ 20000) :
    Calls Tryd.prog 26 #[.int .i64 y] w fun e w' => e = .returned (.int .i64 (fy y)) ∧ w' = w := by
  have H := start_eq y h1
  have b1 : 0 ≤ (y + 10000 + 3).tdiv 4 ∧ (y + 10000 + 3).tdiv 4 ≤ 40000 := by rw [td_pos (by omega)]; omega
  have b2 : 0 ≤ (y + 10000 + 99).tdiv 100 ∧ (y + 10000 + 99).tdiv 100 ≤ 40000 := by rw [td_pos (by omega)]; omega
  have b3 : 0 ≤ (y + 10000 + 399).tdiv 400 ∧ (y + 10000 + 399).tdiv 400 ≤ 40000 := by rw [td_pos (by omega)]; omega
  go_enter Tryd.func26, Tryd.ntmps26
  go_wp2
  go_ret
  exact ⟨rfl, rfl⟩
theorem yearof_in (n : Int) (w : World) (h1 : -4371587 ≤ n) (h2 : n ≤ 2932896) :
    Calls Tryd.prog 27 #[.int .i64 n] w fun e w' => ∃ Y, e = .returned (.int .i64 Y) ∧ fy Y ≤ n ∧ n < fy (Y + 1) ∧ -9999 ≤ Y ∧ Y ≤ 9999 ∧ w' = w := by
  have HF : Hid (∀ y w, -10000 ≤ y → y ≤ 20000 → Calls Tryd.prog 26 #[.int .i64 y] w fun e w' => e = .returned (.int .i64 (fy y)) ∧ w' = w) := fun y w h h' => start_any y w h h'
  have hlo2 : fy (-9999) ≤ n := by rw [fy_lo]; omega
  have hhi : n < fy 10000 := by rw [fy_hi]; omega
  have T1 : 1 ≤ ((n - -4371953) * 400).tdiv 146097 ∧ ((n - -4371953) * 400).tdiv 146097 ≤ 19999 := by rw [td_pos (by omega)]; omega
  have T2 : 1 ≤ ((n + 4371953) * 400).tdiv 146097 ∧ ((n + 4371953) * 400).tdiv 146097 ≤ 19999 := by rw [td_pos (by omega)]; omega
  go_enter Tryd.func27, Tryd.ntmps27
  go_wp2
  go_loop [3] (fun y => ∃ Y : Int, y = .int .i64 Y ∧ -9999 ≤ Y ∧ Y ≤ 9999) (fun y => (9999 + intOf y).toNat)
  case atStart => exact ⟨_, rfl, by omega, by omega⟩
  case round =>
    clear T1 T2
    obtain ⟨Y, rfl, hY1, hY2⟩ := hrel
    by_cases hlt : n < fy Y
    · have hY3 : -9999 ≤ Y - 1 := year_from hlo2 (by rw [Int.sub_add_cancel]; exact hlt)
      go_wp2_with (go_at_call 26; refine (HF.out _ _ (by omega) (by omega)).mono ?_; rintro e w2 ⟨rfl, hw⟩; obtain rfl := hw.symm; clear hw)
      go_round
      case rel => exact ⟨Y - 1, rfl, by omega, by omega⟩
      case measure => simp [intOf]; omega
    · go_wp2_with (go_at_call 26; refine (HF.out _ _ (by omega) (by omega)).mono ?_; rintro e w2 ⟨rfl, hw⟩; obtain rfl := hw.symm; clear hw)
      go_loop [3] (fun y => ∃ Y : Int, y = .int .i64 Y ∧ fy Y ≤ n ∧ -9999 ≤ Y) (fun y => (10000 - intOf y).toNat)
      case atStart => exact ⟨Y, rfl, by omega, by omega⟩
      case round =>
        clear hY1 hY2 hlt
        obtain ⟨Y, rfl, hY1, hY2⟩ := hrel
        have hY3 := year_of hY1 hhi
        by_cases hlt : fy (Y + 1) ≤ n
        · have hY4 := year_of hlt hhi
          go_wp2_with (go_at_call 26; refine (HF.out _ _ (by omega) (by omega)).mono ?_; rintro e w2 ⟨rfl, hw⟩; obtain rfl := hw.symm; clear hw)
          go_round
          case rel => exact ⟨Y + 1, rfl, hlt, by omega⟩
          case measure => simp [intOf]; omega
        · go_wp2_with (go_at_call 26; refine (HF.out _ _ (by omega) (by omega)).mono ?_; rintro e w2 ⟨rfl, hw⟩; obtain rfl := hw.symm; clear hw)
          go_ret
          exact ⟨Y, rfl, hY1, by omega, hY2, hY3, rfl⟩
theorem days_good (y m d : Int) (w : World) (h : Gd y m d) :
    Calls Tryd.prog 10 #[.agg #[.int .i64 y, .int .i64 m, .int .i64 d]] w fun e w' => e = .returned (.tuple #[.int .i64 (dayN y m d), .int .i64 0]) ∧ Below w.heap.size w w' := by
  have hm := h.month
  have hdd := h.day
  have HG : Hid (∀ w, Calls Tryd.prog 25 #[.agg #[.int .i64 y, .int .i64 m, .int .i64 d]] w fun e w' => e = .returned (.bool true) ∧ Below w.heap.size w w') := fun w => by
    have hh := isdate_any y m d w (by have := h.1; omega) (by have := h.2.1; omega) (by omega) (by omega)
    rw [decide_eq_true h] at hh
    exact hh
  obtain ⟨g1, g2, g3, g4⟩ := h
  have HL : Hid (∀ (k : Int) w, 1 ≤ k → k ≤ 12 → Calls Tryd.prog 14 #[.int .i64 y, .int .i64 k] w fun e w' => e = .returned (.int .i64 (ml y k)) ∧ w' = w) := fun k w h h' => length_same y k w (by omega) (by omega) (by omega) (by omega)
  have HF : Hid (∀ w, Calls Tryd.prog 26 #[.int .i64 y] w fun e w' => e = .returned (.int .i64 (fy y)) ∧ w' = w) := fun w => start_any y w (by omega) (by omega)
  have hfy := fy_range (y := y) (by omega) (by omega)
  clear g4
  go_enter Tryd.func10, Tryd.ntmps10
  go_wp2_with (first | (go_at_call 25; refine (HG.out _).mono ?_; rintro e w1 ⟨rfl, hb1⟩; have HB1 : Hid (Below w.heap.size w w1) := ((Below.refl _ _).alloc (Nat.le_refl _) _).trans (hb1.mono (by simp)); have HD := (DateAt.made w 27 y m d).below hb1 (by simp); have hd0 := HD.c0; have hd1 := HD.c1; have hd2 := HD.c2; clear hb1 HD) | (go_at_call 26; refine (HF.out _).mono ?_; rintro e w2 ⟨rfl, hw⟩; obtain rfl := hw.symm; clear hw))
  clear HG HF
  go_loop [4, 5] (fun n k => ∃ N K : Int, n = .int .i64 N ∧ k = .int .i64 K ∧ Hid (N = fy y + md y K) ∧ 1 ≤ K ∧ K ≤ m) (fun _ k => (m - intOf k).toNat)
  case atStart => exact ⟨fy y, 1, rfl, rfl, by show _ = _; rw [md_one]; omega, by omega, by omega⟩
  case round =>
    obtain ⟨N, K, rfl, rfl, HN, hK1, hK2⟩ := hrel
    have hNr : -4371587 ≤ N ∧ N ≤ 2933263 := by
      have := md_range (y := y) (m := K) hK1 (by omega)
      have h := HN.out
      omega
    by_cases hlt : K < m
    · have hmk := ml_le y K
      go_wp2_with (go_at_call 14; refine (HL.out _ _ (by omega) (by omega)).mono ?_; rintro e w2 ⟨rfl, hw⟩; obtain rfl := hw.symm; clear hw)
      go_round
      case rel => exact ⟨N + ml y K, K + 1, by go_num, by go_num, by show _ = _; rw [md_step hK1 (by omega), HN.out]; omega, by omega, by omega⟩
      case measure => simp [intOf]; omega
    · obtain rfl : K = m := by omega
      go_wp2
      go_ret2
      refine ⟨?_, HB1.out⟩
      show Ending.returned (.tuple #[.int .i64 (N + (d - 1)), .int .i64 0]) = _
      rw [HN.out]; rfl
theorem days_bad (y m d : Int) (w : World) (h : ¬ Gd y m d) (h1 : -9223372036854775808 ≤ y) (h2 : y ≤ 9223372036854775807) (h3 : -9223372036854775808 ≤ m) (h4 : m ≤ 9223372036854775807) (h5 : -9223372036854775808 ≤ d) (h6 : d ≤ 9223372036854775807) :
    Calls Tryd.prog 10 #[.agg #[.int .i64 y, .int .i64 m, .int .i64 d]] w fun e w' => e = .returned (.tuple #[.int .i64 0, .int .i64 1]) ∧ Below w.heap.size w w' := by
  have HG : Hid (∀ w, Calls Tryd.prog 25 #[.agg #[.int .i64 y, .int .i64 m, .int .i64 d]] w fun e w' => e = .returned (.bool false) ∧ Below w.heap.size w w') := fun w => by
    have hh := isdate_any y m d w h1 h2 h3 h4
    rw [decide_eq_false h] at hh
    exact hh
  clear h
  go_enter Tryd.func10, Tryd.ntmps10
  go_wp2_with (go_at_call 25; refine (HG.out _).mono ?_; rintro e w1 ⟨rfl, hb1⟩; have HB1 : Hid (Below w.heap.size w w1) := ((Below.refl _ _).alloc (Nat.le_refl _) _).trans (hb1.mono (by simp)); clear hb1)
  go_ret2
  exact ⟨rfl, HB1.out⟩
theorem of_in (n : Int) (w : World) (h1 : -4371587 ≤ n) (h2 : n ≤ 2932896) :
    Calls Tryd.prog 11 #[.int .i64 n] w fun e w' => ∃ y m d, e = .returned (.tuple #[.agg #[.int .i64 y, .int .i64 m, .int .i64 d], .int .i64 0]) ∧ Gd y m d ∧ dayN y m d = n ∧ Below w.heap.size w w' := by
  have HY : Hid (∀ w, Calls Tryd.prog 27 #[.int .i64 n] w fun e w' => ∃ Y, e = .returned (.int .i64 Y) ∧ fy Y ≤ n ∧ n < fy (Y + 1) ∧ -9999 ≤ Y ∧ Y ≤ 9999 ∧ w' = w) := fun w => yearof_in n w h1 h2
  have HF : Hid (∀ y w, -10000 ≤ y → y ≤ 20000 → Calls Tryd.prog 26 #[.int .i64 y] w fun e w' => e = .returned (.int .i64 (fy y)) ∧ w' = w) := fun y w h h' => start_any y w h h'
  have HL : Hid (∀ (y k : Int) w, -12000 ≤ y → y ≤ 12000 → 1 ≤ k → k ≤ 12 → Calls Tryd.prog 14 #[.int .i64 y, .int .i64 k] w fun e w' => e = .returned (.int .i64 (ml y k)) ∧ w' = w) := fun y k w h h' h'' h3 => length_same y k w (by omega) (by omega) (by omega) (by omega)
  go_enter Tryd.func11, Tryd.ntmps11
  go_wp2_with (first | (go_at_call 27; refine (HY.out _).mono ?_; rintro e w2 ⟨Y, rfl, hY1, hY2, hY4, hY3, hw⟩; obtain rfl := hw.symm; clear hw; have hfy := fy_range (y := Y) hY4 (by omega); have hfs := fy_step Y; have hleft : 0 ≤ n - fy Y ∧ n - fy Y ≤ 366 := (by split at hfs <;> omega); clear hfs) | (go_at_call 26; refine (HF.out _ _ (by omega) (by omega)).mono ?_; rintro e w2 ⟨rfl, hw⟩; obtain rfl := hw.symm; clear hw))
  go_loop [5, 6] (fun l k => ∃ L K : Int, l = .int .i64 L ∧ k = .int .i64 K ∧ Hid (L = n - fy Y - md Y K) ∧ 0 ≤ L ∧ L ≤ 366 ∧ 1 ≤ K ∧ K ≤ 12) (fun _ k => (12 - intOf k).toNat)
  case atStart => exact ⟨n - fy Y, 1, rfl, rfl, by show _ = _; rw [md_one]; omega, by omega, by omega, by omega, by omega⟩
  case round =>
    obtain ⟨L, K, rfl, rfl, HLK, hL1, hL2, hK1, hK2⟩ := hrel
    have hml := ml_le Y K
    by_cases hge : ml Y K ≤ L
    · have hK3 := month_of (y := Y) (m := K) (n := n) hK1 hK2 (by have := HLK.out; omega) (by omega)
      go_wp2_with (go_at_call 14; refine (HL.out _ _ _ (by omega) (by omega) (by omega) (by omega)).mono ?_; rintro e w2 ⟨rfl, hw⟩; obtain rfl := hw.symm; clear hw)
      go_round
      case rel => exact ⟨L - ml Y K, K + 1, rfl, rfl, by show _ = _; rw [md_step hK1 hK2, HLK.out]; omega, by omega, by omega, by omega, by omega⟩
      case measure => simp [intOf]; omega
    · have hd := day_of (y := Y) (m := K) (n := n) hY4 hY3 hK1 hK2 (by have := HLK.out; omega) (by have := HLK.out; omega)
      have hL : L = n - fy Y - md Y K := HLK.out
      rw [← hL] at hd
      have HD : Hid (Gd Y K (L + 1) ∧ dayN Y K (L + 1) = n) := hd
      clear hd hL
      go_wp2_with (go_at_call 14; refine (HL.out _ _ _ (by omega) (by omega) (by omega) (by omega)).mono ?_; rintro e w2 ⟨rfl, hw⟩; obtain rfl := hw.symm; clear hw)
      go_returns
      exact ⟨Y, K, L + 1, rfl, HD.out.1, HD.out.2, (Below.refl _ _).alloc (Nat.le_refl _) _⟩
theorem of_out (n : Int) (w : World) (h : n < -4371587 ∨ 2932896 < n) (h1 : -9223372036854775808 ≤ n) (h2 : n ≤ 9223372036854775807) :
    Calls Tryd.prog 11 #[.int .i64 n] w fun e w' => e = .returned (.tuple #[.agg #[.int .i64 0, .int .i64 0, .int .i64 0], .int .i64 1]) ∧ Below w.heap.size w w' := by
  go_enter Tryd.func11, Tryd.ntmps11
  by_cases hneg : n < -4371587
  · go_wp2
    go_returns
    exact ⟨rfl, (Below.refl _ _).alloc (Nat.le_refl _) _⟩
  · have hge : 2932896 < n := by omega
    go_wp2
    go_returns
    exact ⟨rfl, (Below.refl _ _).alloc (Nat.le_refl _) _⟩
theorem leap_any (y : Int) (w : World) (h1 : -9223372036854775808 ≤ y) (h2 : y ≤ 9223372036854775807) :
    Calls Tryd.prog 13 #[.int .i64 y] w fun e w' => e = .returned (.bool (lp y)) ∧ Below w.heap.size w w' :=
  (leap_same y w h1 h2).mono (by rintro e w' ⟨rfl, rfl⟩; exact ⟨rfl, Below.refl _ _⟩)
theorem length_any (y m : Int) (w : World) (h1 : -9223372036854775808 ≤ y) (h2 : y ≤ 9223372036854775807) (h3 : -9223372036854775808 ≤ m) (h4 : m ≤ 9223372036854775807) :
    Calls Tryd.prog 14 #[.int .i64 y, .int .i64 m] w fun e w' => e = .returned (.int .i64 (ml y m)) ∧ Below w.heap.size w w' :=
  (length_same y m w h1 h2 h3 h4).mono (by rintro e w' ⟨rfl, rfl⟩; exact ⟨rfl, Below.refl _ _⟩)
end Go.Proofs.YtglommaegcaodaaDoor
