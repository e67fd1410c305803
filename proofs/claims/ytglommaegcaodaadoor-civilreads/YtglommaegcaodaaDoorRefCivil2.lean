/-
  What the document's own Days and Of (hourglassref4) answer.
-/
import Derived.Test.YtglommaegcaodaaDoorRefCivil
namespace Go.Proofs.YtglommaegcaodaaDoor
open Go.RowKit
set_option linter.unusedVariables false

theorem rdays_any (y m d : Int) (w : World) (h1 : -9223372036854775808 ≤ y) (h2 : y ≤ 9223372036854775807) (h3 : -9223372036854775808 ≤ m) (h4 : m ≤ 9223372036854775807) :
    Calls Tryd.prog 17 #[.agg #[.int .i64 y, .int .i64 m, .int .i64 d]] w fun e w' => e = .returned (.tuple #[.int .i64 (if Gd y m d then dayN y m d else 0), .bool (decide (Gd y m d))]) ∧ Below w.heap.size w w' := by
  have HG : Hid (∀ w, Calls Tryd.prog 30 #[.agg #[.int .i64 y, .int .i64 m, .int .i64 d]] w fun e w' => e = .returned (.bool (decide (Gd y m d))) ∧ Below w.heap.size w w') := fun w => rgood_any y m d w h1 h2 h3 h4
  have HL : Hid (∀ (k : Int) w, 1 ≤ k → k ≤ 12 → Calls Tryd.prog 21 #[.int .i64 y, .int .i64 k] w fun e w' => e = .returned (.int .i64 (ml y k)) ∧ w' = w) := fun k w h h' => rlength_any y k w h1 h2 (by omega) (by omega)
  go_enter Tryd.func17, Tryd.ntmps17
  by_cases hg : Gd y m d
  · have hgt : decide (Gd y m d) = true := decide_eq_true hg
    rw [if_pos hg]
    rw [hgt] at HG ⊢
    obtain ⟨g1, g2, g3, g4⟩ := hg
    have hm := ml_month (y := y) (m := m) (by omega)
    have hml := ml_le y m
    have HF : Hid (∀ w, Calls Tryd.prog 31 #[.int .i64 y] w fun e w' => e = .returned (.int .i64 (fy y)) ∧ w' = w) := fun w => rfirst_any y w (by omega) (by omega)
    have hfy := fy_range (y := y) (by omega) (by omega)
    go_wp2_with (first | (go_at_call 30; refine (HG.out _).mono ?_; rintro e w1 ⟨rfl, hb1⟩; have HB1 : Hid (Below w.heap.size w w1) := ((Below.refl _ _).alloc (Nat.le_refl _) _).trans (hb1.mono (by simp)); have HD := (DateAt.made w 37 y m d).below hb1 (by simp); have hd0 := HD.c0; have hd1 := HD.c1; have hd2 := HD.c2; clear hb1 HD) | (go_at_call 31; refine (HF.out _).mono ?_; rintro e w2 ⟨rfl, hw⟩; obtain rfl := hw.symm; clear hw))
    clear HG HF
    go_loop [4, 5] (fun n k => ∃ N K : Int, n = .int .i64 N ∧ k = .int .i64 K ∧ Hid (N = fy y + md y K) ∧ 1 ≤ K ∧ K ≤ m) (fun _ k => (m - intOf k).toNat)
    case atStart => exact ⟨fy y, 1, rfl, rfl, by show _ = _; rw [md_one]; omega, by omega, by omega⟩
    case round =>
      obtain ⟨N, K, rfl, rfl, HN, hK1, hK2⟩ := hrel
      have hNr : -4371587 ≤ N ∧ N ≤ 2933263 := by
        have := md_range (y := y) (m := K) hK1 (by omega)
        have h := HN.out
        omega
      by_cases hlt : K < m
      · have hmk := ml_le y K
        go_wp2_with (go_at_call 21; refine (HL.out _ _ (by omega) (by omega)).mono ?_; rintro e w2 ⟨rfl, hw⟩; obtain rfl := hw.symm; clear hw)
        go_round
        case rel => exact ⟨N + ml y K, K + 1, by go_num, by go_num, by show _ = _; rw [md_step hK1 (by omega), HN.out]; omega, by omega, by omega⟩
        case measure => simp [intOf]; omega
      · obtain rfl : K = m := by omega
        go_wp2
        go_ret2
        refine ⟨?_, HB1.out⟩
        show Ending.returned (.tuple #[.int .i64 (N + (d - 1)), .bool true]) = _
        rw [HN.out]; rfl
  · have hgf : decide (Gd y m d) = false := decide_eq_false hg
    rw [if_neg hg]
    rw [hgf] at HG ⊢
    go_wp2_with (go_at_call 30; refine (HG.out _).mono ?_; rintro e w1 ⟨rfl, hb1⟩; have HB1 : Hid (Below w.heap.size w w1) := ((Below.refl _ _).alloc (Nat.le_refl _) _).trans (hb1.mono (by simp)); clear hb1)
    go_ret2
    exact ⟨rfl, HB1.out⟩

theorem rof_in (n : Int) (w : World) (h1 : -4371587 ≤ n) (h2 : n ≤ 2932896) :
    Calls Tryd.prog 19 #[.int .i64 n] w fun e w' => ∃ y m d, e = .returned (.tuple #[.agg #[.int .i64 y, .int .i64 m, .int .i64 d], .bool true]) ∧ Gd y m d ∧ dayN y m d = n ∧ Below w.heap.size w w' := by
  have HF : Hid (∀ y w, -12000 ≤ y → y ≤ 12000 → Calls Tryd.prog 31 #[.int .i64 y] w fun e w' => e = .returned (.int .i64 (fy y)) ∧ w' = w) := fun y w h h' => rfirst_any y w h h'
  have HL : Hid (∀ (y k : Int) w, -12000 ≤ y → y ≤ 12000 → 1 ≤ k → k ≤ 12 → Calls Tryd.prog 21 #[.int .i64 y, .int .i64 k] w fun e w' => e = .returned (.int .i64 (ml y k)) ∧ w' = w) := fun y k w h h' h'' h3 => rlength_any y k w (by omega) (by omega) (by omega) (by omega)
  have FL : Hid (fy (-9999) = -4371587) := fy_lo
  have FH : Hid (fy 10000 = 2932897) := fy_hi
  have hlo : -4371587 ≤ fy (-9999) := by rw [fy_lo]; omega
  have hlo2 : fy (-9999) ≤ n := by rw [fy_lo]; omega
  have hhi : n < fy 10000 := by rw [fy_hi]; omega
  have T1 : -12000 ≤ n.tdiv 365 ∧ n.tdiv 365 ≤ 12000 := by
    rcases Int.le_total 0 n with h | h
    · rw [td_pos h]; omega
    · rw [td_neg h]; omega
  have T2 : -12000 ≤ n.tdiv 366 ∧ n.tdiv 366 ≤ 12000 := by
    rcases Int.le_total 0 n with h | h
    · rw [td_pos h]; omega
    · rw [td_neg h]; omega
  have S1 : Hid (n < 0 → fy (1970 + n.tdiv 365 - 1) ≤ n ∧ -12000 ≤ 1970 + n.tdiv 365 - 1) := fun h => by
    rw [td_neg (by omega)]
    have a := fy_mono (y := 1970 + -(-n / 365) - 1) (z := 1970) (by omega)
    rw [fy_0] at a
    omega
  have S2 : Hid (0 ≤ n → fy (1970 + n.tdiv 366) ≤ n ∧ -12000 ≤ 1970 + n.tdiv 366) := fun h => by
    rw [td_pos (by omega)]
    have a := fy_le (y := 1970) (z := 1970 + n / 366) (by omega)
    rw [fy_0] at a
    omega
  go_enter Tryd.func19, Tryd.ntmps19
  by_cases hneg : n < 0
  all_goals
    go_wp2_with (go_at_call 31; refine (HF.out _ _ (by omega) (by omega)).mono ?_; rintro e w2 ⟨rfl, hw⟩; obtain rfl := hw.symm; clear hw)
    go_loop [4] (fun y => ∃ Y : Int, y = .int .i64 Y ∧ fy Y ≤ n ∧ -12000 ≤ Y) (fun y => (10000 - intOf y).toNat)
    case atStart => first | exact ⟨_, rfl, S1.out (by assumption)⟩ | exact ⟨_, rfl, S2.out (by omega)⟩
    case round =>
      obtain ⟨Y, rfl, hY1, hY2⟩ := hrel
      have hY3 := year_of hY1 hhi
      by_cases hlt : fy (Y + 1) ≤ n
      · have hY4 := year_of hlt hhi
        go_wp2_with (go_at_call 31; refine (HF.out _ _ (by omega) (by omega)).mono ?_; rintro e w2 ⟨rfl, hw⟩; obtain rfl := hw.symm; clear hw)
        go_round
        case rel => exact ⟨Y + 1, rfl, hlt, by omega⟩
        case measure => simp [intOf]; omega
      · go_wp2_with (go_at_call 31; refine (HF.out _ _ (by omega) (by omega)).mono ?_; rintro e w2 ⟨rfl, hw⟩; obtain rfl := hw.symm; clear hw)
        have hY4 := year_from hlo2 (by omega : n < fy (Y + 1))
        go_loop [4] (fun y => y = .int .i64 Y) (fun y => 0)
        case atStart => rfl
        case round =>
          subst hrel
          have hY5 : ¬ n < fy Y := by omega
          have hfy := fy_range (y := Y) hY4 (by omega)
          have hfs := fy_step Y
          have hleft : 0 ≤ n - fy Y ∧ n - fy Y ≤ 366 := by
            split at hfs <;> omega
          clear hfs
          go_wp2_with (go_at_call 31; refine (HF.out _ _ (by omega) (by omega)).mono ?_; rintro e w2 ⟨rfl, hw⟩; obtain rfl := hw.symm; clear hw)
          go_loop [5, 6] (fun l k => ∃ L K : Int, l = .int .i64 L ∧ k = .int .i64 K ∧ Hid (L = n - fy Y - md Y K) ∧ 0 ≤ L ∧ L ≤ 366 ∧ 1 ≤ K ∧ K ≤ 12) (fun _ k => (12 - intOf k).toNat)
          case atStart => exact ⟨n - fy Y, 1, rfl, rfl, by show _ = _; rw [md_one]; omega, by omega, by omega, by omega, by omega⟩
          case round =>
            obtain ⟨L, K, rfl, rfl, HLK, hL1, hL2, hK1, hK2⟩ := hrel
            have hml := ml_le Y K
            by_cases hge : ml Y K ≤ L
            · have hK3 := month_of (y := Y) (m := K) (n := n) hK1 hK2 (by have := HLK.out; omega) (by omega)
              go_wp2_with (go_at_call 21; refine (HL.out _ _ _ (by omega) (by omega) (by omega) (by omega)).mono ?_; rintro e w2 ⟨rfl, hw⟩; obtain rfl := hw.symm; clear hw)
              go_round
              case rel => exact ⟨L - ml Y K, K + 1, rfl, rfl, by show _ = _; rw [md_step hK1 hK2, HLK.out]; omega, by omega, by omega, by omega, by omega⟩
              case measure => simp [intOf]; omega
            · have hd := day_of (y := Y) (m := K) (n := n) hY4 hY3 hK1 hK2 (by have := HLK.out; omega) (by have := HLK.out; omega)
              have hL : L = n - fy Y - md Y K := HLK.out
              rw [← hL] at hd
              have HD : Hid (Gd Y K (L + 1) ∧ dayN Y K (L + 1) = n) := hd
              clear hd hL
              go_wp2_with (go_at_call 21; refine (HL.out _ _ _ (by omega) (by omega) (by omega) (by omega)).mono ?_; rintro e w2 ⟨rfl, hw⟩; obtain rfl := hw.symm; clear hw)
              go_returns
              exact ⟨Y, K, L + 1, rfl, HD.out.1, HD.out.2, (Below.refl _ _).alloc (Nat.le_refl _) _⟩
theorem rof_out (n : Int) (w : World) (h : n < -4371587 ∨ 2932896 < n) :
    Calls Tryd.prog 19 #[.int .i64 n] w fun e w' => e = .returned (.tuple #[.agg #[.int .i64 0, .int .i64 0, .int .i64 0], .bool false]) ∧ Below w.heap.size w w' := by
  have HF : Hid (∀ y w, -12000 ≤ y → y ≤ 12000 → Calls Tryd.prog 31 #[.int .i64 y] w fun e w' => e = .returned (.int .i64 (fy y)) ∧ w' = w) := fun y w h h' => rfirst_any y w h h'
  have hb : n < fy (-9999) ∨ fy 10000 ≤ n := by rw [fy_lo, fy_hi]; omega
  clear h
  go_enter Tryd.func19, Tryd.ntmps19
  by_cases hneg : n < fy (-9999)
  · go_wp2_with (go_at_call 31; refine (HF.out _ _ (by omega) (by omega)).mono ?_; rintro e w2 ⟨rfl, hw⟩; obtain rfl := hw.symm; clear hw)
    go_returns
    exact ⟨rfl, (Below.refl _ _).alloc (Nat.le_refl _) _⟩
  · have hge : fy 10000 ≤ n := by omega
    go_wp2_with (go_at_call 31; refine (HF.out _ _ (by omega) (by omega)).mono ?_; rintro e w2 ⟨rfl, hw⟩; obtain rfl := hw.symm; clear hw)
    go_returns
    exact ⟨rfl, (Below.refl _ _).alloc (Nat.le_refl _) _⟩
end Go.Proofs.YtglommaegcaodaaDoor
