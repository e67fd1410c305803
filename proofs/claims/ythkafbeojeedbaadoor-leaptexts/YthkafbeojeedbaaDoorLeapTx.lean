/-
  What the landed texts (leap: dateText, twoDigits, Text, Clock) answer, where the library's table of powers of ten holds what its text lays.
-/
import Derived.Test.YthkafbeojeedbaaDoorLeapBld
import Derived.Test.YthkafbeojeedbaaDoorLeapOff
import Derived.Deep.RegionHeld3
import Derived.Lib.ItoaLen
namespace Go.Proofs.YthkafbeojeedbaaDoor
open Go.RowKit
set_option linter.unusedVariables false

theorem itoa_at (n : Int) (h1 : -9223372036854775808 ≤ n) (h2 : n ≤ 9223372036854775807) (S : ByteArray) (hS : S = ⟨(Lib.itoa n).toArray⟩) (u : World) (r : Ready u) : Calls Tryd.prog 32 #[.int .i64 n] u fun e w' => e = .returned (.string S) ∧ Below u.heap.size u w' := by
  rw [hS]
  exact (Tryd.strconv_Itoa n h1 h2 u r).mono (by rintro e w' ⟨rfl, k, os, rfl⟩; exact ⟨rfl, Lib.below_grow _ u (Nat.le_refl _) k os⟩)
/-- A day's date, as text. -/
theorem dtext_any (y m d : Int) (day : Int) (hg : Gd y m d) (hd : dayN y m d = day) (w : World) (hR : Ready w) :
    Calls Tryd.prog 24 #[.int .i64 day] w fun e w' => e = .returned (.string (strOfNums (txt y m d))) ∧ Below w.heap.size w w' := by
  have hr := day_range hg
  rw [hd] at hr
  have hm := hg.month; have hdd := hg.day
  have CO : Hid (∀ u, Calls Tryd.prog 16 #[.int .i64 day] u fun e w' => e = .returned (.tuple #[.agg #[.int .i64 y, .int .i64 m, .int .i64 d], .int .i64 0]) ∧ Below u.heap.size u w') := fun u => (of_in day u hr.1 hr.2).mono (by
    rintro e w' ⟨y', m', d', rfl, hg', hd', hb⟩
    obtain ⟨rfl, rfl, rfl⟩ := day_inj hg' hg (hd'.trans hd.symm)
    exact ⟨rfl, hb⟩)
  obtain ⟨X, hX⟩ : ∃ X, X = strOfNums (txt y m d) := ⟨_, rfl⟩
  have CT : Hid (∀ u, Ready u → Calls Tryd.prog 17 #[.agg #[.int .i64 y, .int .i64 m, .int .i64 d]] u fun e w' => e = .returned (.string X) ∧ Below u.heap.size u w') := fun u r => by
    have h := text_any y m d u r (by have := hg.1; omega) (by have := hg.2.1; omega) (by omega) (by omega) (by omega) (by omega)
    rw [if_pos hg, ← hX] at h
    exact h
  rw [← hX]
  have RR : Hid (Ready w) := hR
  clear hX hg hd hr hR hm hdd
  go_enter Tryd.func24, Tryd.ntmps24
  go_wp2_with (first | (go_at_call 17; refine (CT.out _ (RR.out.on B1.out)).mono ?_; rintro e w2 ⟨rfl, hb2⟩; have B2 : Hid (Below w.heap.size w w2) := B1.out.trans (hb2.mono B1.out.size); clear hb2) | (go_at_call 16; refine (CO.out _).mono ?_; rintro e w1 ⟨rfl, hb1⟩; have B1 : Hid (Below w.heap.size w (w1.alloc (.cells #[.int .i64 y, .int .i64 m, .int .i64 d] 38))) := hb1.alloc hb1.size _; clear hb1))
  go_ret
  exact ⟨rfl, B2.out⟩
theorem two_pd {n : Int} (h0 : 0 ≤ n) (h1 : n ≤ 99) : (⟨(Lib.itoa (n / 10)).toArray⟩ ++ ⟨(Lib.itoa (n % 10)).toArray⟩ : ByteArray) = strOfNums (pd 2 n) := by
  obtain ⟨a, ha⟩ : ∃ a : Nat, n / 10 = (a : Int) := ⟨(n / 10).toNat, by omega⟩
  obtain ⟨b, hb⟩ : ∃ b : Nat, n % 10 = (b : Int) := ⟨(n % 10).toNat, by omega⟩
  have h10 : n / 10 % 10 = (a : Int) := by omega
  rw [ha, hb, Lib.itoa_nonneg, Lib.itoa_nonneg, Lib.decDigits, dif_pos (by omega), Lib.decDigits, dif_pos (by omega)]
  show _ = strOfNums (([] ++ [48 + n / 10 % 10]) ++ [48 + n % 10])
  rw [h10, hb]
  have e1 : (48 + (a : Int)).toNat = 48 + a := by omega
  have e2 : (48 + (b : Int)).toNat = 48 + b := by omega
  apply ByteArray.ext
  simp [strOfNums, e1, e2]
theorem two_any (n : Int) (h0 : 0 ≤ n) (h1 : n ≤ 99) (w : World) (hR : Ready w) :
    Calls Tryd.prog 25 #[.int .i64 n] w fun e w' => e = .returned (.string (strOfNums (pd 2 n))) ∧ Below w.heap.size w w' := by
  obtain ⟨A, hA⟩ : ∃ A : ByteArray, A = ⟨(Lib.itoa (n / 10)).toArray⟩ := ⟨_, rfl⟩
  obtain ⟨B, hB⟩ : ∃ B : ByteArray, B = ⟨(Lib.itoa (n % 10)).toArray⟩ := ⟨_, rfl⟩
  have hAs : A.size ≤ 21 := by rw [hA]; exact Lib.itoa_length_le _ (by omega) (by omega)
  have hBs : B.size ≤ 21 := by rw [hB]; exact Lib.itoa_length_le _ (by omega) (by omega)
  have HE : Hid (A ++ B = strOfNums (pd 2 n)) := by rw [hA, hB]; exact two_pd h0 h1
  have CA : Hid (∀ u, Ready u → Calls Tryd.prog 32 #[.int .i64 (n / 10)] u fun e w' => e = .returned (.string A) ∧ Below u.heap.size u w') := fun u r => itoa_at _ (by omega) (by omega) A hA u r
  have CB : Hid (∀ u, Ready u → Calls Tryd.prog 32 #[.int .i64 (n % 10)] u fun e w' => e = .returned (.string B) ∧ Below u.heap.size u w') := fun u r => itoa_at _ (by omega) (by omega) B hB u r
  have q1 : n.tdiv 10 = n / 10 := td_pos h0
  have q2 : n.tmod 10 = n % 10 := tm_pos h0
  have RR : Hid (Ready w) := hR
  clear hA hB hR
  go_enter Tryd.func25, Tryd.ntmps25
  go_wp2_with (first | (go_at_call 32; have hgo := B1.out; clear hgo; refine (CB.out _ (RR.out.on B1.out)).mono ?_; rintro e w2 ⟨rfl, hb2⟩; have B2 : Hid (Below w.heap.size w w2) := B1.out.trans (hb2.mono B1.out.size); clear hb2) | (go_at_call 32; refine (CA.out _ RR.out).mono ?_; rintro e w1 ⟨rfl, hb1⟩; have B1 : Hid (Below w.heap.size w w1) := hb1; clear hb1))
  go_ret
  exact ⟨by rw [← HE.out]; rfl, B2.out⟩
theorem clock_str (y m d H M S : Int) : strOfNums (txt y m d) ++ ⟨#[84]⟩ ++ strOfNums (pd 2 H) ++ ⟨#[58]⟩ ++ strOfNums (pd 2 M) ++ ⟨#[58]⟩ ++ strOfNums (pd 2 S) ++ ⟨#[90]⟩ = strOfNums (txt y m d ++ 84 :: (pd 2 H ++ 58 :: (pd 2 M ++ 58 :: (pd 2 S ++ [90])))) := by
  have e84 : (⟨#[84]⟩ : ByteArray) = strOfNums [84] := rfl
  have e58 : (⟨#[58]⟩ : ByteArray) = strOfNums [58] := rfl
  have e90 : (⟨#[90]⟩ : ByteArray) = strOfNums [90] := rfl
  rw [e84, e58, e90]
  simp only [nums_app]
  simp
theorem year_ex {n : Int} (h1 : fy (-9999) ≤ n) (k : Nat) : n < fy (-9999 + (k : Int)) → ∃ y : Int, -9999 ≤ y ∧ y < -9999 + (k : Int) ∧ fy y ≤ n ∧ n < fy (y + 1) := by
  induction k with
  | zero => intro h2; rw [show (-9999 + ((0 : Nat) : Int)) = -9999 by omega] at h2; omega
  | succ k ih =>
    intro h2
    by_cases h : n < fy (-9999 + (k : Int))
    · obtain ⟨y, a, b, c⟩ := ih h
      exact ⟨y, a, by omega, c⟩
    · exact ⟨-9999 + (k : Int), by omega, by omega, by omega, by rw [show (-9999 + (k : Int) + 1) = -9999 + ((k + 1 : Nat) : Int) by omega]; exact h2⟩
theorem month_ex {y r : Int} (h1 : 0 ≤ r) (k : Nat) : r < md y (1 + (k : Int)) → ∃ m : Int, 1 ≤ m ∧ m < 1 + (k : Int) ∧ md y m ≤ r ∧ r < md y (m + 1) := by
  induction k with
  | zero => intro h2; rw [show (1 + ((0 : Nat) : Int)) = 1 by omega, md_one] at h2; omega
  | succ k ih =>
    intro h2
    by_cases h : r < md y (1 + (k : Int))
    · obtain ⟨m, a, b, c⟩ := ih h
      exact ⟨m, a, by omega, c⟩
    · exact ⟨1 + (k : Int), by omega, by omega, by omega, by rw [show (1 + (k : Int) + 1) = 1 + ((k + 1 : Nat) : Int) by omega]; exact h2⟩
/-- Each day between the ends has a date. -/
theorem day_ex {n : Int} (h1 : -4371587 ≤ n) (h2 : n ≤ 2932896) : ∃ y m d, Gd y m d ∧ dayN y m d = n := by
  have hlo := fy_lo; have hhi := fy_hi
  obtain ⟨y, a, b, c, e⟩ := year_ex (n := n) (by omega) 19999 (by rw [show (-9999 + ((19999 : Nat) : Int)) = 10000 by omega]; omega)
  have hend := md_end y
  have hst := fy_step y
  obtain ⟨m, m1, m2, m3, m4⟩ := month_ex (y := y) (r := n - fy y) (by omega) 12 (by
    rw [show (1 + ((12 : Nat) : Int)) = 13 by omega, hend]
    split at hst <;> rename_i hl <;> simp [hl] <;> omega)
  have hs := md_step (y := y) m1 (by omega)
  obtain ⟨g, hd⟩ := day_of (y := y) (m := m) (n := n) a (by omega) m1 (by omega) (by omega) (by omega)
  exact ⟨y, m, _, g, hd⟩
/-- What comes back of a count, as text. -/
structure KRes (tb : Tb) (t : Int) (e : Ending) : Prop where
  good : ∀ day sec y m d, At tb t day sec → Gd y m d → dayN y m d = day → e = .returned (.string (strOfNums (ckt y m d sec)))
  no : (∀ day sec, ¬ At tb t day sec) → e = .returned (.string ⟨#[]⟩)
set_option maxRecDepth 4000 in
set_option maxHeartbeats 2000000 in
theorem clock_at (p : Addr) (t day sec y m d : Int) (hg : Gd y m d) (hd : dayN y m d = day) (h0 : 0 ≤ sec) (h1 : sec ≤ 86400) (w : World) (hR : Ready w)
    (hU : Calls Tryd.prog 13 #[.pointer (some p), .int .i64 t] w fun e w' => e = .returned (.tuple #[.int .i64 day, .int .i64 sec, .int .i64 0]) ∧ Below w.heap.size w w') :
    Calls Tryd.prog 15 #[.pointer (some p), .int .i64 t] w fun e w' => e = .returned (.string (strOfNums (ckt y m d sec))) ∧ Below w.heap.size w w' := by
  have CU : Hid (∀ u, u = w → Calls Tryd.prog 13 #[.pointer (some p), .int .i64 t] u fun e w' => e = .returned (.tuple #[.int .i64 day, .int .i64 sec, .int .i64 0]) ∧ Below w.heap.size w w') := fun u h => by rw [h]; exact hU
  obtain ⟨H, hH⟩ : ∃ H, H = hh sec := ⟨_, rfl⟩
  obtain ⟨M, hM⟩ : ∃ M, M = mi sec := ⟨_, rfl⟩
  obtain ⟨S, hS⟩ : ∃ S, S = ss sec := ⟨_, rfl⟩
  have hHr : 0 ≤ H ∧ H ≤ 23 := by rw [hH]; unfold hh; split <;> omega
  have hMr : 0 ≤ M ∧ M ≤ 59 := by rw [hM]; unfold mi; split <;> omega
  have hSr : 0 ≤ S ∧ S ≤ 60 := by rw [hS]; unfold ss; split <;> omega
  have q1 : sec.tdiv 3600 = sec / 3600 := td_pos h0
  have q2 : sec.tdiv 60 = sec / 60 := td_pos h0
  have m1 : min (sec / 3600) 23 = H := by rw [hH]; unfold hh; split <;> omega
  have m2 : min (sec / 60 - H * 60) 59 = M := by rw [hH, hM]; unfold hh mi; split <;> omega
  have m3 : sec - H * 3600 - M * 60 = S := by rw [hH, hM, hS]; unfold hh mi ss; split <;> omega
  obtain ⟨X, hX⟩ : ∃ X, X = strOfNums (txt y m d) := ⟨_, rfl⟩
  obtain ⟨XH, hXH⟩ : ∃ X, X = strOfNums (pd 2 H) := ⟨_, rfl⟩
  obtain ⟨XM, hXM⟩ : ∃ X, X = strOfNums (pd 2 M) := ⟨_, rfl⟩
  obtain ⟨XS, hXS⟩ : ∃ X, X = strOfNums (pd 2 S) := ⟨_, rfl⟩
  have sX : X.size ≤ 11 := by
    rw [hX, strOfNums_size]; unfold txt; split <;> simp [body_len]
  have sH : XH.size = 2 := by rw [hXH, strOfNums_size, pd_len]
  have sM : XM.size = 2 := by rw [hXM, strOfNums_size, pd_len]
  have sS : XS.size = 2 := by rw [hXS, strOfNums_size, pd_len]
  have CD : Hid (∀ u, Ready u → Calls Tryd.prog 24 #[.int .i64 day] u fun e w' => e = .returned (.string X) ∧ Below u.heap.size u w') := fun u r => by rw [hX]; exact dtext_any y m d day hg hd u r
  have CH : Hid (∀ u, Ready u → Calls Tryd.prog 25 #[.int .i64 H] u fun e w' => e = .returned (.string XH) ∧ Below u.heap.size u w') := fun u r => by rw [hXH]; exact two_any H hHr.1 (by omega) u r
  have CM : Hid (∀ u, Ready u → Calls Tryd.prog 25 #[.int .i64 M] u fun e w' => e = .returned (.string XM) ∧ Below u.heap.size u w') := fun u r => by rw [hXM]; exact two_any M hMr.1 (by omega) u r
  have CS : Hid (∀ u, Ready u → Calls Tryd.prog 25 #[.int .i64 S] u fun e w' => e = .returned (.string XS) ∧ Below u.heap.size u w') := fun u r => by rw [hXS]; exact two_any S hSr.1 (by omega) u r
  have HE : Hid (X ++ ⟨#[84]⟩ ++ XH ++ ⟨#[58]⟩ ++ XM ++ ⟨#[58]⟩ ++ XS ++ ⟨#[90]⟩ = strOfNums (ckt y m d sec)) := by
    show _ = _
    rw [hX, hXH, hXM, hXS, clock_str, hH, hM, hS]
    rfl
  have RR : Hid (Ready w) := hR
  clear hX hXH hXM hXS hH hM hS hg hd hR hU
  go_enter Tryd.func15, Tryd.ntmps15
  go_wp2_with (first | (go_at_call 25; have hgo := B4.out; clear hgo; refine (CS.out _ (RR.out.on B4.out)).mono ?_; rintro e w5 ⟨rfl, hb5⟩; have B5 : Hid (Below w.heap.size w w5) := B4.out.trans (hb5.mono B4.out.size); clear hb5) | (go_at_call 25; have hgo := B3.out; clear hgo; refine (CM.out _ (RR.out.on B3.out)).mono ?_; rintro e w4 ⟨rfl, hb4⟩; have B4 : Hid (Below w.heap.size w w4) := B3.out.trans (hb4.mono B3.out.size); clear hb4) | (go_at_call 25; have hgo := B2.out; clear hgo; refine (CH.out _ (RR.out.on B2.out)).mono ?_; rintro e w3 ⟨rfl, hb3⟩; have B3 : Hid (Below w.heap.size w w3) := B2.out.trans (hb3.mono B2.out.size); clear hb3) | (go_at_call 24; refine (CD.out _ (RR.out.on B1.out)).mono ?_; rintro e w2 ⟨rfl, hb2⟩; have B2 : Hid (Below w.heap.size w w2) := B1.out.trans (hb2.mono B1.out.size); clear hb2) | (go_at_call 13; refine (CU.out _ rfl).mono ?_; rintro e w1 ⟨rfl, hb1⟩; have B1 : Hid (Below w.heap.size w w1) := hb1; clear hb1))
  go_ret
  exact ⟨by rw [← HE.out]; rfl, B5.out⟩
theorem lclock_any (p : Addr) (tb : Tb) (xs : List Int) (t : Int) (w : World) (hR : Ready w) (h : TB w p tb xs) (hg : GoodT tb) (h1 : -9223372036854775808 ≤ t) (h2 : t ≤ 9223372036854775807) :
    Calls Tryd.prog 15 #[.pointer (some p), .int .i64 t] w fun e w' => ((∀ day sec y m d, At tb t day sec → Gd y m d → dayN y m d = day → e = .returned (.string (strOfNums (ckt y m d sec)))) ∧ ((∀ day sec, ¬ At tb t day sec) → e = .returned (.string ⟨#[]⟩))) ∧ Below w.heap.size w w' := by
  have hu := lutc_any p tb xs t w h hg h1 h2
  by_cases ha : ∃ day sec, At tb t day sec
  · obtain ⟨day, sec, ha⟩ := ha
    have hk := ha.known
    obtain ⟨y, m, d, hgd, hd⟩ := day_ex hk.1 hk.2.1
    · refine (clock_at p t day sec y m d hgd hd ha.lo (by have := ha.hi; have := lenT_range hg hk; omega) w hR (hu.mono (by rintro e w' ⟨hr, hb⟩; exact ⟨hr.good _ _ ha, hb⟩))).mono ?_
      rintro e w' ⟨rfl, hb⟩
      refine ⟨⟨fun day' sec' y' m' d' ha' hg' hd' => ?_, fun h => absurd ha (h day sec)⟩, hb⟩
      obtain ⟨rfl, rfl⟩ := at_inj hg ha ha'
      obtain ⟨rfl, rfl, rfl⟩ := day_inj hgd hg' (hd.trans hd'.symm)
      rfl
  · have hno : ∀ day sec, ¬ At tb t day sec := fun day sec h => ha ⟨day, sec, h⟩
    have CU : Hid (∀ u, u = w → Calls Tryd.prog 13 #[.pointer (some p), .int .i64 t] u fun e w' => e = .returned (.tuple #[.int .i64 0, .int .i64 0, .int .i64 4]) ∧ Below w.heap.size w w') := fun u h => by rw [h]; exact hu.mono (by rintro e w' ⟨hr, hb⟩; exact ⟨hr.no hno, hb⟩)
    have HNO : Hid (∀ day sec, ¬ At tb t day sec) := hno
    clear hu ha hno h hg hR
    go_enter Tryd.func15, Tryd.ntmps15
    go_wp2_with (go_at_call 13; refine (CU.out _ rfl).mono ?_; rintro e w1 ⟨rfl, hb1⟩; have B1 : Hid (Below w.heap.size w w1) := hb1; clear hb1)
    go_ret
    exact ⟨⟨fun day sec y m d h => absurd h (HNO.out day sec), fun _ => rfl⟩, B1.out⟩
end Go.Proofs.YthkafbeojeedbaaDoor
