/-
  What the landed texts of dates (civil: digits, Text) answer, where the library's table of powers of ten holds what its text lays.
-/
import Derived.Test.YtglommaegcaodaaDoorCivilD
import Derived.Test.YtglommaegcaodaaDoorShelf
import Derived.Lib.AppendIntMem
import Derived.Deep.RegionHeld3
namespace Go.Proofs.YtglommaegcaodaaDoor
open Go.RowKit
set_option linter.unusedVariables false

/-- The library's table of powers of ten reads as its text lays it. -/
def Ready (w : World) : Prop := Lib.TabIs Tryd.prog w "internal/strconv.uint64pow10" .u64 Lib.pow10Tab
theorem Ready.on {w w' : World} (h : Ready w) (hb : Below w.heap.size w w') : Ready w' := Lib.tabBelow_of_tabIs h w' hb
theorem Ready.past {w : World} (h : Ready w) (o : Obj) : Ready (w.alloc o) := h.on ((Below.refl _ _).alloc (Nat.le_refl _) o)
/-- Bytes. -/
abbrev bts (xs : List Int) : List UInt8 := xs.map fun n => UInt8.ofNat n.toNat
theorem pd_zero (K : Nat) : pd K 0 = List.replicate K 48 := by
  induction K with
  | zero => rfl
  | succ K ih =>
    show pd K (0 / 10) ++ [48 + 0 % 10] = _
    rw [show (0 : Int) / 10 = 0 by decide, ih, List.replicate_succ']
    rfl
theorem dec_pd : ∀ (K u : Nat), u < 10 ^ K → 1 ≤ K → (Lib.decDigits u).length ≤ K ∧ List.replicate (K - (Lib.decDigits u).length) 48 ++ Lib.decDigits u = bts (pd K u)
  | 0, u, _, h => absurd h (by decide)
  | K + 1, u, hu, _ => by
    by_cases h : u < 10
    · have e1 : ((u : Int) / 10) = 0 := by omega
      have e2 : ((u : Int) % 10) = u := by omega
      rw [Lib.decDigits, dif_pos h]
      refine ⟨by simp, ?_⟩
      show _ = bts (pd K ((u : Int) / 10) ++ [48 + (u : Int) % 10])
      rw [e1, e2, pd_zero]
      have e3 : (48 + (u : Int)).toNat = 48 + u := by omega
      simp [bts, e3]
    · have hK : 1 ≤ K := by
        cases K with
        | zero => simp at hu; omega
        | succ K => omega
      obtain ⟨h1, h2⟩ := dec_pd K (u / 10) (by rw [Nat.pow_succ] at hu; omega) hK
      have e1 : ((u : Int) / 10) = ((u / 10 : Nat) : Int) := by omega
      have e3 : (48 + (u : Int) % 10).toNat = 48 + u % 10 := by omega
      rw [Lib.decDigits, dif_neg h]
      refine ⟨by simp; omega, ?_⟩
      show _ = bts (pd K ((u : Int) / 10) ++ [48 + (u : Int) % 10])
      rw [e1]
      show _ = List.map _ (_ ++ _)
      rw [List.map_append]
      show _ = bts (pd K ↑(u / 10)) ++ _
      rw [← h2]
      simp [e3]
theorem dig_str (K u : Nat) (h : u < 10 ^ K) (h1 : 1 ≤ K) : (⟨(Lib.repeatL [48] (K - (Lib.itoa (u : Int)).length)).toArray⟩ ++ ⟨(Lib.itoa (u : Int)).toArray⟩ : ByteArray) = strOfNums (pd K u) := by
  have h2 := (dec_pd K u h h1).2
  rw [Lib.itoa_nonneg]
  have e : Lib.repeatL [48] (K - (Lib.decDigits u).length) = List.replicate (K - (Lib.decDigits u).length) 48 := by
    have := Lib.repeatL_replicate 48 1 (K - (Lib.decDigits u).length)
    simpa using this
  rw [e]
  apply ByteArray.ext
  simp only [ByteArray.data_append, List.append_toArray, h2]
  rfl
theorem digits_any (u K : Nat) (w : World) (hR : Ready w) (h : u < 10 ^ K) (h1 : 1 ≤ K) (h2 : K ≤ 9) :
    Calls Tryd.prog 29 #[.int .i64 u, .int .i64 K] w fun e w' => e = .returned (.string (strOfNums (pd K u))) ∧ Below w.heap.size w w' := by
  have hlen := (dec_pd K u h h1).1
  rw [← Lib.itoa_nonneg] at hlen
  have hstr := dig_str K u h h1
  have hu : u < 1000000000 := Nat.lt_of_lt_of_le h (Nat.pow_le_pow_right (by decide) h2 : 10 ^ K ≤ 10 ^ 9)
  obtain ⟨L, hL⟩ : ∃ L, L = (Lib.itoa (u : Int)).length := ⟨_, rfl⟩
  obtain ⟨S, hS⟩ : ∃ S : ByteArray, S = ⟨(Lib.itoa (u : Int)).toArray⟩ := ⟨_, rfl⟩
  obtain ⟨R, hRp⟩ : ∃ R : ByteArray, R = ⟨(Lib.repeatL [48] (K - L)).toArray⟩ := ⟨_, rfl⟩
  have hSs : S.size = L := by rw [hS, hL]; simp [ByteArray.size]
  have hRs : R.size ≤ 9 := by rw [hRp]; simp only [ByteArray.size, List.size_toArray, Lib.repeatL_length]; simp; omega
  have C1 : Hid (Calls Tryd.prog 35 #[.int .i64 u] w fun e w' => e = .returned (.string S) ∧ Below w.heap.size w w') := by
    rw [hS]
    exact (Tryd.strconv_Itoa u (by omega) (by omega) w hR).mono (by rintro e w' ⟨rfl, k, os, rfl⟩; exact ⟨rfl, Lib.below_grow _ w (Nat.le_refl _) k os⟩)
  have C2 : Hid (∀ w, Calls Tryd.prog 36 #[.string ⟨#[48]⟩, .int .i64 ((K : Int) - L)] w fun e w' => e = .returned (.string R) ∧ Below w.heap.size w w') := fun w => by
    have e : ((K : Int) - L) = ((K - L : Nat) : Int) := by omega
    rw [e, hRp]
    exact Tryd.strings_Repeat ⟨#[48]⟩ (K - L) w (by omega) (by show 1 * (K - L) ≤ _; omega)
  have HE : Hid (R ++ S = strOfNums (pd K u)) := by
    show _ = _
    rw [hRp, hS, hL]
    exact hstr
  rw [← hL] at hlen
  clear hstr hL hS hRp hR h
  go_enter Tryd.func29, Tryd.ntmps29
  go_wp2_with (first | (go_at_call 35; refine C1.out.mono ?_; rintro e w1 ⟨rfl, hb1⟩; have HB1 : Hid (Below w.heap.size w w1) := hb1; clear hb1) | (go_at_call 36; refine (C2.out _).mono ?_; rintro e w2 ⟨rfl, hb2⟩; have HB2 : Hid (Below w.heap.size w w2) := HB1.out.trans (hb2.mono HB1.out.size); clear hb2))
  go_ret
  exact ⟨by rw [HE.out]; rfl, HB2.out⟩
theorem txt_pos' (y m d : Int) (h : ¬ y < 0) : ⟨#[]⟩ ++ strOfNums (pd 4 (ab y)) ++ ⟨#[45]⟩ ++ strOfNums (pd 2 m) ++ ⟨#[45]⟩ ++ strOfNums (pd 2 d) = strOfNums (txt y m d) := by
  rw [← txt_pos y m d h]
  show strOfNums [] ++ strOfNums (pd 4 (ab y)) ++ _ ++ _ ++ _ ++ _ = _
  rw [nums_app]
  rfl
set_option maxHeartbeats 1000000 in
theorem text_any (y m d : Int) (w : World) (hR : Ready w) (h1 : -9223372036854775808 ≤ y) (h2 : y ≤ 9223372036854775807) (h3 : -9223372036854775808 ≤ m) (h4 : m ≤ 9223372036854775807) (h5 : -9223372036854775808 ≤ d) (h6 : d ≤ 9223372036854775807) :
    Calls Tryd.prog 16 #[.agg #[.int .i64 y, .int .i64 m, .int .i64 d]] w fun e w' => e = .returned (.string (strOfNums (if Gd y m d then txt y m d else []))) ∧ Below w.heap.size w w' := by
  have HG : Hid (∀ w, Calls Tryd.prog 25 #[.agg #[.int .i64 y, .int .i64 m, .int .i64 d]] w fun e w' => e = .returned (.bool (decide (Gd y m d))) ∧ Below w.heap.size w w') := fun w => isdate_any y m d w h1 h2 h3 h4
  go_enter Tryd.func16, Tryd.ntmps16
  by_cases hg : Gd y m d
  · have hgt : decide (Gd y m d) = true := decide_eq_true hg
    rw [if_pos hg]
    rw [hgt] at HG
    have hmo := hg.month
    have hda := hg.day
    have hab := hg.ab
    obtain ⟨g1, g2, _⟩ := hg
    obtain ⟨A, hA⟩ : ∃ A, A = strOfNums (pd 4 (ab y)) := ⟨_, rfl⟩
    obtain ⟨B, hB⟩ : ∃ B, B = strOfNums (pd 2 m) := ⟨_, rfl⟩
    obtain ⟨C, hC⟩ : ∃ C, C = strOfNums (pd 2 d) := ⟨_, rfl⟩
    have hAs : A.size = 4 := by rw [hA, strOfNums_size, pd_len]
    have hBs : B.size = 2 := by rw [hB, strOfNums_size, pd_len]
    have hCs : C.size = 2 := by rw [hC, strOfNums_size, pd_len]
    have PA : Hid (∀ w, Ready w → Calls Tryd.prog 29 #[.int .i64 (ab y), .int .i64 4] w fun e w' => e = .returned (.string A) ∧ Below w.heap.size w w') := fun w r => by
      have e : ab y = ((ab y).toNat : Int) := by omega
      rw [hA, e]; exact digits_any (ab y).toNat 4 w r (by omega) (by omega) (by omega)
    have PB : Hid (∀ w, Ready w → Calls Tryd.prog 29 #[.int .i64 m, .int .i64 2] w fun e w' => e = .returned (.string B) ∧ Below w.heap.size w w') := fun w r => by
      have e : m = (m.toNat : Int) := by omega
      rw [hB, e]; exact digits_any m.toNat 2 w r (by omega) (by omega) (by omega)
    have PC : Hid (∀ w, Ready w → Calls Tryd.prog 29 #[.int .i64 d, .int .i64 2] w fun e w' => e = .returned (.string C) ∧ Below w.heap.size w w') := fun w r => by
      have e : d = (d.toNat : Int) := by omega
      rw [hC, e]; exact digits_any d.toNat 2 w r (by omega) (by omega) (by omega)
    have HN : Hid (y < 0 → ⟨#[45]⟩ ++ A ++ ⟨#[45]⟩ ++ B ++ ⟨#[45]⟩ ++ C = strOfNums (txt y m d)) := fun h => by rw [hA, hB, hC]; exact txt_neg y m d h
    have HP : Hid (¬ y < 0 → ⟨#[]⟩ ++ A ++ ⟨#[45]⟩ ++ B ++ ⟨#[45]⟩ ++ C = strOfNums (txt y m d)) := fun h => by rw [hA, hB, hC]; exact txt_pos' y m d h
    clear hA hB hC
    have RR : Hid (Ready w) := hR
    clear hR
    by_cases hneg : y < 0
    · have eab : ab y = -y := if_pos hneg
      rw [eab] at PA
      clear eab hab
      have hwr : IntKind.i64.wrap (-y) = -y := by rw [IntKind.wrap_i64]; omega
      go_wp2_with (go_at_call 25; refine (HG.out _).mono ?_; rintro e w1 ⟨rfl, hb1⟩; have HB1 : Hid (Below w.heap.size w w1) := ((Below.refl _ _).alloc (Nat.le_refl _) _).trans (hb1.mono (by simp)); have HD : Hid (DateAt w1 w.heap.size y m d) := (DateAt.made w 27 y m d).below hb1 (by simp); have hsz : w.heap.size < w1.heap.size := Nat.lt_of_lt_of_le (by simp) hb1.size; have hd0 := HD.out.c0; clear hb1)
      go_quiet (fail)
      go_wp2
      obtain ⟨v, hv⟩ : ∃ v, v = w1.drewN nq := ⟨_, rfl⟩
      rw [← hv]
      have hbv : Below w1.heap.size w1 v := by rw [hv]; exact below_dN (Below.refl _ _) nq
      have HBV : Hid (Below w.heap.size w v) := HB1.out.trans (hbv.mono HB1.out.size)
      have HDV : Hid (DateAt v w.heap.size y m d) := HD.out.below hbv hsz
      have hszv : w.heap.size < v.heap.size := Nat.lt_of_lt_of_le hsz hbv.size
      clear hbv hv hd0 HD HB1 hsz HG hgt
      have KS : Hid (∀ w', Below v.heap.size v w' → Below v.heap.size v w' ∧ w'.cell? ⟨w.heap.size, 1, none⟩ = some (.int .i64 m) ∧ w'.cell? ⟨w.heap.size, 2, none⟩ = some (.int .i64 d)) :=
        fun w' h => ⟨h, (HDV.out.below h hszv).c1, (HDV.out.below h hszv).c2⟩
      have QR : Hid (∀ w', Below v.heap.size v w' → Ready w') := fun w' h => RR.out.on (HBV.out.trans (h.mono HBV.out.size))
      have QA : Hid (∀ w', Below v.heap.size v w' → Calls Tryd.prog 29 #[.int .i64 (-y), .int .i64 4] w' fun e w'' => e = .returned (.string A) ∧ Below v.heap.size v w'') :=
        fun v' h => (PA.out v' (QR.out v' h)).mono (by rintro e w' ⟨rfl, h'⟩; exact ⟨rfl, h.trans (h'.mono h.size)⟩)
      have QB : Hid (∀ w', Below v.heap.size v w' → Calls Tryd.prog 29 #[.int .i64 m, .int .i64 2] w' fun e w'' => e = .returned (.string B) ∧ Below v.heap.size v w'') :=
        fun v' h => (PB.out v' (QR.out v' h)).mono (by rintro e w' ⟨rfl, h'⟩; exact ⟨rfl, h.trans (h'.mono h.size)⟩)
      have QC : Hid (∀ w', Below v.heap.size v w' → Calls Tryd.prog 29 #[.int .i64 d, .int .i64 2] w' fun e w'' => e = .returned (.string C) ∧ Below v.heap.size v w'') :=
        fun v' h => (PC.out v' (QR.out v' h)).mono (by rintro e w' ⟨rfl, h'⟩; exact ⟨rfl, h.trans (h'.mono h.size)⟩)
      clear PA PB PC
      go_region_held3 (fun w' => Below v.heap.size v w' ∧ w'.cell? ⟨w.heap.size, 1, none⟩ = some (.int .i64 m) ∧ w'.cell? ⟨w.heap.size, 2, none⟩ = some (.int .i64 d)) (first | exact KS.out _ (by assumption) | exact KS.out _ (Below.refl _ _).drew) (first | (go_at_call_of 29 (4 : Int); refine (QA.out _ (by first | assumption | exact (Below.refl _ _).drew)).mono ?_; rintro e w5 ⟨rfl, hb5⟩) | (go_at_call_of 29 m; refine (QB.out _ (by first | assumption | exact (Below.refl _ _).drew)).mono ?_; rintro e w6 ⟨rfl, hb6⟩) | (go_at_call_of 29 d; refine (QC.out _ (by first | assumption | exact (Below.refl _ _).drew)).mono ?_; rintro e w7 ⟨rfl, hb7⟩))
      go_wp2
      go_ret
      exact ⟨by rw [← HN.out hneg]; rfl, HBV.out.trans (hb7.mono HBV.out.size)⟩
    · have eab : ab y = y := if_neg hneg
      rw [eab] at PA
      clear eab hab
      go_wp2_with (go_at_call 25; refine (HG.out _).mono ?_; rintro e w1 ⟨rfl, hb1⟩; have HB1 : Hid (Below w.heap.size w w1) := ((Below.refl _ _).alloc (Nat.le_refl _) _).trans (hb1.mono (by simp)); have HD : Hid (DateAt w1 w.heap.size y m d) := (DateAt.made w 27 y m d).below hb1 (by simp); have hsz : w.heap.size < w1.heap.size := Nat.lt_of_lt_of_le (by simp) hb1.size; have hd0 := HD.out.c0; clear hb1)
      go_quiet (fail)
      go_wp2
      obtain ⟨v, hv⟩ : ∃ v, v = w1.drewN nq := ⟨_, rfl⟩
      rw [← hv]
      have hbv : Below w1.heap.size w1 v := by rw [hv]; exact below_dN (Below.refl _ _) nq
      have HBV : Hid (Below w.heap.size w v) := HB1.out.trans (hbv.mono HB1.out.size)
      have HDV : Hid (DateAt v w.heap.size y m d) := HD.out.below hbv hsz
      have hszv : w.heap.size < v.heap.size := Nat.lt_of_lt_of_le hsz hbv.size
      clear hbv hv hd0 HD HB1 hsz HG hgt
      have KS : Hid (∀ w', Below v.heap.size v w' → Below v.heap.size v w' ∧ w'.cell? ⟨w.heap.size, 1, none⟩ = some (.int .i64 m) ∧ w'.cell? ⟨w.heap.size, 2, none⟩ = some (.int .i64 d)) :=
        fun w' h => ⟨h, (HDV.out.below h hszv).c1, (HDV.out.below h hszv).c2⟩
      have QR : Hid (∀ w', Below v.heap.size v w' → Ready w') := fun w' h => RR.out.on (HBV.out.trans (h.mono HBV.out.size))
      have QA : Hid (∀ w', Below v.heap.size v w' → Calls Tryd.prog 29 #[.int .i64 (y), .int .i64 4] w' fun e w'' => e = .returned (.string A) ∧ Below v.heap.size v w'') :=
        fun v' h => (PA.out v' (QR.out v' h)).mono (by rintro e w' ⟨rfl, h'⟩; exact ⟨rfl, h.trans (h'.mono h.size)⟩)
      have QB : Hid (∀ w', Below v.heap.size v w' → Calls Tryd.prog 29 #[.int .i64 m, .int .i64 2] w' fun e w'' => e = .returned (.string B) ∧ Below v.heap.size v w'') :=
        fun v' h => (PB.out v' (QR.out v' h)).mono (by rintro e w' ⟨rfl, h'⟩; exact ⟨rfl, h.trans (h'.mono h.size)⟩)
      have QC : Hid (∀ w', Below v.heap.size v w' → Calls Tryd.prog 29 #[.int .i64 d, .int .i64 2] w' fun e w'' => e = .returned (.string C) ∧ Below v.heap.size v w'') :=
        fun v' h => (PC.out v' (QR.out v' h)).mono (by rintro e w' ⟨rfl, h'⟩; exact ⟨rfl, h.trans (h'.mono h.size)⟩)
      clear PA PB PC
      go_region_held3 (fun w' => Below v.heap.size v w' ∧ w'.cell? ⟨w.heap.size, 1, none⟩ = some (.int .i64 m) ∧ w'.cell? ⟨w.heap.size, 2, none⟩ = some (.int .i64 d)) (first | exact KS.out _ (by assumption) | exact KS.out _ (Below.refl _ _).drew) (first | (go_at_call_of 29 (4 : Int); refine (QA.out _ (by first | assumption | exact (Below.refl _ _).drew)).mono ?_; rintro e w5 ⟨rfl, hb5⟩) | (go_at_call_of 29 m; refine (QB.out _ (by first | assumption | exact (Below.refl _ _).drew)).mono ?_; rintro e w6 ⟨rfl, hb6⟩) | (go_at_call_of 29 d; refine (QC.out _ (by first | assumption | exact (Below.refl _ _).drew)).mono ?_; rintro e w7 ⟨rfl, hb7⟩))
      go_wp2
      go_ret
      exact ⟨by rw [← HP.out (by omega)]; rfl, HBV.out.trans (hb7.mono HBV.out.size)⟩
  · have hgf : decide (Gd y m d) = false := decide_eq_false hg
    rw [if_neg hg]
    rw [hgf] at HG
    go_wp2_with (go_at_call 25; refine (HG.out _).mono ?_; rintro e w1 ⟨rfl, hb1⟩; have HB1 : Hid (Below w.heap.size w w1) := ((Below.refl _ _).alloc (Nat.le_refl _) _).trans (hb1.mono (by simp)); clear hb1)
    go_ret
    exact ⟨rfl, HB1.out⟩
end Go.Proofs.YtglommaegcaodaaDoor
