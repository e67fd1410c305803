/-
  What the document's own Text and Parse (hourglassref4) answer.
-/
import Derived.Test.YtglommaegcaodaaDoorRefCivil3
import Derived.Deep.RegionHeld3
namespace Go.Proofs.YtglommaegcaodaaDoor
open Go.RowKit
set_option linter.unusedVariables false

set_option maxHeartbeats 1000000 in
theorem rtext_any (y m d : Int) (w : World) (h1 : -9223372036854775808 ≤ y) (h2 : y ≤ 9223372036854775807) (h3 : -9223372036854775808 ≤ m) (h4 : m ≤ 9223372036854775807) :
    Calls Tryd.prog 23 #[.agg #[.int .i64 y, .int .i64 m, .int .i64 d]] w fun e w' => e = .returned (.string (strOfNums (if Gd y m d then txt y m d else []))) ∧ Below w.heap.size w w' := by
  have HG : Hid (∀ w, Calls Tryd.prog 30 #[.agg #[.int .i64 y, .int .i64 m, .int .i64 d]] w fun e w' => e = .returned (.bool (decide (Gd y m d))) ∧ Below w.heap.size w w') := fun w => rgood_any y m d w h1 h2 h3 h4
  go_enter Tryd.func23, Tryd.ntmps23
  by_cases hg : Gd y m d
  · have hgt : decide (Gd y m d) = true := decide_eq_true hg
    rw [if_pos hg]
    rw [hgt] at HG
    have hmo := hg.month
    have hda := hg.day
    have hab := hg.ab
    obtain ⟨g1, g2, _⟩ := hg
    obtain ⟨A, hA⟩ : ∃ A, A = strOfNums (pd 4 (ab y)) := ⟨_, rfl⟩
    obtain ⟨B, hB⟩ : ∃ B, B = strOfNums (pd 2 m) := ⟨_, rfl⟩
    obtain ⟨C, hC⟩ : ∃ C, C = strOfNums (pd 2 d) := ⟨_, rfl⟩
    have hAs : A.size = 4 := by rw [hA, strOfNums_size, pd_len]
    have hBs : B.size = 2 := by rw [hB, strOfNums_size, pd_len]
    have hCs : C.size = 2 := by rw [hC, strOfNums_size, pd_len]
    have PA : Hid (∀ w, Calls Tryd.prog 32 #[.int .i64 (ab y), .int .i64 4] w fun e w' => e = .returned (.string A) ∧ Below w.heap.size w w') := fun w => by rw [hA]; exact rpad_any (ab y) 4 w hab.1 (by omega) (by omega)
    have PB : Hid (∀ w, Calls Tryd.prog 32 #[.int .i64 m, .int .i64 2] w fun e w' => e = .returned (.string B) ∧ Below w.heap.size w w') := fun w => by rw [hB]; exact rpad_any m 2 w (by omega) (by omega) (by omega)
    have PC : Hid (∀ w, Calls Tryd.prog 32 #[.int .i64 d, .int .i64 2] w fun e w' => e = .returned (.string C) ∧ Below w.heap.size w w') := fun w => by rw [hC]; exact rpad_any d 2 w (by omega) (by omega) (by omega)
    have HN : Hid (y < 0 → ⟨#[45]⟩ ++ A ++ ⟨#[45]⟩ ++ B ++ ⟨#[45]⟩ ++ C = strOfNums (txt y m d)) := fun h => by rw [hA, hB, hC]; exact txt_neg y m d h
    have HP : Hid (¬ y < 0 → A ++ ⟨#[45]⟩ ++ B ++ ⟨#[45]⟩ ++ C = strOfNums (txt y m d)) := fun h => by rw [hA, hB, hC]; exact txt_pos y m d h
    clear hA hB hC
    by_cases hneg : y < 0
    · have eab : ab y = -y := if_pos hneg
      rw [eab] at PA
      clear eab hab
      have hwr : IntKind.i64.wrap (-y) = -y := by rw [IntKind.wrap_i64]; omega
      go_wp2_with (go_at_call 30; refine (HG.out _).mono ?_; rintro e w1 ⟨rfl, hb1⟩; have HB1 : Hid (Below w.heap.size w w1) := ((Below.refl _ _).alloc (Nat.le_refl _) _).trans (hb1.mono (by simp)); have HD : Hid (DateAt w1 w.heap.size y m d) := (DateAt.made w 37 y m d).below hb1 (by simp); have hsz : w.heap.size < w1.heap.size := Nat.lt_of_lt_of_le (by simp) hb1.size; have hd0 := HD.out.c0; clear hb1)
      have KS : Hid (∀ w', Below w1.heap.size w1 w' → Below w1.heap.size w1 w' ∧ w'.cell? ⟨w.heap.size, 0, none⟩ = some (.int .i64 y) ∧ w'.cell? ⟨w.heap.size, 1, none⟩ = some (.int .i64 m) ∧ w'.cell? ⟨w.heap.size, 2, none⟩ = some (.int .i64 d)) :=
        fun w' h => ⟨h, (HD.out.below h hsz).c0, (HD.out.below h hsz).c1, (HD.out.below h hsz).c2⟩
      have QA : Hid (∀ v, Below w1.heap.size w1 v → Calls Tryd.prog 32 #[.int .i64 (-y), .int .i64 4] v fun e w' => e = .returned (.string A) ∧ Below w1.heap.size w1 w') :=
        fun v h => (PA.out v).mono (by rintro e w' ⟨rfl, h'⟩; exact ⟨rfl, h.trans (h'.mono h.size)⟩)
      have QB : Hid (∀ v, Below w1.heap.size w1 v → Calls Tryd.prog 32 #[.int .i64 (m), .int .i64 2] v fun e w' => e = .returned (.string B) ∧ Below w1.heap.size w1 w') :=
        fun v h => (PB.out v).mono (by rintro e w' ⟨rfl, h'⟩; exact ⟨rfl, h.trans (h'.mono h.size)⟩)
      have QC : Hid (∀ v, Below w1.heap.size w1 v → Calls Tryd.prog 32 #[.int .i64 (d), .int .i64 2] v fun e w' => e = .returned (.string C) ∧ Below w1.heap.size w1 w') :=
        fun v h => (PC.out v).mono (by rintro e w' ⟨rfl, h'⟩; exact ⟨rfl, h.trans (h'.mono h.size)⟩)
      clear hd0 PA PB PC HG
      go_region_held3 (fun w' => Below w1.heap.size w1 w' ∧ w'.cell? ⟨w.heap.size, 0, none⟩ = some (.int .i64 y) ∧ w'.cell? ⟨w.heap.size, 1, none⟩ = some (.int .i64 m) ∧ w'.cell? ⟨w.heap.size, 2, none⟩ = some (.int .i64 d)) (first | exact KS.out _ (by assumption) | exact KS.out _ (Below.refl _ _).drew) (first | (go_at_call_of 32 (4 : Int); refine (QA.out _ (by first | assumption | exact (Below.refl _ _).drew)).mono ?_; rintro e w5 ⟨rfl, hb5⟩) | (go_at_call_of 32 m; refine (QB.out _ (by first | assumption | exact (Below.refl _ _).drew)).mono ?_; rintro e w6 ⟨rfl, hb6⟩) | (go_at_call_of 32 d; refine (QC.out _ (by first | assumption | exact (Below.refl _ _).drew)).mono ?_; rintro e w7 ⟨rfl, hb7⟩))
      go_wp2
      go_ret
      exact ⟨by rw [← HN.out hneg]; rfl, HB1.out.trans (hb7.mono HB1.out.size)⟩
    · have eab : ab y = y := if_neg hneg
      rw [eab] at PA
      clear eab hab
      go_wp2_with (go_at_call 30; refine (HG.out _).mono ?_; rintro e w1 ⟨rfl, hb1⟩; have HB1 : Hid (Below w.heap.size w w1) := ((Below.refl _ _).alloc (Nat.le_refl _) _).trans (hb1.mono (by simp)); have HD : Hid (DateAt w1 w.heap.size y m d) := (DateAt.made w 37 y m d).below hb1 (by simp); have hsz : w.heap.size < w1.heap.size := Nat.lt_of_lt_of_le (by simp) hb1.size; have hd0 := HD.out.c0; clear hb1)
      have KS : Hid (∀ w', Below w1.heap.size w1 w' → Below w1.heap.size w1 w' ∧ w'.cell? ⟨w.heap.size, 0, none⟩ = some (.int .i64 y) ∧ w'.cell? ⟨w.heap.size, 1, none⟩ = some (.int .i64 m) ∧ w'.cell? ⟨w.heap.size, 2, none⟩ = some (.int .i64 d)) :=
        fun w' h => ⟨h, (HD.out.below h hsz).c0, (HD.out.below h hsz).c1, (HD.out.below h hsz).c2⟩
      have QA : Hid (∀ v, Below w1.heap.size w1 v → Calls Tryd.prog 32 #[.int .i64 (y), .int .i64 4] v fun e w' => e = .returned (.string A) ∧ Below w1.heap.size w1 w') :=
        fun v h => (PA.out v).mono (by rintro e w' ⟨rfl, h'⟩; exact ⟨rfl, h.trans (h'.mono h.size)⟩)
      have QB : Hid (∀ v, Below w1.heap.size w1 v → Calls Tryd.prog 32 #[.int .i64 (m), .int .i64 2] v fun e w' => e = .returned (.string B) ∧ Below w1.heap.size w1 w') :=
        fun v h => (PB.out v).mono (by rintro e w' ⟨rfl, h'⟩; exact ⟨rfl, h.trans (h'.mono h.size)⟩)
      have QC : Hid (∀ v, Below w1.heap.size w1 v → Calls Tryd.prog 32 #[.int .i64 (d), .int .i64 2] v fun e w' => e = .returned (.string C) ∧ Below w1.heap.size w1 w') :=
        fun v h => (PC.out v).mono (by rintro e w' ⟨rfl, h'⟩; exact ⟨rfl, h.trans (h'.mono h.size)⟩)
      clear hd0 PA PB PC HG
      go_region_held3 (fun w' => Below w1.heap.size w1 w' ∧ w'.cell? ⟨w.heap.size, 0, none⟩ = some (.int .i64 y) ∧ w'.cell? ⟨w.heap.size, 1, none⟩ = some (.int .i64 m) ∧ w'.cell? ⟨w.heap.size, 2, none⟩ = some (.int .i64 d)) (first | exact KS.out _ (by assumption) | exact KS.out _ (Below.refl _ _).drew) (first | (go_at_call_of 32 (4 : Int); refine (QA.out _ (by first | assumption | exact (Below.refl _ _).drew)).mono ?_; rintro e w5 ⟨rfl, hb5⟩) | (go_at_call_of 32 m; refine (QB.out _ (by first | assumption | exact (Below.refl _ _).drew)).mono ?_; rintro e w6 ⟨rfl, hb6⟩) | (go_at_call_of 32 d; refine (QC.out _ (by first | assumption | exact (Below.refl _ _).drew)).mono ?_; rintro e w7 ⟨rfl, hb7⟩))
      go_wp2
      go_ret
      exact ⟨by rw [← HP.out (by omega)]; rfl, HB1.out.trans (hb7.mono HB1.out.size)⟩
  · have hgf : decide (Gd y m d) = false := decide_eq_false hg
    rw [if_neg hg]
    rw [hgf] at HG
    go_wp2_with (go_at_call 30; refine (HG.out _).mono ?_; rintro e w1 ⟨rfl, hb1⟩; have HB1 : Hid (Below w.heap.size w w1) := ((Below.refl _ _).alloc (Nat.le_refl _) _).trans (hb1.mono (by simp)); clear hb1)
    go_ret
    exact ⟨rfl, HB1.out⟩
end Go.Proofs.YtglommaegcaodaaDoor
