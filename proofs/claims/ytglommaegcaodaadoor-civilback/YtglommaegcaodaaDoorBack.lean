/-
  CivilBack: every date's day is that date's again, its text too, and every day's date is that day's, for all three integers of a date and every day number; conditions: the library's tables, and its two errors where they are listed, hold what the program's own text lays (the card ties them, over the pruned copy).
-/
import Derived.Test.YtglommaegcaodaaDoorRows
import Derived.Test.YtglommaegcaodaaDoorCivilAwake
import Derived.Test.YtglommaegcaodaaDoorCivilP
import Derived.Test.YtglommaegcaodaaDoorDateOpen
import Derived.Test.YtglommaegcaodaaDoorCards
import Derived.Test.YtglommaegcaodaaDoorTie
import Derived.Test.YtglommaegcaodaaDoorCivilLaid
import Derived.Test.YtglommaegcaodaaDoorCivilLaidE
import Derived.WalkKit
import Derived.ProofKit
import Derived.OpenShut
import Derived.ShutString
import Derived.ChangeOld
import Derived.Below
import Derived.Carry
import Derived.Deep.RegionHeld3
import Derived.SevenTiedAt
import Derived.SizedLaws
import Derived.JoinedAt
namespace Go.Proofs.YtglommaegcaodaaDoor.civilBack
open Go.ChangeShapes Go.WideShapes Go.ChangeAt Go.RowKit
open Go.ChangeMaps (open_string shut_string)
set_option linter.unusedVariables false

theorem own : ownKnob Tryd.prog.godebug = none := by kernel_rfl
theorem laidOut : laidOutB Tryd.prog = true := by kernel_rfl
/-- A slice of integers that came in: nil, or a row of 'cap' cells, of which the first 'len' are its elements. -/
def IsRow (k : IntKind) (w : World) (a : Option Addr) (len cap : Nat) (zs : List Int) : Prop :=
  (a = none ∧ len = 0 ∧ cap = 0 ∧ zs = []) ∨
  ∃ x, a = some x ∧ len ≤ cap ∧ cap ≤ maxLen ∧ zs.length = cap ∧ (∀ i, i < zs.length → w.cell? (x.add i) = some (.int k (zs.getD i 0))) ∧ ∀ n ∈ zs, (Lit.int k n).wf = true

set_option maxHeartbeats 2000000 in
theorem walk (a0 b0 c0 : Int) (a1 : Int) (w : World) (w0 : (Lit.int .i64 a0).wf = true) (x0 : (Lit.int .i64 b0).wf = true) (y0 : (Lit.int .i64 c0).wf = true) (w1 : (Lit.int .i64 a1).wf = true) (hR : Ready w) (hE : ErrSyn w) :
    Calls Tryd.prog 6 #[.agg #[.int .i64 a0, .int .i64 b0, .int .i64 c0], .int .i64 a1] w fun e w' => e = .returned (.bool true) ∧ Below w.heap.size w w' := by
  have by0 := bounds_i64 w0
  have by1 := bounds_i64 x0
  have by2 := bounds_i64 y0
  have by3 := bounds_i64 w1
  have AW : Hid (∀ v, Below w.heap.size w v → Calls Tryd.prog 9 #[] v fun e w' => e = .returned (.bool true) ∧ Below v.heap.size v w') := fun v h => awake_any v (hR.on h)
  have RR : Hid (Ready w) := hR
  have EE : Hid (ErrSyn w) := hE
  clear hR hE
  clear w0 x0 y0 w1
  have CO : Hid ((a1 < -4371587 ∨ 2932896 < a1) → ∀ w, Calls Tryd.prog 11 #[.int .i64 a1] w fun e w' => e = .returned (.tuple #[.agg #[.int .i64 0, .int .i64 0, .int .i64 0], .int .i64 1]) ∧ Below w.heap.size w w') := fun h w => of_out a1 w h (by omega) (by omega)
  have CI : Hid (¬ (a1 < -4371587 ∨ 2932896 < a1) → ∀ w, Calls Tryd.prog 11 #[.int .i64 a1] w fun e w' => ∃ y m d, e = .returned (.tuple #[.agg #[.int .i64 y, .int .i64 m, .int .i64 d], .int .i64 0]) ∧ Gd y m d ∧ dayN y m d = a1 ∧ Below w.heap.size w w') := fun h w => of_in a1 w (by omega) (by omega)
  by_cases hg : Gd a0 b0 c0
  · obtain ⟨A, hA⟩ : ∃ A, A = dayN a0 b0 c0 := ⟨_, rfl⟩
    have hAr := day_range hg
    obtain ⟨X, hX⟩ : ∃ X, X = strOfNums (txt a0 b0 c0) := ⟨_, rfl⟩
    have C1 : Hid (∀ w, Calls Tryd.prog 10 #[.agg #[.int .i64 a0, .int .i64 b0, .int .i64 c0]] w fun e w' => e = .returned (.tuple #[.int .i64 A, .int .i64 0]) ∧ Below w.heap.size w w') := fun w => by rw [hA]; exact days_good a0 b0 c0 w hg
    have C2 : Hid (∀ w, Calls Tryd.prog 11 #[.int .i64 A] w fun e w' => e = .returned (.tuple #[.agg #[.int .i64 a0, .int .i64 b0, .int .i64 c0], .int .i64 0]) ∧ Below w.heap.size w w') := fun w =>
      (of_in A w (by omega) (by omega)).mono (by rintro e w' ⟨y, m, d, rfl, hg', h0, hb⟩; obtain ⟨rfl, rfl, rfl⟩ := day_inj hg' hg (by rw [h0, hA]); exact ⟨rfl, hb⟩)
    have C3 : Hid (∀ v, Below w.heap.size w v → Calls Tryd.prog 16 #[.agg #[.int .i64 a0, .int .i64 b0, .int .i64 c0]] v fun e w' => e = .returned (.string X) ∧ Below v.heap.size v w') := fun v hv => by
      have h := text_any a0 b0 c0 v (RR.out.on hv) (by omega) (by omega) (by omega) (by omega) (by omega) (by omega)
      rw [if_pos hg, ← hX] at h
      exact h
    have C4 : Hid (∀ v, Below w.heap.size w v → Calls Tryd.prog 12 #[.string X] v fun e w' => e = .returned (.tuple #[.agg #[.int .i64 a0, .int .i64 b0, .int .i64 c0], .int .i64 0]) ∧ Below v.heap.size v w') := fun v hv => by
      rw [hX]
      exact (parse_any (txt a0 b0 c0) v (RR.out.on hv) (EE.out.on hv) (txt_by hg) (by unfold txt; split <;> simp [body_len])).mono (by rintro e w' ⟨⟨h1, _⟩, hb⟩; exact ⟨h1 _ _ _ (parse_txt hg), hb⟩)
    clear hg hA hX hAr
    by_cases hr : a1 < -4371587 ∨ 2932896 < a1
    · go_enter Tryd.func6, Tryd.ntmps6
      go_wp2_with (first | (go_at_call 11; have hgo := H5.out; clear hgo; refine (CO.out hr _).mono ?_; rintro e w6 ⟨rfl, hb6⟩; have H6 : Hid (Held w w6 a0 b0 c0) := (H5.out.past _).step hb6; clear hb6) | (go_at_call 12; refine (C4.out _ H4.out.below).mono ?_; rintro e w5 ⟨rfl, hb5⟩; have H5 : Hid (Held w w5 a0 b0 c0) := H4.out.step hb5; have hd0 := cell_past H5.out.date.c0; have hd1 := cell_past H5.out.date.c1; have hd2 := cell_past H5.out.date.c2; have HQ := Q4.out.below hb5 (lt_of_cell' Q4.out.c0); have hq0 := cell_past HQ.c0; have hq1 := cell_past HQ.c1; have hq2 := cell_past HQ.c2; clear hb5 HQ) | (go_at_call 16; refine (C3.out _ (H3.out.past _).below).mono ?_; rintro e w4 ⟨rfl, hb4⟩; have H4 : Hid (Held w w4 a0 b0 c0) := (H3.out.past _).step hb4; have Q4 : Hid (DateAt w4 w3.heap.size a0 b0 c0) := (DateAt.made w3 27 a0 b0 c0).below hb4 (by simp); clear hb4 hd0 hd1 hd2) | (go_at_call 11; refine (C2.out _).mono ?_; rintro e w3 ⟨rfl, hb3⟩; have H3 : Hid (Held w w3 a0 b0 c0) := H2.out.step hb3; have hd0 := cell_past H3.out.date.c0; have hd1 := cell_past H3.out.date.c1; have hd2 := cell_past H3.out.date.c2; clear hb3) | (go_at_call 10; refine (C1.out _).mono ?_; rintro e w2 ⟨rfl, hb2⟩; have H2 : Hid (Held w w2 a0 b0 c0) := H1.out.step hb2; clear hb2 hd0 hd1 hd2) | (go_at_call 9; refine (AW.out _ ((Below.refl _ _).alloc (Nat.le_refl _) _)).mono ?_; rintro e w1 ⟨rfl, hb1⟩; have H1 : Hid (Held w w1 a0 b0 c0) := (Held.made w 27 a0 b0 c0).step hb1; have hd0 := H1.out.date.c0; have hd1 := H1.out.date.c1; have hd2 := H1.out.date.c2; clear hb1))
      go_ret
      exact ⟨rfl, (H6.out.past _).below⟩
    · go_enter Tryd.func6, Tryd.ntmps6
      go_wp2_with (first | (go_at_call 10; have hgo := H6.out; clear hgo; refine (days_good y m d _ HG.out).mono ?_; rintro e w7 ⟨rfl, hb7⟩; have H7 : Hid (Held w w7 a0 b0 c0) := (H6.out.past _).step hb7; have heq : (dayN y m d == a1) = true := (by rw [HN.out]; simp); clear hb7) | (go_at_call 11; have hgo := H5.out; clear hgo; refine (CI.out hr _).mono ?_; rintro e w6 ⟨y, m, d, rfl, hg6, hn6, hb6⟩; have H6 : Hid (Held w w6 a0 b0 c0) := (H5.out.past _).step hb6; have HG : Hid (Gd y m d) := hg6; have HN : Hid (dayN y m d = a1) := hn6; clear hb6 hg6 hn6) | (go_at_call 12; refine (C4.out _ H4.out.below).mono ?_; rintro e w5 ⟨rfl, hb5⟩; have H5 : Hid (Held w w5 a0 b0 c0) := H4.out.step hb5; have hd0 := cell_past H5.out.date.c0; have hd1 := cell_past H5.out.date.c1; have hd2 := cell_past H5.out.date.c2; have HQ := Q4.out.below hb5 (lt_of_cell' Q4.out.c0); have hq0 := cell_past HQ.c0; have hq1 := cell_past HQ.c1; have hq2 := cell_past HQ.c2; clear hb5 HQ) | (go_at_call 16; refine (C3.out _ (H3.out.past _).below).mono ?_; rintro e w4 ⟨rfl, hb4⟩; have H4 : Hid (Held w w4 a0 b0 c0) := (H3.out.past _).step hb4; have Q4 : Hid (DateAt w4 w3.heap.size a0 b0 c0) := (DateAt.made w3 27 a0 b0 c0).below hb4 (by simp); clear hb4 hd0 hd1 hd2) | (go_at_call 11; refine (C2.out _).mono ?_; rintro e w3 ⟨rfl, hb3⟩; have H3 : Hid (Held w w3 a0 b0 c0) := H2.out.step hb3; have hd0 := cell_past H3.out.date.c0; have hd1 := cell_past H3.out.date.c1; have hd2 := cell_past H3.out.date.c2; clear hb3) | (go_at_call 10; refine (C1.out _).mono ?_; rintro e w2 ⟨rfl, hb2⟩; have H2 : Hid (Held w w2 a0 b0 c0) := H1.out.step hb2; clear hb2 hd0 hd1 hd2) | (go_at_call 9; refine (AW.out _ ((Below.refl _ _).alloc (Nat.le_refl _) _)).mono ?_; rintro e w1 ⟨rfl, hb1⟩; have H1 : Hid (Held w w1 a0 b0 c0) := (Held.made w 27 a0 b0 c0).step hb1; have hd0 := H1.out.date.c0; have hd1 := H1.out.date.c1; have hd2 := H1.out.date.c2; clear hb1))
      go_ret
      exact ⟨rfl, H7.out.below⟩
  · have C1 : Hid (∀ w, Calls Tryd.prog 10 #[.agg #[.int .i64 a0, .int .i64 b0, .int .i64 c0]] w fun e w' => e = .returned (.tuple #[.int .i64 0, .int .i64 1]) ∧ Below w.heap.size w w') := fun w => days_bad a0 b0 c0 w hg (by omega) (by omega) (by omega) (by omega) (by omega) (by omega)
    clear hg
    by_cases hr : a1 < -4371587 ∨ 2932896 < a1
    · go_enter Tryd.func6, Tryd.ntmps6
      go_wp2_with (first | (go_at_call 11; have hgo := H2.out; clear hgo; refine (CO.out hr _).mono ?_; rintro e w6 ⟨rfl, hb6⟩; have H6 : Hid (Held w w6 a0 b0 c0) := H2.out.step hb6; clear hb6) | (go_at_call 10; refine (C1.out _).mono ?_; rintro e w2 ⟨rfl, hb2⟩; have H2 : Hid (Held w w2 a0 b0 c0) := H1.out.step hb2; clear hb2 hd0 hd1 hd2) | (go_at_call 9; refine (AW.out _ ((Below.refl _ _).alloc (Nat.le_refl _) _)).mono ?_; rintro e w1 ⟨rfl, hb1⟩; have H1 : Hid (Held w w1 a0 b0 c0) := (Held.made w 27 a0 b0 c0).step hb1; have hd0 := H1.out.date.c0; have hd1 := H1.out.date.c1; have hd2 := H1.out.date.c2; clear hb1))
      go_ret
      exact ⟨rfl, (H6.out.past _).below⟩
    · go_enter Tryd.func6, Tryd.ntmps6
      go_wp2_with (first | (go_at_call 10; have hgo := H6.out; clear hgo; refine (days_good y m d _ HG.out).mono ?_; rintro e w7 ⟨rfl, hb7⟩; have H7 : Hid (Held w w7 a0 b0 c0) := (H6.out.past _).step hb7; have heq : (dayN y m d == a1) = true := (by rw [HN.out]; simp); clear hb7) | (go_at_call 11; have hgo := H2.out; clear hgo; refine (CI.out hr _).mono ?_; rintro e w6 ⟨y, m, d, rfl, hg6, hn6, hb6⟩; have H6 : Hid (Held w w6 a0 b0 c0) := H2.out.step hb6; have HG : Hid (Gd y m d) := hg6; have HN : Hid (dayN y m d = a1) := hn6; clear hb6 hg6 hn6) | (go_at_call 10; refine (C1.out _).mono ?_; rintro e w2 ⟨rfl, hb2⟩; have H2 : Hid (Held w w2 a0 b0 c0) := H1.out.step hb2; clear hb2 hd0 hd1 hd2) | (go_at_call 9; refine (AW.out _ ((Below.refl _ _).alloc (Nat.le_refl _) _)).mono ?_; rintro e w1 ⟨rfl, hb1⟩; have H1 : Hid (Held w w1 a0 b0 c0) := (Held.made w 27 a0 b0 c0).step hb1; have hd0 := H1.out.date.c0; have hd1 := H1.out.date.c1; have hd2 := H1.out.date.c2; clear hb1))
      go_ret
      exact ⟨rfl, H7.out.below⟩

set_option maxRecDepth 100000 in
theorem lifted (os : Os) (started : os.Started) (H : Type) (enc : TypeId × Value → H) :
    ReturnsInHanded {} Tryd.checked os 6 .any (fun w args => (Rows.civilBackSpec.pre enc Tryd.prog Tryd.f6 Rows.civilBackRow.domain false w args ∧ laidMet Tryd.prog laid5 w) ∧ sizedMet enc Tryd.prog Tryd.f6 (OpenSpec.ofChange Rows.civilBackSpec) false w args)
      (Rows.civilBackSpec.post enc Tryd.prog Tryd.f6 false true false false) := by
  refine returnsInHanded_of_change_and (C := Tryd.checked) (X := fun w _ => laidMet Tryd.prog laid5 w) (fun _ _ _ hh h => h.of_heap hh) own started (by kernel_rfl) Tryd.func6
    (ChangeSpec.witness_at (enc := enc) (C := Tryd.checked) (os := os) (X := fun w _ => laidMet Tryd.prog laid5 w) false (laidWorld5 os) #[.agg #[.int .i64 0, .int .i64 0, .int .i64 0], .int .i64 0] 8 rfl (by kernel_rfl) (by kernel_rfl) (by kernel_rfl) (by kernel_rfl) (by kernel_rfl) (laid5_met os _)) ?_
  intro W base args ds gs before hval0 hW _ _ hL _
  have hval : ∀ (j : Nat) t v, Tryd.f6.params[j]? = some t → args[j]? = some v → Value.okWide Tryd.prog W .any base t v := hval0
  have hW' := hW
  obtain ⟨p, q, hA0, hV, rfl, hfz, hnd⟩ := hW
  have hA : DataW.TrodAll enc Tryd.prog W 0 (fun _ => true) true Tryd.f6.params.toList args.toList ds p := hA0
  rw [Tryd.params6] at hA hval
  obtain ⟨v0, vs0, d0, ds0, p0, q0, hargs, rfl, rfl, h0, r0⟩ := trodAll_cons hA
  obtain ⟨v1, vs1, d1, ds1, p1, q1, rfl, rfl, rfl, h1, r1⟩ := trodAll_cons r0
  obtain ⟨rfl, rfl, rfl⟩ := trodAll_nil r1
  obtain rfl : args = #[v0, v1] := by cases args; simp_all
  obtain ⟨rfl, rfl⟩ := trodVars_none hV
  have k0 := h0
  have lt0 : ∀ x ∈ p0, x.block < W.heap.size := by obtain ⟨m, hm⟩ := k0; exact DataW.trod_lt m _ _ _ hm
  obtain ⟨a0, b0, c0, rfl, w0, x0, y0⟩ := struct3_open Tryd.underlying27 Tryd.underlying3 Tryd.underlying3 Tryd.underlying3 rfl rfl rfl (by kernel_rfl) (by kernel_rfl) (by kernel_rfl) (by kernel_rfl) (hval 0 27 v0 rfl rfl) h0
  have k1 := h1
  have lt1 : ∀ x ∈ p1, x.block < W.heap.size := by obtain ⟨m, hm⟩ := k1; exact DataW.trod_lt m _ _ _ hm
  obtain ⟨a1, rfl, rfl, rfl, w1⟩ := open_int Tryd.underlying2 (hval 1 2 v1 rfl rfl) h1
  clear hA0 hval0
  refine (walk a0 b0 c0 a1 W w0 x0 y0 w1 (ready_of hL) (errsyn_of hL)).mono fun e W' ⟨he, bel⟩ => ?_
  subst he
  exact ⟨_, rfl, _, _, _, [], _, [], hW', trodAll_mk1 (shut_bool Tryd.underlying4 _), (trodAll_cons_mk (Below.trod laidOut (by kernel_rfl) (of_decide_eq_true (by kernel_rfl)) k0 bel lt0) (trodAll_cons_mk (Below.trod laidOut (by kernel_rfl) (of_decide_eq_true (by kernel_rfl)) k1 bel lt1) trodAll_mk0)), rfl, bel.frame _, fun h => by cases h⟩

theorem over : Rows.civilBackRow.holds Tryd.pinned (OpenSpec.ofChange Rows.civilBackSpec) :=
  OpenClaim.holds_of_wide 6 Tryd.f6 rfl rfl rfl rfl rfl rfl rfl ⟨rfl, rfl, rfl, rfl, rfl⟩ rfl rfl rfl rfl rfl (by kernel_rfl) Tryd.func6 (by kernel_rfl)
    (of_decide_eq_true (by kernel_rfl)) (by unfold Func.isWrapper; first | (rw [if_pos (by decide +kernel)]; kernel_rfl) | (rw [if_neg (by decide +kernel)]; exact ⟨rfl, rfl⟩))
    (fun os started H enc _ => lifted os started H enc)
theorem carded : Rows.CivilBackCardSaid :=
  Claim7.holds_tied_plain_at .later [] [.data, .data, .data, .sentinel, .sentinel] true (true, "7af20c8ded581e57e2cc45ba6f6943f52ac148cc54ff3c745e407801333bdc18") true
    over (fun _ h => by cases h) (by kernel_rfl) (fun _ h => by cases h) civilBack_row_tie rfl ⟨rfl, rfl⟩ (by kernel_rfl) rfl
    (fun f fn hf hfn => by
      obtain rfl : f = 6 := Option.some.inj ((show Tryd.prog.funcNamed "hourglass/hourglasslaw4.CivilBack" = some 6 by kernel_rfl).symm.trans hf) |>.symm
      obtain rfl : fn = Tryd.f6 := (Option.some.inj (Tryd.func6.symm.trans hfn)).symm
      exact ⟨by kernel_rfl, fun j t ht => by
        rw [Tryd.params6] at ht
        have hm : t ∈ [27, 2] := by simpa using Array.mem_of_getElem? ht
        have hall : ([27, 2].all fun u => !Tryd.prog.wantsStandIn u) = true := by kernel_rfl
        exact (show Tryd.prog.wantsStandIn t = false by simpa using List.all_eq_true.1 hall t hm)⟩)
    (by kernel_rfl)
#print axioms carded
end Go.Proofs.YtglommaegcaodaaDoor.civilBack
namespace Go.Proofs.YtglommaegcaodaaDoor
/-- CivilBack, as given. -/
theorem civilBack_holds : Rows.CivilBackCardSaid := civilBack.carded
end Go.Proofs.YtglommaegcaodaaDoor
