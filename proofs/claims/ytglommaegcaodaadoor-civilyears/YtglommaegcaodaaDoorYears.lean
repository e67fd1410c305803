/-
  CivilYears: a year has 365 days, a long one 366, four hundred years 146097, on the same weekdays, for years from -9999 to 9598 (else the statement asks nothing); conditions: the library's tables, and its two errors where they are listed, hold what the program's own text lays (the card ties them, over the pruned copy).
-/
import Derived.Test.YtglommaegcaodaaDoorRows
import Derived.Test.YtglommaegcaodaaDoorCivilAwake
import Derived.Test.YtglommaegcaodaaDoorCards
import Derived.Test.YtglommaegcaodaaDoorTie
import Derived.Test.YtglommaegcaodaaDoorCivilLaid
import Derived.WalkKit
import Derived.ProofKit
import Derived.OpenShut
import Derived.ShutString
import Derived.ChangeOld
import Derived.Below
import Derived.Carry
import Derived.SevenTiedAt
import Derived.SizedLaws
import Derived.JoinedAt
namespace Go.Proofs.YtglommaegcaodaaDoor.civilYears
open Go.ChangeShapes Go.WideShapes Go.ChangeAt Go.RowKit
open Go.ChangeMaps (open_string shut_string)
set_option linter.unusedVariables false

theorem own : ownKnob Tryd.prog.godebug = none := by kernel_rfl
theorem laidOut : laidOutB Tryd.prog = true := by kernel_rfl
/-- A slice of integers that came in: nil, or a row of 'cap' cells, of which the first 'len' are its elements. -/
def IsRow (k : IntKind) (w : World) (a : Option Addr) (len cap : Nat) (zs : List Int) : Prop :=
  (a = none ∧ len = 0 ∧ cap = 0 ∧ zs = []) ∨
  ∃ x, a = some x ∧ len ≤ cap ∧ cap ≤ maxLen ∧ zs.length = cap ∧ (∀ i, i < zs.length → w.cell? (x.add i) = some (.int k (zs.getD i 0))) ∧ ∀ n ∈ zs, (Lit.int k n).wf = true

theorem wd_400 (y : Int) : wd (fy (y + 400)) = wd (fy y) := by rw [fy_400]; unfold wd; omega
set_option maxHeartbeats 1000000 in
theorem walk (a0 : Int) (w : World) (w0 : (Lit.int .i64 a0).wf = true) (hR : Ready w) :
    Calls Tryd.prog 8 #[.int .i64 a0] w fun e w' => e = .returned (.bool true) ∧ Below w.heap.size w w' := by
  have by0 := bounds_i64 w0
  have AW : Hid (Calls Tryd.prog 9 #[] w fun e w' => e = .returned (.bool true) ∧ Below w.heap.size w w') := awake_any w hR
  clear w0
  by_cases r1 : a0 < -9999
  · go_enter Tryd.func8, Tryd.ntmps8
    go_wp2_with (go_at_call 9; refine AW.out.mono ?_; rintro e w1 ⟨rfl, hb1⟩; have HB1 : Hid (Below w.heap.size w w1) := hb1; clear hb1)
    go_ret
    exact ⟨rfl, HB1.out⟩
  by_cases r2 : 9598 < a0
  · go_enter Tryd.func8, Tryd.ntmps8
    go_wp2_with (go_at_call 9; refine AW.out.mono ?_; rintro e w1 ⟨rfl, hb1⟩; have HB1 : Hid (Below w.heap.size w w1) := hb1; clear hb1)
    go_ret
    exact ⟨rfl, HB1.out⟩
  have one : ∀ y, -9999 ≤ y → y ≤ 9999 → Gd y 1 1 ∧ dayN y 1 1 = fy y := fun y h h' => ⟨⟨h, h', by omega, by have := (ml_pos (y := y) (m := 1) (by omega) (by omega)).1; omega⟩, by unfold dayN; rw [md_one]; omega⟩
  obtain ⟨A, hA⟩ : ∃ A, A = fy a0 := ⟨_, rfl⟩
  obtain ⟨B, hB⟩ : ∃ B, B = fy (a0 + 1) := ⟨_, rfl⟩
  obtain ⟨C, hC⟩ : ∃ C, C = fy (a0 + 400) := ⟨_, rfl⟩
  have hAr := fy_range (y := a0) (by omega) (by omega)
  have hBr := fy_range (y := a0 + 1) (by omega) (by omega)
  have hCr := fy_range (y := a0 + 400) (by omega) (by omega)
  rw [← hA] at hAr
  rw [← hB] at hBr
  rw [← hC] at hCr
  have C1 : Hid (∀ w, Calls Tryd.prog 10 #[.agg #[.int .i64 a0, .int .i64 1, .int .i64 1]] w fun e w' => e = .returned (.tuple #[.int .i64 A, .int .i64 0]) ∧ Below w.heap.size w w') := fun w => by rw [hA, ← (one a0 (by omega) (by omega)).2]; exact days_good a0 1 1 w (one a0 (by omega) (by omega)).1
  have C2 : Hid (∀ w, Calls Tryd.prog 10 #[.agg #[.int .i64 (a0 + 1), .int .i64 1, .int .i64 1]] w fun e w' => e = .returned (.tuple #[.int .i64 B, .int .i64 0]) ∧ Below w.heap.size w w') := fun w => by rw [hB, ← (one (a0 + 1) (by omega) (by omega)).2]; exact days_good (a0 + 1) 1 1 w (one (a0 + 1) (by omega) (by omega)).1
  have C3 : Hid (∀ w, Calls Tryd.prog 10 #[.agg #[.int .i64 (a0 + 400), .int .i64 1, .int .i64 1]] w fun e w' => e = .returned (.tuple #[.int .i64 C, .int .i64 0]) ∧ Below w.heap.size w w') := fun w => by rw [hC, ← (one (a0 + 400) (by omega) (by omega)).2]; exact days_good (a0 + 400) 1 1 w (one (a0 + 400) (by omega) (by omega)).1
  have CL : Hid (∀ (m : Int) w, 1 ≤ m → m ≤ 12 → Calls Tryd.prog 14 #[.int .i64 a0, .int .i64 m] w fun e w' => e = .returned (.int .i64 (ml a0 m)) ∧ Below w.heap.size w w') := fun m w h h' => length_any a0 m w (by omega) (by omega) (by omega) (by omega)
  have CP : Hid (∀ w, Calls Tryd.prog 13 #[.int .i64 a0] w fun e w' => e = .returned (.bool (lp a0)) ∧ Below w.heap.size w w') := fun w => leap_any a0 w (by omega) (by omega)
  have CW1 : Hid (∀ w, Calls Tryd.prog 15 #[.int .i64 A] w fun e w' => e = .returned (.int .i64 (wd A)) ∧ Below w.heap.size w w') := fun w => weekday_any A w (by omega) (by omega)
  have CW2 : Hid (∀ w, Calls Tryd.prog 15 #[.int .i64 C] w fun e w' => e = .returned (.int .i64 (wd A)) ∧ Below w.heap.size w w') := fun w => by
    have h := weekday_any C w (by omega) (by omega)
    rw [hC, wd_400, ← hA, ← hC] at h
    exact h
  have t3 : ((C - A) == 146097) = true := by rw [hC, fy_400, ← hA]; simp; omega
  have HBA : Hid (B = A + if lp a0 = true then 366 else 365) := by show _ = _; rw [hB, fy_step, hA]
  clear hA hB hC one
  go_enter Tryd.func8, Tryd.ntmps8
  obtain ⟨N, hN, hNr⟩ : ∃ N : Int, N = (if lp a0 = true then 366 else 365) ∧ (N = 365 ∨ N = 366) := by
    refine ⟨_, rfl, ?_⟩
    split
    · right; rfl
    · left; rfl
  have t2 : ((B - A) == N) = true := by rw [HBA.out, hN]; simp; omega
  have HE : Hid (md a0 13 = N) := by rw [hN]; exact md_end a0
  have t4 : (N == N) = true := by simp
  cases hlp : lp a0
  all_goals
    rw [hlp] at hN CP
    simp at hN
    subst hN
    go_wp2_with (first | (go_at_call 13; refine (CP.out _).mono ?_; rintro e w5 ⟨rfl, hb5⟩; have HB5 : Hid (Below w.heap.size w w5) := HB4.out.trans (hb5.mono HB4.out.size); clear hb5) | (go_at_call 10; have hgo := HB3.out; clear hgo; refine (C3.out _).mono ?_; rintro e w4 ⟨rfl, hb4⟩; have HB4 : Hid (Below w.heap.size w w4) := HB3.out.trans (hb4.mono HB3.out.size); clear hb4) | (go_at_call 10; have hgo := HB2.out; clear hgo; refine (C2.out _).mono ?_; rintro e w3 ⟨rfl, hb3⟩; have HB3 : Hid (Below w.heap.size w w3) := HB2.out.trans (hb3.mono HB2.out.size); clear hb3) | (go_at_call 10; refine (C1.out _).mono ?_; rintro e w2 ⟨rfl, hb2⟩; have HB2 : Hid (Below w.heap.size w w2) := HB1.out.trans (hb2.mono HB1.out.size); clear hb2) | (go_at_call 9; refine AW.out.mono ?_; rintro e w1 ⟨rfl, hb1⟩; have HB1 : Hid (Below w.heap.size w w1) := hb1; clear hb1))
    go_loopw [10, 11] (fun s m wr => ∃ T K : Int, s = .int .i64 T ∧ m = .int .i64 K ∧ Hid (T = md a0 K) ∧ 1 ≤ K ∧ K ≤ 13 ∧ 0 ≤ T ∧ T ≤ 366 ∧ Hid (Below w.heap.size w wr)) (fun _ m _ => (13 - intOf m).toNat)
    case atStart => exact ⟨0, 1, rfl, rfl, (md_one a0).symm, by omega, by omega, by omega, by omega, HB5.out⟩
    case round =>
      obtain ⟨T, K, rfl, rfl, HT, hK1, hK2, hT1, hT2, HBR⟩ := hrel
      obtain ⟨wA, rfl⟩ : ∃ wA : World, wA = wr := ⟨wr, rfl⟩
      by_cases hlt : K ≤ 12
      · have hmk := ml_le a0 K
        have hs := md_step (y := a0) hK1 hlt
        have hr := md_range (y := a0) (m := K + 1) (by omega) (by omega)
        have hTT := HT.out
        have hr2 : 0 ≤ T + ml a0 K ∧ T + ml a0 K ≤ 366 := by omega
        have HT2 : Hid (T + ml a0 K = md a0 (K + 1)) := by show _ = _; omega
        clear hs hr hTT
        go_wp2_with (go_at_call 14; refine (CL.out _ _ (by omega) (by omega)).mono ?_; rintro e w6 ⟨rfl, hb6⟩; have HB6 : Hid (Below w.heap.size w w6) := HBR.out.trans (hb6.mono HBR.out.size); clear hb6)
        go_roundw
        case rel => exact ⟨T + ml a0 K, K + 1, rfl, rfl, HT2, by omega, by omega, hr2.1, hr2.2, HB6⟩
        case measure => simp [intOf]; omega
      · obtain rfl : K = 13 := by omega
        have hT : T = _ := HT.out.trans HE.out
        subst hT
        go_wp2_with (first | (go_at_call 15; have hgo := HB7.out; clear hgo; refine (CW2.out _).mono ?_; rintro e w8 ⟨rfl, hb8⟩; have HB8 : Hid (Below w.heap.size w w8) := HB7.out.trans (hb8.mono HB7.out.size); clear hb8) | (go_at_call 15; refine (CW1.out _).mono ?_; rintro e w7 ⟨rfl, hb7⟩; have HB7 : Hid (Below w.heap.size w w7) := HBR.out.trans (hb7.mono HBR.out.size); clear hb7))
        go_ret
        exact ⟨by simp, HB8.out⟩

set_option maxRecDepth 100000 in
theorem lifted (os : Os) (started : os.Started) (H : Type) (enc : TypeId × Value → H) :
    ReturnsInHanded {} Tryd.checked os 8 .any (fun w args => (Rows.civilYearsSpec.pre enc Tryd.prog Tryd.f8 Rows.civilYearsRow.domain false w args ∧ laidMet Tryd.prog laid3 w) ∧ sizedMet enc Tryd.prog Tryd.f8 (OpenSpec.ofChange Rows.civilYearsSpec) false w args)
      (Rows.civilYearsSpec.post enc Tryd.prog Tryd.f8 false true false false) := by
  refine returnsInHanded_of_change_and (C := Tryd.checked) (X := fun w _ => laidMet Tryd.prog laid3 w) (fun _ _ _ hh h => h.of_heap hh) own started (by kernel_rfl) Tryd.func8
    (ChangeSpec.witness_at (enc := enc) (C := Tryd.checked) (os := os) (X := fun w _ => laidMet Tryd.prog laid3 w) false (laidWorld3 os) #[.int .i64 0] 8 rfl (by kernel_rfl) (by kernel_rfl) (by kernel_rfl) (by kernel_rfl) (by kernel_rfl) (laid3_met os _)) ?_
  intro W base args ds gs before hval0 hW _ _ hL _
  have hval : ∀ (j : Nat) t v, Tryd.f8.params[j]? = some t → args[j]? = some v → Value.okWide Tryd.prog W .any base t v := hval0
  have hW' := hW
  obtain ⟨p, q, hA0, hV, rfl, hfz, hnd⟩ := hW
  have hA : DataW.TrodAll enc Tryd.prog W 0 (fun _ => true) true Tryd.f8.params.toList args.toList ds p := hA0
  rw [Tryd.params8] at hA hval
  obtain ⟨v0, vs0, d0, ds0, p0, q0, hargs, rfl, rfl, h0, r0⟩ := trodAll_cons hA
  obtain ⟨rfl, rfl, rfl⟩ := trodAll_nil r0
  obtain rfl : args = #[v0] := by cases args; simp_all
  obtain ⟨rfl, rfl⟩ := trodVars_none hV
  have k0 := h0
  have lt0 : ∀ x ∈ p0, x.block < W.heap.size := by obtain ⟨m, hm⟩ := k0; exact DataW.trod_lt m _ _ _ hm
  obtain ⟨a0, rfl, rfl, rfl, w0⟩ := open_int Tryd.underlying3 (hval 0 3 v0 rfl rfl) h0
  clear hA0 hval0
  refine (walk a0 W w0 (ready_of hL)).mono fun e W' ⟨he, bel⟩ => ?_
  subst he
  exact ⟨_, rfl, _, _, _, [], _, [], hW', trodAll_mk1 (shut_bool Tryd.underlying4 _), (trodAll_cons_mk (Below.trod laidOut (by kernel_rfl) (of_decide_eq_true (by kernel_rfl)) k0 bel lt0) trodAll_mk0), rfl, bel.frame _, fun h => by cases h⟩

theorem over : Rows.civilYearsRow.holds Tryd.pinned (OpenSpec.ofChange Rows.civilYearsSpec) :=
  OpenClaim.holds_of_wide 8 Tryd.f8 rfl rfl rfl rfl rfl rfl rfl ⟨rfl, rfl, rfl, rfl, rfl⟩ rfl rfl rfl rfl rfl (by kernel_rfl) Tryd.func8 (by kernel_rfl)
    (of_decide_eq_true (by kernel_rfl)) (by unfold Func.isWrapper; first | (rw [if_pos (by decide +kernel)]; kernel_rfl) | (rw [if_neg (by decide +kernel)]; exact ⟨rfl, rfl⟩))
    (fun os started H enc _ => lifted os started H enc)
theorem carded : Rows.CivilYearsCardSaid :=
  Claim7.holds_tied_plain_at .later [] [.data, .data, .data] true (true, "7af20c8ded581e57e2cc45ba6f6943f52ac148cc54ff3c745e407801333bdc18") true
    over (fun _ h => by cases h) (by kernel_rfl) (fun _ h => by cases h) civilYears_row_tie rfl ⟨rfl, rfl⟩ (by kernel_rfl) rfl
    (fun f fn hf hfn => by
      obtain rfl : f = 8 := Option.some.inj ((show Tryd.prog.funcNamed "hourglass/hourglasslaw4.CivilYears" = some 8 by kernel_rfl).symm.trans hf) |>.symm
      obtain rfl : fn = Tryd.f8 := (Option.some.inj (Tryd.func8.symm.trans hfn)).symm
      exact ⟨by kernel_rfl, fun j t ht => by
        rw [Tryd.params8] at ht
        have hm : t ∈ [3] := by simpa using Array.mem_of_getElem? ht
        have hall : ([3].all fun u => !Tryd.prog.wantsStandIn u) = true := by kernel_rfl
        exact (show Tryd.prog.wantsStandIn t = false by simpa using List.all_eq_true.1 hall t hm)⟩)
    (by kernel_rfl)
#print axioms carded
end Go.Proofs.YtglommaegcaodaaDoor.civilYears
namespace Go.Proofs.YtglommaegcaodaaDoor
/-- CivilYears, as given. -/
theorem civilYears_holds : Rows.CivilYearsCardSaid := civilYears.carded
end Go.Proofs.YtglommaegcaodaaDoor
