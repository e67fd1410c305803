/-
  CivilKnown: what chapter 4 says at the ends is answered so; conditions: the library's tables, and its two errors where they are listed, hold what the program's own text lays (the card ties them, over the pruned copy).
-/
import Derived.Test.YtglommaegcaodaaDoorRows
import Derived.Test.YtglommaegcaodaaDoorCivilAwake
import Derived.Test.YtglommaegcaodaaDoorCivilP
import Derived.Test.YtglommaegcaodaaDoorCards
import Derived.Test.YtglommaegcaodaaDoorTie
import Derived.Test.YtglommaegcaodaaDoorCivilLaid
import Derived.Test.YtglommaegcaodaaDoorCivilLaidE
import Derived.WalkKit
import Derived.ProofKit
import Derived.OpenShut
import Derived.ShutString
import Derived.ChangeOld
import Derived.Below
import Derived.Carry
import Derived.SevenTiedAt
import Derived.SizedLaws
import Derived.JoinedAt
namespace Go.Proofs.YtglommaegcaodaaDoor.civilKnown
open Go.ChangeShapes Go.WideShapes Go.ChangeAt Go.RowKit
open Go.ChangeMaps (open_string shut_string)
set_option linter.unusedVariables false

theorem own : ownKnob Tryd.prog.godebug = none := by kernel_rfl
theorem laidOut : laidOutB Tryd.prog = true := by kernel_rfl
/-- A slice of integers that came in: nil, or a row of 'cap' cells, of which the first 'len' are its elements. -/
def IsRow (k : IntKind) (w : World) (a : Option Addr) (len cap : Nat) (zs : List Int) : Prop :=
  (a = none ∧ len = 0 ∧ cap = 0 ∧ zs = []) ∨
  ∃ x, a = some x ∧ len ≤ cap ∧ cap ≤ maxLen ∧ zs.length = cap ∧ (∀ i, i < zs.length → w.cell? (x.add i) = some (.int k (zs.getD i 0))) ∧ ∀ n ∈ zs, (Lit.int k n).wf = true

theorem p_one : parseN [45, 48, 48, 48, 49, 45, 49, 50, 45, 51, 49] = some (-1, 12, 31) := by
  have e : txt (-1) 12 31 = [45, 48, 48, 48, 49, 45, 49, 50, 45, 51, 49] := by decide
  rw [← e]; exact parse_txt (by decide)
theorem p_two : parseN [45, 48, 48, 48, 48, 45, 48, 49, 45, 48, 49] = none := by
  cases h : parseN [45, 48, 48, 48, 48, 45, 48, 49, 45, 48, 49] with
  | none => rfl
  | some p =>
    obtain ⟨y, m, d⟩ := p
    have h1 := (parse_cand _ 0 1 1 (by decide) (by decide) (by decide) h).2.2
    obtain ⟨rfl, rfl, rfl⟩ := h1
    exact absurd (parse_some h).2 (by decide)
theorem p_short {xs : List Int} (hl : (rest xs).length ≠ 10) : parseN xs = none := by
  cases h : parseN xs with
  | none => rfl
  | some p =>
    obtain ⟨y, m, d⟩ := p
    exact absurd (parse_cand xs _ _ _ rfl rfl rfl h).1.1 hl
set_option maxRecDepth 8000 in
set_option maxHeartbeats 4000000 in
theorem walk  (w : World) (hR : Ready w) (hE : ErrSyn w) :
    Calls Tryd.prog 3 #[] w fun e w' => e = .returned (.bool true) ∧ Below w.heap.size w w' := by
  have AW : Hid (Calls Tryd.prog 9 #[] w fun e w' => e = .returned (.bool true) ∧ Below w.heap.size w w') := awake_any w hR
  have C2 : Hid (∀ w, Calls Tryd.prog 10 #[.agg #[.int .i64 2001, .int .i64 2, .int .i64 29]] w fun e w' => e = .returned (.tuple #[.int .i64 0, .int .i64 1]) ∧ Below w.heap.size w w') := fun w => days_bad 2001 2 29 w (by decide) (by decide) (by decide) (by decide) (by decide) (by decide) (by decide)
  have C3 : Hid (∀ w, Calls Tryd.prog 10 #[.agg #[.int .i64 9999, .int .i64 12, .int .i64 31]] w fun e w' => e = .returned (.tuple #[.int .i64 2932896, .int .i64 0]) ∧ Below w.heap.size w w') := fun w => days_good 9999 12 31 w (by decide)
  have C4 : Hid (∀ w, Calls Tryd.prog 11 #[.int .i64 2932897] w fun e w' => e = .returned (.tuple #[.agg #[.int .i64 0, .int .i64 0, .int .i64 0], .int .i64 1]) ∧ Below w.heap.size w w') := fun w => of_out 2932897 w (by decide) (by decide) (by decide)
  have C5 : Hid (∀ w, Calls Tryd.prog 10 #[.agg #[.int .i64 (-9999), .int .i64 1, .int .i64 1]] w fun e w' => e = .returned (.tuple #[.int .i64 (-4371587), .int .i64 0]) ∧ Below w.heap.size w w') := fun w => days_good (-9999) 1 1 w (by decide)
  have C6 : Hid (∀ w, Calls Tryd.prog 11 #[.int .i64 (-4371588)] w fun e w' => e = .returned (.tuple #[.agg #[.int .i64 0, .int .i64 0, .int .i64 0], .int .i64 1]) ∧ Below w.heap.size w w') := fun w => of_out (-4371588) w (by decide) (by decide) (by decide)
  have C7 : Hid (∀ v, Below w.heap.size w v → Calls Tryd.prog 12 #[.string ⟨#[45, 48, 48, 48, 49, 45, 49, 50, 45, 51, 49]⟩] v fun e w' => e = .returned (.tuple #[.agg #[.int .i64 (-1), .int .i64 12, .int .i64 31], .int .i64 0]) ∧ Below v.heap.size v w') := fun v hv => (parse_any [45, 48, 48, 48, 49, 45, 49, 50, 45, 51, 49] v (hR.on hv) (hE.on hv) (by decide) (by decide)).mono (by rintro e w' ⟨⟨h1, h2⟩, hb⟩; exact ⟨h1 _ _ _ p_one, hb⟩)
  have C8 : Hid (∀ v, Below w.heap.size w v → Calls Tryd.prog 12 #[.string ⟨#[45, 48, 48, 48, 48, 45, 48, 49, 45, 48, 49]⟩] v fun e w' => e = .returned (.tuple #[.agg #[.int .i64 0, .int .i64 0, .int .i64 0], .int .i64 3]) ∧ Below v.heap.size v w') := fun v hv => (parse_any [45, 48, 48, 48, 48, 45, 48, 49, 45, 48, 49] v (hR.on hv) (hE.on hv) (by decide) (by decide)).mono (by rintro e w' ⟨⟨h1, h2⟩, hb⟩; exact ⟨h2 p_two, hb⟩)
  have C9 : Hid (∀ v, Below w.heap.size w v → Calls Tryd.prog 12 #[.string ⟨#[50, 48, 48, 48, 45, 49, 45, 49]⟩] v fun e w' => e = .returned (.tuple #[.agg #[.int .i64 0, .int .i64 0, .int .i64 0], .int .i64 3]) ∧ Below v.heap.size v w') := fun v hv => (parse_any [50, 48, 48, 48, 45, 49, 45, 49] v (hR.on hv) (hE.on hv) (by decide) (by decide)).mono (by rintro e w' ⟨⟨h1, h2⟩, hb⟩; exact ⟨h2 (p_short (by decide)), hb⟩)
  have C10 : Hid (∀ v, Below w.heap.size w v → Calls Tryd.prog 12 #[.string ⟨#[49, 48, 48, 48, 48, 45, 48, 49, 45, 48, 49]⟩] v fun e w' => e = .returned (.tuple #[.agg #[.int .i64 0, .int .i64 0, .int .i64 0], .int .i64 3]) ∧ Below v.heap.size v w') := fun v hv => (parse_any [49, 48, 48, 48, 48, 45, 48, 49, 45, 48, 49] v (hR.on hv) (hE.on hv) (by decide) (by decide)).mono (by rintro e w' ⟨⟨h1, h2⟩, hb⟩; exact ⟨h2 (p_short (by decide)), hb⟩)
  have C11 : Hid (∀ w, Calls Tryd.prog 13 #[.int .i64 2000] w fun e w' => e = .returned (.bool true) ∧ Below w.heap.size w w') := fun w => leap_any 2000 w (by decide) (by decide)
  have C12 : Hid (∀ w, Calls Tryd.prog 13 #[.int .i64 1900] w fun e w' => e = .returned (.bool false) ∧ Below w.heap.size w w') := fun w => leap_any 1900 w (by decide) (by decide)
  have C13 : Hid (∀ w, Calls Tryd.prog 13 #[.int .i64 0] w fun e w' => e = .returned (.bool true) ∧ Below w.heap.size w w') := fun w => leap_any 0 w (by decide) (by decide)
  have C14 : Hid (∀ w, Calls Tryd.prog 13 #[.int .i64 (-4)] w fun e w' => e = .returned (.bool true) ∧ Below w.heap.size w w') := fun w => leap_any (-4) w (by decide) (by decide)
  have C15 : Hid (∀ w, Calls Tryd.prog 14 #[.int .i64 2000, .int .i64 2] w fun e w' => e = .returned (.int .i64 29) ∧ Below w.heap.size w w') := fun w => length_any 2000 2 w (by decide) (by decide) (by decide) (by decide)
  have C16 : Hid (∀ w, Calls Tryd.prog 14 #[.int .i64 2000, .int .i64 13] w fun e w' => e = .returned (.int .i64 0) ∧ Below w.heap.size w w') := fun w => length_any 2000 13 w (by decide) (by decide) (by decide) (by decide)
  have C17 : Hid (∀ w, Calls Tryd.prog 15 #[.int .i64 (-1)] w fun e w' => e = .returned (.int .i64 2) ∧ Below w.heap.size w w') := fun w => weekday_any (-1) w (by decide) (by decide)
  have C18 : Hid (∀ v, Below w.heap.size w v → Calls Tryd.prog 16 #[.agg #[.int .i64 2001, .int .i64 2, .int .i64 29]] v fun e w' => e = .returned (.string ⟨#[]⟩) ∧ Below v.heap.size v w') := fun v hv => by have h := text_any 2001 2 29 v (hR.on hv) (by decide) (by decide) (by decide) (by decide) (by decide) (by decide); rw [if_neg (by decide)] at h; exact h
  clear hR hE
  go_enter Tryd.func3, Tryd.ntmps3
  go_wp2_with (first | (go_at_call 16; have hgo := HB17.out; clear hgo; refine (C18.out _ HB17.out).mono ?_; rintro e w18 ⟨rfl, hb18⟩; have HB18 : Hid (Below w.heap.size w w18) := HB17.out.trans (hb18.mono HB17.out.size); clear hb18) | (go_at_call 15; have hgo := HB16.out; clear hgo; refine (C17.out _).mono ?_; rintro e w17 ⟨rfl, hb17⟩; have HB17 : Hid (Below w.heap.size w w17) := HB16.out.trans (hb17.mono HB16.out.size); clear hb17) | (go_at_call 14; have hgo := HB15.out; clear hgo; refine (C16.out _).mono ?_; rintro e w16 ⟨rfl, hb16⟩; have HB16 : Hid (Below w.heap.size w w16) := HB15.out.trans (hb16.mono HB15.out.size); clear hb16) | (go_at_call 14; have hgo := HB14.out; clear hgo; refine (C15.out _).mono ?_; rintro e w15 ⟨rfl, hb15⟩; have HB15 : Hid (Below w.heap.size w w15) := HB14.out.trans (hb15.mono HB14.out.size); clear hb15) | (go_at_call 13; have hgo := HB13.out; clear hgo; refine (C14.out _).mono ?_; rintro e w14 ⟨rfl, hb14⟩; have HB14 : Hid (Below w.heap.size w w14) := HB13.out.trans (hb14.mono HB13.out.size); clear hb14) | (go_at_call 13; have hgo := HB12.out; clear hgo; refine (C13.out _).mono ?_; rintro e w13 ⟨rfl, hb13⟩; have HB13 : Hid (Below w.heap.size w w13) := HB12.out.trans (hb13.mono HB12.out.size); clear hb13) | (go_at_call 13; have hgo := HB11.out; clear hgo; refine (C12.out _).mono ?_; rintro e w12 ⟨rfl, hb12⟩; have HB12 : Hid (Below w.heap.size w w12) := HB11.out.trans (hb12.mono HB11.out.size); clear hb12) | (go_at_call 13; have hgo := HB10.out; clear hgo; refine (C11.out _).mono ?_; rintro e w11 ⟨rfl, hb11⟩; have HB11 : Hid (Below w.heap.size w w11) := (HB10.out.alloc HB10.out.size _).trans (hb11.mono (by simp; exact Nat.le_trans HB10.out.size (Nat.le_succ _))); clear hb11) | (go_at_call 12; have hgo := HB9.out; clear hgo; refine (C10.out _ (HB9.out.alloc HB9.out.size _)).mono ?_; rintro e w10 ⟨rfl, hb10⟩; have HB10 : Hid (Below w.heap.size w w10) := (HB9.out.alloc HB9.out.size _).trans (hb10.mono (by simp; exact Nat.le_trans HB9.out.size (Nat.le_succ _))); have HH10 : Hid (DateAt w10 w7.heap.size (-1) 12 31) := (DateAt.mk (cell_past HH9.out.c0 _) (cell_past HH9.out.c1 _) (cell_past HH9.out.c2 _)).below hb10 (lt_of_cell' (cell_past HH9.out.c0 _)); have hq0 := cell_past HH10.out.c0; have hq1 := cell_past HH10.out.c1; have hq2 := cell_past HH10.out.c2; clear hb10) | (go_at_call 12; have hgo := HB8.out; clear hgo; refine (C9.out _ (HB8.out.alloc HB8.out.size _)).mono ?_; rintro e w9 ⟨rfl, hb9⟩; have HB9 : Hid (Below w.heap.size w w9) := (HB8.out.alloc HB8.out.size _).trans (hb9.mono (by simp; exact Nat.le_trans HB8.out.size (Nat.le_succ _))); have HH9 : Hid (DateAt w9 w7.heap.size (-1) 12 31) := (DateAt.mk (cell_past HH8.out.c0 _) (cell_past HH8.out.c1 _) (cell_past HH8.out.c2 _)).below hb9 (lt_of_cell' (cell_past HH8.out.c0 _)); clear hb9) | (go_at_call 12; have hgo := HB7.out; clear hgo; refine (C8.out _ (HB7.out.alloc HB7.out.size _)).mono ?_; rintro e w8 ⟨rfl, hb8⟩; have HB8 : Hid (Below w.heap.size w w8) := (HB7.out.alloc HB7.out.size _).trans (hb8.mono (by simp; exact Nat.le_trans HB7.out.size (Nat.le_succ _))); have HH8 : Hid (DateAt w8 w7.heap.size (-1) 12 31) := (DateAt.made w7 27 (-1) 12 31).below hb8 (by simp); clear hb8) | (go_at_call 12; have hgo := HB6.out; clear hgo; refine (C7.out _ (HB6.out.alloc HB6.out.size _)).mono ?_; rintro e w7 ⟨rfl, hb7⟩; have HB7 : Hid (Below w.heap.size w w7) := (HB6.out.alloc HB6.out.size _).trans (hb7.mono (by simp; exact Nat.le_trans HB6.out.size (Nat.le_succ _))); clear hb7) | (go_at_call 11; have hgo := HB5.out; clear hgo; refine (C6.out _).mono ?_; rintro e w6 ⟨rfl, hb6⟩; have HB6 : Hid (Below w.heap.size w w6) := HB5.out.trans (hb6.mono HB5.out.size); clear hb6) | (go_at_call 10; have hgo := HB4.out; clear hgo; refine (C5.out _).mono ?_; rintro e w5 ⟨rfl, hb5⟩; have HB5 : Hid (Below w.heap.size w w5) := (HB4.out.alloc HB4.out.size _).trans (hb5.mono (by simp; exact Nat.le_trans HB4.out.size (Nat.le_succ _))); clear hb5) | (go_at_call 11; have hgo := HB3.out; clear hgo; refine (C4.out _).mono ?_; rintro e w4 ⟨rfl, hb4⟩; have HB4 : Hid (Below w.heap.size w w4) := HB3.out.trans (hb4.mono HB3.out.size); clear hb4) | (go_at_call 10; have hgo := HB2.out; clear hgo; refine (C3.out _).mono ?_; rintro e w3 ⟨rfl, hb3⟩; have HB3 : Hid (Below w.heap.size w w3) := HB2.out.trans (hb3.mono HB2.out.size); clear hb3) | (go_at_call 10; have hgo := HB1.out; clear hgo; refine (C2.out _).mono ?_; rintro e w2 ⟨rfl, hb2⟩; have HB2 : Hid (Below w.heap.size w w2) := HB1.out.trans (hb2.mono HB1.out.size); clear hb2) | (go_at_call 9; refine AW.out.mono ?_; rintro e w1 ⟨rfl, hb1⟩; have HB1 : Hid (Below w.heap.size w w1) := hb1; clear hb1))
  go_ret
  exact ⟨rfl, HB18.out⟩

set_option maxRecDepth 100000 in
theorem lifted (os : Os) (started : os.Started) (H : Type) (enc : TypeId × Value → H) :
    ReturnsInHanded {} Tryd.checked os 3 .any (fun w args => (Rows.civilKnownSpec.pre enc Tryd.prog Tryd.f3 Rows.civilKnownRow.domain false w args ∧ laidMet Tryd.prog laid5 w) ∧ sizedMet enc Tryd.prog Tryd.f3 (OpenSpec.ofChange Rows.civilKnownSpec) false w args)
      (Rows.civilKnownSpec.post enc Tryd.prog Tryd.f3 false true false false) := by
  refine returnsInHanded_of_change_and (C := Tryd.checked) (X := fun w _ => laidMet Tryd.prog laid5 w) (fun _ _ _ hh h => h.of_heap hh) own started (by kernel_rfl) Tryd.func3
    (ChangeSpec.witness_at (enc := enc) (C := Tryd.checked) (os := os) (X := fun w _ => laidMet Tryd.prog laid5 w) false (laidWorld5 os) #[] 8 rfl (by kernel_rfl) (by kernel_rfl) (by kernel_rfl) (by kernel_rfl) (by kernel_rfl) (laid5_met os _)) ?_
  intro W base args ds gs before hval0 hW _ _ hL _
  have hval : ∀ (j : Nat) t v, Tryd.f3.params[j]? = some t → args[j]? = some v → Value.okWide Tryd.prog W .any base t v := hval0
  have hW' := hW
  obtain ⟨p, q, hA0, hV, rfl, hfz, hnd⟩ := hW
  have hA : DataW.TrodAll enc Tryd.prog W 0 (fun _ => true) true Tryd.f3.params.toList args.toList ds p := hA0
  rw [Tryd.params3] at hA hval
  obtain ⟨hargs, rfl, rfl⟩ := trodAll_nil hA
  obtain rfl : args = #[] := by cases args; simp_all
  obtain ⟨rfl, rfl⟩ := trodVars_none hV
  clear hA0 hval0
  refine (walk  W  (ready_of hL) (errsyn_of hL)).mono fun e W' ⟨he, bel⟩ => ?_
  subst he
  exact ⟨_, rfl, _, _, _, [], _, [], hW', trodAll_mk1 (shut_bool Tryd.underlying4 _), trodAll_mk0, rfl, bel.frame _, fun h => by cases h⟩

theorem over : Rows.civilKnownRow.holds Tryd.pinned (OpenSpec.ofChange Rows.civilKnownSpec) :=
  OpenClaim.holds_of_wide 3 Tryd.f3 rfl rfl rfl rfl rfl rfl rfl ⟨rfl, rfl, rfl, rfl, rfl⟩ rfl rfl rfl rfl rfl (by kernel_rfl) Tryd.func3 (by kernel_rfl)
    (of_decide_eq_true (by kernel_rfl)) (by unfold Func.isWrapper; first | (rw [if_pos (by decide +kernel)]; kernel_rfl) | (rw [if_neg (by decide +kernel)]; exact ⟨rfl, rfl⟩))
    (fun os started H enc _ => lifted os started H enc)
theorem carded : Rows.CivilKnownCardSaid :=
  Claim7.holds_tied_plain_at .later [] [.data, .data, .data, .sentinel, .sentinel] true (true, "7af20c8ded581e57e2cc45ba6f6943f52ac148cc54ff3c745e407801333bdc18") true
    over (fun _ h => by cases h) (by kernel_rfl) (fun _ h => by cases h) civilKnown_row_tie rfl ⟨rfl, rfl⟩ (by kernel_rfl) rfl
    (fun f fn hf hfn => by
      obtain rfl : f = 3 := Option.some.inj ((show Tryd.prog.funcNamed "hourglass/hourglasslaw4.CivilKnown" = some 3 by kernel_rfl).symm.trans hf) |>.symm
      obtain rfl : fn = Tryd.f3 := (Option.some.inj (Tryd.func3.symm.trans hfn)).symm
      exact ⟨by kernel_rfl, fun j t ht => by
        rw [Tryd.params3] at ht
        exact absurd ht (by simp)⟩)
    (by kernel_rfl)
#print axioms carded
end Go.Proofs.YtglommaegcaodaaDoor.civilKnown
namespace Go.Proofs.YtglommaegcaodaaDoor
/-- CivilKnown, as given. -/
theorem civilKnown_holds : Rows.CivilKnownCardSaid := civilKnown.carded
end Go.Proofs.YtglommaegcaodaaDoor
