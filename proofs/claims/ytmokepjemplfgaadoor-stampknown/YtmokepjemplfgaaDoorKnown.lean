/-
  StampKnown: what chapter 6 says at the ends is answered so; conditions: the library's tables hold what the program's own text lays (the card ties them, over the pruned copy).
-/
import Derived.Test.YtmokepjemplfgaaDoorRows
import Derived.Test.YtmokepjemplfgaaDoorStampAwake
import Derived.Test.YtmokepjemplfgaaDoorCards
import Derived.Test.YtmokepjemplfgaaDoorTie
import Derived.Test.YtmokepjemplfgaaDoorStampLaid
import Derived.WalkKit
import Derived.ProofKit
import Derived.OpenShut
import Derived.ShutString
import Derived.ChangeOld
import Derived.Below
import Derived.Carry
import Derived.SevenTiedAt
import Derived.SizedLaws
import Derived.JoinedAt
namespace Go.Proofs.YtmokepjemplfgaaDoor.stampKnown
open Go.ChangeShapes Go.WideShapes Go.ChangeAt Go.RowKit
open Go.ChangeMaps (open_string shut_string)
set_option linter.unusedVariables false

theorem own : ownKnob Tryd.prog.godebug = none := by kernel_rfl
theorem laidOut : laidOutB Tryd.prog = true := by kernel_rfl
/-- A slice of integers that came in: nil, or a row of 'cap' cells, of which the first 'len' are its elements. -/
def IsRow (k : IntKind) (w : World) (a : Option Addr) (len cap : Nat) (zs : List Int) : Prop :=
  (a = none ∧ len = 0 ∧ cap = 0 ∧ zs = []) ∨
  ∃ x, a = some x ∧ len ≤ cap ∧ cap ≤ maxLen ∧ zs.length = cap ∧ (∀ i, i < zs.length → w.cell? (x.add i) = some (.int k (zs.getD i 0))) ∧ ∀ n ∈ zs, (Lit.int k n).wf = true

theorem tx_least : tx6 (-9223372036854775808) 0 = ⟨#[45, 57, 50, 50, 51, 51, 55, 50, 48, 51, 54, 56, 53, 52, 55, 55, 53, 56, 48, 56, 46, 48]⟩ := by
  have e2 : (0 : Int) = ((0 : Nat) : Int) := rfl
  rw [← tx6_sum, itoa_least, e2, Lib.itoa_nonneg, dec_one (by omega)]
  rfl
set_option maxRecDepth 8000 in
set_option maxHeartbeats 2000000 in
theorem walk  (w : World) (hR : Ready w) :
    Calls Tryd.prog 3 #[] w fun e w' => e = .returned (.bool true) ∧ Below w.heap.size w w' := by
  have AW : Hid (Calls Tryd.prog 8 #[] w fun e w' => e = .returned (.bool true) ∧ Below w.heap.size w w') := awake_any w hR
  have RR : Hid (Ready w) := hR
  have C1 : Hid (∀ u, Calls Tryd.prog 9 #[.agg #[.int .i64 (-1), .int .u8 0]] u fun e w' => e = .returned (.tuple #[.int .u64 0, .int .i64 1]) ∧ Below u.heap.size u w') := fun u => by
    have c := spack_any (-1) 0 u (by omega)
    simpa [okS] using c
  have C2 : Hid (∀ u, Calls Tryd.prog 9 #[.agg #[.int .i64 36028797018963968, .int .u8 0]] u fun e w' => e = .returned (.tuple #[.int .u64 0, .int .i64 1]) ∧ Below u.heap.size u w') := fun u => by
    have c := spack_any 36028797018963968 0 u (by omega)
    simpa [okS] using c
  have C3 : Hid (∀ u, Calls Tryd.prog 9 #[.agg #[.int .i64 36028797018963967, .int .u8 255]] u fun e w' => e = .returned (.tuple #[.int .u64 9223372036854775807, .int .i64 0]) ∧ Below u.heap.size u w') := fun u => by
    have c := spack_any 36028797018963967 255 u (by omega)
    simpa [okS] using c
  have C4 : Hid (∀ u, Calls Tryd.prog 10 #[.int .u64 9223372036854775808] u fun e w' => e = .returned (.tuple #[.agg #[.int .i64 0, .int .u8 0], .int .i64 1]) ∧ Below u.heap.size u w') := fun u => by
    have c := sunpack_any 9223372036854775808 u (by omega)
    simpa [okS] using c
  have C5 : Hid (∀ u, Calls Tryd.prog 11 #[.agg #[.int .i64 36028797018963967, .int .u8 255]] u fun e w' => e = .returned (.tuple #[.agg #[.int .i64 0, .int .u8 0], .int .i64 12]) ∧ Below u.heap.size u w') := fun u => by
    have c := snext_any 36028797018963967 255 u
    simpa [okS] using c
  have C6 : Hid (∀ u, Calls Tryd.prog 11 #[.agg #[.int .i64 (-1), .int .u8 0]] u fun e w' => e = .returned (.tuple #[.agg #[.int .i64 0, .int .u8 0], .int .i64 1]) ∧ Below u.heap.size u w') := fun u => by
    have c := snext_any (-1) 0 u
    simpa [okS] using c
  have C7 : Hid (∀ u, Calls Tryd.prog 11 #[.agg #[.int .i64 4, .int .u8 9]] u fun e w' => e = .returned (.tuple #[.agg #[.int .i64 5, .int .u8 9], .int .i64 0]) ∧ Below u.heap.size u w') := fun u => by
    have c := snext_any 4 9 u
    simpa [okS] using c
  have C8 : Hid (∀ u, Ready u → Calls Tryd.prog 12 #[.agg #[.int .i64 (-9223372036854775808), .int .u8 0]] u fun e w' => e = .returned (.string ⟨#[45, 57, 50, 50, 51, 51, 55, 50, 48, 51, 54, 56, 53, 52, 55, 55, 53, 56, 48, 56, 46, 48]⟩) ∧ Below u.heap.size u w') := fun u r => by
    have c := stext_any (-9223372036854775808) 0 u r (by omega) (by omega) (by omega)
    rw [tx_least] at c
    exact c
  clear hR
  go_enter Tryd.func3, Tryd.ntmps3
  go_wp2_with (first | (go_at_call 12; refine (C8.out _ (RR.out.on B7.out)).mono ?_; rintro e v8 ⟨rfl, hb8⟩; have B8 : Hid (Below w.heap.size w v8) := B7.out.trans (hb8.mono B7.out.size); clear hb8) | (go_at_call 11; have hgo := B6.out; clear hgo; refine (C7.out _).mono ?_; rintro e v7 ⟨rfl, hb7⟩; have B7 : Hid (Below w.heap.size w (v7.alloc (.cells #[.int .i64 5, .int .u8 9] 24))) := (B6.out.trans (hb7.mono B6.out.size)).alloc (Nat.le_trans B6.out.size hb7.size) _; have L7 : Hid (StAt (v7.alloc (.cells #[.int .i64 5, .int .u8 9] 24)) v0.heap.size 36028797018963967 255) := (L6.out.step hb7 (Nat.le_refl _)).past _; have m7 := L7.out.c0; have n7 := L7.out.c1; clear hb7) | (go_at_call 11; have hgo := B5.out; clear hgo; refine (C6.out _).mono ?_; rintro e v6 ⟨rfl, hb6⟩; have B6 : Hid (Below w.heap.size w (v6.alloc (.cells #[.int .i64 0, .int .u8 0] 24))) := (B5.out.trans (hb6.mono B5.out.size)).alloc (Nat.le_trans B5.out.size hb6.size) _; have L6 : Hid (StAt (v6.alloc (.cells #[.int .i64 0, .int .u8 0] 24)) v0.heap.size 36028797018963967 255) := (L5.out.step hb6 (Nat.le_refl _)).past _; have m6 := L6.out.c0; have n6 := L6.out.c1; clear hb6) | (go_at_call 11; have hgo := B4.out; clear hgo; refine (C5.out _).mono ?_; rintro e v5 ⟨rfl, hb5⟩; have B5 : Hid (Below w.heap.size w (v5.alloc (.cells #[.int .i64 0, .int .u8 0] 24))) := (B4.out.trans (hb5.mono B4.out.size)).alloc (Nat.le_trans B4.out.size hb5.size) _; have L5 : Hid (StAt (v5.alloc (.cells #[.int .i64 0, .int .u8 0] 24)) v0.heap.size 36028797018963967 255) := (L4.out.step hb5 (Nat.le_refl _)).past _; have m5 := L5.out.c0; have n5 := L5.out.c1; clear hb5) | (go_at_call 10; have hgo := B3.out; clear hgo; refine (C4.out _).mono ?_; rintro e v4 ⟨rfl, hb4⟩; have B4 : Hid (Below w.heap.size w (v4.alloc (.cells #[.int .i64 0, .int .u8 0] 24))) := (B3.out.trans (hb4.mono B3.out.size)).alloc (Nat.le_trans B3.out.size hb4.size) _; have L4 : Hid (StAt (v4.alloc (.cells #[.int .i64 0, .int .u8 0] 24)) v0.heap.size 36028797018963967 255) := (L3.out.step hb4 (Nat.le_refl _)).past _; have m4 := L4.out.c0; have n4 := L4.out.c1; clear hb4) | (go_at_call 9; have hgo := B2.out; clear hgo; refine (C3.out _).mono ?_; rintro e v3 ⟨rfl, hb3⟩; have B3 : Hid (Below w.heap.size w v3) := B2.out.trans (hb3.mono B2.out.size); have L3 : Hid (StAt v3 v0.heap.size 36028797018963967 255) := L2.out.step hb3 (Nat.le_refl _); have m3 := L3.out.c0; have n3 := L3.out.c1; clear hb3) | (go_at_call 9; have hgo := B1.out; clear hgo; refine (C2.out _).mono ?_; rintro e v2 ⟨rfl, hb2⟩; have B2 : Hid (Below w.heap.size w v2) := B1.out.trans (hb2.mono B1.out.size); have L2 : Hid (StAt v2 v0.heap.size 36028797018963967 255) := L1.out.step hb2 (Nat.le_refl _); have m2 := L2.out.c0; have n2 := L2.out.c1; clear hb2) | (go_at_call 9; have hgo := B0.out; clear hgo; refine (C1.out _).mono ?_; rintro e v1 ⟨rfl, hb1⟩; have B1 : Hid (Below w.heap.size w v1) := B0.out.trans (hb1.mono B0.out.size); have L1 : Hid (StAt v1 v0.heap.size 36028797018963967 255) := L0.out.step hb1 (Nat.le_refl _); have m1 := L1.out.c0; have n1 := L1.out.c1; clear hb1) | (go_at_call 8; refine AW.out.mono ?_; rintro e v0 ⟨rfl, hb0⟩; have B0 : Hid (Below w.heap.size w (v0.alloc (.cells #[.int .i64 36028797018963967, .int .u8 255] 24))) := hb0.alloc hb0.size _; have L0 : Hid (StAt (v0.alloc (.cells #[.int .i64 36028797018963967, .int .u8 255] 24)) v0.heap.size 36028797018963967 255) := StAt.made _ _ _ _ _ rfl; clear hb0))
  go_ret
  exact ⟨rfl, B8.out⟩

set_option maxRecDepth 100000 in
theorem lifted (os : Os) (started : os.Started) (H : Type) (enc : TypeId × Value → H) :
    ReturnsInHanded {} Tryd.checked os 3 .any (fun w args => (Rows.stampKnownSpec.pre enc Tryd.prog Tryd.f3 Rows.stampKnownRow.domain false w args ∧ laidMet Tryd.prog laid3 w) ∧ sizedMet enc Tryd.prog Tryd.f3 (OpenSpec.ofChange Rows.stampKnownSpec) false w args)
      (Rows.stampKnownSpec.post enc Tryd.prog Tryd.f3 false true false false) := by
  refine returnsInHanded_of_change_and (C := Tryd.checked) (X := fun w _ => laidMet Tryd.prog laid3 w) (fun _ _ _ hh h => h.of_heap hh) own started (by kernel_rfl) Tryd.func3
    (ChangeSpec.witness_at (enc := enc) (C := Tryd.checked) (os := os) (X := fun w _ => laidMet Tryd.prog laid3 w) false (laidWorld3 os) #[] 8 rfl (by kernel_rfl) (by kernel_rfl) (by kernel_rfl) (by kernel_rfl) (by kernel_rfl) (laid3_met os _)) ?_
  intro W base args ds gs before hval0 hW _ _ hL _
  have hval : ∀ (j : Nat) t v, Tryd.f3.params[j]? = some t → args[j]? = some v → Value.okWide Tryd.prog W .any base t v := hval0
  have hW' := hW
  obtain ⟨p, q, hA0, hV, rfl, hfz, hnd⟩ := hW
  have hA : DataW.TrodAll enc Tryd.prog W 0 (fun _ => true) true Tryd.f3.params.toList args.toList ds p := hA0
  rw [Tryd.params3] at hA hval
  obtain ⟨hargs, rfl, rfl⟩ := trodAll_nil hA
  obtain rfl : args = #[] := by cases args; simp_all
  obtain ⟨rfl, rfl⟩ := trodVars_none hV
  clear hA0 hval0
  refine (walk  W  (ready_of hL)).mono fun e W' ⟨he, bel⟩ => ?_
  subst he
  exact ⟨_, rfl, _, _, _, [], _, [], hW', trodAll_mk1 (shut_bool Tryd.underlying4 _), trodAll_mk0, rfl, bel.frame _, fun h => by cases h⟩

theorem over : Rows.stampKnownRow.holds Tryd.pinned (OpenSpec.ofChange Rows.stampKnownSpec) :=
  OpenClaim.holds_of_wide 3 Tryd.f3 rfl rfl rfl rfl rfl rfl rfl ⟨rfl, rfl, rfl, rfl, rfl⟩ rfl rfl rfl rfl rfl (by kernel_rfl) Tryd.func3 (by kernel_rfl)
    (of_decide_eq_true (by kernel_rfl)) (by unfold Func.isWrapper; first | (rw [if_pos (by decide +kernel)]; kernel_rfl) | (rw [if_neg (by decide +kernel)]; exact ⟨rfl, rfl⟩))
    (fun os started H enc _ => lifted os started H enc)
theorem carded : Rows.StampKnownCardSaid :=
  Claim7.holds_tied_plain_at .later [] [.data, .data, .data] true (true, "75a9ced10a68879221c187ebb07933119152f9c2d73adce86fd34b54cdc5e0b3") false
    over (fun _ h => by cases h) (by kernel_rfl) (fun _ h => by cases h) stampKnown_row_tie rfl ⟨rfl, rfl⟩ (by kernel_rfl) rfl
    (fun f fn hf hfn => by
      obtain rfl : f = 3 := Option.some.inj ((show Tryd.prog.funcNamed "hourglass/hourglasslaw6.StampKnown" = some 3 by kernel_rfl).symm.trans hf) |>.symm
      obtain rfl : fn = Tryd.f3 := (Option.some.inj (Tryd.func3.symm.trans hfn)).symm
      exact ⟨by kernel_rfl, fun j t ht => by
        rw [Tryd.params3] at ht
        exact absurd ht (by simp)⟩)
    (by kernel_rfl)
#print axioms carded
end Go.Proofs.YtmokepjemplfgaaDoor.stampKnown
namespace Go.Proofs.YtmokepjemplfgaaDoor
/-- StampKnown, as given. -/
theorem stampKnown_holds : Rows.StampKnownCardSaid := stampKnown.carded
end Go.Proofs.YtmokepjemplfgaaDoor
