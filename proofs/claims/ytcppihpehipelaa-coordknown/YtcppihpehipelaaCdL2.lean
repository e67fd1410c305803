/-
  Layer 18: awake.
-/
import Derived.Test.YtcppihpehipelaaCdL1
namespace Go.Proofs.Ytcppihpehipelaa
open Go.RowKit
set_option linter.unusedVariables false
set_option linter.unusedSimpArgs false

def awC1 : List DecC := [⟨1, 0, 0, [0, 1], [false, false], 0, 0, 0, [false, false]⟩]
def awC2 : List DecC := [⟨1, 0, 0, [0, 1], [true, false], 0, 5, 0, [false, false]⟩]
def awC3 : List DecC := [⟨1, 0, 0, [0, 1], [true, true], 1, 7, 1, [false, false]⟩]
theorem aw_begin : beginC [] 1 0 0 [0, 1] = (0, awC1) := by kernel_rfl
theorem aw_vote1 : voteC awC1 1 0 true 5 0 = (0, awC2) := by kernel_rfl
theorem aw_dec1 : decC awC2 1 = (false, false, 0, 0) := by kernel_rfl
theorem aw_vote2 : voteC awC2 1 1 true 7 1 = (0, awC3) := by kernel_rfl
theorem aw_dec2 : decC awC3 1 = (true, true, 7, 1) := by kernel_rfl
theorem aw_owes : owesC awC3 1 = [0, 1] := by kernel_rfl
theorem aw_open : openC awC3 = [1] := by kernel_rfl
theorem i64_small {x : Int} (h1 : -1000000 ≤ x) (h2 : x ≤ 1000000) : I64 x := by unfold I64; omega
theorem alloc_belowC (w : World) (o : Obj) : Below w.heap.size w (w.alloc o) := (Below.refl _ _).alloc (Nat.le_refl _) o
set_option maxHeartbeats 4000000 in
set_option maxRecDepth 8000 in
theorem cdawake_any (w : World) : Calls Try.prog 7 #[] w fun e w' => e = .returned (.bool true) ∧ Below w.heap.size w w' := by
  have T1 : Hid True := trivial
  have I1 : Hid (I64 1) := i64_small (by decide) (by decide)
  go_enter Try.func7, Try.ntmps7
  go_wp2_with (first
    | (have hgo := T1.out; clear hgo; go_at_call 8; refine (cdf_new _).mono ?_; rintro e w1 ⟨b, rfl, k1, -⟩; have K1 : Hid (CdF w w1 b [] noFoot) := k1; clear k1 T1; have T2 : Hid True := trivial)
    | (have hgo := T2.out; clear hgo; go_at_call 10; refine (cdatt_any _ _).mono ?_; rintro e w2 ⟨rfl, hb⟩; have K2 : Hid (CdF w w2 b [] noFoot) := K1.out.past hb; clear hb T2 K1; have T3 : Hid True := trivial)
    | (have hgo := T3.out; clear hgo; go_at_call 9; refine ((K2.out.past (alloc_belowC _ _)).begin aw_begin I1.out rfl (by decide) (by decide) (intsAt_made _ _ [0, 1] (by decide)) (by decide)).mono ?_; rintro e w3 ⟨rfl, k3, -, -⟩; have K3 : Hid (CdF w w3 b awC1 noFoot) := k3; clear k3 T3 K2; have T4 : Hid True := trivial)
    | (have hgo := T4.out; clear hgo; go_at_call 10; refine (cdatt_any _ _).mono ?_; rintro e w4 ⟨rfl, hb⟩; have K4 : Hid (CdF w w4 b awC1 noFoot) := K3.out.past hb; clear hb T4 K3; have T5 : Hid True := trivial)
    | (have hgo := T5.out; clear hgo; go_at_call 11; refine (K4.out.vote aw_vote1 I1.out (by decide)).mono ?_; rintro e w5 ⟨rfl, k5, -, -⟩; have K5 : Hid (CdF w w5 b awC2 noFoot) := k5; clear k5 T5 K4; have T6 : Hid True := trivial)
    | (have hgo := T6.out; clear hgo; go_at_call 13; refine (K5.out.decision aw_dec1 I1.out).mono ?_; rintro e w6 ⟨rfl, hb⟩; have K6 : Hid (CdF w w6 b awC2 noFoot) := K5.out.past hb; clear hb T6 K5; have T7 : Hid True := trivial)
    | (have hgo := T7.out; clear hgo; go_at_call 11; refine ((K6.out.past (alloc_belowC _ _)).vote aw_vote2 I1.out (by decide)).mono ?_; rintro e w7 ⟨rfl, k7, -, -⟩; have K7 : Hid (CdF w w7 b awC3 noFoot) := k7; clear k7 T7 K6; have T8 : Hid True := trivial)
    | (have hgo := T8.out; clear hgo; go_at_call 13; refine (K7.out.decision aw_dec2 I1.out).mono ?_; rintro e w8 ⟨rfl, hb⟩; have K8 : Hid (CdF w w8 b awC3 noFoot) := K7.out.past hb; clear hb T8 K7; have T9 : Hid True := trivial)
    | (have hgo := T9.out; clear hgo; go_at_call 30; refine ((K8.out.past (alloc_belowC _ _)).owes aw_owes I1.out).mono ?_; rintro e w9 ⟨a9, n9, c9, rfl, hl, hc, hr, hb⟩; obtain rfl : n9 = 2 := hl.symm; have K9 : Hid (CdF w w9 b awC3 noFoot) := (K8.out.past (alloc_belowC _ _)).past hb; have R9 : Hid (2 ≤ c9 ∧ RowI w9 a9 [0, 1]) := ⟨hc, hr⟩; clear hb T9 K8 hl hc hr; have T10 : Hid True := trivial)
    | (have hgo := T10.out; clear hgo; go_at_call 29; refine (cdsame_any a9 _ 2 c9 2 [0, 1] _ rfl R9.out.1 (by decide) (by decide) (R9.out.2.past (alloc_belowC _ _)) (rowI_made _ _ [0, 1])).mono ?_; rintro e w10 ⟨rfl, hb⟩; have K10 : Hid (CdF w w10 b awC3 noFoot) := (K9.out.past (alloc_belowC _ _)).past hb; clear hb T10 K9; have T11 : Hid True := trivial)
    | (have hgo := T11.out; clear hgo; go_at_call 18; refine (K10.out.opens aw_open (by decide)).mono ?_; rintro e w11 ⟨a11, n11, c11, rfl, hl, hc, hr, hb⟩; obtain rfl : n11 = 1 := hl.symm; have K11 : Hid (CdF w w11 b awC3 noFoot) := K10.out.past hb; have R11 : Hid (1 ≤ c11 ∧ RowI w11 a11 [1]) := ⟨hc, hr⟩; clear hb T11 K10 hl hc hr; have T12 : Hid True := trivial)
    | (have hgo := T12.out; clear hgo; go_at_call 19; refine (cdsame64_any a11 _ 1 c11 1 [1] _ rfl R11.out.1 (by decide) (by decide) (R11.out.2.past (alloc_belowC _ _)) (rowI_made _ _ [1])).mono ?_; rintro e w12 ⟨rfl, hb⟩; have K12 : Hid (CdF w w12 b awC3 noFoot) := (K11.out.past (alloc_belowC _ _)).past hb; clear hb T12 K11))
  go_ret
  exact ⟨rfl, K12.out.below⟩
end Go.Proofs.Ytcppihpehipelaa
