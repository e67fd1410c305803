/-
  CoordKnown: the examples of chapter 18 answer as told (a closed statement).
-/
import Derived.Test.YtcppihpehipelaaRows
import Derived.Test.YtcppihpehipelaaCdL5
import Derived.WalkKit
import Derived.ProofKit
import Derived.OpenShut
import Derived.ShutString
import Derived.ChangeOld
import Derived.Below
import Derived.Carry
namespace Go.Proofs.Ytcppihpehipelaa.coordKnown
open Go.ChangeShapes Go.WideShapes Go.ChangeAt Go.RowKit
open Go.ChangeMaps (open_string shut_string)
set_option linter.unusedVariables false

theorem own : ownKnob Try.prog.godebug = none := by kernel_rfl
theorem laidOut : laidOutB Try.prog = true := by kernel_rfl
/-- A slice of integers that came in: nil, or a row of 'cap' cells, of which the first 'len' are its elements. -/
def IsRow (k : IntKind) (w : World) (a : Option Addr) (len cap : Nat) (zs : List Int) : Prop :=
  (a = none ∧ len = 0 ∧ cap = 0 ∧ zs = []) ∨
  ∃ x, a = some x ∧ len ≤ cap ∧ cap ≤ maxLen ∧ zs.length = cap ∧ (∀ i, i < zs.length → w.cell? (x.add i) = some (.int k (zs.getD i 0))) ∧ ∀ n ∈ zs, (Lit.int k n).wf = true

set_option linter.unusedSimpArgs false in
set_option maxRecDepth 20000 in
set_option maxHeartbeats 16000000 in
theorem walk  (w : World)  :
    Calls Try.prog 3 #[] w fun e w' => e = .returned (.bool true) ∧ Below w.heap.size w w' := by
  have I1 : Hid (I64 1) := i64_small (by decide) (by decide)
  have T1 : Hid True := trivial
  go_enter Try.func3, Try.ntmps3
  go_wp2_with (first
    | (have hgo := T1.out; clear hgo; go_at_call 7; refine (cdawake_any _).mono ?_; rintro e wA ⟨rfl, hbA⟩; have HA : Hid (Below w.heap.size w wA) := hbA; clear hbA; clear T1; have T2 : Hid True := trivial)
    | (have hgo := T2.out; clear hgo; go_at_call 8; refine (cdf_new _).mono ?_; rintro e wN ⟨b, rfl, kN, -⟩; have KA : Hid (CdF wA wN b [] noFoot) := kN; clear kN; clear T2; have T3 : Hid True := trivial)
    | (have hgo := T3.out; clear hgo; go_at_call 10; refine (cdatt_any _ _).mono ?_; rintro e wt1 ⟨rfl, hb⟩; have KT1 : Hid (CdF wA wt1 b [] noFoot) := KA.out.past hb; clear hb KA; clear T3; have T4 : Hid True := trivial)
    | (have hgo := T4.out; clear hgo; go_at_call 9; refine ((KT1.out.past (alloc_belowC _ _)).begin kn_a (i64_small (by decide) (by decide)) rfl (by decide) (by decide) (intsAt_made _ _ [1] (by decide)) (by decide)).mono ?_; rintro e wt2 ⟨rfl, k5, -, -⟩; have KT2 : Hid (CdF wA wt2 b [] noFoot) := k5; clear k5 KT1; clear T4; have T5 : Hid True := trivial)
    | (have hgo := T5.out; clear hgo; go_at_call 10; refine (cdatt_any _ _).mono ?_; rintro e wt3 ⟨rfl, hb⟩; have KT3 : Hid (CdF wA wt3 b [] noFoot) := KT2.out.past hb; clear hb KT2; clear T5; have T6 : Hid True := trivial)
    | (have hgo := T6.out; clear hgo; go_at_call 9; refine ((KT3.out.past (alloc_belowC _ _)).begin kn_b (i64_small (by decide) (by decide)) rfl (by decide) (by decide) (intsAt_made _ _ [1, 0] (by decide)) (by decide)).mono ?_; rintro e wt4 ⟨rfl, k5, -, -⟩; have KT4 : Hid (CdF wA wt4 b [] noFoot) := k5; clear k5 KT3; clear T6; have T7 : Hid True := trivial)
    | (have hgo := T7.out; clear hgo; go_at_call 10; refine (cdatt_any _ _).mono ?_; rintro e wt5 ⟨rfl, hb⟩; have KT5 : Hid (CdF wA wt5 b [] noFoot) := KT4.out.past hb; clear hb KT4; clear T7; have T8 : Hid True := trivial)
    | (have hgo := T8.out; clear hgo; go_at_call 9; refine ((KT5.out.past (alloc_belowC _ _)).begin kn_d (i64_small (by decide) (by decide)) rfl (by decide) (by decide) (intsAt_made _ _ [1] (by decide)) (by decide)).mono ?_; rintro e wt6 ⟨rfl, k5, -, -⟩; have KT6 : Hid (CdF wA wt6 b [] noFoot) := k5; clear k5 KT5; clear T8; have T9 : Hid True := trivial)
    | (have hgo := T9.out; clear hgo; go_at_call 10; refine (cdatt_any _ _).mono ?_; rintro e wt7 ⟨rfl, hb⟩; have KT7 : Hid (CdF wA wt7 b [] noFoot) := KT6.out.past hb; clear hb KT6; clear T9; have T10 : Hid True := trivial)
    | (have hgo := T10.out; clear hgo; go_at_call 9; refine ((KT7.out.past (alloc_belowC _ _)).begin kn_x (i64_small (by decide) (by decide)) rfl (by decide) (by decide) (intsAt_made _ _ [0, 2] (by decide)) (by decide)).mono ?_; rintro e wt8 ⟨rfl, k5, -, -⟩; have KT8 : Hid (CdF wA wt8 b knC1 noFoot) := k5; clear k5 KT7; clear T10; have T11 : Hid True := trivial)
    | (have hgo := T11.out; clear hgo; go_at_call 10; refine (cdatt_any _ _).mono ?_; rintro e wt9 ⟨rfl, hb⟩; have KT9 : Hid (CdF wA wt9 b knC1 noFoot) := KT8.out.past hb; clear hb KT8; clear T11; have T12 : Hid True := trivial)
    | (have hgo := T12.out; clear hgo; go_at_call 9; refine ((KT9.out.past (alloc_belowC _ _)).begin kn_e (i64_small (by decide) (by decide)) rfl (by decide) (by decide) (intsAt_made _ _ [0] (by decide)) (by decide)).mono ?_; rintro e wt10 ⟨rfl, k5, -, -⟩; have KT10 : Hid (CdF wA wt10 b knC1 noFoot) := k5; clear k5 KT9; clear T12; have T13 : Hid True := trivial)
    | (have hgo := T13.out; clear hgo; go_at_call 10; refine (cdatt_any _ _).mono ?_; rintro e wt11 ⟨rfl, hb⟩; have KT11 : Hid (CdF wA wt11 b knC1 noFoot) := KT10.out.past hb; clear hb KT10; clear T13; have T14 : Hid True := trivial)
    | (have hgo := T14.out; clear hgo; go_at_call 11; refine (KT11.out.vote kn_f I1.out (by decide)).mono ?_; rintro e wt12 ⟨rfl, k5, -, -⟩; have KT12 : Hid (CdF wA wt12 b knC1 noFoot) := k5; clear k5 KT11; clear T14; have T15 : Hid True := trivial)
    | (have hgo := T15.out; clear hgo; go_at_call 10; refine (cdatt_any _ _).mono ?_; rintro e wt13 ⟨rfl, hb⟩; have KT13 : Hid (CdF wA wt13 b knC1 noFoot) := KT12.out.past hb; clear hb KT12; clear T15; have T16 : Hid True := trivial)
    | (have hgo := T16.out; clear hgo; go_at_call 11; refine (KT13.out.vote kn_g I1.out (by decide)).mono ?_; rintro e wt14 ⟨rfl, k5, -, -⟩; have KT14 : Hid (CdF wA wt14 b knC1 noFoot) := k5; clear k5 KT13; clear T16; have T17 : Hid True := trivial)
    | (have hgo := T17.out; clear hgo; go_at_call 12; refine (KT14.out.ack kn_h I1.out).mono ?_; rintro e wt15 ⟨rfl, k5, -, -⟩; have KT15 : Hid (CdF wA wt15 b knC1 noFoot) := k5; clear k5 KT14; clear T17; have T18 : Hid True := trivial)
    | (have hgo := T18.out; clear hgo; go_at_call 10; refine (cdatt_any _ _).mono ?_; rintro e wt16 ⟨rfl, hb⟩; have KT16 : Hid (CdF wA wt16 b knC1 noFoot) := KT15.out.past hb; clear hb KT15; clear T18; have T19 : Hid True := trivial)
    | (have hgo := T19.out; clear hgo; go_at_call 11; refine (KT16.out.vote kn_v I1.out (by decide)).mono ?_; rintro e wt17 ⟨rfl, k5, -, -⟩; have KT17 : Hid (CdF wA wt17 b knC2 noFoot) := k5; clear k5 KT16; clear T19; have T20 : Hid True := trivial)
    | (have hgo := T20.out; clear hgo; go_at_call 10; refine (cdatt_any _ _).mono ?_; rintro e wt18 ⟨rfl, hb⟩; have KT18 : Hid (CdF wA wt18 b knC2 noFoot) := KT17.out.past hb; clear hb KT17; clear T20; have T21 : Hid True := trivial)
    | (have hgo := T21.out; clear hgo; go_at_call 11; refine (KT18.out.vote kn_v2 I1.out (by decide)).mono ?_; rintro e wt19 ⟨rfl, k5, -, -⟩; have KT19 : Hid (CdF wA wt19 b knC2 noFoot) := k5; clear k5 KT18; clear T21; have T22 : Hid True := trivial)
    | (have hgo := T22.out; clear hgo; go_at_call 13; refine (KT19.out.decision kn_dec I1.out).mono ?_
       rintro e w1 ⟨rfl, hb⟩
       have K1 : Hid (CdF wA w1 b knC2 noFoot) := KT19.out.past hb
       clear hb KT19; clear T22; have T23 : Hid True := trivial)
    | (have hgo := T23.out; clear hgo; go_at_call 14; obtain ⟨w1b, hw1b⟩ : ∃ u, u = w1.alloc (.cells #[.int .i64 0, .int .u8 0] 28) := ⟨_, rfl⟩
       rw [← hw1b]
       refine ((K1.out.past (by rw [hw1b]; exact alloc_belowC _ _)).recordN kn_rec I1.out).mono ?_
       rintro e w2 ⟨⟨⟨kd6, id6, s6, m6, t6, n6, l6, y6, ps6⟩, xa, xc, xpa, xpc⟩, rfl, hx, hw6, hb6, hf6⟩
       obtain ⟨rfl, rfl, rfl, rfl, rfl, rfl, rfl, rfl, rfl⟩ := Rcd.mk.inj (show (⟨kd6, id6, s6, m6, t6, n6, l6, y6, ps6⟩ : Rcd) = ⟨4, 1, 0, 0, 0, 0, [], false, [0, 2]⟩ from hx)
       obtain ⟨G, kb, kk⟩ := kn_held K1.out hw1b 37 hb6 hw6 hf6
       have KB2 : Hid (KnB (w2.alloc (.cells #[.int .i64 4, .int .i64 1, .int .i64 0, .int .u8 0, .int .i64 0, .int .u8 0, .slice xa 0 xc, .bool false, .slice xpa 2 xpc] 37)) w1.heap.size w2.heap.size G xa xc xpa xpc) := kb
       have K2 : Hid (CdF wA (w2.alloc (.cells #[.int .i64 4, .int .i64 1, .int .i64 0, .int .u8 0, .int .i64 0, .int .u8 0, .slice xa 0 xc, .bool false, .slice xpa 2 xpc] 37)) b knC2 (knF w1.heap.size w2.heap.size G)) := kk
       unfold rcv encR
       simp only [List.toArray, List.length_nil, List.length_cons, Nat.zero_add, Nat.reduceAdd]
       clear hx hw6 hb6 hf6 kb kk hw1b K1; clear T23; have T24 : Hid True := trivial)
    | (have hgo := T24.out; clear hgo; go_at_call 14; obtain ⟨w2b, hw2b⟩ : ∃ u, u = w2.alloc (.cells #[.int .i64 4, .int .i64 1, .int .i64 0, .int .u8 0, .int .i64 0, .int .u8 0, .slice xa 0 xc, .bool false, .slice xpa 2 xpc] 37) := ⟨_, rfl⟩
       rw [← hw2b] at KB2 K2 ⊢
       refine (K2.out.record kn_rec2 (i64_small (by decide) (by decide))).mono ?_
       rintro e w3 ⟨⟨⟨kd6, id6, s6, m6, t6, n6, l6, y6, ps6⟩, xa3, xc3, xpa3, xpc3⟩, rfl, hx, -, hb6⟩
       obtain ⟨rfl, rfl, rfl, rfl, rfl, rfl, rfl, rfl, rfl⟩ := Rcd.mk.inj (show (⟨kd6, id6, s6, m6, t6, n6, l6, y6, ps6⟩ : Rcd) = ⟨0, 0, 0, 0, 0, 0, [], false, []⟩ from hx)
       have hA := alloc_belowC w3 (.cells #[.int .i64 0, .int .i64 0, .int .i64 0, .int .u8 0, .int .i64 0, .int .u8 0, .slice xa3 0 xc3, .bool false, .slice xpa3 0 xpc3] 37)
       have K3 : Hid (CdF wA (w3.alloc (.cells #[.int .i64 0, .int .i64 0, .int .i64 0, .int .u8 0, .int .i64 0, .int .u8 0, .slice xa3 0 xc3, .bool false, .slice xpa3 0 xpc3] 37)) b knC2 (knF w1.heap.size w2.heap.size G)) := (K2.out.past hb6).past hA
       have KB3 : Hid (KnB (w3.alloc (.cells #[.int .i64 0, .int .i64 0, .int .i64 0, .int .u8 0, .int .i64 0, .int .u8 0, .slice xa3 0 xc3, .bool false, .slice xpa3 0 xpc3] 37)) w1.heap.size w2.heap.size G xa xc xpa xpc) := (KB2.out.past hb6).past hA
       obtain ⟨y0, y1, y2, y3, y4, y5, y6, y7, y8⟩ := KB3.out.r
       unfold rcv encR
       simp only [List.toArray, List.length_nil, List.length_cons, Nat.zero_add, Nat.reduceAdd]
       clear hx hb6 hA hw2b KB2 K2; clear T24; have T25 : Hid True := trivial)
    | (have hgo := T25.out; clear hgo; go_at_call 15; obtain ⟨w3b, hw3b⟩ : ∃ u, u = w3.alloc (.cells #[.int .i64 0, .int .i64 0, .int .i64 0, .int .u8 0, .int .i64 0, .int .u8 0, .slice xa3 0 xc3, .bool false, .slice xpa3 0 xpc3] 37) := ⟨_, rfl⟩
       rw [← hw3b] at K3 KB3 ⊢
       have CP := K3.out.play (x := ⟨⟨4, 1, 0, 0, 0, 0, [], false, [0, 2]⟩, xa, xc, xpa, xpc⟩) kn_play KB3.out.w (by decide)
       unfold rcv encR at CP
       simp only [List.toArray, List.length_nil, List.length_cons, Nat.zero_add, Nat.reduceAdd] at CP
       refine CP.mono ?_
       clear CP y0 y1 y2 y3 y4 y5 y6 y7 y8
       rintro e w4 ⟨rfl, k4, st4, -⟩
       have K4 : Hid (CdF wA w4 b knC2 (knF w1.heap.size w2.heap.size G)) := k4
       have KB4 : Hid (KnB w4 w1.heap.size w2.heap.size G xa xc xpa xpc) := KB3.out.kept st4
       clear k4 st4 hw3b K3 KB3; clear T25; have T26 : Hid True := trivial)
    | (have hgo := T26.out; clear hgo; go_at_call 8; refine (cdf_new _).mono ?_
       rintro e w5 ⟨o, rfl, k5, -⟩
       have O5 : Hid (CdF w4 w5 o [] noFoot) := k5
       obtain ⟨y0, y1, y2, y3, y4, y5, y6, y7, y8⟩ := (KB4.out.past k5.below).r
       clear k5; clear T26; have T27 : Hid True := trivial)
    | (have hgo := T27.out; clear hgo; go_at_call 15; have CP := O5.out.play (x := ⟨⟨4, 1, 0, 0, 0, 0, [], false, [0, 2]⟩, xa, xc, xpa, xpc⟩) kn_playo (KB4.out.past O5.out.below).w (by decide)
       unfold rcv encR at CP
       simp only [List.toArray, List.length_nil, List.length_cons, Nat.zero_add, Nat.reduceAdd] at CP
       refine CP.mono ?_
       clear CP y0 y1 y2 y3 y4 y5 y6 y7 y8
       rintro e w6 ⟨rfl, k6, -, -⟩
       have O6 : Hid (CdF w4 w6 o knO noFoot) := k6
       clear k6 O5; clear T27; have T28 : Hid True := trivial)
    | (have hgo := T28.out; clear hgo; go_at_call 16; refine (O6.out.give kn_give I1.out).mono ?_
       rintro e w7 ⟨rfl, k7, -, -⟩
       have O7 : Hid (CdF w4 w7 o knO noFoot) := k7
       clear k7 O6; clear T28; have T29 : Hid True := trivial)
    | (have hgo := T29.out; clear hgo; go_at_call 10; refine (cdatt_any _ _).mono ?_
       rintro e w8 ⟨rfl, hb⟩
       have O8 : Hid (CdF w4 w8 o knO noFoot) := O7.out.past hb
       clear hb O7; clear T29; have T30 : Hid True := trivial)
    | (have hgo := T30.out; clear hgo; go_at_call 11; refine (O8.out.vote kn_vo I1.out (by decide)).mono ?_
       rintro e w9 ⟨rfl, k9, -, -⟩
       have O9 : Hid (CdF w4 w9 o knO noFoot) := k9
       clear k9 O8; clear T30; have T31 : Hid True := trivial)
    | (have hgo := T31.out; clear hgo; go_at_call 12; refine ((K4.out.two O9.out).ack kn_k1 I1.out).mono ?_
       rintro e w10 ⟨rfl, t10, s10⟩
       have T0 : Hid (TwoC wA w10 b knC3 o knO (knF w1.heap.size w2.heap.size G)) := t10
       have KB10 : Hid (KnB w10 w1.heap.size w2.heap.size G xa xc xpa xpc) := (KB4.out.past O9.out.below).kept s10
       clear t10 s10 K4 KB4 O9; clear T31; have T32 : Hid True := trivial)
    | (have hgo := T32.out; clear hgo; go_at_call 12; refine (T0.out.ack kn_k2 I1.out).mono ?_
       rintro e w11 ⟨rfl, t11, s11⟩
       have TA : Hid (TwoC wA w11 b knC4 o knO (knF w1.heap.size w2.heap.size G)) := t11
       have KB11 : Hid (KnB w11 w1.heap.size w2.heap.size G xa xc xpa xpc) := KB10.out.kept s11
       obtain ⟨y0, y1, y2, y3, y4, y5, y6, y7, y8⟩ := KB11.out.r
       have s0 := KB11.out.s.c0
       have s1 := KB11.out.s.c1
       clear t11 s11 T0 KB10; clear T32; have T33 : Hid True := trivial)
    | (have hgo := T33.out; clear hgo; go_at_call 17; have CS := lsame_any ⟨⟨4, 1, 0, 0, 0, 0, [], false, [0, 2]⟩, xa, xc, xpa, xpc⟩ ⟨⟨4, 1, 0, 0, 0, 0, [], false, [0, 2]⟩, none, 0, some ⟨w11.heap.size, 0, none⟩, 2⟩ _ (KB11.out.w.past (alloc_belowC w11 (.cells #[.int .i64 0, .int .i64 2] 3))) (knRcW _ 4 1 _ 2 [0, 2] (by decide) (by decide) (by decide) (by decide) (intsAt_made w11 3 [0, 2] (by decide)))
       simp only [kn_same] at CS
       unfold rcv encR at CS
       simp only [List.toArray, List.length_nil, List.length_cons, Nat.zero_add, Nat.reduceAdd] at CS
       refine CS.mono ?_
       clear CS y0 y1 y2 y3 y4 y5 y6 y7 y8 s0 s1
       rintro e w12 ⟨rfl, hb⟩
       have TB : Hid (TwoC wA w12 b knC4 o knO (knF w1.heap.size w2.heap.size G)) := (TA.out.past (alloc_belowC _ _)).past hb
       clear hb TA KB11; clear T33; have T34 : Hid True := trivial)
    | (have hgo := T34.out; clear hgo; go_at_call 18; refine (TB.out.c.opens kn_open (by decide)).mono ?_
       rintro e w13 ⟨a13, n13, c13, rfl, hl, hc, hr, hb⟩
       obtain rfl : n13 = 0 := hl.symm
       have TC : Hid (TwoC wA w13 b knC4 o knO (knF w1.heap.size w2.heap.size G)) := TB.out.past hb
       clear hl hc hr hb TB; clear T34; have T35 : Hid True := trivial)
    | (have hgo := T35.out; clear hgo; go_at_call 18; refine (TC.out.o.opens kn_openo (by decide)).mono ?_
       rintro e w14 ⟨a14, n14, c14, rfl, hl, hc, hr, hb⟩
       obtain rfl : n14 = 1 := hl.symm
       have TD : Hid (TwoC wA w14 b knC4 o knO (knF w1.heap.size w2.heap.size G)) := TC.out.past hb
       have R14 : Hid (1 ≤ c14 ∧ RowI w14 a14 [1]) := ⟨hc, hr⟩
       clear hl hc hr hb TC; clear T35; have T36 : Hid True := trivial)
    | (have hgo := T36.out; clear hgo; go_at_call 19; refine (cdsame64_any a14 _ 1 c14 1 [1] _ rfl R14.out.1 (by decide) (by decide) (R14.out.2.past (alloc_belowC _ _)) (rowI_made _ _ [1])).mono ?_
       rintro e w15 ⟨rfl, hb⟩
       have TE : Hid (TwoC wA w15 b knC4 o knO (knF w1.heap.size w2.heap.size G)) := (TD.out.past (alloc_belowC _ _)).past hb
       clear hb TD; clear T36; have T37 : Hid True := trivial)
    | (have hgo := T37.out; clear hgo; go_at_call 15; have CP := TE.out.o.play (x := ⟨⟨3, 7, 0, 0, 0, 0, [], false, []⟩, none, 0, none, 0⟩) kn_form (knRcW _ 3 7 _ 0 [] (by decide) (by decide) (by decide) (by decide) (IntsAt.none _ _)) (by decide)
       unfold rcv encR at CP
       simp only [List.toArray, List.length_nil, List.length_cons, Nat.zero_add, Nat.reduceAdd] at CP
       refine CP.mono ?_
       clear CP
       rintro e w16 ⟨rfl, k16, -, -⟩
       have HE : Hid (Below wA.heap.size wA w16) := k16.below
       clear k16 TE; clear T37; have T38 : Hid True := trivial))
  go_ret
  exact ⟨rfl, HA.out.trans (HE.out.mono HA.out.size)⟩

set_option maxRecDepth 100000 in
theorem lifted (os : Os) (started : os.Started) (H : Type) (enc : TypeId × Value → H) :
    ReturnsInHanded {} Try.checked os 3 .any (Rows.coordKnownSpec.pre6 enc Try.prog Try.f3 Rows.coordKnownRow.domain false) (Rows.coordKnownSpec.post enc Try.prog Try.f3 false true false false) := by
  refine returnsInHanded_of_change (C := Try.checked) own started (by kernel_rfl) Try.func3
    (ChangeSpec.witness6 (enc := enc) (C := Try.checked) false ⟨#[], #[], []⟩ 8 (by kernel_rfl) (by kernel_rfl) (by kernel_rfl) (by kernel_rfl)) ?_
  intro W base args ds gs before hval0 hW hcnd _
  have hval : ∀ (j : Nat) t v, Try.f3.params[j]? = some t → args[j]? = some v → Value.okWide Try.prog W .any base t v := hval0
  have hW' := hW
  obtain ⟨p, q, hA0, hV, rfl, hfz, hnd⟩ := hW
  have hA : DataW.TrodAll enc Try.prog W 0 (fun _ => true) true Try.f3.params.toList args.toList ds p := hA0
  rw [Try.params3] at hA hval
  obtain ⟨hargs, rfl, rfl⟩ := trodAll_nil hA
  obtain rfl : args = #[] := by cases args; simp_all
  obtain ⟨rfl, rfl⟩ := trodVars_none hV
  clear hA0 hval0
  refine (walk  W ).mono fun e W' ⟨he, bel⟩ => ?_
  subst he
  exact ⟨_, rfl, _, _, _, [], _, [], hW', trodAll_mk1 (shut_bool Try.underlying4 _), trodAll_mk0, rfl, bel.frame _, fun h => by cases h⟩

theorem over : Rows.coordKnownRow.holds Try.pinned (OpenSpec.ofChange Rows.coordKnownSpec) :=
  OpenClaim.holds_of_wide 3 Try.f3 rfl rfl rfl rfl rfl rfl rfl ⟨rfl, rfl, rfl, rfl, rfl⟩ rfl rfl rfl rfl rfl (by kernel_rfl) Try.func3 (by kernel_rfl)
    (of_decide_eq_true (by kernel_rfl)) (by unfold Func.isWrapper; first | (rw [if_pos (by decide +kernel)]; kernel_rfl) | (rw [if_neg (by decide +kernel)]; exact ⟨rfl, rfl⟩))
    (fun os started H enc _ => lifted os started H enc)
theorem proved : Rows.CoordKnownSaid := over
#print axioms proved
end Go.Proofs.Ytcppihpehipelaa.coordKnown
namespace Go.Proofs.Ytcppihpehipelaa
/-- CoordKnown, as given. -/
theorem coordKnown_holds : Rows.CoordKnownSaid := coordKnown.proved
end Go.Proofs.Ytcppihpehipelaa
