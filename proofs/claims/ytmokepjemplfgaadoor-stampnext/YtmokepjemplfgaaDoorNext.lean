/-
  StampNext: the next stamp is above it, may be, and nothing of its node is between, for every two stamps; conditions: the library's tables hold what the program's own text lays (the card ties them, over the pruned copy).
-/
import Derived.Test.YtmokepjemplfgaaDoorRows
import Derived.Test.YtmokepjemplfgaaDoorStampAwake
import Derived.Test.YtmokepjemplfgaaDoorPairOpen
import Derived.Test.YtmokepjemplfgaaDoorCards
import Derived.Test.YtmokepjemplfgaaDoorTie
import Derived.Test.YtmokepjemplfgaaDoorStampLaid
import Derived.WalkKit
import Derived.ProofKit
import Derived.OpenShut
import Derived.ShutString
import Derived.ChangeOld
import Derived.Below
import Derived.Carry
import Derived.SevenTiedAt
import Derived.SizedLaws
import Derived.JoinedAt
namespace Go.Proofs.YtmokepjemplfgaaDoor.stampNext
open Go.ChangeShapes Go.WideShapes Go.ChangeAt Go.RowKit
open Go.ChangeMaps (open_string shut_string)
set_option linter.unusedVariables false

theorem own : ownKnob Tryd.prog.godebug = none := by kernel_rfl
theorem laidOut : laidOutB Tryd.prog = true := by kernel_rfl
/-- A slice of integers that came in: nil, or a row of 'cap' cells, of which the first 'len' are its elements. -/
def IsRow (k : IntKind) (w : World) (a : Option Addr) (len cap : Nat) (zs : List Int) : Prop :=
  (a = none ∧ len = 0 ∧ cap = 0 ∧ zs = []) ∨
  ∃ x, a = some x ∧ len ≤ cap ∧ cap ≤ maxLen ∧ zs.length = cap ∧ (∀ i, i < zs.length → w.cell? (x.add i) = some (.int k (zs.getD i 0))) ∧ ∀ n ∈ zs, (Lit.int k n).wf = true

set_option maxRecDepth 4000 in
set_option maxHeartbeats 2000000 in
theorem walk (a0 b0 : Int) (a1 b1 : Int) (w : World) (w0 : (Lit.int .i64 a0).wf = true) (x0 : (Lit.int .u8 b0).wf = true) (w1 : (Lit.int .i64 a1).wf = true) (x1 : (Lit.int .u8 b1).wf = true) (hR : Ready w) :
    Calls Tryd.prog 7 #[.agg #[.int .i64 a0, .int .u8 b0], .agg #[.int .i64 a1, .int .u8 b1]] w fun e w' => e = .returned (.bool true) ∧ Below w.heap.size w w' := by
  have by0 := bounds_i64 w0
  have by1 := bounds_i64 w1
  have AW : Hid (∀ u, Ready u → Calls Tryd.prog 8 #[] u fun e w' => e = .returned (.bool true) ∧ Below u.heap.size u w') := fun u r => awake_any u r
  have RR : Hid (Ready w) := hR
  have H0 : Hid (Two w ((w.alloc (.cells #[.int .i64 a0, .int .u8 b0] 24)).alloc (.cells #[.int .i64 a1, .int .u8 b1] 24)) a0 b0 a1 b1) := Two.made w 24 a0 b0 a1 b1
  clear w0 x0 w1 x1 hR
  by_cases hk : okS a0 ∧ a0 ≠ 36028797018963967
  · obtain ⟨⟨k0, k1⟩, k2⟩ := hk
    have CN : Hid (∀ u, Calls Tryd.prog 11 #[.agg #[.int .i64 a0, .int .u8 b0]] u fun e w' => e = .returned (.tuple #[.agg #[.int .i64 (a0 + 1), .int .u8 b0], .int .i64 0]) ∧ Below u.heap.size u w') := fun u => by
      have c := snext_any a0 b0 u
      rw [if_pos ⟨⟨k0, k1⟩, k2⟩, if_pos ⟨⟨k0, k1⟩, k2⟩, if_pos ⟨k0, k1⟩, if_neg k2] at c
      exact c
    have C1 : Hid (∀ u, Calls Tryd.prog 16 #[.agg #[.int .i64 (a0 + 1), .int .u8 b0], .agg #[.int .i64 a0, .int .u8 b0]] u fun e w' => e = .returned (.int .i64 1) ∧ Below u.heap.size u w') := fun u => by
      have c := scmp_any (a0 + 1) b0 a0 b0 u
      rw [cmp_gt (.inl (by omega))] at c
      exact c
    have CG : Hid (∀ u, Calls Tryd.prog 21 #[.agg #[.int .i64 (a0 + 1), .int .u8 b0]] u fun e w' => e = .returned (.bool true) ∧ Below u.heap.size u w') := fun u => by
      have c := sgood_any (a0 + 1) b0 u
      rw [decide_eq_true (show okS (a0 + 1) from ⟨by omega, by omega⟩)] at c
      exact c
    by_cases hn : b1 = b0
    · subst hn
      by_cases hle : cmpS a1 b1 a0 b1 ≤ 0
      · obtain ⟨K, hK⟩ : ∃ K, K = cmpS a1 b1 a0 b1 := ⟨_, rfl⟩
        rw [← hK] at hle
        have C2 : Hid (∀ u, Calls Tryd.prog 16 #[.agg #[.int .i64 a1, .int .u8 b1], .agg #[.int .i64 a0, .int .u8 b1]] u fun e w' => e = .returned (.int .i64 K) ∧ Below u.heap.size u w') := fun u => by rw [hK]; exact scmp_any a1 b1 a0 b1 u
        have hkb : decide (K ≤ 0) = true := decide_eq_true hle
        clear hK
        go_enter Tryd.func7, Tryd.ntmps7
        go_wp2_with (first | (go_at_call 16; have hgo := H4.out; clear hgo; refine (C2.out _).mono ?_; rintro e v5 ⟨rfl, hb5⟩; have H5 : Hid (Two w v5 a0 b1 a1 b1) := H4.out.step hb5; have N5 : Hid (StAt v5 v2.heap.size (a0 + 1) b1) := N4.out.step hb5 (Nat.le_refl _); have t0 := H5.out.a.c0; have t1 := H5.out.a.c1; have t2 := H5.out.b.c0; have t3 := H5.out.b.c1; have t4 := N5.out.c0; have t5 := N5.out.c1; clear hb5) | (go_at_call 21; have hgo := H3.out; clear hgo; refine (CG.out _).mono ?_; rintro e v4 ⟨rfl, hb4⟩; have H4 : Hid (Two w v4 a0 b1 a1 b1) := H3.out.step hb4; have N4 : Hid (StAt v4 v2.heap.size (a0 + 1) b1) := N3.out.step hb4 (Nat.le_refl _); have s0 := H4.out.a.c0; have s1 := H4.out.a.c1; have s2 := H4.out.b.c0; have s3 := H4.out.b.c1; have s4 := N4.out.c0; have s5 := N4.out.c1; clear hb4) | (go_at_call 16; have hgo := H2.out; clear hgo; refine (C1.out _).mono ?_; rintro e v3 ⟨rfl, hb3⟩; have H3 : Hid (Two w v3 a0 b1 a1 b1) := H2.out.step hb3; have N3 : Hid (StAt v3 v2.heap.size (a0 + 1) b1) := N2.out.step hb3 (Nat.le_refl _); have r0 := H3.out.a.c0; have r1 := H3.out.a.c1; have r2 := H3.out.b.c0; have r3 := H3.out.b.c1; have r4 := N3.out.c0; have r5 := N3.out.c1; clear hb3) | (go_at_call 11; refine (CN.out _).mono ?_; rintro e v2 ⟨rfl, hb2⟩; have H2 : Hid (Two w (v2.alloc (.cells #[.int .i64 (a0 + 1), .int .u8 b1] 24)) a0 b1 a1 b1) := (H1.out.step hb2).past _; have N2 : Hid (StAt (v2.alloc (.cells #[.int .i64 (a0 + 1), .int .u8 b1] 24)) v2.heap.size (a0 + 1) b1) := StAt.made _ _ _ _ _ rfl; have q0 := H2.out.a.c0; have q1 := H2.out.a.c1; have q2 := H2.out.b.c0; have q3 := H2.out.b.c1; clear hb2) | (go_at_call 8; refine (AW.out _ (RR.out.on H0.out.below)).mono ?_; rintro e v1 ⟨rfl, hb1⟩; have H1 : Hid (Two w v1 a0 b1 a1 b1) := H0.out.step hb1; have p0 := H1.out.a.c0; have p1 := H1.out.a.c1; have p2 := H1.out.b.c0; have p3 := H1.out.b.c1; clear hb1))
        go_ret
        exact ⟨rfl, H5.out.below⟩
      · have hlt : a0 + 1 ≤ a1 := by
          rcases cmp_ways a1 b1 a0 b1 with ⟨_, h, _⟩ | ⟨_, _, h, _⟩ | ⟨h, _, _⟩
          · omega
          · omega
          · unfold ltS at h; omega
        obtain ⟨K, hK⟩ : ∃ K, K = cmpS a1 b1 a0 b1 := ⟨_, rfl⟩
        obtain ⟨M, hM⟩ : ∃ M, M = cmpS a1 b1 (a0 + 1) b1 := ⟨_, rfl⟩
        have hM0 : 0 ≤ M := by
          rw [hM]
          rcases cmp_ways a1 b1 (a0 + 1) b1 with ⟨h, _, _⟩ | ⟨_, _, h, _⟩ | ⟨_, h, _⟩
          · unfold ltS at h; omega
          · omega
          · omega
        rw [← hK] at hle
        have C2 : Hid (∀ u, Calls Tryd.prog 16 #[.agg #[.int .i64 a1, .int .u8 b1], .agg #[.int .i64 a0, .int .u8 b1]] u fun e w' => e = .returned (.int .i64 K) ∧ Below u.heap.size u w') := fun u => by rw [hK]; exact scmp_any a1 b1 a0 b1 u
        have C3 : Hid (∀ u, Calls Tryd.prog 16 #[.agg #[.int .i64 a1, .int .u8 b1], .agg #[.int .i64 (a0 + 1), .int .u8 b1]] u fun e w' => e = .returned (.int .i64 M) ∧ Below u.heap.size u w') := fun u => by rw [hM]; exact scmp_any a1 b1 (a0 + 1) b1 u
        have hkb : decide (K ≤ 0) = false := decide_eq_false hle
        have hmb : decide (0 ≤ M) = true := decide_eq_true hM0
        clear hK hM hlt
        go_enter Tryd.func7, Tryd.ntmps7
        go_wp2_with (first | (go_at_call 16; have hgo := H5.out; clear hgo; refine (C3.out _).mono ?_; rintro e v6 ⟨rfl, hb6⟩; have H6 : Hid (Two w v6 a0 b1 a1 b1) := H5.out.step hb6; have N6 : Hid (StAt v6 v2.heap.size (a0 + 1) b1) := N5.out.step hb6 (Nat.le_refl _); have g0 := H6.out.a.c0; have g1 := H6.out.a.c1; have g2 := H6.out.b.c0; have g3 := H6.out.b.c1; have g4 := N6.out.c0; have g5 := N6.out.c1; clear hb6) | (go_at_call 16; have hgo := H4.out; clear hgo; refine (C2.out _).mono ?_; rintro e v5 ⟨rfl, hb5⟩; have H5 : Hid (Two w v5 a0 b1 a1 b1) := H4.out.step hb5; have N5 : Hid (StAt v5 v2.heap.size (a0 + 1) b1) := N4.out.step hb5 (Nat.le_refl _); have t0 := H5.out.a.c0; have t1 := H5.out.a.c1; have t2 := H5.out.b.c0; have t3 := H5.out.b.c1; have t4 := N5.out.c0; have t5 := N5.out.c1; clear hb5) | (go_at_call 21; have hgo := H3.out; clear hgo; refine (CG.out _).mono ?_; rintro e v4 ⟨rfl, hb4⟩; have H4 : Hid (Two w v4 a0 b1 a1 b1) := H3.out.step hb4; have N4 : Hid (StAt v4 v2.heap.size (a0 + 1) b1) := N3.out.step hb4 (Nat.le_refl _); have s0 := H4.out.a.c0; have s1 := H4.out.a.c1; have s2 := H4.out.b.c0; have s3 := H4.out.b.c1; have s4 := N4.out.c0; have s5 := N4.out.c1; clear hb4) | (go_at_call 16; have hgo := H2.out; clear hgo; refine (C1.out _).mono ?_; rintro e v3 ⟨rfl, hb3⟩; have H3 : Hid (Two w v3 a0 b1 a1 b1) := H2.out.step hb3; have N3 : Hid (StAt v3 v2.heap.size (a0 + 1) b1) := N2.out.step hb3 (Nat.le_refl _); have r0 := H3.out.a.c0; have r1 := H3.out.a.c1; have r2 := H3.out.b.c0; have r3 := H3.out.b.c1; have r4 := N3.out.c0; have r5 := N3.out.c1; clear hb3) | (go_at_call 11; refine (CN.out _).mono ?_; rintro e v2 ⟨rfl, hb2⟩; have H2 : Hid (Two w (v2.alloc (.cells #[.int .i64 (a0 + 1), .int .u8 b1] 24)) a0 b1 a1 b1) := (H1.out.step hb2).past _; have N2 : Hid (StAt (v2.alloc (.cells #[.int .i64 (a0 + 1), .int .u8 b1] 24)) v2.heap.size (a0 + 1) b1) := StAt.made _ _ _ _ _ rfl; have q0 := H2.out.a.c0; have q1 := H2.out.a.c1; have q2 := H2.out.b.c0; have q3 := H2.out.b.c1; clear hb2) | (go_at_call 8; refine (AW.out _ (RR.out.on H0.out.below)).mono ?_; rintro e v1 ⟨rfl, hb1⟩; have H1 : Hid (Two w v1 a0 b1 a1 b1) := H0.out.step hb1; have p0 := H1.out.a.c0; have p1 := H1.out.a.c1; have p2 := H1.out.b.c0; have p3 := H1.out.b.c1; clear hb1))
        go_ret
        exact ⟨rfl, H6.out.below⟩
    · have hnb : (b1 != b0) = true := by simpa using hn
      go_enter Tryd.func7, Tryd.ntmps7
      go_wp2_with (first | (go_at_call 21; have hgo := H3.out; clear hgo; refine (CG.out _).mono ?_; rintro e v4 ⟨rfl, hb4⟩; have H4 : Hid (Two w v4 a0 b0 a1 b1) := H3.out.step hb4; have N4 : Hid (StAt v4 v2.heap.size (a0 + 1) b0) := N3.out.step hb4 (Nat.le_refl _); have s0 := H4.out.a.c0; have s1 := H4.out.a.c1; have s2 := H4.out.b.c0; have s3 := H4.out.b.c1; have s4 := N4.out.c0; have s5 := N4.out.c1; clear hb4) | (go_at_call 16; have hgo := H2.out; clear hgo; refine (C1.out _).mono ?_; rintro e v3 ⟨rfl, hb3⟩; have H3 : Hid (Two w v3 a0 b0 a1 b1) := H2.out.step hb3; have N3 : Hid (StAt v3 v2.heap.size (a0 + 1) b0) := N2.out.step hb3 (Nat.le_refl _); have r0 := H3.out.a.c0; have r1 := H3.out.a.c1; have r2 := H3.out.b.c0; have r3 := H3.out.b.c1; have r4 := N3.out.c0; have r5 := N3.out.c1; clear hb3) | (go_at_call 11; refine (CN.out _).mono ?_; rintro e v2 ⟨rfl, hb2⟩; have H2 : Hid (Two w (v2.alloc (.cells #[.int .i64 (a0 + 1), .int .u8 b0] 24)) a0 b0 a1 b1) := (H1.out.step hb2).past _; have N2 : Hid (StAt (v2.alloc (.cells #[.int .i64 (a0 + 1), .int .u8 b0] 24)) v2.heap.size (a0 + 1) b0) := StAt.made _ _ _ _ _ rfl; have q0 := H2.out.a.c0; have q1 := H2.out.a.c1; have q2 := H2.out.b.c0; have q3 := H2.out.b.c1; clear hb2) | (go_at_call 8; refine (AW.out _ (RR.out.on H0.out.below)).mono ?_; rintro e v1 ⟨rfl, hb1⟩; have H1 : Hid (Two w v1 a0 b0 a1 b1) := H0.out.step hb1; have p0 := H1.out.a.c0; have p1 := H1.out.a.c1; have p2 := H1.out.b.c0; have p3 := H1.out.b.c1; clear hb1))
      go_ret
      exact ⟨rfl, H4.out.below⟩
  · have CN : Hid (∀ u, Calls Tryd.prog 11 #[.agg #[.int .i64 a0, .int .u8 b0]] u fun e w' => (∃ k : Int, e = .returned (.tuple #[.agg #[.int .i64 0, .int .u8 0], .int .i64 k]) ∧ ¬ k = 0) ∧ Below u.heap.size u w') := fun u => by
      have c := snext_any a0 b0 u
      rw [if_neg hk, if_neg hk] at c
      refine c.mono ?_
      rintro e w' ⟨rfl, hb⟩
      refine ⟨⟨_, rfl, ?_⟩, hb⟩
      by_cases h : okS a0
      · rw [if_pos h]
        have : a0 = 36028797018963967 := Classical.byContradiction fun h' => hk ⟨h, h'⟩
        rw [if_pos this]; omega
      · rw [if_neg h]; omega
    clear hk
    go_enter Tryd.func7, Tryd.ntmps7
    go_wp2_with (first | (go_at_call 11; refine (CN.out _).mono ?_; rintro e v2 ⟨⟨k, rfl, hk0⟩, hb2⟩; have H2 : Hid (Two w (v2.alloc (.cells #[.int .i64 0, .int .u8 0] 24)) a0 b0 a1 b1) := (H1.out.step hb2).past _; have N2 : Hid (StAt (v2.alloc (.cells #[.int .i64 0, .int .u8 0] 24)) v2.heap.size 0 0) := StAt.made _ _ _ _ _ rfl; have q0 := H2.out.a.c0; have q1 := H2.out.a.c1; have q2 := H2.out.b.c0; have q3 := H2.out.b.c1; clear hb2) | (go_at_call 8; refine (AW.out _ (RR.out.on H0.out.below)).mono ?_; rintro e v1 ⟨rfl, hb1⟩; have H1 : Hid (Two w v1 a0 b0 a1 b1) := H0.out.step hb1; have p0 := H1.out.a.c0; have p1 := H1.out.a.c1; have p2 := H1.out.b.c0; have p3 := H1.out.b.c1; clear hb1))
    go_ret
    exact ⟨rfl, H2.out.below⟩

set_option maxRecDepth 100000 in
theorem lifted (os : Os) (started : os.Started) (H : Type) (enc : TypeId × Value → H) :
    ReturnsInHanded {} Tryd.checked os 7 .any (fun w args => (Rows.stampNextSpec.pre enc Tryd.prog Tryd.f7 Rows.stampNextRow.domain false w args ∧ laidMet Tryd.prog laid3 w) ∧ sizedMet enc Tryd.prog Tryd.f7 (OpenSpec.ofChange Rows.stampNextSpec) false w args)
      (Rows.stampNextSpec.post enc Tryd.prog Tryd.f7 false true false false) := by
  refine returnsInHanded_of_change_and (C := Tryd.checked) (X := fun w _ => laidMet Tryd.prog laid3 w) (fun _ _ _ hh h => h.of_heap hh) own started (by kernel_rfl) Tryd.func7
    (ChangeSpec.witness_at (enc := enc) (C := Tryd.checked) (os := os) (X := fun w _ => laidMet Tryd.prog laid3 w) false (laidWorld3 os) #[.agg #[.int .i64 0, .int .u8 0], .agg #[.int .i64 0, .int .u8 0]] 8 rfl (by kernel_rfl) (by kernel_rfl) (by kernel_rfl) (by kernel_rfl) (by kernel_rfl) (laid3_met os _)) ?_
  intro W base args ds gs before hval0 hW _ _ hL _
  have hval : ∀ (j : Nat) t v, Tryd.f7.params[j]? = some t → args[j]? = some v → Value.okWide Tryd.prog W .any base t v := hval0
  have hW' := hW
  obtain ⟨p, q, hA0, hV, rfl, hfz, hnd⟩ := hW
  have hA : DataW.TrodAll enc Tryd.prog W 0 (fun _ => true) true Tryd.f7.params.toList args.toList ds p := hA0
  rw [Tryd.params7] at hA hval
  obtain ⟨v0, vs0, d0, ds0, p0, q0, hargs, rfl, rfl, h0, r0⟩ := trodAll_cons hA
  obtain ⟨v1, vs1, d1, ds1, p1, q1, rfl, rfl, rfl, h1, r1⟩ := trodAll_cons r0
  obtain ⟨rfl, rfl, rfl⟩ := trodAll_nil r1
  obtain rfl : args = #[v0, v1] := by cases args; simp_all
  obtain ⟨rfl, rfl⟩ := trodVars_none hV
  have k0 := h0
  have lt0 : ∀ x ∈ p0, x.block < W.heap.size := by obtain ⟨m, hm⟩ := k0; exact DataW.trod_lt m _ _ _ hm
  obtain ⟨a0, b0, rfl, w0, x0⟩ := struct2_open Tryd.underlying24 Tryd.underlying2 Tryd.underlying5 rfl rfl (by kernel_rfl) (by kernel_rfl) (by kernel_rfl) (hval 0 24 v0 rfl rfl) h0
  have k1 := h1
  have lt1 : ∀ x ∈ p1, x.block < W.heap.size := by obtain ⟨m, hm⟩ := k1; exact DataW.trod_lt m _ _ _ hm
  obtain ⟨a1, b1, rfl, w1, x1⟩ := struct2_open Tryd.underlying24 Tryd.underlying2 Tryd.underlying5 rfl rfl (by kernel_rfl) (by kernel_rfl) (by kernel_rfl) (hval 1 24 v1 rfl rfl) h1
  clear hA0 hval0
  refine (walk a0 b0 a1 b1 W w0 x0 w1 x1 (ready_of hL)).mono fun e W' ⟨he, bel⟩ => ?_
  subst he
  exact ⟨_, rfl, _, _, _, [], _, [], hW', trodAll_mk1 (shut_bool Tryd.underlying4 _), (trodAll_cons_mk (Below.trod laidOut (by kernel_rfl) (of_decide_eq_true (by kernel_rfl)) k0 bel lt0) (trodAll_cons_mk (Below.trod laidOut (by kernel_rfl) (of_decide_eq_true (by kernel_rfl)) k1 bel lt1) trodAll_mk0)), rfl, bel.frame _, fun h => by cases h⟩

theorem over : Rows.stampNextRow.holds Tryd.pinned (OpenSpec.ofChange Rows.stampNextSpec) :=
  OpenClaim.holds_of_wide 7 Tryd.f7 rfl rfl rfl rfl rfl rfl rfl ⟨rfl, rfl, rfl, rfl, rfl⟩ rfl rfl rfl rfl rfl (by kernel_rfl) Tryd.func7 (by kernel_rfl)
    (of_decide_eq_true (by kernel_rfl)) (by unfold Func.isWrapper; first | (rw [if_pos (by decide +kernel)]; kernel_rfl) | (rw [if_neg (by decide +kernel)]; exact ⟨rfl, rfl⟩))
    (fun os started H enc _ => lifted os started H enc)
theorem carded : Rows.StampNextCardSaid :=
  Claim7.holds_tied_plain_at .later [] [.data, .data, .data] true (true, "75a9ced10a68879221c187ebb07933119152f9c2d73adce86fd34b54cdc5e0b3") false
    over (fun _ h => by cases h) (by kernel_rfl) (fun _ h => by cases h) stampNext_row_tie rfl ⟨rfl, rfl⟩ (by kernel_rfl) rfl
    (fun f fn hf hfn => by
      obtain rfl : f = 7 := Option.some.inj ((show Tryd.prog.funcNamed "hourglass/hourglasslaw6.StampNext" = some 7 by kernel_rfl).symm.trans hf) |>.symm
      obtain rfl : fn = Tryd.f7 := (Option.some.inj (Tryd.func7.symm.trans hfn)).symm
      exact ⟨by kernel_rfl, fun j t ht => by
        rw [Tryd.params7] at ht
        have hm : t ∈ [24, 24] := by simpa using Array.mem_of_getElem? ht
        have hall : ([24, 24].all fun u => !Tryd.prog.wantsStandIn u) = true := by kernel_rfl
        exact (show Tryd.prog.wantsStandIn t = false by simpa using List.all_eq_true.1 hall t hm)⟩)
    (by kernel_rfl)
#print axioms carded
end Go.Proofs.YtmokepjemplfgaaDoor.stampNext
namespace Go.Proofs.YtmokepjemplfgaaDoor
/-- StampNext, as given. -/
theorem stampNext_holds : Rows.StampNextCardSaid := stampNext.carded
end Go.Proofs.YtmokepjemplfgaaDoor
