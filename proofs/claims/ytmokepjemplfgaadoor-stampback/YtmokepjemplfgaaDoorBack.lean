/-
  StampBack: what is packed is unpacked again, what is unpacked is packed again, and packed stamps are in their order, for every two stamps and every number; conditions: the library's tables hold what the program's own text lays (the card ties them, over the pruned copy).
-/
import Derived.Test.YtmokepjemplfgaaDoorRows
import Derived.Test.YtmokepjemplfgaaDoorStampAwake
import Derived.Test.YtmokepjemplfgaaDoorPairOpen
import Derived.Test.YtmokepjemplfgaaDoorCards
import Derived.Test.YtmokepjemplfgaaDoorTie
import Derived.Test.YtmokepjemplfgaaDoorStampLaid
import Derived.WalkKit
import Derived.ProofKit
import Derived.OpenShut
import Derived.ShutString
import Derived.ChangeOld
import Derived.Below
import Derived.Carry
import Derived.SevenTiedAt
import Derived.SizedLaws
import Derived.JoinedAt
namespace Go.Proofs.YtmokepjemplfgaaDoor.stampBack
open Go.ChangeShapes Go.WideShapes Go.ChangeAt Go.RowKit
open Go.ChangeMaps (open_string shut_string)
set_option linter.unusedVariables false

theorem own : ownKnob Tryd.prog.godebug = none := by kernel_rfl
theorem laidOut : laidOutB Tryd.prog = true := by kernel_rfl
/-- A slice of integers that came in: nil, or a row of 'cap' cells, of which the first 'len' are its elements. -/
def IsRow (k : IntKind) (w : World) (a : Option Addr) (len cap : Nat) (zs : List Int) : Prop :=
  (a = none ∧ len = 0 ∧ cap = 0 ∧ zs = []) ∨
  ∃ x, a = some x ∧ len ≤ cap ∧ cap ≤ maxLen ∧ zs.length = cap ∧ (∀ i, i < zs.length → w.cell? (x.add i) = some (.int k (zs.getD i 0))) ∧ ∀ n ∈ zs, (Lit.int k n).wf = true

set_option maxRecDepth 8000 in
set_option maxHeartbeats 4000000 in
theorem walk (a0 b0 : Int) (a1 b1 : Int) (a2 : Int) (w : World) (w0 : (Lit.int .i64 a0).wf = true) (x0 : (Lit.int .u8 b0).wf = true) (w1 : (Lit.int .i64 a1).wf = true) (x1 : (Lit.int .u8 b1).wf = true) (w2 : (Lit.int .u64 a2).wf = true) (hR : Ready w) :
    Calls Tryd.prog 5 #[.agg #[.int .i64 a0, .int .u8 b0], .agg #[.int .i64 a1, .int .u8 b1], .int .u64 a2] w fun e w' => e = .returned (.bool true) ∧ Below w.heap.size w w' := by
  have by0 := bounds_i64 w0
  have by1 := bounds_i64 w1
  have bx0 := bounds_u8 x0
  have bx1 := bounds_u8 x1
  have by2 := bounds_u64 w2
  have AW : Hid (∀ u, Ready u → Calls Tryd.prog 8 #[] u fun e w' => e = .returned (.bool true) ∧ Below u.heap.size u w') := fun u r => awake_any u r
  have RR : Hid (Ready w) := hR
  have H0 : Hid (Two w ((w.alloc (.cells #[.int .i64 a0, .int .u8 b0] 24)).alloc (.cells #[.int .i64 a1, .int .u8 b1] 24)) a0 b0 a1 b1) := Two.made w 24 a0 b0 a1 b1
  have CC : Hid (∀ u, Calls Tryd.prog 16 #[.agg #[.int .i64 a0, .int .u8 b0], .agg #[.int .i64 a1, .int .u8 b1]] u fun e w' => e = .returned (.int .i64 (cmpS a0 b0 a1 b1)) ∧ Below u.heap.size u w') := fun u => scmp_any a0 b0 a1 b1 u
  have PA : Hid (∀ u, Calls Tryd.prog 9 #[.agg #[.int .i64 a0, .int .u8 b0]] u fun e w' => e = .returned (.tuple #[.int .u64 (if okS a0 then a0 * 256 + b0 else 0), .int .i64 (if okS a0 then 0 else 1)]) ∧ Below u.heap.size u w') := fun u => spack_any a0 b0 u bx0
  have PB : Hid (∀ u, Calls Tryd.prog 9 #[.agg #[.int .i64 a1, .int .u8 b1]] u fun e w' => e = .returned (.tuple #[.int .u64 (if okS a1 then a1 * 256 + b1 else 0), .int .i64 (if okS a1 then 0 else 1)]) ∧ Below u.heap.size u w') := fun u => spack_any a1 b1 u bx1
  have UA : okS a0 → Hid (∀ u, Calls Tryd.prog 10 #[.int .u64 (a0 * 256 + b0)] u fun e w' => e = .returned (.tuple #[.agg #[.int .i64 a0, .int .u8 b0], .int .i64 0]) ∧ Below u.heap.size u w') := fun h u => by
    obtain ⟨h0, h1⟩ := h
    have c := sunpack_any (a0 * 256 + b0) u (by omega)
    rw [if_pos (by omega), if_pos (by omega), if_pos (by omega), show (a0 * 256 + b0) / 256 = a0 by omega, show (a0 * 256 + b0) % 256 = b0 by omega] at c
    exact c
  obtain ⟨g, ut, un, wv, hUV, hPV, hgw⟩ : ∃ g ut un wv : Int, Hid (∀ u, Calls Tryd.prog 10 #[.int .u64 a2] u fun e w' => e = .returned (.tuple #[.agg #[.int .i64 ut, .int .u8 un], .int .i64 g]) ∧ Below u.heap.size u w') ∧ Hid (∀ u, Calls Tryd.prog 9 #[.agg #[.int .i64 ut, .int .u8 un]] u fun e w' => e = .returned (.tuple #[.int .u64 wv, .int .i64 0]) ∧ Below u.heap.size u w') ∧ ((g = 0 ∧ wv = a2) ∨ g = 1) := by
    by_cases h : a2 < 9223372036854775808
    · refine ⟨0, a2 / 256, a2 % 256, a2, fun u => ?_, fun u => ?_, .inl ⟨rfl, rfl⟩⟩
      · have c := sunpack_any a2 u by2
        rw [if_pos h, if_pos h, if_pos h] at c
        exact c
      · have c := spack_any (a2 / 256) (a2 % 256) u (by omega)
        have hok : okS (a2 / 256) := ⟨by omega, by omega⟩
        rw [if_pos hok, if_pos hok, show a2 / 256 * 256 + a2 % 256 = a2 by omega] at c
        exact c
    · refine ⟨1, 0, 0, 0, fun u => ?_, fun u => ?_, .inr rfl⟩
      · have c := sunpack_any a2 u by2
        rw [if_neg h, if_neg h, if_neg h] at c
        exact c
      · exact spack_any 0 0 u (by omega)
  clear w0 x0 w1 x1 w2 hR
  by_cases k0 : okS a0
  · have UA' := UA k0
    rw [if_pos k0, if_pos k0] at PA
    by_cases k1 : okS a1
    · rw [if_pos k1, if_pos k1] at PB
      obtain ⟨l0, l1⟩ := k0
      obtain ⟨m0, m1⟩ := k1
      clear UA
      rcases cmp_ways a0 b0 a1 b1 with ⟨hr | ⟨he, hr⟩, hc, _⟩ | ⟨he, he2, hc, _⟩ | ⟨hr | ⟨he, hr⟩, hc, _⟩
      · have CC' := CC
        rw [hc] at CC'
        have n1 : ¬ a0 = a1 := by omega
        have q1 : decide (a0 * 256 + b0 < a1 * 256 + b1) = true := decide_eq_true (by omega)
        have q2 : (a0 * 256 + b0 == a1 * 256 + b1) = false := by simp; omega
        clear hc
        rcases hgw with ⟨rfl, rfl⟩ | rfl
        · go_enter Tryd.func5, Tryd.ntmps5
          go_wp2_with (first | (go_at_call 16; have hgo := H6.out; clear hgo; refine (CC'.out _).mono ?_; rintro e v7 ⟨rfl, hb7⟩; have H7 : Hid (Two w v7 a0 b0 a1 b1) := H6.out.step hb7; have l0 := H7.out.a.c0; have l1 := H7.out.a.c1; have l2 := H7.out.b.c0; have l3 := H7.out.b.c1; clear hb7) | (go_at_call 9; have hgo := H5.out; clear hgo; refine (hPV.out _).mono ?_; rintro e v6 ⟨rfl, hb6⟩; have H6 : Hid (Two w v6 a0 b0 a1 b1) := H5.out.step hb6; have j0 := H6.out.a.c0; have j1 := H6.out.a.c1; have j2 := H6.out.b.c0; have j3 := H6.out.b.c1; clear hb6) | (go_at_call 10; have hgo := H4.out; clear hgo; refine (hUV.out _).mono ?_; rintro e v5 ⟨rfl, hb5⟩; have H5 : Hid (Two w (v5.alloc (.cells #[.int .i64 ut, .int .u8 un] 24)) a0 b0 a1 b1) := (H4.out.step hb5).past _; have i0 := H5.out.a.c0; have i1 := H5.out.a.c1; have i2 := H5.out.b.c0; have i3 := H5.out.b.c1; clear hb5) | (go_at_call 10; have hgo := H3.out; clear hgo; refine (UA'.out _).mono ?_; rintro e v4 ⟨rfl, hb4⟩; have H4 : Hid (Two w (v4.alloc (.cells #[.int .i64 a0, .int .u8 b0] 24)) a0 b0 a1 b1) := (H3.out.step hb4).past _; have f0 := H4.out.a.c0; have f1 := H4.out.a.c1; have f2 := H4.out.b.c0; have f3 := H4.out.b.c1; clear hb4) | (go_at_call 9; have hgo := H2.out; clear hgo; refine (PB.out _).mono ?_; rintro e v3 ⟨rfl, hb3⟩; have H3 : Hid (Two w v3 a0 b0 a1 b1) := H2.out.step hb3; have d0 := H3.out.a.c0; have d1 := H3.out.a.c1; have d2 := H3.out.b.c0; have d3 := H3.out.b.c1; clear hb3) | (go_at_call 9; have hgo := H1.out; clear hgo; refine (PA.out _).mono ?_; rintro e v2 ⟨rfl, hb2⟩; have H2 : Hid (Two w v2 a0 b0 a1 b1) := H1.out.step hb2; have c0 := H2.out.a.c0; have c1 := H2.out.a.c1; have c2 := H2.out.b.c0; have c3 := H2.out.b.c1; clear hb2) | (go_at_call 8; refine (AW.out _ (RR.out.on H0.out.below)).mono ?_; rintro e v1 ⟨rfl, hb1⟩; have H1 : Hid (Two w v1 a0 b0 a1 b1) := H0.out.step hb1; have p0 := H1.out.a.c0; have p1 := H1.out.a.c1; have p2 := H1.out.b.c0; have p3 := H1.out.b.c1; clear hb1))
          go_ret
          exact ⟨rfl, H7.out.below⟩
        · go_enter Tryd.func5, Tryd.ntmps5
          go_wp2_with (first | (go_at_call 16; have hgo := H6.out; clear hgo; refine (CC'.out _).mono ?_; rintro e v7 ⟨rfl, hb7⟩; have H7 : Hid (Two w v7 a0 b0 a1 b1) := H6.out.step hb7; have l0 := H7.out.a.c0; have l1 := H7.out.a.c1; have l2 := H7.out.b.c0; have l3 := H7.out.b.c1; clear hb7) | (go_at_call 9; have hgo := H5.out; clear hgo; refine (hPV.out _).mono ?_; rintro e v6 ⟨rfl, hb6⟩; have H6 : Hid (Two w v6 a0 b0 a1 b1) := H5.out.step hb6; have j0 := H6.out.a.c0; have j1 := H6.out.a.c1; have j2 := H6.out.b.c0; have j3 := H6.out.b.c1; clear hb6) | (go_at_call 10; have hgo := H4.out; clear hgo; refine (hUV.out _).mono ?_; rintro e v5 ⟨rfl, hb5⟩; have H5 : Hid (Two w (v5.alloc (.cells #[.int .i64 ut, .int .u8 un] 24)) a0 b0 a1 b1) := (H4.out.step hb5).past _; have i0 := H5.out.a.c0; have i1 := H5.out.a.c1; have i2 := H5.out.b.c0; have i3 := H5.out.b.c1; clear hb5) | (go_at_call 10; have hgo := H3.out; clear hgo; refine (UA'.out _).mono ?_; rintro e v4 ⟨rfl, hb4⟩; have H4 : Hid (Two w (v4.alloc (.cells #[.int .i64 a0, .int .u8 b0] 24)) a0 b0 a1 b1) := (H3.out.step hb4).past _; have f0 := H4.out.a.c0; have f1 := H4.out.a.c1; have f2 := H4.out.b.c0; have f3 := H4.out.b.c1; clear hb4) | (go_at_call 9; have hgo := H2.out; clear hgo; refine (PB.out _).mono ?_; rintro e v3 ⟨rfl, hb3⟩; have H3 : Hid (Two w v3 a0 b0 a1 b1) := H2.out.step hb3; have d0 := H3.out.a.c0; have d1 := H3.out.a.c1; have d2 := H3.out.b.c0; have d3 := H3.out.b.c1; clear hb3) | (go_at_call 9; have hgo := H1.out; clear hgo; refine (PA.out _).mono ?_; rintro e v2 ⟨rfl, hb2⟩; have H2 : Hid (Two w v2 a0 b0 a1 b1) := H1.out.step hb2; have c0 := H2.out.a.c0; have c1 := H2.out.a.c1; have c2 := H2.out.b.c0; have c3 := H2.out.b.c1; clear hb2) | (go_at_call 8; refine (AW.out _ (RR.out.on H0.out.below)).mono ?_; rintro e v1 ⟨rfl, hb1⟩; have H1 : Hid (Two w v1 a0 b0 a1 b1) := H0.out.step hb1; have p0 := H1.out.a.c0; have p1 := H1.out.a.c1; have p2 := H1.out.b.c0; have p3 := H1.out.b.c1; clear hb1))
          go_ret
          exact ⟨rfl, H7.out.below⟩
      · have CC' := CC
        rw [hc] at CC'
        clear hc
        have he := he
        subst he
        have n1 : ¬ b0 = b1 := by omega
        have q1 : decide (a0 * 256 + b0 < a0 * 256 + b1) = true := decide_eq_true (by omega)
        have q2 : (a0 * 256 + b0 == a0 * 256 + b1) = false := by simp; omega
        have q4 : decide (b0 < b1) = true := decide_eq_true (by omega)
        have q5 : (b0 == b1) = false := by simpa using n1
        rcases hgw with ⟨rfl, rfl⟩ | rfl
        · go_enter Tryd.func5, Tryd.ntmps5
          go_wp2_with (first | (go_at_call 16; have hgo := H6.out; clear hgo; refine (CC'.out _).mono ?_; rintro e v7 ⟨rfl, hb7⟩; have H7 : Hid (Two w v7 a0 b0 a0 b1) := H6.out.step hb7; have l0 := H7.out.a.c0; have l1 := H7.out.a.c1; have l2 := H7.out.b.c0; have l3 := H7.out.b.c1; clear hb7) | (go_at_call 9; have hgo := H5.out; clear hgo; refine (hPV.out _).mono ?_; rintro e v6 ⟨rfl, hb6⟩; have H6 : Hid (Two w v6 a0 b0 a0 b1) := H5.out.step hb6; have j0 := H6.out.a.c0; have j1 := H6.out.a.c1; have j2 := H6.out.b.c0; have j3 := H6.out.b.c1; clear hb6) | (go_at_call 10; have hgo := H4.out; clear hgo; refine (hUV.out _).mono ?_; rintro e v5 ⟨rfl, hb5⟩; have H5 : Hid (Two w (v5.alloc (.cells #[.int .i64 ut, .int .u8 un] 24)) a0 b0 a0 b1) := (H4.out.step hb5).past _; have i0 := H5.out.a.c0; have i1 := H5.out.a.c1; have i2 := H5.out.b.c0; have i3 := H5.out.b.c1; clear hb5) | (go_at_call 10; have hgo := H3.out; clear hgo; refine (UA'.out _).mono ?_; rintro e v4 ⟨rfl, hb4⟩; have H4 : Hid (Two w (v4.alloc (.cells #[.int .i64 a0, .int .u8 b0] 24)) a0 b0 a0 b1) := (H3.out.step hb4).past _; have f0 := H4.out.a.c0; have f1 := H4.out.a.c1; have f2 := H4.out.b.c0; have f3 := H4.out.b.c1; clear hb4) | (go_at_call 9; have hgo := H2.out; clear hgo; refine (PB.out _).mono ?_; rintro e v3 ⟨rfl, hb3⟩; have H3 : Hid (Two w v3 a0 b0 a0 b1) := H2.out.step hb3; have d0 := H3.out.a.c0; have d1 := H3.out.a.c1; have d2 := H3.out.b.c0; have d3 := H3.out.b.c1; clear hb3) | (go_at_call 9; have hgo := H1.out; clear hgo; refine (PA.out _).mono ?_; rintro e v2 ⟨rfl, hb2⟩; have H2 : Hid (Two w v2 a0 b0 a0 b1) := H1.out.step hb2; have c0 := H2.out.a.c0; have c1 := H2.out.a.c1; have c2 := H2.out.b.c0; have c3 := H2.out.b.c1; clear hb2) | (go_at_call 8; refine (AW.out _ (RR.out.on H0.out.below)).mono ?_; rintro e v1 ⟨rfl, hb1⟩; have H1 : Hid (Two w v1 a0 b0 a0 b1) := H0.out.step hb1; have p0 := H1.out.a.c0; have p1 := H1.out.a.c1; have p2 := H1.out.b.c0; have p3 := H1.out.b.c1; clear hb1))
          go_ret
          exact ⟨rfl, H7.out.below⟩
        · go_enter Tryd.func5, Tryd.ntmps5
          go_wp2_with (first | (go_at_call 16; have hgo := H6.out; clear hgo; refine (CC'.out _).mono ?_; rintro e v7 ⟨rfl, hb7⟩; have H7 : Hid (Two w v7 a0 b0 a0 b1) := H6.out.step hb7; have l0 := H7.out.a.c0; have l1 := H7.out.a.c1; have l2 := H7.out.b.c0; have l3 := H7.out.b.c1; clear hb7) | (go_at_call 9; have hgo := H5.out; clear hgo; refine (hPV.out _).mono ?_; rintro e v6 ⟨rfl, hb6⟩; have H6 : Hid (Two w v6 a0 b0 a0 b1) := H5.out.step hb6; have j0 := H6.out.a.c0; have j1 := H6.out.a.c1; have j2 := H6.out.b.c0; have j3 := H6.out.b.c1; clear hb6) | (go_at_call 10; have hgo := H4.out; clear hgo; refine (hUV.out _).mono ?_; rintro e v5 ⟨rfl, hb5⟩; have H5 : Hid (Two w (v5.alloc (.cells #[.int .i64 ut, .int .u8 un] 24)) a0 b0 a0 b1) := (H4.out.step hb5).past _; have i0 := H5.out.a.c0; have i1 := H5.out.a.c1; have i2 := H5.out.b.c0; have i3 := H5.out.b.c1; clear hb5) | (go_at_call 10; have hgo := H3.out; clear hgo; refine (UA'.out _).mono ?_; rintro e v4 ⟨rfl, hb4⟩; have H4 : Hid (Two w (v4.alloc (.cells #[.int .i64 a0, .int .u8 b0] 24)) a0 b0 a0 b1) := (H3.out.step hb4).past _; have f0 := H4.out.a.c0; have f1 := H4.out.a.c1; have f2 := H4.out.b.c0; have f3 := H4.out.b.c1; clear hb4) | (go_at_call 9; have hgo := H2.out; clear hgo; refine (PB.out _).mono ?_; rintro e v3 ⟨rfl, hb3⟩; have H3 : Hid (Two w v3 a0 b0 a0 b1) := H2.out.step hb3; have d0 := H3.out.a.c0; have d1 := H3.out.a.c1; have d2 := H3.out.b.c0; have d3 := H3.out.b.c1; clear hb3) | (go_at_call 9; have hgo := H1.out; clear hgo; refine (PA.out _).mono ?_; rintro e v2 ⟨rfl, hb2⟩; have H2 : Hid (Two w v2 a0 b0 a0 b1) := H1.out.step hb2; have c0 := H2.out.a.c0; have c1 := H2.out.a.c1; have c2 := H2.out.b.c0; have c3 := H2.out.b.c1; clear hb2) | (go_at_call 8; refine (AW.out _ (RR.out.on H0.out.below)).mono ?_; rintro e v1 ⟨rfl, hb1⟩; have H1 : Hid (Two w v1 a0 b0 a0 b1) := H0.out.step hb1; have p0 := H1.out.a.c0; have p1 := H1.out.a.c1; have p2 := H1.out.b.c0; have p3 := H1.out.b.c1; clear hb1))
          go_ret
          exact ⟨rfl, H7.out.below⟩
      · have CC' := CC
        rw [hc] at CC'
        clear hc
        subst he
        subst he2
        rcases hgw with ⟨rfl, rfl⟩ | rfl
        · go_enter Tryd.func5, Tryd.ntmps5
          go_wp2_with (first | (go_at_call 16; have hgo := H6.out; clear hgo; refine (CC'.out _).mono ?_; rintro e v7 ⟨rfl, hb7⟩; have H7 : Hid (Two w v7 a0 b0 a0 b0) := H6.out.step hb7; have l0 := H7.out.a.c0; have l1 := H7.out.a.c1; have l2 := H7.out.b.c0; have l3 := H7.out.b.c1; clear hb7) | (go_at_call 9; have hgo := H5.out; clear hgo; refine (hPV.out _).mono ?_; rintro e v6 ⟨rfl, hb6⟩; have H6 : Hid (Two w v6 a0 b0 a0 b0) := H5.out.step hb6; have j0 := H6.out.a.c0; have j1 := H6.out.a.c1; have j2 := H6.out.b.c0; have j3 := H6.out.b.c1; clear hb6) | (go_at_call 10; have hgo := H4.out; clear hgo; refine (hUV.out _).mono ?_; rintro e v5 ⟨rfl, hb5⟩; have H5 : Hid (Two w (v5.alloc (.cells #[.int .i64 ut, .int .u8 un] 24)) a0 b0 a0 b0) := (H4.out.step hb5).past _; have i0 := H5.out.a.c0; have i1 := H5.out.a.c1; have i2 := H5.out.b.c0; have i3 := H5.out.b.c1; clear hb5) | (go_at_call 10; have hgo := H3.out; clear hgo; refine (UA'.out _).mono ?_; rintro e v4 ⟨rfl, hb4⟩; have H4 : Hid (Two w (v4.alloc (.cells #[.int .i64 a0, .int .u8 b0] 24)) a0 b0 a0 b0) := (H3.out.step hb4).past _; have f0 := H4.out.a.c0; have f1 := H4.out.a.c1; have f2 := H4.out.b.c0; have f3 := H4.out.b.c1; clear hb4) | (go_at_call 9; have hgo := H2.out; clear hgo; refine (PB.out _).mono ?_; rintro e v3 ⟨rfl, hb3⟩; have H3 : Hid (Two w v3 a0 b0 a0 b0) := H2.out.step hb3; have d0 := H3.out.a.c0; have d1 := H3.out.a.c1; have d2 := H3.out.b.c0; have d3 := H3.out.b.c1; clear hb3) | (go_at_call 9; have hgo := H1.out; clear hgo; refine (PA.out _).mono ?_; rintro e v2 ⟨rfl, hb2⟩; have H2 : Hid (Two w v2 a0 b0 a0 b0) := H1.out.step hb2; have c0 := H2.out.a.c0; have c1 := H2.out.a.c1; have c2 := H2.out.b.c0; have c3 := H2.out.b.c1; clear hb2) | (go_at_call 8; refine (AW.out _ (RR.out.on H0.out.below)).mono ?_; rintro e v1 ⟨rfl, hb1⟩; have H1 : Hid (Two w v1 a0 b0 a0 b0) := H0.out.step hb1; have p0 := H1.out.a.c0; have p1 := H1.out.a.c1; have p2 := H1.out.b.c0; have p3 := H1.out.b.c1; clear hb1))
          go_ret
          exact ⟨rfl, H7.out.below⟩
        · go_enter Tryd.func5, Tryd.ntmps5
          go_wp2_with (first | (go_at_call 16; have hgo := H6.out; clear hgo; refine (CC'.out _).mono ?_; rintro e v7 ⟨rfl, hb7⟩; have H7 : Hid (Two w v7 a0 b0 a0 b0) := H6.out.step hb7; have l0 := H7.out.a.c0; have l1 := H7.out.a.c1; have l2 := H7.out.b.c0; have l3 := H7.out.b.c1; clear hb7) | (go_at_call 9; have hgo := H5.out; clear hgo; refine (hPV.out _).mono ?_; rintro e v6 ⟨rfl, hb6⟩; have H6 : Hid (Two w v6 a0 b0 a0 b0) := H5.out.step hb6; have j0 := H6.out.a.c0; have j1 := H6.out.a.c1; have j2 := H6.out.b.c0; have j3 := H6.out.b.c1; clear hb6) | (go_at_call 10; have hgo := H4.out; clear hgo; refine (hUV.out _).mono ?_; rintro e v5 ⟨rfl, hb5⟩; have H5 : Hid (Two w (v5.alloc (.cells #[.int .i64 ut, .int .u8 un] 24)) a0 b0 a0 b0) := (H4.out.step hb5).past _; have i0 := H5.out.a.c0; have i1 := H5.out.a.c1; have i2 := H5.out.b.c0; have i3 := H5.out.b.c1; clear hb5) | (go_at_call 10; have hgo := H3.out; clear hgo; refine (UA'.out _).mono ?_; rintro e v4 ⟨rfl, hb4⟩; have H4 : Hid (Two w (v4.alloc (.cells #[.int .i64 a0, .int .u8 b0] 24)) a0 b0 a0 b0) := (H3.out.step hb4).past _; have f0 := H4.out.a.c0; have f1 := H4.out.a.c1; have f2 := H4.out.b.c0; have f3 := H4.out.b.c1; clear hb4) | (go_at_call 9; have hgo := H2.out; clear hgo; refine (PB.out _).mono ?_; rintro e v3 ⟨rfl, hb3⟩; have H3 : Hid (Two w v3 a0 b0 a0 b0) := H2.out.step hb3; have d0 := H3.out.a.c0; have d1 := H3.out.a.c1; have d2 := H3.out.b.c0; have d3 := H3.out.b.c1; clear hb3) | (go_at_call 9; have hgo := H1.out; clear hgo; refine (PA.out _).mono ?_; rintro e v2 ⟨rfl, hb2⟩; have H2 : Hid (Two w v2 a0 b0 a0 b0) := H1.out.step hb2; have c0 := H2.out.a.c0; have c1 := H2.out.a.c1; have c2 := H2.out.b.c0; have c3 := H2.out.b.c1; clear hb2) | (go_at_call 8; refine (AW.out _ (RR.out.on H0.out.below)).mono ?_; rintro e v1 ⟨rfl, hb1⟩; have H1 : Hid (Two w v1 a0 b0 a0 b0) := H0.out.step hb1; have p0 := H1.out.a.c0; have p1 := H1.out.a.c1; have p2 := H1.out.b.c0; have p3 := H1.out.b.c1; clear hb1))
          go_ret
          exact ⟨rfl, H7.out.below⟩
      · have CC' := CC
        rw [hc] at CC'
        have n1 : ¬ a0 = a1 := by omega
        have q1 : decide (a0 * 256 + b0 < a1 * 256 + b1) = false := decide_eq_false (by omega)
        have q2 : (a0 * 256 + b0 == a1 * 256 + b1) = false := by simp; omega
        clear hc
        rcases hgw with ⟨rfl, rfl⟩ | rfl
        · go_enter Tryd.func5, Tryd.ntmps5
          go_wp2_with (first | (go_at_call 16; have hgo := H6.out; clear hgo; refine (CC'.out _).mono ?_; rintro e v7 ⟨rfl, hb7⟩; have H7 : Hid (Two w v7 a0 b0 a1 b1) := H6.out.step hb7; have l0 := H7.out.a.c0; have l1 := H7.out.a.c1; have l2 := H7.out.b.c0; have l3 := H7.out.b.c1; clear hb7) | (go_at_call 9; have hgo := H5.out; clear hgo; refine (hPV.out _).mono ?_; rintro e v6 ⟨rfl, hb6⟩; have H6 : Hid (Two w v6 a0 b0 a1 b1) := H5.out.step hb6; have j0 := H6.out.a.c0; have j1 := H6.out.a.c1; have j2 := H6.out.b.c0; have j3 := H6.out.b.c1; clear hb6) | (go_at_call 10; have hgo := H4.out; clear hgo; refine (hUV.out _).mono ?_; rintro e v5 ⟨rfl, hb5⟩; have H5 : Hid (Two w (v5.alloc (.cells #[.int .i64 ut, .int .u8 un] 24)) a0 b0 a1 b1) := (H4.out.step hb5).past _; have i0 := H5.out.a.c0; have i1 := H5.out.a.c1; have i2 := H5.out.b.c0; have i3 := H5.out.b.c1; clear hb5) | (go_at_call 10; have hgo := H3.out; clear hgo; refine (UA'.out _).mono ?_; rintro e v4 ⟨rfl, hb4⟩; have H4 : Hid (Two w (v4.alloc (.cells #[.int .i64 a0, .int .u8 b0] 24)) a0 b0 a1 b1) := (H3.out.step hb4).past _; have f0 := H4.out.a.c0; have f1 := H4.out.a.c1; have f2 := H4.out.b.c0; have f3 := H4.out.b.c1; clear hb4) | (go_at_call 9; have hgo := H2.out; clear hgo; refine (PB.out _).mono ?_; rintro e v3 ⟨rfl, hb3⟩; have H3 : Hid (Two w v3 a0 b0 a1 b1) := H2.out.step hb3; have d0 := H3.out.a.c0; have d1 := H3.out.a.c1; have d2 := H3.out.b.c0; have d3 := H3.out.b.c1; clear hb3) | (go_at_call 9; have hgo := H1.out; clear hgo; refine (PA.out _).mono ?_; rintro e v2 ⟨rfl, hb2⟩; have H2 : Hid (Two w v2 a0 b0 a1 b1) := H1.out.step hb2; have c0 := H2.out.a.c0; have c1 := H2.out.a.c1; have c2 := H2.out.b.c0; have c3 := H2.out.b.c1; clear hb2) | (go_at_call 8; refine (AW.out _ (RR.out.on H0.out.below)).mono ?_; rintro e v1 ⟨rfl, hb1⟩; have H1 : Hid (Two w v1 a0 b0 a1 b1) := H0.out.step hb1; have p0 := H1.out.a.c0; have p1 := H1.out.a.c1; have p2 := H1.out.b.c0; have p3 := H1.out.b.c1; clear hb1))
          go_ret
          exact ⟨rfl, H7.out.below⟩
        · go_enter Tryd.func5, Tryd.ntmps5
          go_wp2_with (first | (go_at_call 16; have hgo := H6.out; clear hgo; refine (CC'.out _).mono ?_; rintro e v7 ⟨rfl, hb7⟩; have H7 : Hid (Two w v7 a0 b0 a1 b1) := H6.out.step hb7; have l0 := H7.out.a.c0; have l1 := H7.out.a.c1; have l2 := H7.out.b.c0; have l3 := H7.out.b.c1; clear hb7) | (go_at_call 9; have hgo := H5.out; clear hgo; refine (hPV.out _).mono ?_; rintro e v6 ⟨rfl, hb6⟩; have H6 : Hid (Two w v6 a0 b0 a1 b1) := H5.out.step hb6; have j0 := H6.out.a.c0; have j1 := H6.out.a.c1; have j2 := H6.out.b.c0; have j3 := H6.out.b.c1; clear hb6) | (go_at_call 10; have hgo := H4.out; clear hgo; refine (hUV.out _).mono ?_; rintro e v5 ⟨rfl, hb5⟩; have H5 : Hid (Two w (v5.alloc (.cells #[.int .i64 ut, .int .u8 un] 24)) a0 b0 a1 b1) := (H4.out.step hb5).past _; have i0 := H5.out.a.c0; have i1 := H5.out.a.c1; have i2 := H5.out.b.c0; have i3 := H5.out.b.c1; clear hb5) | (go_at_call 10; have hgo := H3.out; clear hgo; refine (UA'.out _).mono ?_; rintro e v4 ⟨rfl, hb4⟩; have H4 : Hid (Two w (v4.alloc (.cells #[.int .i64 a0, .int .u8 b0] 24)) a0 b0 a1 b1) := (H3.out.step hb4).past _; have f0 := H4.out.a.c0; have f1 := H4.out.a.c1; have f2 := H4.out.b.c0; have f3 := H4.out.b.c1; clear hb4) | (go_at_call 9; have hgo := H2.out; clear hgo; refine (PB.out _).mono ?_; rintro e v3 ⟨rfl, hb3⟩; have H3 : Hid (Two w v3 a0 b0 a1 b1) := H2.out.step hb3; have d0 := H3.out.a.c0; have d1 := H3.out.a.c1; have d2 := H3.out.b.c0; have d3 := H3.out.b.c1; clear hb3) | (go_at_call 9; have hgo := H1.out; clear hgo; refine (PA.out _).mono ?_; rintro e v2 ⟨rfl, hb2⟩; have H2 : Hid (Two w v2 a0 b0 a1 b1) := H1.out.step hb2; have c0 := H2.out.a.c0; have c1 := H2.out.a.c1; have c2 := H2.out.b.c0; have c3 := H2.out.b.c1; clear hb2) | (go_at_call 8; refine (AW.out _ (RR.out.on H0.out.below)).mono ?_; rintro e v1 ⟨rfl, hb1⟩; have H1 : Hid (Two w v1 a0 b0 a1 b1) := H0.out.step hb1; have p0 := H1.out.a.c0; have p1 := H1.out.a.c1; have p2 := H1.out.b.c0; have p3 := H1.out.b.c1; clear hb1))
          go_ret
          exact ⟨rfl, H7.out.below⟩
      · have CC' := CC
        rw [hc] at CC'
        clear hc
        have he := he.symm
        subst he
        have n1 : ¬ b0 = b1 := by omega
        have q1 : decide (a0 * 256 + b0 < a0 * 256 + b1) = false := decide_eq_false (by omega)
        have q2 : (a0 * 256 + b0 == a0 * 256 + b1) = false := by simp; omega
        have q4 : decide (b0 < b1) = false := decide_eq_false (by omega)
        have q5 : (b0 == b1) = false := by simpa using n1
        rcases hgw with ⟨rfl, rfl⟩ | rfl
        · go_enter Tryd.func5, Tryd.ntmps5
          go_wp2_with (first | (go_at_call 16; have hgo := H6.out; clear hgo; refine (CC'.out _).mono ?_; rintro e v7 ⟨rfl, hb7⟩; have H7 : Hid (Two w v7 a0 b0 a0 b1) := H6.out.step hb7; have l0 := H7.out.a.c0; have l1 := H7.out.a.c1; have l2 := H7.out.b.c0; have l3 := H7.out.b.c1; clear hb7) | (go_at_call 9; have hgo := H5.out; clear hgo; refine (hPV.out _).mono ?_; rintro e v6 ⟨rfl, hb6⟩; have H6 : Hid (Two w v6 a0 b0 a0 b1) := H5.out.step hb6; have j0 := H6.out.a.c0; have j1 := H6.out.a.c1; have j2 := H6.out.b.c0; have j3 := H6.out.b.c1; clear hb6) | (go_at_call 10; have hgo := H4.out; clear hgo; refine (hUV.out _).mono ?_; rintro e v5 ⟨rfl, hb5⟩; have H5 : Hid (Two w (v5.alloc (.cells #[.int .i64 ut, .int .u8 un] 24)) a0 b0 a0 b1) := (H4.out.step hb5).past _; have i0 := H5.out.a.c0; have i1 := H5.out.a.c1; have i2 := H5.out.b.c0; have i3 := H5.out.b.c1; clear hb5) | (go_at_call 10; have hgo := H3.out; clear hgo; refine (UA'.out _).mono ?_; rintro e v4 ⟨rfl, hb4⟩; have H4 : Hid (Two w (v4.alloc (.cells #[.int .i64 a0, .int .u8 b0] 24)) a0 b0 a0 b1) := (H3.out.step hb4).past _; have f0 := H4.out.a.c0; have f1 := H4.out.a.c1; have f2 := H4.out.b.c0; have f3 := H4.out.b.c1; clear hb4) | (go_at_call 9; have hgo := H2.out; clear hgo; refine (PB.out _).mono ?_; rintro e v3 ⟨rfl, hb3⟩; have H3 : Hid (Two w v3 a0 b0 a0 b1) := H2.out.step hb3; have d0 := H3.out.a.c0; have d1 := H3.out.a.c1; have d2 := H3.out.b.c0; have d3 := H3.out.b.c1; clear hb3) | (go_at_call 9; have hgo := H1.out; clear hgo; refine (PA.out _).mono ?_; rintro e v2 ⟨rfl, hb2⟩; have H2 : Hid (Two w v2 a0 b0 a0 b1) := H1.out.step hb2; have c0 := H2.out.a.c0; have c1 := H2.out.a.c1; have c2 := H2.out.b.c0; have c3 := H2.out.b.c1; clear hb2) | (go_at_call 8; refine (AW.out _ (RR.out.on H0.out.below)).mono ?_; rintro e v1 ⟨rfl, hb1⟩; have H1 : Hid (Two w v1 a0 b0 a0 b1) := H0.out.step hb1; have p0 := H1.out.a.c0; have p1 := H1.out.a.c1; have p2 := H1.out.b.c0; have p3 := H1.out.b.c1; clear hb1))
          go_ret
          exact ⟨rfl, H7.out.below⟩
        · go_enter Tryd.func5, Tryd.ntmps5
          go_wp2_with (first | (go_at_call 16; have hgo := H6.out; clear hgo; refine (CC'.out _).mono ?_; rintro e v7 ⟨rfl, hb7⟩; have H7 : Hid (Two w v7 a0 b0 a0 b1) := H6.out.step hb7; have l0 := H7.out.a.c0; have l1 := H7.out.a.c1; have l2 := H7.out.b.c0; have l3 := H7.out.b.c1; clear hb7) | (go_at_call 9; have hgo := H5.out; clear hgo; refine (hPV.out _).mono ?_; rintro e v6 ⟨rfl, hb6⟩; have H6 : Hid (Two w v6 a0 b0 a0 b1) := H5.out.step hb6; have j0 := H6.out.a.c0; have j1 := H6.out.a.c1; have j2 := H6.out.b.c0; have j3 := H6.out.b.c1; clear hb6) | (go_at_call 10; have hgo := H4.out; clear hgo; refine (hUV.out _).mono ?_; rintro e v5 ⟨rfl, hb5⟩; have H5 : Hid (Two w (v5.alloc (.cells #[.int .i64 ut, .int .u8 un] 24)) a0 b0 a0 b1) := (H4.out.step hb5).past _; have i0 := H5.out.a.c0; have i1 := H5.out.a.c1; have i2 := H5.out.b.c0; have i3 := H5.out.b.c1; clear hb5) | (go_at_call 10; have hgo := H3.out; clear hgo; refine (UA'.out _).mono ?_; rintro e v4 ⟨rfl, hb4⟩; have H4 : Hid (Two w (v4.alloc (.cells #[.int .i64 a0, .int .u8 b0] 24)) a0 b0 a0 b1) := (H3.out.step hb4).past _; have f0 := H4.out.a.c0; have f1 := H4.out.a.c1; have f2 := H4.out.b.c0; have f3 := H4.out.b.c1; clear hb4) | (go_at_call 9; have hgo := H2.out; clear hgo; refine (PB.out _).mono ?_; rintro e v3 ⟨rfl, hb3⟩; have H3 : Hid (Two w v3 a0 b0 a0 b1) := H2.out.step hb3; have d0 := H3.out.a.c0; have d1 := H3.out.a.c1; have d2 := H3.out.b.c0; have d3 := H3.out.b.c1; clear hb3) | (go_at_call 9; have hgo := H1.out; clear hgo; refine (PA.out _).mono ?_; rintro e v2 ⟨rfl, hb2⟩; have H2 : Hid (Two w v2 a0 b0 a0 b1) := H1.out.step hb2; have c0 := H2.out.a.c0; have c1 := H2.out.a.c1; have c2 := H2.out.b.c0; have c3 := H2.out.b.c1; clear hb2) | (go_at_call 8; refine (AW.out _ (RR.out.on H0.out.below)).mono ?_; rintro e v1 ⟨rfl, hb1⟩; have H1 : Hid (Two w v1 a0 b0 a0 b1) := H0.out.step hb1; have p0 := H1.out.a.c0; have p1 := H1.out.a.c1; have p2 := H1.out.b.c0; have p3 := H1.out.b.c1; clear hb1))
          go_ret
          exact ⟨rfl, H7.out.below⟩
    · rw [if_neg k1, if_neg k1] at PB
      clear k0 k1 UA
      rcases hgw with ⟨rfl, rfl⟩ | rfl
      · go_enter Tryd.func5, Tryd.ntmps5
        go_wp2_with (first | (go_at_call 9; have hgo := H5.out; clear hgo; refine (hPV.out _).mono ?_; rintro e v6 ⟨rfl, hb6⟩; have H6 : Hid (Two w v6 a0 b0 a1 b1) := H5.out.step hb6; have j0 := H6.out.a.c0; have j1 := H6.out.a.c1; have j2 := H6.out.b.c0; have j3 := H6.out.b.c1; clear hb6) | (go_at_call 10; have hgo := H4.out; clear hgo; refine (hUV.out _).mono ?_; rintro e v5 ⟨rfl, hb5⟩; have H5 : Hid (Two w (v5.alloc (.cells #[.int .i64 ut, .int .u8 un] 24)) a0 b0 a1 b1) := (H4.out.step hb5).past _; have i0 := H5.out.a.c0; have i1 := H5.out.a.c1; have i2 := H5.out.b.c0; have i3 := H5.out.b.c1; clear hb5) | (go_at_call 10; have hgo := H3.out; clear hgo; refine (UA'.out _).mono ?_; rintro e v4 ⟨rfl, hb4⟩; have H4 : Hid (Two w (v4.alloc (.cells #[.int .i64 a0, .int .u8 b0] 24)) a0 b0 a1 b1) := (H3.out.step hb4).past _; have f0 := H4.out.a.c0; have f1 := H4.out.a.c1; have f2 := H4.out.b.c0; have f3 := H4.out.b.c1; clear hb4) | (go_at_call 9; have hgo := H2.out; clear hgo; refine (PB.out _).mono ?_; rintro e v3 ⟨rfl, hb3⟩; have H3 : Hid (Two w v3 a0 b0 a1 b1) := H2.out.step hb3; have d0 := H3.out.a.c0; have d1 := H3.out.a.c1; have d2 := H3.out.b.c0; have d3 := H3.out.b.c1; clear hb3) | (go_at_call 9; have hgo := H1.out; clear hgo; refine (PA.out _).mono ?_; rintro e v2 ⟨rfl, hb2⟩; have H2 : Hid (Two w v2 a0 b0 a1 b1) := H1.out.step hb2; have c0 := H2.out.a.c0; have c1 := H2.out.a.c1; have c2 := H2.out.b.c0; have c3 := H2.out.b.c1; clear hb2) | (go_at_call 8; refine (AW.out _ (RR.out.on H0.out.below)).mono ?_; rintro e v1 ⟨rfl, hb1⟩; have H1 : Hid (Two w v1 a0 b0 a1 b1) := H0.out.step hb1; have p0 := H1.out.a.c0; have p1 := H1.out.a.c1; have p2 := H1.out.b.c0; have p3 := H1.out.b.c1; clear hb1))
        go_ret
        exact ⟨rfl, H6.out.below⟩
      · go_enter Tryd.func5, Tryd.ntmps5
        go_wp2_with (first | (go_at_call 9; have hgo := H5.out; clear hgo; refine (hPV.out _).mono ?_; rintro e v6 ⟨rfl, hb6⟩; have H6 : Hid (Two w v6 a0 b0 a1 b1) := H5.out.step hb6; have j0 := H6.out.a.c0; have j1 := H6.out.a.c1; have j2 := H6.out.b.c0; have j3 := H6.out.b.c1; clear hb6) | (go_at_call 10; have hgo := H4.out; clear hgo; refine (hUV.out _).mono ?_; rintro e v5 ⟨rfl, hb5⟩; have H5 : Hid (Two w (v5.alloc (.cells #[.int .i64 ut, .int .u8 un] 24)) a0 b0 a1 b1) := (H4.out.step hb5).past _; have i0 := H5.out.a.c0; have i1 := H5.out.a.c1; have i2 := H5.out.b.c0; have i3 := H5.out.b.c1; clear hb5) | (go_at_call 10; have hgo := H3.out; clear hgo; refine (UA'.out _).mono ?_; rintro e v4 ⟨rfl, hb4⟩; have H4 : Hid (Two w (v4.alloc (.cells #[.int .i64 a0, .int .u8 b0] 24)) a0 b0 a1 b1) := (H3.out.step hb4).past _; have f0 := H4.out.a.c0; have f1 := H4.out.a.c1; have f2 := H4.out.b.c0; have f3 := H4.out.b.c1; clear hb4) | (go_at_call 9; have hgo := H2.out; clear hgo; refine (PB.out _).mono ?_; rintro e v3 ⟨rfl, hb3⟩; have H3 : Hid (Two w v3 a0 b0 a1 b1) := H2.out.step hb3; have d0 := H3.out.a.c0; have d1 := H3.out.a.c1; have d2 := H3.out.b.c0; have d3 := H3.out.b.c1; clear hb3) | (go_at_call 9; have hgo := H1.out; clear hgo; refine (PA.out _).mono ?_; rintro e v2 ⟨rfl, hb2⟩; have H2 : Hid (Two w v2 a0 b0 a1 b1) := H1.out.step hb2; have c0 := H2.out.a.c0; have c1 := H2.out.a.c1; have c2 := H2.out.b.c0; have c3 := H2.out.b.c1; clear hb2) | (go_at_call 8; refine (AW.out _ (RR.out.on H0.out.below)).mono ?_; rintro e v1 ⟨rfl, hb1⟩; have H1 : Hid (Two w v1 a0 b0 a1 b1) := H0.out.step hb1; have p0 := H1.out.a.c0; have p1 := H1.out.a.c1; have p2 := H1.out.b.c0; have p3 := H1.out.b.c1; clear hb1))
        go_ret
        exact ⟨rfl, H6.out.below⟩
  · rw [if_neg k0, if_neg k0] at PA
    clear UA
    by_cases k1 : okS a1
    · rw [if_pos k1, if_pos k1] at PB
      clear k0 k1
      rcases hgw with ⟨rfl, rfl⟩ | rfl
      · go_enter Tryd.func5, Tryd.ntmps5
        go_wp2_with (first | (go_at_call 9; have hgo := H4.out; clear hgo; refine (hPV.out _).mono ?_; rintro e v5 ⟨rfl, hb5⟩; have H5 : Hid (Two w v5 a0 b0 a1 b1) := H4.out.step hb5; have j0 := H5.out.a.c0; have j1 := H5.out.a.c1; have j2 := H5.out.b.c0; have j3 := H5.out.b.c1; clear hb5) | (go_at_call 10; have hgo := H3.out; clear hgo; refine (hUV.out _).mono ?_; rintro e v4 ⟨rfl, hb4⟩; have H4 : Hid (Two w (v4.alloc (.cells #[.int .i64 ut, .int .u8 un] 24)) a0 b0 a1 b1) := (H3.out.step hb4).past _; have i0 := H4.out.a.c0; have i1 := H4.out.a.c1; have i2 := H4.out.b.c0; have i3 := H4.out.b.c1; clear hb4) | (go_at_call 9; have hgo := H2.out; clear hgo; refine (PB.out _).mono ?_; rintro e v3 ⟨rfl, hb3⟩; have H3 : Hid (Two w v3 a0 b0 a1 b1) := H2.out.step hb3; have d0 := H3.out.a.c0; have d1 := H3.out.a.c1; have d2 := H3.out.b.c0; have d3 := H3.out.b.c1; clear hb3) | (go_at_call 9; have hgo := H1.out; clear hgo; refine (PA.out _).mono ?_; rintro e v2 ⟨rfl, hb2⟩; have H2 : Hid (Two w v2 a0 b0 a1 b1) := H1.out.step hb2; have c0 := H2.out.a.c0; have c1 := H2.out.a.c1; have c2 := H2.out.b.c0; have c3 := H2.out.b.c1; clear hb2) | (go_at_call 8; refine (AW.out _ (RR.out.on H0.out.below)).mono ?_; rintro e v1 ⟨rfl, hb1⟩; have H1 : Hid (Two w v1 a0 b0 a1 b1) := H0.out.step hb1; have p0 := H1.out.a.c0; have p1 := H1.out.a.c1; have p2 := H1.out.b.c0; have p3 := H1.out.b.c1; clear hb1))
        go_ret
        exact ⟨rfl, H5.out.below⟩
      · go_enter Tryd.func5, Tryd.ntmps5
        go_wp2_with (first | (go_at_call 9; have hgo := H4.out; clear hgo; refine (hPV.out _).mono ?_; rintro e v5 ⟨rfl, hb5⟩; have H5 : Hid (Two w v5 a0 b0 a1 b1) := H4.out.step hb5; have j0 := H5.out.a.c0; have j1 := H5.out.a.c1; have j2 := H5.out.b.c0; have j3 := H5.out.b.c1; clear hb5) | (go_at_call 10; have hgo := H3.out; clear hgo; refine (hUV.out _).mono ?_; rintro e v4 ⟨rfl, hb4⟩; have H4 : Hid (Two w (v4.alloc (.cells #[.int .i64 ut, .int .u8 un] 24)) a0 b0 a1 b1) := (H3.out.step hb4).past _; have i0 := H4.out.a.c0; have i1 := H4.out.a.c1; have i2 := H4.out.b.c0; have i3 := H4.out.b.c1; clear hb4) | (go_at_call 9; have hgo := H2.out; clear hgo; refine (PB.out _).mono ?_; rintro e v3 ⟨rfl, hb3⟩; have H3 : Hid (Two w v3 a0 b0 a1 b1) := H2.out.step hb3; have d0 := H3.out.a.c0; have d1 := H3.out.a.c1; have d2 := H3.out.b.c0; have d3 := H3.out.b.c1; clear hb3) | (go_at_call 9; have hgo := H1.out; clear hgo; refine (PA.out _).mono ?_; rintro e v2 ⟨rfl, hb2⟩; have H2 : Hid (Two w v2 a0 b0 a1 b1) := H1.out.step hb2; have c0 := H2.out.a.c0; have c1 := H2.out.a.c1; have c2 := H2.out.b.c0; have c3 := H2.out.b.c1; clear hb2) | (go_at_call 8; refine (AW.out _ (RR.out.on H0.out.below)).mono ?_; rintro e v1 ⟨rfl, hb1⟩; have H1 : Hid (Two w v1 a0 b0 a1 b1) := H0.out.step hb1; have p0 := H1.out.a.c0; have p1 := H1.out.a.c1; have p2 := H1.out.b.c0; have p3 := H1.out.b.c1; clear hb1))
        go_ret
        exact ⟨rfl, H5.out.below⟩
    · rw [if_neg k1, if_neg k1] at PB
      clear k0 k1
      rcases hgw with ⟨rfl, rfl⟩ | rfl
      · go_enter Tryd.func5, Tryd.ntmps5
        go_wp2_with (first | (go_at_call 9; have hgo := H4.out; clear hgo; refine (hPV.out _).mono ?_; rintro e v5 ⟨rfl, hb5⟩; have H5 : Hid (Two w v5 a0 b0 a1 b1) := H4.out.step hb5; have j0 := H5.out.a.c0; have j1 := H5.out.a.c1; have j2 := H5.out.b.c0; have j3 := H5.out.b.c1; clear hb5) | (go_at_call 10; have hgo := H3.out; clear hgo; refine (hUV.out _).mono ?_; rintro e v4 ⟨rfl, hb4⟩; have H4 : Hid (Two w (v4.alloc (.cells #[.int .i64 ut, .int .u8 un] 24)) a0 b0 a1 b1) := (H3.out.step hb4).past _; have i0 := H4.out.a.c0; have i1 := H4.out.a.c1; have i2 := H4.out.b.c0; have i3 := H4.out.b.c1; clear hb4) | (go_at_call 9; have hgo := H2.out; clear hgo; refine (PB.out _).mono ?_; rintro e v3 ⟨rfl, hb3⟩; have H3 : Hid (Two w v3 a0 b0 a1 b1) := H2.out.step hb3; have d0 := H3.out.a.c0; have d1 := H3.out.a.c1; have d2 := H3.out.b.c0; have d3 := H3.out.b.c1; clear hb3) | (go_at_call 9; have hgo := H1.out; clear hgo; refine (PA.out _).mono ?_; rintro e v2 ⟨rfl, hb2⟩; have H2 : Hid (Two w v2 a0 b0 a1 b1) := H1.out.step hb2; have c0 := H2.out.a.c0; have c1 := H2.out.a.c1; have c2 := H2.out.b.c0; have c3 := H2.out.b.c1; clear hb2) | (go_at_call 8; refine (AW.out _ (RR.out.on H0.out.below)).mono ?_; rintro e v1 ⟨rfl, hb1⟩; have H1 : Hid (Two w v1 a0 b0 a1 b1) := H0.out.step hb1; have p0 := H1.out.a.c0; have p1 := H1.out.a.c1; have p2 := H1.out.b.c0; have p3 := H1.out.b.c1; clear hb1))
        go_ret
        exact ⟨rfl, H5.out.below⟩
      · go_enter Tryd.func5, Tryd.ntmps5
        go_wp2_with (first | (go_at_call 9; have hgo := H4.out; clear hgo; refine (hPV.out _).mono ?_; rintro e v5 ⟨rfl, hb5⟩; have H5 : Hid (Two w v5 a0 b0 a1 b1) := H4.out.step hb5; have j0 := H5.out.a.c0; have j1 := H5.out.a.c1; have j2 := H5.out.b.c0; have j3 := H5.out.b.c1; clear hb5) | (go_at_call 10; have hgo := H3.out; clear hgo; refine (hUV.out _).mono ?_; rintro e v4 ⟨rfl, hb4⟩; have H4 : Hid (Two w (v4.alloc (.cells #[.int .i64 ut, .int .u8 un] 24)) a0 b0 a1 b1) := (H3.out.step hb4).past _; have i0 := H4.out.a.c0; have i1 := H4.out.a.c1; have i2 := H4.out.b.c0; have i3 := H4.out.b.c1; clear hb4) | (go_at_call 9; have hgo := H2.out; clear hgo; refine (PB.out _).mono ?_; rintro e v3 ⟨rfl, hb3⟩; have H3 : Hid (Two w v3 a0 b0 a1 b1) := H2.out.step hb3; have d0 := H3.out.a.c0; have d1 := H3.out.a.c1; have d2 := H3.out.b.c0; have d3 := H3.out.b.c1; clear hb3) | (go_at_call 9; have hgo := H1.out; clear hgo; refine (PA.out _).mono ?_; rintro e v2 ⟨rfl, hb2⟩; have H2 : Hid (Two w v2 a0 b0 a1 b1) := H1.out.step hb2; have c0 := H2.out.a.c0; have c1 := H2.out.a.c1; have c2 := H2.out.b.c0; have c3 := H2.out.b.c1; clear hb2) | (go_at_call 8; refine (AW.out _ (RR.out.on H0.out.below)).mono ?_; rintro e v1 ⟨rfl, hb1⟩; have H1 : Hid (Two w v1 a0 b0 a1 b1) := H0.out.step hb1; have p0 := H1.out.a.c0; have p1 := H1.out.a.c1; have p2 := H1.out.b.c0; have p3 := H1.out.b.c1; clear hb1))
        go_ret
        exact ⟨rfl, H5.out.below⟩

set_option maxRecDepth 100000 in
theorem lifted (os : Os) (started : os.Started) (H : Type) (enc : TypeId × Value → H) :
    ReturnsInHanded {} Tryd.checked os 5 .any (fun w args => (Rows.stampBackSpec.pre enc Tryd.prog Tryd.f5 Rows.stampBackRow.domain false w args ∧ laidMet Tryd.prog laid3 w) ∧ sizedMet enc Tryd.prog Tryd.f5 (OpenSpec.ofChange Rows.stampBackSpec) false w args)
      (Rows.stampBackSpec.post enc Tryd.prog Tryd.f5 false true false false) := by
  refine returnsInHanded_of_change_and (C := Tryd.checked) (X := fun w _ => laidMet Tryd.prog laid3 w) (fun _ _ _ hh h => h.of_heap hh) own started (by kernel_rfl) Tryd.func5
    (ChangeSpec.witness_at (enc := enc) (C := Tryd.checked) (os := os) (X := fun w _ => laidMet Tryd.prog laid3 w) false (laidWorld3 os) #[.agg #[.int .i64 0, .int .u8 0], .agg #[.int .i64 0, .int .u8 0], .int .u64 0] 8 rfl (by kernel_rfl) (by kernel_rfl) (by kernel_rfl) (by kernel_rfl) (by kernel_rfl) (laid3_met os _)) ?_
  intro W base args ds gs before hval0 hW _ _ hL _
  have hval : ∀ (j : Nat) t v, Tryd.f5.params[j]? = some t → args[j]? = some v → Value.okWide Tryd.prog W .any base t v := hval0
  have hW' := hW
  obtain ⟨p, q, hA0, hV, rfl, hfz, hnd⟩ := hW
  have hA : DataW.TrodAll enc Tryd.prog W 0 (fun _ => true) true Tryd.f5.params.toList args.toList ds p := hA0
  rw [Tryd.params5] at hA hval
  obtain ⟨v0, vs0, d0, ds0, p0, q0, hargs, rfl, rfl, h0, r0⟩ := trodAll_cons hA
  obtain ⟨v1, vs1, d1, ds1, p1, q1, rfl, rfl, rfl, h1, r1⟩ := trodAll_cons r0
  obtain ⟨v2, vs2, d2, ds2, p2, q2, rfl, rfl, rfl, h2, r2⟩ := trodAll_cons r1
  obtain ⟨rfl, rfl, rfl⟩ := trodAll_nil r2
  obtain rfl : args = #[v0, v1, v2] := by cases args; simp_all
  obtain ⟨rfl, rfl⟩ := trodVars_none hV
  have k0 := h0
  have lt0 : ∀ x ∈ p0, x.block < W.heap.size := by obtain ⟨m, hm⟩ := k0; exact DataW.trod_lt m _ _ _ hm
  obtain ⟨a0, b0, rfl, w0, x0⟩ := struct2_open Tryd.underlying24 Tryd.underlying2 Tryd.underlying5 rfl rfl (by kernel_rfl) (by kernel_rfl) (by kernel_rfl) (hval 0 24 v0 rfl rfl) h0
  have k1 := h1
  have lt1 : ∀ x ∈ p1, x.block < W.heap.size := by obtain ⟨m, hm⟩ := k1; exact DataW.trod_lt m _ _ _ hm
  obtain ⟨a1, b1, rfl, w1, x1⟩ := struct2_open Tryd.underlying24 Tryd.underlying2 Tryd.underlying5 rfl rfl (by kernel_rfl) (by kernel_rfl) (by kernel_rfl) (hval 1 24 v1 rfl rfl) h1
  have k2 := h2
  have lt2 : ∀ x ∈ p2, x.block < W.heap.size := by obtain ⟨m, hm⟩ := k2; exact DataW.trod_lt m _ _ _ hm
  obtain ⟨a2, rfl, rfl, rfl, w2⟩ := open_int Tryd.underlying25 (hval 2 25 v2 rfl rfl) h2
  clear hA0 hval0
  refine (walk a0 b0 a1 b1 a2 W w0 x0 w1 x1 w2 (ready_of hL)).mono fun e W' ⟨he, bel⟩ => ?_
  subst he
  exact ⟨_, rfl, _, _, _, [], _, [], hW', trodAll_mk1 (shut_bool Tryd.underlying4 _), (trodAll_cons_mk (Below.trod laidOut (by kernel_rfl) (of_decide_eq_true (by kernel_rfl)) k0 bel lt0) (trodAll_cons_mk (Below.trod laidOut (by kernel_rfl) (of_decide_eq_true (by kernel_rfl)) k1 bel lt1) (trodAll_cons_mk (Below.trod laidOut (by kernel_rfl) (of_decide_eq_true (by kernel_rfl)) k2 bel lt2) trodAll_mk0))), rfl, bel.frame _, fun h => by cases h⟩

theorem over : Rows.stampBackRow.holds Tryd.pinned (OpenSpec.ofChange Rows.stampBackSpec) :=
  OpenClaim.holds_of_wide 5 Tryd.f5 rfl rfl rfl rfl rfl rfl rfl ⟨rfl, rfl, rfl, rfl, rfl⟩ rfl rfl rfl rfl rfl (by kernel_rfl) Tryd.func5 (by kernel_rfl)
    (of_decide_eq_true (by kernel_rfl)) (by unfold Func.isWrapper; first | (rw [if_pos (by decide +kernel)]; kernel_rfl) | (rw [if_neg (by decide +kernel)]; exact ⟨rfl, rfl⟩))
    (fun os started H enc _ => lifted os started H enc)
theorem carded : Rows.StampBackCardSaid :=
  Claim7.holds_tied_plain_at .later [] [.data, .data, .data] true (true, "75a9ced10a68879221c187ebb07933119152f9c2d73adce86fd34b54cdc5e0b3") false
    over (fun _ h => by cases h) (by kernel_rfl) (fun _ h => by cases h) stampBack_row_tie rfl ⟨rfl, rfl⟩ (by kernel_rfl) rfl
    (fun f fn hf hfn => by
      obtain rfl : f = 5 := Option.some.inj ((show Tryd.prog.funcNamed "hourglass/hourglasslaw6.StampBack" = some 5 by kernel_rfl).symm.trans hf) |>.symm
      obtain rfl : fn = Tryd.f5 := (Option.some.inj (Tryd.func5.symm.trans hfn)).symm
      exact ⟨by kernel_rfl, fun j t ht => by
        rw [Tryd.params5] at ht
        have hm : t ∈ [24, 24, 25] := by simpa using Array.mem_of_getElem? ht
        have hall : ([24, 24, 25].all fun u => !Tryd.prog.wantsStandIn u) = true := by kernel_rfl
        exact (show Tryd.prog.wantsStandIn t = false by simpa using List.all_eq_true.1 hall t hm)⟩)
    (by kernel_rfl)
#print axioms carded
end Go.Proofs.YtmokepjemplfgaaDoor.stampBack
namespace Go.Proofs.YtmokepjemplfgaaDoor
/-- StampBack, as given. -/
theorem stampBack_holds : Rows.StampBackCardSaid := stampBack.carded
end Go.Proofs.YtmokepjemplfgaaDoor
