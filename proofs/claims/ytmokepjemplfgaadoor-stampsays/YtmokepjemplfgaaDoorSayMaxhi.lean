/-
  StampSays: one of six cases.
-/
import Derived.Test.YtmokepjemplfgaaDoorSayBase
namespace Go.Proofs.YtmokepjemplfgaaDoor
open Go.RowKit
set_option linter.unusedVariables false

set_option maxRecDepth 100000 in
set_option maxHeartbeats 40000000 in
theorem say_maxhi (a0 b0 a1 b1 a2 : Int) (w : World) (hR : Ready w) (by0 : -9223372036854775808 ≤ a0 ∧ a0 ≤ 9223372036854775807) (bx0 : 0 ≤ b0 ∧ b0 ≤ 255) (by2 : 0 ≤ a2 ∧ a2 ≤ 18446744073709551615) (ka : okS a0) (kt : a0 = 36028797018963967) (kv : ¬ a2 < 9223372036854775808) :
    Calls Tryd.prog 4 #[.agg #[.int .i64 a0, .int .u8 b0], .agg #[.int .i64 a1, .int .u8 b1], .int .u64 a2] w fun e w' => e = .returned (.bool true) ∧ Below w.heap.size w w' := by
  have AW : Hid (∀ u, Ready u → Calls Tryd.prog 8 #[] u fun e w' => e = .returned (.bool true) ∧ Below u.heap.size u w') := fun u r => awake_any u r
  have RR : Hid (Ready w) := hR
  have H0 : Hid (Two w ((w.alloc (.cells #[.int .i64 a0, .int .u8 b0] 24)).alloc (.cells #[.int .i64 a1, .int .u8 b1] 24)) a0 b0 a1 b1) := Two.made w 24 a0 b0 a1 b1
  obtain ⟨P, hP⟩ : ∃ P : Int, P = (a0 * 256 + b0) := ⟨_, rfl⟩
  obtain ⟨UT, hUT⟩ : ∃ P : Int, P = 0 := ⟨_, rfl⟩
  obtain ⟨UN, hUN⟩ : ∃ P : Int, P = 0 := ⟨_, rfl⟩
  have C1 : Hid (∀ u, Calls Tryd.prog 9 #[.agg #[.int .i64 a0, .int .u8 b0]] u fun e w' => e = .returned (.tuple #[.int .u64 P, .int .i64 0]) ∧ Below u.heap.size u w') := fun u => by
    have c := spack_any a0 b0 u bx0
    rw [if_pos ka, if_pos ka] at c
    rw [hP]
    exact c
  have C2 : Hid (∀ u, Calls Tryd.prog 13 #[.agg #[.int .i64 a0, .int .u8 b0]] u fun e w' => e = .returned (.tuple #[.int .u64 P, .bool true]) ∧ Below u.heap.size u w') := fun u => by
    have c := rpack6_any a0 b0 u bx0
    rw [if_pos ka, decide_eq_true ka] at c
    rw [hP]
    exact c
  have C3 : Hid (∀ u, Calls Tryd.prog 10 #[.int .u64 a2] u fun e w' => e = .returned (.tuple #[.agg #[.int .i64 UT, .int .u8 UN], .int .i64 1]) ∧ Below u.heap.size u w') := fun u => by
    have c := sunpack_any a2 u by2
    rw [if_neg kv, if_neg kv, if_neg kv] at c
    rw [hUT, hUN]
    exact c
  have C4 : Hid (∀ u, Calls Tryd.prog 14 #[.int .u64 a2] u fun e w' => e = .returned (.tuple #[.agg #[.int .i64 UT, .int .u8 UN], .bool false]) ∧ Below u.heap.size u w') := fun u => by
    have c := runpack6_any a2 u by2
    rw [if_neg kv, if_neg kv, decide_eq_false kv] at c
    rw [hUT, hUN]
    exact c
  have C5 : Hid (∀ u, Calls Tryd.prog 11 #[.agg #[.int .i64 a0, .int .u8 b0]] u fun e w' => e = .returned (.tuple #[.agg #[.int .i64 0, .int .u8 0], .int .i64 12]) ∧ Below u.heap.size u w') := fun u => by
    have c := snext_any a0 b0 u
    rw [if_neg (fun h => h.2 kt), if_neg (fun h => h.2 kt), if_pos ka, if_pos kt] at c
    exact c
  have C6 : Hid (∀ u, Calls Tryd.prog 15 #[.agg #[.int .i64 a0, .int .u8 b0]] u fun e w' => e = .returned (.bool true) ∧ Below u.heap.size u w') := fun u => by
    have c := rgood6_any a0 b0 u
    rw [decide_eq_true ka] at c
    exact c
  have C7 : Hid (∀ u, Calls Tryd.prog 21 #[.agg #[.int .i64 a0, .int .u8 b0]] u fun e w' => e = .returned (.bool true) ∧ Below u.heap.size u w') := fun u => by
    have c := sgood_any a0 b0 u
    rw [decide_eq_true ka] at c
    exact c
  obtain ⟨K, hK⟩ : ∃ K, K = cmpS a0 b0 a1 b1 := ⟨_, rfl⟩
  obtain ⟨M1, hM1⟩ : ∃ K, K = (mxS a0 b0 a1 b1).1 := ⟨_, rfl⟩
  obtain ⟨M2, hM2⟩ : ∃ K, K = (mxS a0 b0 a1 b1).2 := ⟨_, rfl⟩
  obtain ⟨X, hX⟩ : ∃ K, K = tx6 a0 b0 := ⟨_, rfl⟩
  have D1 : Hid (∀ u, Calls Tryd.prog 16 #[.agg #[.int .i64 a0, .int .u8 b0], .agg #[.int .i64 a1, .int .u8 b1]] u fun e w' => e = .returned (.int .i64 K) ∧ Below u.heap.size u w') := fun u => by
    rw [hK]; exact scmp_any a0 b0 a1 b1 u
  have D2 : Hid (∀ u, Calls Tryd.prog 17 #[.agg #[.int .i64 a0, .int .u8 b0], .agg #[.int .i64 a1, .int .u8 b1]] u fun e w' => e = .returned (.int .i64 K) ∧ Below u.heap.size u w') := fun u => by
    rw [hK]; exact rcmp6_any a0 b0 a1 b1 u
  have D3 : Hid (∀ u, Calls Tryd.prog 18 #[.agg #[.int .i64 a0, .int .u8 b0], .agg #[.int .i64 a1, .int .u8 b1]] u fun e w' => e = .returned (.agg #[.int .i64 M1, .int .u8 M2]) ∧ Below u.heap.size u w') := fun u => by
    rw [hM1, hM2]; exact smax_any a0 b0 a1 b1 u
  have D4 : Hid (∀ u, Calls Tryd.prog 19 #[.agg #[.int .i64 a0, .int .u8 b0], .agg #[.int .i64 a1, .int .u8 b1]] u fun e w' => e = .returned (.agg #[.int .i64 M1, .int .u8 M2]) ∧ Below u.heap.size u w') := fun u => by
    rw [hM1, hM2]; exact rmax6_any a0 b0 a1 b1 u
  have D5 : Hid (∀ u, Ready u → Calls Tryd.prog 12 #[.agg #[.int .i64 a0, .int .u8 b0]] u fun e w' => e = .returned (.string X) ∧ Below u.heap.size u w') := fun u r => by
    rw [hX]; exact stext_any a0 b0 u r by0.1 by0.2 bx0
  have D6 : Hid (∀ u, Calls Tryd.prog 20 #[.agg #[.int .i64 a0, .int .u8 b0]] u fun e w' => e = .returned (.string X) ∧ Below u.heap.size u w') := fun u => by
    rw [hX]; exact rtext6_any a0 b0 u by0.1 by0.2 bx0
  have hmax : (a0 == 36028797018963967) = true := by simpa using kt
  clear hR hP hUT hUN hK hM1 hM2 hX by2 ka by0 kv kt
  go_enter Tryd.func4, Tryd.ntmps4
  go_wp2_with (first | (go_at_call 15; refine (C6.out _).mono ?_; rintro e v7 ⟨rfl, hb7⟩; have L7 : Hid (Laid6 w v7 v4.heap.size v5.heap.size v6.heap.size (v6.heap.size + 1) a0 b0 a1 b1 UT UN 0 0 0 0) := L6.out.step hb7; have f0 : v7.frozen? ⟨v6.heap.size + 1, 0, none⟩ = false := (hb7.frozen (p := ⟨v6.heap.size + 1, 0, none⟩) (lt_of_cell L6.out.pt.c0)).trans (F6.out 0); have f1 : v7.frozen? ⟨v6.heap.size + 1, 1, none⟩ = false := (hb7.frozen (p := ⟨v6.heap.size + 1, 1, none⟩) (lt_of_cell L6.out.pt.c1)).trans (F6.out 1); have c70 := L7.out.two.a.c0; have c71 := L7.out.two.a.c1; have c72 := L7.out.pt.c0; have c73 := L7.out.pt.c1; clear hb7) | (go_at_call 11; refine (C5.out _).mono ?_; rintro e v6 ⟨rfl, hb6⟩; have L6 : Hid (Laid6 w ((v6.alloc (.cells #[.int .i64 0, .int .u8 0] 24)).alloc (.cells #[.int .i64 0, .int .u8 0] 24)) v4.heap.size v5.heap.size v6.heap.size (v6.heap.size + 1) a0 b0 a1 b1 UT UN 0 0 0 0) := ⟨((H5.out.step hb6).past _).past _, ((U5.out.step hb6 (Nat.le_refl _)).past _).past _, ((W5.out.step hb6 (Nat.le_refl _)).past _).past _, (StAt.made _ _ _ _ _ rfl).past _, StAt.made _ _ _ _ _ (by simp)⟩; have BH : Hid (Behind w v4.heap.size v5.heap.size v6.heap.size (v6.heap.size + 1)) := (by have x1 := lt_of_cell (H5.out.step hb6).b.c0; have x2 := lt_of_cell (U5.out.step hb6 (Nat.le_refl _)).c0; have x3 := lt_of_cell (W5.out.step hb6 (Nat.le_refl _)).c0; exact ⟨by simp only at x1; omega, by simp only at x2; omega, by simp only at x3; omega, by omega⟩); have F6 : Hid (∀ j, ((v6.alloc (.cells #[.int .i64 0, .int .u8 0] 24)).alloc (.cells #[.int .i64 0, .int .u8 0] 24)).frozen? ⟨v6.heap.size + 1, j, none⟩ = false) := (fun j => (by have e : v6.heap.size + 1 = (v6.alloc (.cells #[.int .i64 0, .int .u8 0] 24)).heap.size := (by simp); rw [e]; exact World.frozen?_alloc_new _ _ _ _)); have c60 := L6.out.two.a.c0; have c61 := L6.out.two.a.c1; clear hb6) | (go_at_call 14; refine (C4.out _).mono ?_; rintro e v5 ⟨rfl, hb5⟩; have H5 : Hid (Two w (v5.alloc (.cells #[.int .i64 UT, .int .u8 UN] 24)) a0 b0 a1 b1) := (H4.out.step hb5).past _; have U5 : Hid (StAt (v5.alloc (.cells #[.int .i64 UT, .int .u8 UN] 24)) v4.heap.size UT UN) := (U4.out.step hb5 (Nat.le_refl _)).past _; have W5 : Hid (StAt (v5.alloc (.cells #[.int .i64 UT, .int .u8 UN] 24)) v5.heap.size UT UN) := StAt.made _ _ _ _ _ rfl; have c50 := H5.out.a.c0; have c51 := H5.out.a.c1; clear hb5) | (go_at_call 10; refine (C3.out _).mono ?_; rintro e v4 ⟨rfl, hb4⟩; have H4 : Hid (Two w (v4.alloc (.cells #[.int .i64 UT, .int .u8 UN] 24)) a0 b0 a1 b1) := (H3.out.step hb4).past _; have U4 : Hid (StAt (v4.alloc (.cells #[.int .i64 UT, .int .u8 UN] 24)) v4.heap.size UT UN) := StAt.made _ _ _ _ _ rfl; clear hb4) | (go_at_call 13; refine (C2.out _).mono ?_; rintro e v3 ⟨rfl, hb3⟩; have H3 : Hid (Two w v3 a0 b0 a1 b1) := H2.out.step hb3; clear hb3) | (go_at_call 9; refine (C1.out _).mono ?_; rintro e v2 ⟨rfl, hb2⟩; have H2 : Hid (Two w v2 a0 b0 a1 b1) := H1.out.step hb2; have c20 := H2.out.a.c0; have c21 := H2.out.a.c1; clear hb2) | (go_at_call 8; refine (AW.out _ (RR.out.on H0.out.below)).mono ?_; rintro e v1 ⟨rfl, hb1⟩; have H1 : Hid (Two w v1 a0 b0 a1 b1) := H0.out.step hb1; have c10 := H1.out.a.c0; have c11 := H1.out.a.c1; clear hb1))
  obtain ⟨V, hV⟩ : ∃ V, V = v7 := ⟨_, rfl⟩
  have LV : Hid (Laid6 w V v4.heap.size v5.heap.size v6.heap.size (v6.heap.size + 1) a0 b0 a1 b1 UT UN 0 0 0 0) := by rw [hV]; exact L7.out
  rw [← hV]
  clear hV c70 c71 c72 c73 f0 f1 c60 c61 c50 c51 c20 c21 c10 c11
  have KS : Hid (∀ u, Below V.heap.size V u → Dozen w u v4.heap.size v5.heap.size v6.heap.size (v6.heap.size + 1) a0 b0 a1 b1 UT UN 0 0 0 0) := fun u hb => (LV.out.step hb).dozen
  have UP : Hid (∀ {f args r} (u : World), Below V.heap.size V u → Calls Tryd.prog f args u (fun e w' => e = .returned r ∧ Below u.heap.size u w') → Calls Tryd.prog f args u fun e w' => e = .returned r ∧ Below V.heap.size V w') := fun u h hc => hc.mono (by rintro e w' ⟨rfl, h'⟩; exact ⟨rfl, h.trans (h'.mono h.size)⟩)
  have V0 : Hid (∀ u, Below V.heap.size V u → Calls Tryd.prog 16 #[.agg #[.int .i64 a0, .int .u8 b0], .agg #[.int .i64 a1, .int .u8 b1]] u fun e w' => e = .returned (.int .i64 K) ∧ Below V.heap.size V w') := fun u h => UP.out u h (D1.out u)
  have V1 : Hid (∀ u, Below V.heap.size V u → Calls Tryd.prog 17 #[.agg #[.int .i64 a0, .int .u8 b0], .agg #[.int .i64 a1, .int .u8 b1]] u fun e w' => e = .returned (.int .i64 K) ∧ Below V.heap.size V w') := fun u h => UP.out u h (D2.out u)
  have V2 : Hid (∀ u, Below V.heap.size V u → Calls Tryd.prog 18 #[.agg #[.int .i64 a0, .int .u8 b0], .agg #[.int .i64 a1, .int .u8 b1]] u fun e w' => e = .returned (.agg #[.int .i64 M1, .int .u8 M2]) ∧ Below V.heap.size V w') := fun u h => UP.out u h (D3.out u)
  have V3 : Hid (∀ u, Below V.heap.size V u → Calls Tryd.prog 19 #[.agg #[.int .i64 a0, .int .u8 b0], .agg #[.int .i64 a1, .int .u8 b1]] u fun e w' => e = .returned (.agg #[.int .i64 M1, .int .u8 M2]) ∧ Below V.heap.size V w') := fun u h => UP.out u h (D4.out u)
  have V4 : Hid (∀ u, Below V.heap.size V u → Calls Tryd.prog 12 #[.agg #[.int .i64 a0, .int .u8 b0]] u fun e w' => e = .returned (.string X) ∧ Below V.heap.size V w') := fun u h => UP.out u h (D5.out u (RR.out.on (LV.out.two.below.trans (h.mono LV.out.two.below.size))))
  have V5 : Hid (∀ u, Below V.heap.size V u → Calls Tryd.prog 20 #[.agg #[.int .i64 a0, .int .u8 b0]] u fun e w' => e = .returned (.string X) ∧ Below V.heap.size V w') := fun u h => UP.out u h (D6.out u)
  have V6 : Hid (∀ u, Below V.heap.size V u → Calls Tryd.prog 21 #[.agg #[.int .i64 a0, .int .u8 b0]] u fun e w' => e = .returned (.bool true) ∧ Below V.heap.size V w') := fun u h => UP.out u h (C7.out u)
  have V7 : Hid (∀ u, Below V.heap.size V u → Calls Tryd.prog 15 #[.agg #[.int .i64 a0, .int .u8 b0]] u fun e w' => e = .returned (.bool true) ∧ Below V.heap.size V w') := fun u h => UP.out u h (C6.out u)
  have eK : (K == K) = true := by simp
  have eP : (P == P) = true := by simp
  have eX : (X.toList == X.toList) = true := by simp
  have hopA : ∀ p, opA p = { dst := some 71, op := Op.move (Operand.tmp 8), type := 26, pos := p, after := #[{ on := 11, ground := Ground.guard }], guard := some (11, false) } := fun _ => rfl
  have hopB : ∀ p, opB p = { dst := some 72, op := Op.binOp BinOp.eql 26 (Operand.tmp 71) (Operand.const (Value.int IntKind.i64 1)) 26, type := 4, pos := p, after := #[{ on := 12, ground := Ground.data }, { on := 11, ground := Ground.guard }], guard := some (11, false) } := fun _ => rfl
  simp only [List.append_eq, List.cons_append, List.nil_append]
  rw [← hopA, ← hopB]
  clear UP AW C1 C2 C3 C4 C5 C6 C7 D1 D2 D3 D4 D5 D6 RR H0 H1 H2 H3 H4 H5 U4 U5 W5 L6 L7 BH F6
  go_region_held3 (fun u => u.cell? ⟨w.heap.size, 0, none⟩ = some (.int .i64 a0) ∧ u.cell? ⟨w.heap.size, 1, none⟩ = some (.int .u8 b0) ∧ u.cell? ⟨w.heap.size + 1, 0, none⟩ = some (.int .i64 a1) ∧ u.cell? ⟨w.heap.size + 1, 1, none⟩ = some (.int .u8 b1) ∧ u.cell? ⟨v4.heap.size, 0, none⟩ = some (.int .i64 UT) ∧ u.cell? ⟨v4.heap.size, 1, none⟩ = some (.int .u8 UN) ∧ u.cell? ⟨v5.heap.size, 0, none⟩ = some (.int .i64 UT) ∧ u.cell? ⟨v5.heap.size, 1, none⟩ = some (.int .u8 UN) ∧ u.cell? ⟨v6.heap.size, 0, none⟩ = some (.int .i64 0) ∧ u.cell? ⟨v6.heap.size, 1, none⟩ = some (.int .u8 0) ∧ u.cell? ⟨v6.heap.size + 1, 0, none⟩ = some (.int .i64 0) ∧ u.cell? ⟨v6.heap.size + 1, 1, none⟩ = some (.int .u8 0)) (first | exact KS.out _ (by assumption) | exact KS.out _ (Below.refl _ _).drew) (first | (go_at_call 16; refine (V0.out _ (by first | assumption | exact (Below.refl _ _).drew)).mono ?_; rintro e q0 ⟨rfl, hq0⟩) | (go_at_call 17; refine (V1.out _ (by first | assumption | exact (Below.refl _ _).drew)).mono ?_; rintro e q1 ⟨rfl, hq1⟩) | (go_at_call 18; refine (V2.out _ (by first | assumption | exact (Below.refl _ _).drew)).mono ?_; rintro e q2 ⟨rfl, hq2⟩) | (go_at_call 19; refine (V3.out _ (by first | assumption | exact (Below.refl _ _).drew)).mono ?_; rintro e q3 ⟨rfl, hq3⟩) | (go_at_call 12; refine (V4.out _ (by first | assumption | exact (Below.refl _ _).drew)).mono ?_; rintro e q4 ⟨rfl, hq4⟩) | (go_at_call 20; refine (V5.out _ (by first | assumption | exact (Below.refl _ _).drew)).mono ?_; rintro e q5 ⟨rfl, hq5⟩) | (go_at_call 21; refine (V6.out _ (by first | assumption | exact (Below.refl _ _).drew)).mono ?_; rintro e q6 ⟨rfl, hq6⟩) | (go_at_call 15; refine (V7.out _ (by first | assumption | exact (Below.refl _ _).drew)).mono ?_; rintro e q7 ⟨rfl, hq7⟩))
  all_goals go_wp2
  all_goals go_ret
  all_goals exact ⟨rfl, LV.out.two.below.trans (hq7.mono LV.out.two.below.size)⟩
end Go.Proofs.YtmokepjemplfgaaDoor
