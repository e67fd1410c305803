/-
  PartKnown: the examples of chapter 16 answer as told (a closed statement).
-/
import Derived.Test.YtileidbdmpeciaaGreatRows
import Derived.Test.YtileidbdmpeciaaGreatAu70
import Derived.WalkKit
import Derived.ProofKit
import Derived.OpenShut
import Derived.ShutString
import Derived.ChangeOld
import Derived.Below
import Derived.Carry
namespace Go.Proofs.YtileidbdmpeciaaGreat.partKnown
open Go.ChangeShapes Go.WideShapes Go.ChangeAt Go.RowKit
open Go.ChangeMaps (open_string shut_string)
set_option linter.unusedVariables false

theorem own : ownKnob Tryz.prog.godebug = none := by kernel_rfl
theorem laidOut : laidOutB Tryz.prog = true := by kernel_rfl
/-- A slice of integers that came in: nil, or a row of 'cap' cells, of which the first 'len' are its elements. -/
def IsRow (k : IntKind) (w : World) (a : Option Addr) (len cap : Nat) (zs : List Int) : Prop :=
  (a = none ∧ len = 0 ∧ cap = 0 ∧ zs = []) ∨
  ∃ x, a = some x ∧ len ≤ cap ∧ cap ≤ maxLen ∧ zs.length = cap ∧ (∀ i, i < zs.length → w.cell? (x.add i) = some (.int k (zs.getD i 0))) ∧ ∀ n ∈ zs, (Lit.int k n).wf = true

set_option maxRecDepth 20000 in
set_option maxHeartbeats 16000000 in
theorem walk  (w : World)  :
    Calls Tryz.prog 3 #[] w fun e w' => e = .returned (.bool true) ∧ Below w.heap.size w w' := by
  have AW : Hid (∀ u, Calls Tryz.prog 8 #[] u fun e w' => e = .returned (.bool true) ∧ Below u.heap.size u w') := fun u => qawake_any u
  have CN : Hid (∀ u, Below w.heap.size w u → Calls Tryz.prog 9 #[] u fun e w' => ∃ p, e = .returned (.pointer (some ⟨p, 0, none⟩)) ∧ PaX w w' p knS0 0) := fun u hb => xanewp hb
  have CA : Hid (∀ u t, Calls Tryz.prog 13 #[.int .i64 t] u fun e w' => e = .returned (.agg #[.int .i64 t, .int .u8 0]) ∧ Below u.heap.size u w') := fun u t => qatt_any t u
  obtain ⟨KA, hKA⟩ : ∃ K, K = kkA := ⟨_, rfl⟩
  have YA : Hid (Ky KA) := by rw [hKA]; exact kkA_ky
  have CKA : Hid (∀ u, Calls Tryz.prog 15 #[.string ⟨#[97]⟩] u fun e w' => e = .returned (kv KA) ∧ Below u.heap.size u w') := fun u => qk_any [97] (by decide) (by decide) _ rfl KA (by rw [hKA]; rfl) u
  obtain ⟨KB, hKB⟩ : ∃ K, K = kkB := ⟨_, rfl⟩
  have YB : Hid (Ky KB) := by rw [hKB]; exact kkB_ky
  have CKB : Hid (∀ u, Calls Tryz.prog 15 #[.string ⟨#[98]⟩] u fun e w' => e = .returned (kv KB) ∧ Below u.heap.size u w') := fun u => qk_any [98] (by decide) (by decide) _ rfl KB (by rw [hKB]; rfl) u
  obtain ⟨S0, hS0⟩ : ∃ S, S = knS0 := ⟨_, rfl⟩
  obtain ⟨S1, hS1⟩ : ∃ S, S = knS1 := ⟨_, rfl⟩
  obtain ⟨S3, hS3⟩ : ∃ S, S = knS3 := ⟨_, rfl⟩
  obtain ⟨S4, hS4⟩ : ∃ S, S = knS4 := ⟨_, rfl⟩
  obtain ⟨S5, hS5⟩ : ∃ S, S = knS5 := ⟨_, rfl⟩
  obtain ⟨S6, hS6⟩ : ∃ S, S = knS6 := ⟨_, rfl⟩
  obtain ⟨S7, hS7⟩ : ∃ S, S = knS7 := ⟨_, rfl⟩
  have P1 : Hid (∀ u p, PaX w u p S0 0 → Calls Tryz.prog 11 #[.int .i64 1, .string ⟨#[97]⟩, .int .i64 0, .int .i64 5] u fun e w' => ∃ Y, e = .returned (ev Y) ∧ Hid (Calls Tryz.prog 10 #[.pointer (some ⟨p, 0, none⟩), ev Y] w' fun e w'' => e = .returned (.int .i64 0) ∧ Hid (PaX w w'' p S1 0))) := fun u p h => ofprep h 1 0 5 (by omega) (by omega) (by omega) [97] (by decide) (by decide) _ rfl kkA rfl 0 S1 (by rw [hS0, hS1]; exact kn16_1)
  have Pa : Hid (∀ u p, PaX w u p S1 0 → Calls Tryz.prog 11 #[.int .i64 2, .string ⟨#[97]⟩, .int .i64 3, .int .i64 6] u fun e w' => ∃ Y, e = .returned (ev Y) ∧ Hid (Calls Tryz.prog 10 #[.pointer (some ⟨p, 0, none⟩), ev Y] w' fun e w'' => e = .returned (.int .i64 9) ∧ Hid (PaX w w'' p S1 0))) := fun u p h => ofprep h 2 3 6 (by omega) (by omega) (by omega) [97] (by decide) (by decide) _ rfl kkA rfl 9 S1 (by rw [hS1]; exact kn16_a)
  have C3 : Hid (∀ u p, PaX w u p S1 0 → Calls Tryz.prog 12 #[.pointer (some ⟨p, 0, none⟩), .int .i64 1, .agg #[.int .i64 7, .int .u8 0]] u fun e w' => e = .returned (.int .i64 0) ∧ Hid (PaX w w' p S3 1)) := fun u p h => by have h9 := xacommit h 1 7 0 ⟨by omega, by omega⟩ (by omega) (by omega); rw [hS1, kn16_3] at h9; rw [hS3]; exact h9
  have Pb : Hid (∀ u p, PaX w u p S3 1 → Calls Tryz.prog 11 #[.int .i64 3, .string ⟨#[97]⟩, .int .i64 6, .int .i64 9] u fun e w' => ∃ Y, e = .returned (ev Y) ∧ Hid (Calls Tryz.prog 10 #[.pointer (some ⟨p, 0, none⟩), ev Y] w' fun e w'' => e = .returned (.int .i64 9) ∧ Hid (PaX w w'' p S3 1))) := fun u p h => ofprep h 3 6 9 (by omega) (by omega) (by omega) [97] (by decide) (by decide) _ rfl kkA rfl 9 S3 (by rw [hS3]; exact kn16_b)
  have Pc : Hid (∀ u p, PaX w u p S3 1 → Calls Tryz.prog 11 #[.int .i64 1, .string ⟨#[98]⟩, .int .i64 6, .int .i64 9] u fun e w' => ∃ Y, e = .returned (ev Y) ∧ Hid (Calls Tryz.prog 10 #[.pointer (some ⟨p, 0, none⟩), ev Y] w' fun e w'' => e = .returned (.int .i64 10) ∧ Hid (PaX w w'' p S3 1))) := fun u p h => ofprep h 1 6 9 (by omega) (by omega) (by omega) [98] (by decide) (by decide) _ rfl kkB rfl 10 S3 (by rw [hS3]; exact kn16_c)
  have Pd : Hid (∀ u p, PaX w u p S3 1 → Calls Tryz.prog 10 #[.pointer (some ⟨p, 0, none⟩), .agg #[.int .i64 4, .int .i64 0, .int .u8 0, .int .i64 0, .int .u8 0, .slice none 0 0]] u fun e w' => e = .returned (.int .i64 1) ∧ Hid (PaX w w' p S3 1)) := fun u p h => by have h9 := xaprep h ⟨⟨4, 0, 0, 0, 0, []⟩, none, 0⟩ (entw_nil u 4 (by omega)); rw [hS3, kn16_d] at h9; rw [hS3]; exact h9
  have P4 : Hid (∀ u p, PaX w u p S3 1 → Calls Tryz.prog 11 #[.int .i64 5, .string ⟨#[97]⟩, .int .i64 7, .int .i64 9] u fun e w' => ∃ Y, e = .returned (ev Y) ∧ Hid (Calls Tryz.prog 10 #[.pointer (some ⟨p, 0, none⟩), ev Y] w' fun e w'' => e = .returned (.int .i64 0) ∧ Hid (PaX w w'' p S4 1))) := fun u p h => ofprep h 5 7 9 (by omega) (by omega) (by omega) [97] (by decide) (by decide) _ rfl kkA rfl 0 S4 (by rw [hS3, hS4]; exact kn16_4)
  have Ce : Hid (∀ u p, PaX w u p S4 1 → Calls Tryz.prog 12 #[.pointer (some ⟨p, 0, none⟩), .int .i64 5, .agg #[.int .i64 8, .int .u8 0]] u fun e w' => e = .returned (.int .i64 1) ∧ Hid (PaX w w' p S4 2)) := fun u p h => by have h9 := xacommit h 5 8 0 ⟨by omega, by omega⟩ (by omega) (by omega); rw [hS4, kn16_e] at h9; rw [hS4]; exact h9
  have CF : Hid (∀ u p, PaX w u p S4 2 → Calls Tryz.prog 14 #[.pointer (some ⟨p, 0, none⟩), kv KA, .agg #[.int .i64 8, .int .u8 0], .int .i64 7] u fun e w' => e = .returned (.tuple #[.string ⟨#[]⟩, .bool false, .int .i64 8]) ∧ Hid (PaX w w' p S4 2)) := fun u p h => by have h9 := xaread h KA YA.out 8 0 7; rw [hS4, hKA, kn16_f] at h9; refine (show _ from by rw [hKA]; exact h9.mono fun e w' ⟨h1, h2⟩ => ⟨h1, h.past h2⟩)
  have CG : Hid (∀ u p, PaX w u p S4 2 → Calls Tryz.prog 16 #[.pointer (some ⟨p, 0, none⟩), kv KA, kv KB, .agg #[.int .i64 9, .int .u8 0], .int .i64 20, .int .i64 5] u fun e w' => (∃ a c, e = .returned (.tuple #[.slice a 0 c, .int .i64 8])) ∧ Hid (PaX w w' p S4 2)) := fun u p h => by
    have h9 := xascan h KA KB YA.out YB.out 9 0 20 5 (by omega)
    rw [hS4, hKA, hKB, kn16_g] at h9
    rw [hKA, hKB]
    refine h9.mono ?_
    rintro e w' ⟨⟨a, c, rfl, _⟩, hb⟩
    exact ⟨⟨a, c, rfl⟩, h.past hb⟩
  have CH : Hid (∀ u p, PaX w u p S4 2 → Calls Tryz.prog 16 #[.pointer (some ⟨p, 0, none⟩), kv KA, kv KB, .agg #[.int .i64 8, .int .u8 0], .int .i64 20, .int .i64 5] u fun e w' => (∃ a c, e = .returned (.tuple #[.slice a 1 c, .int .i64 0])) ∧ Hid (PaX w w' p S4 2)) := fun u p h => by
    have h9 := xascan h KA KB YA.out YB.out 8 0 20 5 (by omega)
    rw [hS4, hKA, hKB, kn16_h] at h9
    rw [hKA, hKB]
    refine h9.mono ?_
    rintro e w' ⟨⟨a, c, rfl, _⟩, hb⟩
    exact ⟨⟨a, c, rfl⟩, h.past hb⟩
  have Ai : Hid (∀ u p, PaX w u p S4 2 → Calls Tryz.prog 17 #[.pointer (some ⟨p, 0, none⟩), .int .i64 5] u fun e w' => e = .returned (.int .i64 0) ∧ Hid (PaX w w' p S5 3)) := fun u p h => by have h9 := xaabort h 5 ⟨by omega, by omega⟩ (by omega); rw [hS4, kn16_i] at h9; rw [hS5]; exact h9
  have Cj : Hid (∀ u p, PaX w u p S5 3 → Calls Tryz.prog 12 #[.pointer (some ⟨p, 0, none⟩), .int .i64 5, .agg #[.int .i64 9, .int .u8 0]] u fun e w' => e = .returned (.int .i64 10) ∧ Hid (PaX w w' p S5 4)) := fun u p h => by have h9 := xacommit h 5 9 0 ⟨by omega, by omega⟩ (by omega) (by omega); rw [hS5, kn16_j] at h9; rw [hS5]; exact h9
  have Al : Hid (∀ u p, PaX w u p S5 4 → Calls Tryz.prog 17 #[.pointer (some ⟨p, 0, none⟩), .int .i64 1] u fun e w' => e = .returned (.int .i64 10) ∧ Hid (PaX w w' p S5 5)) := fun u p h => by have h9 := xaabort h 1 ⟨by omega, by omega⟩ (by omega); rw [hS5, kn16_l] at h9; rw [hS5]; exact h9
  have Cm : Hid (∀ u p, PaX w u p S5 5 → Calls Tryz.prog 12 #[.pointer (some ⟨p, 0, none⟩), .int .i64 9, .agg #[.int .i64 9, .int .u8 0]] u fun e w' => e = .returned (.int .i64 4) ∧ Hid (PaX w w' p S5 6)) := fun u p h => by have h9 := xacommit h 9 9 0 ⟨by omega, by omega⟩ (by omega) (by omega); rw [hS5, kn16_m] at h9; rw [hS5]; exact h9
  have An : Hid (∀ u p, PaX w u p S5 6 → Calls Tryz.prog 17 #[.pointer (some ⟨p, 0, none⟩), .int .i64 9] u fun e w' => e = .returned (.int .i64 0) ∧ Hid (PaX w w' p S6 7)) := fun u p h => by have h9 := xaabort h 9 ⟨by omega, by omega⟩ (by omega); rw [hS5, kn16_n] at h9; rw [hS6]; exact h9
  have Po : Hid (∀ u p, PaX w u p S6 7 → Calls Tryz.prog 11 #[.int .i64 9, .string ⟨#[122]⟩, .int .i64 0, .int .i64 1] u fun e w' => ∃ Y, e = .returned (ev Y) ∧ Hid (Calls Tryz.prog 10 #[.pointer (some ⟨p, 0, none⟩), ev Y] w' fun e w'' => e = .returned (.int .i64 10) ∧ Hid (PaX w w'' p S6 7))) := fun u p h => ofprep h 9 0 1 (by omega) (by omega) (by omega) [122] (by decide) (by decide) _ rfl kkZ rfl 10 S6 (by rw [hS6]; exact kn16_o)
  have Lq : Hid (∀ u p, PaX w u p S6 7 → Calls Tryz.prog 18 #[.pointer (some ⟨p, 0, none⟩), .agg #[.int .i64 9, .int .i64 0, .int .i64 0, .int .u8 0, .int .i64 0, .int .u8 0, .slice none 0 0, .bool false, .slice none 0 0]] u fun e w' => e = .returned (.int .i64 3) ∧ Hid (PaX w w' p S6 8)) := fun u p h => by have h9 := xaplay h ⟨knR1, none, 0, none, 0⟩ (rcw_nil u 9 0 (by omega) (by omega)) (by omega); rw [hS6, kn16_q] at h9; rw [hS6]; exact h9
  have Lr : Hid (∀ u p, PaX w u p S6 8 → Calls Tryz.prog 18 #[.pointer (some ⟨p, 0, none⟩), .agg #[.int .i64 3, .int .i64 8, .int .i64 0, .int .u8 0, .int .i64 0, .int .u8 0, .slice none 0 0, .bool false, .slice none 0 0]] u fun e w' => e = .returned (.int .i64 0) ∧ Hid (PaX w w' p S7 9)) := fun u p h => by have h9 := xaplay h ⟨knR2, none, 0, none, 0⟩ (rcw_nil u 3 8 (by omega) (by omega)) (by omega); rw [hS6, kn16_r] at h9; rw [hS7]; exact h9
  have Ts : Hid (∀ u p, PaX w u p S7 9 → Calls Tryz.prog 19 #[.pointer (some ⟨p, 0, none⟩), .int .i64 8] u fun e w' => e = .returned (.int .i64 3) ∧ Hid (PaX w w' p S7 9)) := fun u p h => by have h9 := xastate h 8 ⟨by omega, by omega⟩; rw [hS7, kn16_s] at h9; exact h9.mono fun e w' ⟨h1, h2⟩ => ⟨h1, h.past h2⟩
  have Tt : Hid (∀ u p, PaX w u p S7 9 → Calls Tryz.prog 19 #[.pointer (some ⟨p, 0, none⟩), .int .i64 77] u fun e w' => e = .returned (.int .i64 0) ∧ Hid (PaX w w' p S7 9)) := fun u p h => by have h9 := xastate h 77 ⟨by omega, by omega⟩; rw [hS7, kn16_t] at h9; exact h9.mono fun e w' ⟨h1, h2⟩ => ⟨h1, h.past h2⟩
  have Pu : Hid (∀ u p, PaX w u p S7 9 → Calls Tryz.prog 20 #[.pointer (some ⟨p, 0, none⟩)] u fun e w' => (∃ a c, e = .returned (.slice a 0 c)) ∧ Hid (PaX w w' p S7 9)) := fun u p h => by have h9 := xaprepared h; rw [hS7, kn16_u] at h9; exact h9.mono fun e w' ⟨h1, h2⟩ => ⟨h1, h.past h2⟩
  have H0S : Hid (S0 = knS0) := hS0
  clear hKA hKB hS0 hS1 hS3 hS4 hS5 hS6 hS7
  go_enter Tryz.func3, Tryz.ntmps3
  go_wp2_with (first | (go_at_call 8; refine (AW.out _).mono ?_; rintro e u0 ⟨rfl, hb0⟩; have B0 : Hid (Below w.heap.size w u0) := hb0; clear hb0 AW) | (have hgo := B0.out; clear hgo; go_at_call 9; refine (CN.out _ B0.out).mono ?_; rintro e u1 ⟨p, rfl, h1⟩; have H1 : Hid (PaX w u1 p S0 0) := (by rw [H0S.out]; exact h1); clear h1 B0 CN) | (have hgo := H1.out; clear hgo; go_at_call 11; refine (P1.out _ _ H1.out).mono ?_; rintro e v1 ⟨Y1, rfl, G1⟩; clear H1 P1) | (have hgo := G1.out; clear hgo; go_at_call 10; refine G1.out.mono ?_; rintro e u2 ⟨rfl, H2⟩; clear G1) | (have hgo := H2.out; clear hgo; go_at_call 11; refine (Pa.out _ _ H2.out).mono ?_; rintro e v2 ⟨Y2, rfl, G2⟩; clear H2 Pa) | (have hgo := G2.out; clear hgo; go_at_call 10; refine G2.out.mono ?_; rintro e u3 ⟨rfl, H3⟩; clear G2) | (have hgo := H3.out; clear hgo; go_at_call 13; refine (CA.out _ _).mono ?_; rintro e v3 ⟨rfl, hb⟩; have G3 : Hid (PaX w v3 p S1 0) := H3.out.past hb; clear hb H3) | (have hgo := G3.out; clear hgo; go_at_call 12; refine (C3.out _ _ G3.out).mono ?_; rintro e u4 ⟨rfl, H4⟩; clear G3 C3) | (have hgo := H4.out; clear hgo; go_at_call 11; refine (Pb.out _ _ H4.out).mono ?_; rintro e v4 ⟨Y4, rfl, G4⟩; clear H4 Pb) | (have hgo := G4.out; clear hgo; go_at_call 10; refine G4.out.mono ?_; rintro e u5 ⟨rfl, H5⟩; clear G4) | (have hgo := H5.out; clear hgo; go_at_call 11; refine (Pc.out _ _ H5.out).mono ?_; rintro e v5 ⟨Y5, rfl, G5⟩; clear H5 Pc) | (have hgo := G5.out; clear hgo; go_at_call 10; refine G5.out.mono ?_; rintro e u6 ⟨rfl, H6⟩; clear G5) | (have hgo := H6.out; clear hgo; go_at_call 10; refine (Pd.out _ _ H6.out).mono ?_; rintro e u7 ⟨rfl, H7⟩; clear H6 Pd) | (have hgo := H7.out; clear hgo; go_at_call 11; refine (P4.out _ _ H7.out).mono ?_; rintro e v7 ⟨Y7, rfl, G7⟩; clear H7 P4) | (have hgo := G7.out; clear hgo; go_at_call 10; refine G7.out.mono ?_; rintro e u8 ⟨rfl, H8⟩; clear G7) | (have hgo := H8.out; clear hgo; go_at_call 13; refine (CA.out _ _).mono ?_; rintro e v8 ⟨rfl, hb⟩; have G8 : Hid (PaX w v8 p S4 1) := H8.out.past hb; clear hb H8) | (have hgo := G8.out; clear hgo; go_at_call 12; refine (Ce.out _ _ G8.out).mono ?_; rintro e u9 ⟨rfl, H9⟩; clear G8 Ce) | (have hgo := H9.out; clear hgo; go_at_call 15; refine (CKA.out _).mono ?_; rintro e zK9 ⟨rfl, hb⟩; have K9 : Hid (PaX w zK9 p S4 2) := H9.out.past hb; clear hb H9) | (have hgo := K9.out; clear hgo; go_at_call 13; refine (CA.out _ _).mono ?_; rintro e zGf ⟨rfl, hb⟩; have Gf : Hid (PaX w zGf p S4 2) := K9.out.past hb; clear hb K9) | (have hgo := Gf.out; clear hgo; go_at_call 14; refine (CF.out _ _ Gf.out).mono ?_; rintro e u10 ⟨rfl, H10⟩; clear Gf CF) | (have hgo := H10.out; clear hgo; go_at_call 15; refine (CKA.out _).mono ?_; rintro e zKag ⟨rfl, hb⟩; have Kag : Hid (PaX w zKag p S4 2) := H10.out.past hb; clear hb H10) | (have hgo := Kag.out; clear hgo; go_at_call 15; refine (CKB.out _).mono ?_; rintro e zKbg ⟨rfl, hb⟩; have Kbg : Hid (PaX w zKbg p S4 2) := Kag.out.past hb; clear hb Kag) | (have hgo := Kbg.out; clear hgo; go_at_call 13; refine (CA.out _ _).mono ?_; rintro e zGg ⟨rfl, hb⟩; have Gg : Hid (PaX w zGg p S4 2) := Kbg.out.past hb; clear hb Kbg) | (have hgo := Gg.out; clear hgo; go_at_call 16; refine (CG.out _ _ Gg.out).mono ?_; rintro e u11 ⟨⟨ag, cg, rfl⟩, H11⟩; clear Gg CG) | (have hgo := H11.out; clear hgo; go_at_call 15; refine (CKA.out _).mono ?_; rintro e zKah ⟨rfl, hb⟩; have Kah : Hid (PaX w zKah p S4 2) := H11.out.past hb; clear hb H11) | (have hgo := Kah.out; clear hgo; go_at_call 15; refine (CKB.out _).mono ?_; rintro e zKbh ⟨rfl, hb⟩; have Kbh : Hid (PaX w zKbh p S4 2) := Kah.out.past hb; clear hb Kah) | (have hgo := Kbh.out; clear hgo; go_at_call 13; refine (CA.out _ _).mono ?_; rintro e zGh ⟨rfl, hb⟩; have Gh : Hid (PaX w zGh p S4 2) := Kbh.out.past hb; clear hb Kbh) | (have hgo := Gh.out; clear hgo; go_at_call 16; refine (CH.out _ _ Gh.out).mono ?_; rintro e u12 ⟨⟨ah, ch, rfl⟩, H12⟩; clear Gh CH) | (have hgo := H12.out; clear hgo; go_at_call 17; refine (Ai.out _ _ H12.out).mono ?_; rintro e u13 ⟨rfl, H13⟩; clear H12 Ai) | (have hgo := H13.out; clear hgo; go_at_call 13; refine (CA.out _ _).mono ?_; rintro e v13 ⟨rfl, hb⟩; have G13 : Hid (PaX w v13 p S5 3) := H13.out.past hb; clear hb H13) | (have hgo := G13.out; clear hgo; go_at_call 12; refine (Cj.out _ _ G13.out).mono ?_; rintro e u14 ⟨rfl, H14⟩; clear G13 Cj) | (have hgo := H14.out; clear hgo; go_at_call 17; refine (Al.out _ _ H14.out).mono ?_; rintro e u15 ⟨rfl, H15⟩; clear H14 Al) | (have hgo := H15.out; clear hgo; go_at_call 13; refine (CA.out _ _).mono ?_; rintro e v15 ⟨rfl, hb⟩; have G15 : Hid (PaX w v15 p S5 5) := H15.out.past hb; clear hb H15) | (have hgo := G15.out; clear hgo; go_at_call 12; refine (Cm.out _ _ G15.out).mono ?_; rintro e u16 ⟨rfl, H16⟩; clear G15 Cm) | (have hgo := H16.out; clear hgo; go_at_call 17; refine (An.out _ _ H16.out).mono ?_; rintro e u17 ⟨rfl, H17⟩; clear H16 An) | (have hgo := H17.out; clear hgo; go_at_call 11; refine (Po.out _ _ H17.out).mono ?_; rintro e v17 ⟨Y17, rfl, G17⟩; clear H17 Po) | (have hgo := G17.out; clear hgo; go_at_call 10; refine G17.out.mono ?_; rintro e u18 ⟨rfl, H18⟩; clear G17) | (have hgo := H18.out; clear hgo; go_at_call 18; refine (Lq.out _ _ H18.out).mono ?_; rintro e u19 ⟨rfl, H19⟩; clear H18 Lq) | (have hgo := H19.out; clear hgo; go_at_call 18; refine (Lr.out _ _ H19.out).mono ?_; rintro e u20 ⟨rfl, H20⟩; clear H19 Lr) | (have hgo := H20.out; clear hgo; go_at_call 19; refine (Ts.out _ _ H20.out).mono ?_; rintro e u21 ⟨rfl, H21⟩; clear H20 Ts) | (have hgo := H21.out; clear hgo; go_at_call 19; refine (Tt.out _ _ H21.out).mono ?_; rintro e u22 ⟨rfl, H22⟩; clear H21 Tt) | (have hgo := H22.out; clear hgo; go_at_call 20; refine (Pu.out _ _ H22.out).mono ?_; rintro e u23 ⟨⟨ua, uc, rfl⟩, H23⟩; clear H22 Pu))
  go_ret
  exact ⟨rfl, H23.out.below⟩

set_option maxRecDepth 100000 in
theorem lifted (os : Os) (started : os.Started) (H : Type) (enc : TypeId × Value → H) :
    ReturnsInHanded {} Tryz.checked os 3 .any (Rows.partKnownSpec.pre6 enc Tryz.prog Tryz.f3 Rows.partKnownRow.domain false) (Rows.partKnownSpec.post enc Tryz.prog Tryz.f3 false true false false) := by
  refine returnsInHanded_of_change (C := Tryz.checked) own started (by kernel_rfl) Tryz.func3
    (ChangeSpec.witness6 (enc := enc) (C := Tryz.checked) false ⟨#[], #[], []⟩ 8 (by kernel_rfl) (by kernel_rfl) (by kernel_rfl) (by kernel_rfl)) ?_
  intro W base args ds gs before hval0 hW hcnd _
  have hval : ∀ (j : Nat) t v, Tryz.f3.params[j]? = some t → args[j]? = some v → Value.okWide Tryz.prog W .any base t v := hval0
  have hW' := hW
  obtain ⟨p, q, hA0, hV, rfl, hfz, hnd⟩ := hW
  have hA : DataW.TrodAll enc Tryz.prog W 0 (fun _ => true) true Tryz.f3.params.toList args.toList ds p := hA0
  rw [Tryz.params3] at hA hval
  obtain ⟨hargs, rfl, rfl⟩ := trodAll_nil hA
  obtain rfl : args = #[] := by cases args; simp_all
  obtain ⟨rfl, rfl⟩ := trodVars_none hV
  clear hA0 hval0
  refine (walk  W ).mono fun e W' ⟨he, bel⟩ => ?_
  subst he
  exact ⟨_, rfl, _, _, _, [], _, [], hW', trodAll_mk1 (shut_bool Tryz.underlying4 _), trodAll_mk0, rfl, bel.frame _, fun h => by cases h⟩

theorem over : Rows.partKnownRow.holds Tryz.pinned (OpenSpec.ofChange Rows.partKnownSpec) :=
  OpenClaim.holds_of_wide 3 Tryz.f3 rfl rfl rfl rfl rfl rfl rfl ⟨rfl, rfl, rfl, rfl, rfl⟩ rfl rfl rfl rfl rfl (by kernel_rfl) Tryz.func3 (by kernel_rfl)
    (of_decide_eq_true (by kernel_rfl)) (by unfold Func.isWrapper; first | (rw [if_pos (by decide +kernel)]; kernel_rfl) | (rw [if_neg (by decide +kernel)]; exact ⟨rfl, rfl⟩))
    (fun os started H enc _ => lifted os started H enc)
theorem proved : Rows.PartKnownSaid := over
#print axioms proved
end Go.Proofs.YtileidbdmpeciaaGreat.partKnown
namespace Go.Proofs.YtileidbdmpeciaaGreat
/-- PartKnown, as given. -/
theorem partKnown_holds : Rows.PartKnownSaid := partKnown.proved
end Go.Proofs.YtileidbdmpeciaaGreat
