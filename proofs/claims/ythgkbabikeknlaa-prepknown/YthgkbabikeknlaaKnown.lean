/-
  PrepKnown: what chapter 13 says of refusals is answered so.
-/
import Derived.Test.YthgkbabikeknlaaRows
import Derived.Test.YthgkbabikeknlaaPrepL4
import Derived.WalkKit
import Derived.ProofKit
import Derived.OpenShut
import Derived.ShutString
import Derived.ChangeOld
import Derived.Below
import Derived.Carry
namespace Go.Proofs.Ythgkbabikeknlaa.prepKnown
open Go.ChangeShapes Go.WideShapes Go.ChangeAt Go.RowKit
open Go.ChangeMaps (open_string shut_string)
set_option linter.unusedVariables false

theorem own : ownKnob Try.prog.godebug = none := by kernel_rfl
theorem laidOut : laidOutB Try.prog = true := by kernel_rfl
/-- A slice of integers that came in: nil, or a row of 'cap' cells, of which the first 'len' are its elements. -/
def IsRow (k : IntKind) (w : World) (a : Option Addr) (len cap : Nat) (zs : List Int) : Prop :=
  (a = none ∧ len = 0 ∧ cap = 0 ∧ zs = []) ∨
  ∃ x, a = some x ∧ len ≤ cap ∧ cap ≤ maxLen ∧ zs.length = cap ∧ (∀ i, i < zs.length → w.cell? (x.add i) = some (.int k (zs.getD i 0))) ∧ ∀ n ∈ zs, (Lit.int k n).wf = true

set_option maxRecDepth 20000 in
set_option maxHeartbeats 16000000 in
theorem walk  (w : World)  :
    Calls Try.prog 3 #[] w fun e w' => e = .returned (.bool true) ∧ Below w.heap.size w w' := by
  have AW : Hid (∀ u, Calls Try.prog 6 #[] u fun e w' => e = .returned (.bool true) ∧ Below u.heap.size u w') := fun u => lawakeP_any u
  have CN : Hid (∀ u, Below w.heap.size w u → Calls Try.prog 7 #[] u fun e w' => ∃ p, e = .returned (.pointer (some ⟨p, 0, none⟩)) ∧ PXF w w' p [] noFoot) := fun u hb => (xpnew u).mono fun e w' ⟨p, h1, X, h2, h3, h4⟩ => ⟨p, h1, PX.f ⟨X, h2, hb.trans (h3.mono hb.size), fun k hk => Nat.le_trans hb.size (h4 k hk)⟩⟩
  have CA : Hid (∀ u t, Calls Try.prog 10 #[.int .i64 t] u fun e w' => e = .returned (.agg #[.int .i64 t, .int .u8 0]) ∧ Below u.heap.size u w') := fun u t => latt_any t u
  obtain ⟨KB, hKB⟩ : ∃ K, K = keyPB := ⟨_, rfl⟩
  have YKB : Hid (Ky KB) := by rw [hKB]; exact keyPB_ky
  have CKB : Hid (∀ u, Calls Try.prog 13 #[.string ⟨#[98]⟩] u fun e w' => e = .returned (kv KB) ∧ Below u.heap.size u w') := fun u => lk_any [98] (by decide) (by decide) _ rfl KB (by rw [hKB]; rfl) u
  obtain ⟨L1, hL1⟩ : ∃ L, L = [knE2] := ⟨_, rfl⟩
  obtain ⟨L2, hL2⟩ : ∃ L, L = [knE1, knE2] := ⟨_, rfl⟩
  have COa : Hid (∀ u p M, Hid (ents M = []) → Hid (PXF w u p M noFoot) → Calls Try.prog 9 #[.int .i64 0, .string ⟨#[97]⟩, .int .i64 5] u fun e w' => ∃ Y, e = .returned (ev Y) ∧ Hid (Calls Try.prog 8 #[.pointer (some ⟨p, 0, none⟩), ev Y] w' fun e w'' => e = .returned (.int .i64 1) ∧ ∃ M', Hid (ents M' = []) ∧ Hid (PXF w w'' p M' noFoot))) := fun u p M hM h => by
    refine (ofadd h.out 0 5 (by omega) (by omega) [97] (by decide) (by decide) _ rfl 1 [] (by rw [hM.out]; exact kn_a)).mono ?_
    rintro e w' ⟨Y, rfl, _, h2⟩
    refine ⟨Y, rfl, h2.out.mono ?_⟩
    rintro e w'' ⟨rfl, M', h3, h4⟩
    exact ⟨rfl, M', h3, h4.out.1⟩
  have COb : Hid (∀ u p M, Hid (ents M = []) → Hid (PXF w u p M noFoot) → Calls Try.prog 9 #[.int .i64 1, .string ⟨#[97]⟩, .int .i64 0] u fun e w' => ∃ Y, e = .returned (ev Y) ∧ Hid (Calls Try.prog 8 #[.pointer (some ⟨p, 0, none⟩), ev Y] w' fun e w'' => e = .returned (.int .i64 1) ∧ ∃ M', Hid (ents M' = []) ∧ Hid (PXF w w'' p M' noFoot))) := fun u p M hM h => by
    refine (ofadd h.out 1 0 (by omega) (by omega) [97] (by decide) (by decide) _ rfl 1 [] (by rw [hM.out]; exact kn_b)).mono ?_
    rintro e w' ⟨Y, rfl, _, h2⟩
    refine ⟨Y, rfl, h2.out.mono ?_⟩
    rintro e w'' ⟨rfl, M', h3, h4⟩
    exact ⟨rfl, M', h3, h4.out.1⟩
  have CO1 : Hid (∀ u p M, Hid (ents M = []) → Hid (PXF w u p M noFoot) → Calls Try.prog 9 #[.int .i64 2, .string ⟨#[97]⟩, .int .i64 5] u fun e w' => ∃ Y, e = .returned (ev Y) ∧ Hid (Calls Try.prog 8 #[.pointer (some ⟨p, 0, none⟩), ev Y] w' fun e w'' => e = .returned (.int .i64 0) ∧ ∃ M', Hid (ents M' = L1) ∧ Hid (PXF w w'' p M' noFoot))) := fun u p M hM h => by
    refine (ofadd h.out 2 5 (by omega) (by omega) [97] (by decide) (by decide) _ rfl 0 L1 (by rw [hM.out]; exact (by rw [hL1]; exact kn_1))).mono ?_
    rintro e w' ⟨Y, rfl, _, h2⟩
    refine ⟨Y, rfl, h2.out.mono ?_⟩
    rintro e w'' ⟨rfl, M', h3, h4⟩
    exact ⟨rfl, M', h3, h4.out.1⟩
  have CO2 : Hid (∀ u p M, Hid (ents M = L1) → Hid (PXF w u p M noFoot) → Calls Try.prog 9 #[.int .i64 1, .string ⟨#[98]⟩, .int .i64 4] u fun e w' => ∃ Y, e = .returned (ev Y) ∧ Hid (Calls Try.prog 8 #[.pointer (some ⟨p, 0, none⟩), ev Y] w' fun e w'' => e = .returned (.int .i64 0) ∧ ∃ M', Hid (ents M' = L2) ∧ Hid (PXF w w'' p M' noFoot))) := fun u p M hM h => by
    refine (ofadd h.out 1 4 (by omega) (by omega) [98] (by decide) (by decide) _ rfl 0 L2 (by rw [hM.out]; exact (by rw [hL1, hL2]; exact kn_2))).mono ?_
    rintro e w' ⟨Y, rfl, _, h2⟩
    refine ⟨Y, rfl, h2.out.mono ?_⟩
    rintro e w'' ⟨rfl, M', h3, h4⟩
    exact ⟨rfl, M', h3, h4.out.1⟩
  have COd : Hid (∀ u p M, Hid (ents M = L2) → Hid (PXF w u p M noFoot) → Calls Try.prog 9 #[.int .i64 2, .string ⟨#[122]⟩, .int .i64 5] u fun e w' => ∃ Y, e = .returned (ev Y) ∧ Hid (Calls Try.prog 8 #[.pointer (some ⟨p, 0, none⟩), ev Y] w' fun e w'' => e = .returned (.int .i64 5) ∧ ∃ M', Hid (ents M' = L2) ∧ Hid (PXF w w'' p M' noFoot))) := fun u p M hM h => by
    refine (ofadd h.out 2 5 (by omega) (by omega) [122] (by decide) (by decide) _ rfl 5 L2 (by rw [hM.out]; exact (by rw [hL2]; exact kn_d))).mono ?_
    rintro e w' ⟨Y, rfl, _, h2⟩
    refine ⟨Y, rfl, h2.out.mono ?_⟩
    rintro e w'' ⟨rfl, M', h3, h4⟩
    exact ⟨rfl, M', h3, h4.out.1⟩
  have COe : Hid (∀ u p M, Hid (ents M = L2) → Hid (PXF w u p M noFoot) → Calls Try.prog 9 #[.int .i64 3, .string ⟨#[98]⟩, .int .i64 5] u fun e w' => ∃ Y, e = .returned (ev Y) ∧ Hid (Calls Try.prog 8 #[.pointer (some ⟨p, 0, none⟩), ev Y] w' fun e w'' => e = .returned (.int .i64 9) ∧ ∃ M', Hid (ents M' = L2) ∧ Hid (PXF w w'' p M' noFoot))) := fun u p M hM h => by
    refine (ofadd h.out 3 5 (by omega) (by omega) [98] (by decide) (by decide) _ rfl 9 L2 (by rw [hM.out]; exact (by rw [hL2]; exact kn_e))).mono ?_
    rintro e w' ⟨Y, rfl, _, h2⟩
    refine ⟨Y, rfl, h2.out.mono ?_⟩
    rintro e w'' ⟨rfl, M', h3, h4⟩
    exact ⟨rfl, M', h3, h4.out.1⟩
  have CC : Hid (∀ u p M, Hid (ents M = []) → Hid (PXF w u p M noFoot) → Calls Try.prog 8 #[.pointer (some ⟨p, 0, none⟩), .agg #[.int .i64 1, .int .i64 0, .int .u8 0, .int .i64 3, .int .u8 0, .slice none 0 0]] u fun e w' => e = .returned (.int .i64 1) ∧ ∃ M', Hid (ents M' = []) ∧ Hid (PXF w w' p M' noFoot)) := fun u p M hM h => by
    refine (fadd h.out ⟨⟨1, 0, 0, 3, 0, []⟩, none, 0⟩ ⟨⟨.inl rfl, fun W hW => by simp at hW⟩, Nat.le_refl _, Nat.zero_le _, ⟨by simp, by simp, by simp, by simp, by simp⟩⟩ 1 [] (by rw [hM.out]; exact kn_c)).mono ?_
    rintro e w' ⟨rfl, M', h3, h4⟩
    exact ⟨rfl, M', h3, h4.out.1⟩
  have CLS : Hid (∀ u p M, Hid (ents M = L2) → Hid (PXF w u p M noFoot) → Calls Try.prog 11 #[.pointer (some ⟨p, 0, none⟩)] u fun e w' => e = .returned (.tuple #[.agg #[.int .i64 4, .int .u8 0], .bool true]) ∧ Below u.heap.size u w') := fun u p M hM h => by
    obtain ⟨X, hX, _⟩ := h.out
    have h9 := pleast_any p M X u hX
    rw [hM.out, hL2, kn_l] at h9
    exact h9
  have CHO : Hid (∀ u p M F, Hid (ents M = L2) → PXF w u p M F → Calls Try.prog 12 #[.pointer (some ⟨p, 0, none⟩), kv KB] u fun e w' => e = .returned (.tuple #[.int .i64 1, .bool true]) ∧ Below u.heap.size u w') := fun u p M F hM h => by
    obtain ⟨X, hX, _⟩ := h
    have h9 := pholder_any p M X KB YKB.out u hX
    obtain ⟨f1, f2⟩ := kn_holdM (M := M) (by rw [hM.out, hL2])
    rw [hKB, f1, f2] at h9
    rw [hKB]
    exact h9
  have CAL : Hid (∀ u p M F, Hid (ents M = L2) → PXF w u p M F → Calls Try.prog 14 #[.pointer (some ⟨p, 0, none⟩)] u fun e w' => ∃ g c, e = .returned (.slice (some ⟨g, 0, none⟩) 2 c) ∧ 2 ≤ c ∧ Hid (u.heap.size ≤ g ∧ g < w'.heap.size ∧ w'.cell? ⟨g, 0, none⟩ = some (.int .i64 1)) ∧ Below u.heap.size u w') := fun u p M F hM h => by
    obtain ⟨X, hX, _⟩ := h
    refine (pall_any p M X u hX).mono ?_
    rintro e w' ⟨⟨a, c, L, rfl, h2⟩, hb⟩
    obtain ⟨g, rfl, hN, hc, h3, h4, h5⟩ := kn_all h2 (by rw [hM.out, hL2])
    rw [hN] at hc
    exact ⟨g, c, by rw [hN], hc, ⟨h3, h4, h5⟩, hb⟩
  have CD1 : Hid (∀ u p M F, Hid (ents M = L2) → PXF w u p M F → Calls Try.prog 15 #[.pointer (some ⟨p, 0, none⟩), .int .i64 1] u fun e w' => ∃ A M', e = .returned (.tuple #[ev A, .bool true]) ∧ Hid (A.e.id = 1) ∧ Hid (ents M' = L1) ∧ Hid (PXF w w' p M' F ∧ ∀ k, F k → w'.heap[k]? = u.heap[k]?)) := fun u p M F hM h => by
    obtain ⟨f1, f2⟩ := kn_hasM (hM.out.trans hL2) 1 kn_s1
    refine (fdrop h 1).mono ?_
    rintro e w' ⟨rfl, h2⟩
    refine ⟨_, _, by rw [f1]; rfl, ?_, ?_, h2⟩
    · show _ = _
      rw [f2 knE1 rfl]; rfl
    · show _ = _
      rw [dropM_e, hM.out, hL2, hL1]; exact kn_dr
  have CD2 : Hid (∀ u p M F, Hid (ents M = L1) → PXF w u p M F → Calls Try.prog 15 #[.pointer (some ⟨p, 0, none⟩), .int .i64 1] u fun e w' => ∃ A M', e = .returned (.tuple #[ev A, .bool false]) ∧ Hid (ents M' = L1) ∧ Hid (PXF w w' p M' F ∧ ∀ k, F k → w'.heap[k]? = u.heap[k]?)) := fun u p M F hM h => by
    obtain ⟨f1, f2⟩ := kn_hasM (hM.out.trans hL1) 1 kn_s2
    refine (fdrop h 1).mono ?_
    rintro e w' ⟨rfl, h2⟩
    refine ⟨_, _, by rw [f1]; rfl, ?_, h2⟩
    show _ = _
    rw [dropM_e, hM.out, hL1]; exact kn_dr2
  have CH2 : Hid (∀ u p M F, Hid (ents M = L1) → PXF w u p M F → Calls Try.prog 16 #[.pointer (some ⟨p, 0, none⟩), .int .i64 2] u fun e w' => (∃ A, e = .returned (.tuple #[ev A, .bool true])) ∧ Below u.heap.size u w') := fun u p M F hM h => by
    obtain ⟨f1, f2⟩ := kn_hasM (hM.out.trans hL1) 2 kn_s3
    obtain ⟨X, hX, _⟩ := h
    refine (phas_any p M X 2 u hX).mono ?_
    rintro e w' ⟨⟨Y, rfl, _⟩, hb⟩
    exact ⟨⟨Y, by rw [f1]; rfl⟩, hb⟩
  have HL1 : Hid (L1 = fillN 10) := by rw [hL1]; rfl
  clear hKB hL1 hL2
  go_enter Try.func3, Try.ntmps3
  go_wp2_with (first | (go_at_call 6; refine (AW.out _).mono ?_; rintro e u0 ⟨rfl, hb0⟩; have B0 : Hid (Below w.heap.size w u0) := hb0; clear hb0 AW) | (have hgo := B0.out; clear hgo; go_at_call 7; refine (CN.out _ B0.out).mono ?_; rintro e u1 ⟨p, rfl, h1⟩; have H1 : Hid (PXF w u1 p [] noFoot) := h1; have HM1 : Hid (ents ([] : List EntM) = []) := rfl; clear h1 B0 CN) | (have hgo := H1.out; clear hgo; go_at_call 9; refine (COa.out _ _ _ HM1 H1).mono ?_; rintro e v1 ⟨Y1, rfl, HA1⟩; clear H1 COa) | (have hgo := HA1.out; clear hgo; go_at_call 8; refine HA1.out.mono ?_; rintro e u2 ⟨rfl, M2, HM2, H2⟩; clear HA1 HM1) | (have hgo := H2.out; clear hgo; go_at_call 9; refine (COb.out _ _ _ HM2 H2).mono ?_; rintro e v2 ⟨Y2, rfl, HA2⟩; clear H2 COb) | (have hgo := HA2.out; clear hgo; go_at_call 8; refine HA2.out.mono ?_; rintro e u3 ⟨rfl, M3, HM3, H3⟩; clear HA2 HM2) | (have hgo := H3.out; clear hgo; go_at_call 10; refine (CA.out _ _).mono ?_; rintro e v3 ⟨rfl, hb⟩; have HB3 : Hid (PXF w v3 p M3 noFoot) := H3.out.past hb; clear hb H3) | (have hgo := HB3.out; clear hgo; go_at_call 8; refine (CC.out _ _ _ HM3 HB3).mono ?_; rintro e u4 ⟨rfl, M4, HM4, H4⟩; clear HB3 HM3 CC) | (have hgo := H4.out; clear hgo; go_at_call 9; refine (CO1.out _ _ _ HM4 H4).mono ?_; rintro e v4 ⟨Y4, rfl, HA4⟩; clear H4 CO1) | (have hgo := HA4.out; clear hgo; go_at_call 8; refine HA4.out.mono ?_; rintro e u5 ⟨rfl, M5, HM5, H5⟩; clear HA4 HM4) | (have hgo := H5.out; clear hgo; go_at_call 9; refine (CO2.out _ _ _ HM5 H5).mono ?_; rintro e v5 ⟨Y5, rfl, HA5⟩; clear H5 CO2) | (have hgo := HA5.out; clear hgo; go_at_call 8; refine HA5.out.mono ?_; rintro e u6 ⟨rfl, M6, HM6, H6⟩; clear HA5 HM5) | (have hgo := H6.out; clear hgo; go_at_call 9; refine (COd.out _ _ _ HM6 H6).mono ?_; rintro e v6 ⟨Y6, rfl, HA6⟩; clear H6 COd) | (have hgo := HA6.out; clear hgo; go_at_call 8; refine HA6.out.mono ?_; rintro e u7 ⟨rfl, M7, HM7, H7⟩; clear HA6 HM6) | (have hgo := H7.out; clear hgo; go_at_call 9; refine (COe.out _ _ _ HM7 H7).mono ?_; rintro e v7 ⟨Y7, rfl, HA7⟩; clear H7 COe) | (have hgo := HA7.out; clear hgo; go_at_call 8; refine HA7.out.mono ?_; rintro e u8 ⟨rfl, M8, HM8, H8⟩; clear HA7 HM7) | (have hgo := H8.out; clear hgo; go_at_call 11; refine (CLS.out _ _ _ HM8 H8).mono ?_; rintro e v8 ⟨rfl, hb⟩; have S1 : Hid (PXF w (v8.alloc (.cells #[.int .i64 4, .int .u8 0] 28)) p M8 (fun j => j = v8.heap.size) ∧ (v8.alloc (.cells #[.int .i64 4, .int .u8 0] 28)).cell? ⟨v8.heap.size, 0, none⟩ = some (.int .i64 4) ∧ (v8.alloc (.cells #[.int .i64 4, .int .u8 0] 28)).cell? ⟨v8.heap.size, 1, none⟩ = some (.int .u8 0)) := ⟨(H8.out.past hb).more ((Below.refl _ _).alloc (Nat.le_refl _) _) (fun j e => .inr ⟨by rw [e]; exact Nat.le_refl _, by rw [e]; simp⟩), by rw [World.cell?_alloc_new]; rfl, by rw [World.cell?_alloc_new]; rfl⟩; clear hb H8 CLS) | (have hgo := S1.out; clear hgo; go_at_call 13; refine (CKB.out _).mono ?_; rintro e x1 ⟨rfl, hb⟩; have S2 : Hid (PXF w x1 p M8 (fun j => j = v8.heap.size) ∧ x1.cell? ⟨v8.heap.size, 0, none⟩ = some (.int .i64 4) ∧ x1.cell? ⟨v8.heap.size, 1, none⟩ = some (.int .u8 0)) := ⟨S1.out.1.past hb, (hb.cell (p := ⟨v8.heap.size, 0, none⟩) (cell_lt S1.out.2.1)).trans S1.out.2.1, (hb.cell (p := ⟨v8.heap.size, 1, none⟩) (cell_lt S1.out.2.1)).trans S1.out.2.2⟩; clear hb S1) | (have hgo := S2.out; clear hgo; go_at_call 12; refine (CHO.out _ _ _ _ HM8 S2.out.1).mono ?_; rintro e x2 ⟨rfl, hb⟩; have S3 : Hid (PXF w x2 p M8 (fun j => j = v8.heap.size) ∧ x2.cell? ⟨v8.heap.size, 0, none⟩ = some (.int .i64 4) ∧ x2.cell? ⟨v8.heap.size, 1, none⟩ = some (.int .u8 0)) := ⟨S2.out.1.past hb, (hb.cell (p := ⟨v8.heap.size, 0, none⟩) (cell_lt S2.out.2.1)).trans S2.out.2.1, (hb.cell (p := ⟨v8.heap.size, 1, none⟩) (cell_lt S2.out.2.1)).trans S2.out.2.2⟩; clear hb S2 CHO) | (have hgo := S3.out; clear hgo; go_at_call 14; refine (CAL.out _ _ _ _ HM8 S3.out.1).mono ?_; rintro e x3 ⟨g, gc, rfl, hgc, hg, hb⟩; have S4 : Hid (PXF w x3 p M8 (fun j => j = v8.heap.size ∨ j = g) ∧ x3.cell? ⟨v8.heap.size, 0, none⟩ = some (.int .i64 4) ∧ x3.cell? ⟨v8.heap.size, 1, none⟩ = some (.int .u8 0) ∧ x3.cell? ⟨g, 0, none⟩ = some (.int .i64 1)) := ⟨S3.out.1.more hb (fun j e => e.imp (fun e => e) (fun e => by rw [e]; exact ⟨hg.out.1, hg.out.2.1⟩)), (hb.cell (p := ⟨v8.heap.size, 0, none⟩) (cell_lt S3.out.2.1)).trans S3.out.2.1, (hb.cell (p := ⟨v8.heap.size, 1, none⟩) (cell_lt S3.out.2.1)).trans S3.out.2.2, hg.out.2.2⟩; clear hb hg S3 CAL) | (have hgo := S4.out; clear hgo; go_at_call 15; refine (CD1.out _ _ _ _ HM8 S4.out.1).mono ?_; rintro e x4 ⟨A, MD, rfl, HAI, HMD, h4⟩; have S5 : Hid (PXF w x4 p MD (fun j => j = v8.heap.size ∨ j = g) ∧ x4.cell? ⟨v8.heap.size, 0, none⟩ = some (.int .i64 4) ∧ x4.cell? ⟨v8.heap.size, 1, none⟩ = some (.int .u8 0) ∧ x4.cell? ⟨g, 0, none⟩ = some (.int .i64 1)) := ⟨h4.out.1, (cell_kept (h4.out.2 v8.heap.size (.inl rfl)) 0).trans S4.out.2.1, (cell_kept (h4.out.2 v8.heap.size (.inl rfl)) 1).trans S4.out.2.2.1, (cell_kept (h4.out.2 g (.inr rfl)) 0).trans S4.out.2.2.2⟩; have hmi := EntMine.made x4 31 zeroE; rw [zeroE_cells] at hmi; have HMI : Hid _ := hmi; clear h4 S4 CD1 hmi) | (have hgo := S5.out; clear hgo; have hgo := HMI.out; clear hgo; refine wpList_store_pent (.tmp 12) (by rfl) _ (by rfl) x4.heap.size zeroE A (by rfl) (by rfl) HMI.out ?_; intro x5 hu; have hb : Below x4.heap.size x4 x5 := hu ▸ below_cells (Nat.le_refl _) ((Below.refl _ _).alloc (Nat.le_refl _) _); have hm : EntMine x5 x4.heap.size A := hu ▸ HMI.out.store; have hc := hm.at_.cells.1; rw [HAI.out] at hc; have T1 : Hid (KnT w x5 p MD v8.heap.size g x4.heap.size) := ⟨S5.out.1.more hb (fun j e => by rcases e with e | e | e; exact .inl (.inl e); exact .inl (.inr e); exact .inr (by rw [e]; exact ⟨Nat.le_refl _, hm.at_.lt⟩)), (hb.cell (p := ⟨v8.heap.size, 0, none⟩) (cell_lt S5.out.2.1)).trans S5.out.2.1, (hb.cell (p := ⟨v8.heap.size, 1, none⟩) (cell_lt S5.out.2.1)).trans S5.out.2.2.1, (hb.cell (p := ⟨g, 0, none⟩) (cell_lt S5.out.2.2.2)).trans S5.out.2.2.2, hc⟩; clear hu HMI S5 hb hm hc) | (have hgo := T1.out; clear hgo; go_at_call 15; refine (CD2.out _ _ _ _ HMD T1.out.t).mono ?_; rintro e x6 ⟨A2, ME, rfl, HME, h6⟩; have T2 : Hid (KnT w x6 p ME v8.heap.size g x4.heap.size) := T1.out.turn h6.out.1 h6.out.2; have hmi := EntMine.made x6 31 zeroE; rw [zeroE_cells] at hmi; have HMI : Hid _ := hmi; clear h6 T1 HMD CD2 hmi) | (have hgo := T2.out; clear hgo; have hgo := HMI.out; clear hgo; refine wpList_store_pent (.tmp 14) (by rfl) _ (by rfl) x6.heap.size zeroE A2 (by rfl) (by rfl) HMI.out ?_; intro x7 hu; have T3 : Hid (KnT w x7 p ME v8.heap.size g x4.heap.size) := T2.out.past (hu ▸ below_cells (Nat.le_refl _) ((Below.refl _ _).alloc (Nat.le_refl _) _)); clear hu HMI T2) | (have hgo := T3.out; clear hgo; go_at_call 16; refine (CH2.out _ _ _ _ HME T3.out.t).mono ?_; rintro e x8 ⟨⟨A3, rfl⟩, hb⟩; have T4 : Hid (KnT w x8 p ME v8.heap.size g x4.heap.size) := T3.out.past hb; have hmi := EntMine.made x8 31 zeroE; rw [zeroE_cells] at hmi; have HMI : Hid _ := hmi; clear hb T3 CH2 hmi) | (have hgo := T4.out; clear hgo; have hgo := HMI.out; clear hgo; refine wpList_store_pent (.tmp 16) (by rfl) _ (by rfl) x8.heap.size zeroE A3 (by rfl) (by rfl) HMI.out ?_; intro x9 hu; have T5 : Hid (KnT w x9 p ME v8.heap.size g x4.heap.size) := T4.out.past (hu ▸ below_cells (Nat.le_refl _) ((Below.refl _ _).alloc (Nat.le_refl _) _)); clear hu HMI T4))
  generalize v8.heap.size = lb at T5 ⊢
  generalize x4.heap.size = xb at T5 ⊢
  rw [HL1.out] at HME
  clear HM8 CKB
  go_loopw [18] (fun iv wr => ∃ (n : Nat) (M : List EntM), iv = .int .i64 n ∧ 10 ≤ n ∧ n ≤ 109 ∧ Hid (ents M = fillN n) ∧ Hid (KnT w wr p M lb g xb)) (fun iv _ => 109 - (intOf iv).toNat)
  case atStart => exact ⟨10, ME, rfl, Nat.le_refl _, by omega, HME, T5⟩
  case round =>
    clear T5 HME
    obtain ⟨n, M, rfl, hn1, hn2, HME, HT⟩ := hrel
    by_cases hlt : n < 109
    · have h1 : (n : Int) < 109 := by omega
      have hn0 : (0 : Int) ≤ (n : Int) := by omega
      have hmod : (n : Int) % 256 = (n : Int) := by omega
      have YKN : Hid (Ky (keyN n)) := keyN_ky (by omega)
      have CF : Hid (∀ u, KnT w u p M lb g xb → Calls Try.prog 8 #[.pointer (some ⟨p, 0, none⟩), .agg #[.int .i64 (n : Int), .int .i64 0, .int .u8 0, .int .i64 5, .int .u8 0, .slice (some ⟨u.heap.size, 0, none⟩) 1 1]] (u.alloc (.cells (encW ⟨keyN n, [], false⟩).toArray 46)) fun e w' => e = .returned (.int .i64 0) ∧ ∃ M', Hid (ents M' = fillN (n + 1)) ∧ Hid (KnT w w' p M' lb g xb)) := fun u h => by
        have hb : Below u.heap.size u (u.alloc (.cells (encW ⟨keyN n, [], false⟩).toArray 46)) := (Below.refl _ _).alloc (Nat.le_refl _) _
        have hat : WrtsAt (u.alloc (.cells (encW ⟨keyN n, [], false⟩).toArray 46)) (some ⟨u.heap.size, 0, none⟩) [⟨keyN n, [], false⟩] := by
          have h8 := wrts_made u [⟨keyN n, [], false⟩] (fun V hV => by simp at hV; rw [hV]; exact ⟨YKN.out, fun z hz => by simp at hz, Nat.zero_le _⟩)
          simpa using h8
        refine (fadd (h.past hb).t ⟨entN n, some ⟨u.heap.size, 0, none⟩, 1⟩ ⟨hat, Nat.le_refl _, by show 1 ≤ 1000000; omega, ⟨by show (-9223372036854775808 : Int) ≤ (n : Int) ∧ (n : Int) ≤ 9223372036854775807; omega, by simp [entN], by simp [entN], by simp [entN], by simp [entN]⟩⟩ 0 (fillN (n + 1)) (by rw [HME.out]; exact kn_fill hn1 hlt)).mono ?_
        rintro e w' ⟨rfl, M', h3, h4⟩
        exact ⟨rfl, M', h3, (h.past hb).turn h4.out.1 h4.out.2⟩
      go_wp2_with (first | (go_at_call 10; refine (CA.out _ _).mono ?_; rintro e y1 ⟨rfl, hb⟩; have HT1 : Hid (KnT w y1 p M lb g xb) := HT.out.past hb; clear hb) | ((with_reducible show wpList _ _ _ (Oper.mk (some 82) _ _ _ _ _ :: _) _ _); refine wpList_build_w1 82 (by rfl) (by rfl) (.tmp 81) (by rfl) (keyN n) YKN.out (by rfl) ?_) | ((with_reducible show wpList _ _ _ (Oper.mk (some 83) _ _ _ _ _ :: _) _ _); refine wpList_build_ws1 83 (by rfl) (by rfl) (.tmp 82) (by rfl) ⟨keyN n, [], false⟩ YKN.out (by rfl) ?_) | (have hgo := HT1.out; clear hgo; go_at_call 8; refine (CF.out _ HT1.out).mono ?_; rintro e y2 ⟨rfl, M3, HM3, HT2⟩; clear HT1))
      go_roundw
      case rel => exact ⟨n + 1, M3, by go_num, by omega, by omega, HM3, HT2⟩
      case measure => simp [intOf]; omega
    · obtain rfl : n = 109 := by omega
      have COF : Hid (∀ u, KnT w u p M lb g xb → Calls Try.prog 9 #[.int .i64 500, .string ⟨#[113]⟩, .int .i64 5] u fun e w' => ∃ Y, e = .returned (ev Y) ∧ Hid (KnT w w' p M lb g xb) ∧ Hid (Calls Try.prog 8 #[.pointer (some ⟨p, 0, none⟩), ev Y] w' fun e w'' => e = .returned (.int .i64 6) ∧ ∃ M', Hid (M'.length = 100) ∧ Hid (KnT w w'' p M' lb g xb))) := fun u h => by
        refine (ofadd h.t 500 5 (by omega) (by omega) [113] (by decide) (by decide) _ rfl 6 (fillN 109) (by rw [HME.out]; exact kn_full)).mono ?_
        rintro e w' ⟨Y, rfl, hb, h2⟩
        refine ⟨Y, rfl, h.past hb.out, h2.out.mono ?_⟩
        rintro e w'' ⟨rfl, M', h3, h4⟩
        refine ⟨rfl, M', ?_, h.turn h4.out.1 h4.out.2⟩
        have h9 := congrArg List.length h3.out
        rw [List.length_map, fill_len] at h9
        exact h9
      have CAE : Hid (∀ u M, Hid (List.length M = 100) → KnT w u p M lb g xb → Calls Try.prog 14 #[.pointer (some ⟨p, 0, none⟩)] u fun e w' => (∃ a c, e = .returned (.slice a 100 c)) ∧ Hid (KnT w w' p M lb g xb)) := fun u M hM h => by
        obtain ⟨X, hX, _⟩ := h.t
        refine (pall_any p M X u hX).mono ?_
        rintro e w' ⟨⟨a, c, L, rfl, _⟩, hb⟩
        exact ⟨⟨a, c, by rw [hM.out]⟩, h.past hb⟩
      go_wp2
      refine wp_region_noPanic ?_
      refine wp_region_held_drew (S := fun u => KnC u lb g xb) (by kernel_rfl) ?_ (fun hHeld => ?_)
      · exact (HT.out.past (Below.refl _ _).drew).c
      refine wpAnyH_take (i := 0) (v := ?_) rfl (by kernel_rfl) (by kernel_rfl) (by kernel_rfl) (fun _ _ _ h => h) (Or.inl ⟨by rfl, ?_⟩) hHeld ?_
      rotate_left
      · intro u hSu
        (go_simp) <;> (with_reducible rfl)
      change wpAnyH _ _ _ _ _ _ _ (Act.put _ (some 86) _) _
      simp only [Act.put, List.setIfInBounds_toArray, List.set_cons_zero, List.set_cons_succ]
      refine wpAnyH_take (i := 1) (v := ?_) rfl (by kernel_rfl) (by kernel_rfl) (by kernel_rfl) (fun _ _ _ h => h) (Or.inl ⟨by rfl, ?_⟩) hHeld ?_
      rotate_left
      · intro u hSu
        (go_simp) <;> (with_reducible rfl)
      change wpAnyH _ _ _ _ _ _ _ (Act.put _ (some 87) _) _
      simp only [Act.put, List.setIfInBounds_toArray, List.set_cons_zero, List.set_cons_succ]
      refine wpAnyH_take (i := 2) (v := ?_) rfl (by kernel_rfl) (by kernel_rfl) (by kernel_rfl) (fun _ _ _ h => h) (Or.inl ⟨by rfl, ?_⟩) hHeld ?_
      rotate_left
      · intro u hSu
        (go_simp) <;> (with_reducible rfl)
      change wpAnyH _ _ _ _ _ _ _ (Act.put _ (some 88) _) _
      simp only [Act.put, List.setIfInBounds_toArray, List.set_cons_zero, List.set_cons_succ]
      refine wpAnyH_take (i := 3) (v := ?_) rfl (by kernel_rfl) (by kernel_rfl) (by kernel_rfl) (fun _ _ _ h => h) (Or.inl ⟨by rfl, ?_⟩) hHeld ?_
      rotate_left
      · intro u hSu
        (go_simp) <;> (with_reducible rfl)
      change wpAnyH _ _ _ _ _ _ _ (Act.put _ (some 89) _) _
      simp only [Act.put, List.setIfInBounds_toArray, List.set_cons_zero, List.set_cons_succ]
      refine wpAnyH_take (i := 4) (v := ?_) rfl (by kernel_rfl) (by kernel_rfl) (by kernel_rfl) (fun _ _ _ h => h) (Or.inl ⟨by rfl, ?_⟩) hHeld ?_
      rotate_left
      · intro u hSu
        (go_simp) <;> (with_reducible rfl)
      change wpAnyH _ _ _ _ _ _ _ (Act.put _ (some 90) _) _
      simp only [Act.put, List.setIfInBounds_toArray, List.set_cons_zero, List.set_cons_succ]
      refine wpAnyH_take (i := 5) (v := ?_) rfl (by kernel_rfl) (by kernel_rfl) (by kernel_rfl) (fun _ _ _ h => h) (Or.inl ⟨by rfl, ?_⟩) hHeld ?_
      rotate_left
      · intro u hSu
        (go_simp) <;> (with_reducible rfl)
      change wpAnyH _ _ _ _ _ _ _ (Act.put _ (some 91) _) _
      simp only [Act.put, List.setIfInBounds_toArray, List.set_cons_zero, List.set_cons_succ]
      refine wpAnyH_take (i := 6) (v := ?_) rfl (by kernel_rfl) (by kernel_rfl) (by kernel_rfl) (fun _ _ _ h => h) (Or.inl ⟨by rfl, ?_⟩) hHeld ?_
      rotate_left
      · intro u hSu
        (go_simp) <;> (with_reducible rfl)
      change wpAnyH _ _ _ _ _ _ _ (Act.put _ (some 92) _) _
      simp only [Act.put, List.setIfInBounds_toArray, List.set_cons_zero, List.set_cons_succ]
      refine wpAnyH_take (i := 7) (v := ?_) rfl (by kernel_rfl) (by kernel_rfl) (by kernel_rfl) (fun _ _ _ h => h) (Or.inl ⟨by rfl, ?_⟩) hHeld ?_
      rotate_left
      · intro u hSu
        (go_simp) <;> (with_reducible rfl)
      change wpAnyH _ _ _ _ _ _ _ (Act.put _ (some 93) _) _
      simp only [Act.put, List.setIfInBounds_toArray, List.set_cons_zero, List.set_cons_succ]
      refine wpAnyH_take (i := 8) (v := ?_) rfl (by kernel_rfl) (by kernel_rfl) (by kernel_rfl) (fun _ _ _ h => h) (Or.inl ⟨by rfl, ?_⟩) hHeld ?_
      rotate_left
      · intro u hSu
        (go_simp) <;> (with_reducible rfl)
      change wpAnyH _ _ _ _ _ _ _ (Act.put _ (some 94) _) _
      simp only [Act.put, List.setIfInBounds_toArray, List.set_cons_zero, List.set_cons_succ]
      refine wpAnyH_take (i := 9) (v := ?_) rfl (by kernel_rfl) (by kernel_rfl) (by kernel_rfl) (fun _ _ _ h => h) (Or.inl ⟨by rfl, ?_⟩) hHeld ?_
      rotate_left
      · intro u hSu
        (go_simp) <;> (with_reducible rfl)
      change wpAnyH _ _ _ _ _ _ _ (Act.put _ (some 95) _) _
      simp only [Act.put, List.setIfInBounds_toArray, List.set_cons_zero, List.set_cons_succ]
      refine wpAnyH_take (i := 10) (v := ?_) rfl (by kernel_rfl) (by kernel_rfl) (by kernel_rfl) (fun _ _ _ h => h) (Or.inl ⟨by rfl, ?_⟩) hHeld ?_
      rotate_left
      · intro u hSu
        (go_simp) <;> (with_reducible rfl)
      change wpAnyH _ _ _ _ _ _ _ (Act.put _ (some 96) _) _
      simp only [Act.put, List.setIfInBounds_toArray, List.set_cons_zero, List.set_cons_succ]
      refine wpAnyH_take (i := 11) (v := ?_) rfl (by kernel_rfl) (by kernel_rfl) (by kernel_rfl) (fun _ _ _ h => h) (Or.inl ⟨by rfl, ?_⟩) hHeld ?_
      rotate_left
      · intro u hSu
        (go_simp) <;> (with_reducible rfl)
      change wpAnyH _ _ _ _ _ _ _ (Act.put _ (some 97) _) _
      simp only [Act.put, List.setIfInBounds_toArray, List.set_cons_zero, List.set_cons_succ]
      refine wpAnyH_take (i := 12) (v := ?_) rfl (by kernel_rfl) (by kernel_rfl) (by kernel_rfl) (fun _ _ _ h => h) (Or.inl ⟨by rfl, ?_⟩) hHeld ?_
      rotate_left
      · intro u hSu
        (go_simp) <;> (with_reducible rfl)
      change wpAnyH _ _ _ _ _ _ _ (Act.put _ (some 98) _) _
      simp only [Act.put, List.setIfInBounds_toArray, List.set_cons_zero, List.set_cons_succ]
      refine wpAnyH_take (i := 13) (v := ?_) rfl (by kernel_rfl) (by kernel_rfl) (by kernel_rfl) (fun _ _ _ h => h) (Or.inl ⟨by rfl, ?_⟩) hHeld ?_
      rotate_left
      · intro u hSu
        (go_simp) <;> (with_reducible rfl)
      change wpAnyH _ _ _ _ _ _ _ (Act.put _ (some 99) _) _
      simp only [Act.put, List.setIfInBounds_toArray, List.set_cons_zero, List.set_cons_succ]
      refine wpAnyH_take (i := 14) (v := ?_) rfl (by kernel_rfl) (by kernel_rfl) (by kernel_rfl) (fun _ _ _ h => h) (Or.inl ⟨by rfl, ?_⟩) hHeld ?_
      rotate_left
      · intro u hSu
        (go_simp) <;> (with_reducible rfl)
      change wpAnyH _ _ _ _ _ _ _ (Act.put _ (some 100) _) _
      simp only [Act.put, List.setIfInBounds_toArray, List.set_cons_zero, List.set_cons_succ]
      refine wpAnyH_take (i := 15) (v := ?_) rfl (by kernel_rfl) (by kernel_rfl) (by kernel_rfl) (fun _ _ _ h => h) (Or.inl ⟨by rfl, ?_⟩) hHeld ?_
      rotate_left
      · intro u hSu
        (go_simp) <;> (with_reducible rfl)
      change wpAnyH _ _ _ _ _ _ _ (Act.put _ (some 101) _) _
      simp only [Act.put, List.setIfInBounds_toArray, List.set_cons_zero, List.set_cons_succ]
      refine wpAnyH_take (i := 16) (v := ?_) rfl (by kernel_rfl) (by kernel_rfl) (by kernel_rfl) (fun _ _ _ h => h) (Or.inl ⟨by rfl, ?_⟩) hHeld ?_
      rotate_left
      · intro u hSu
        (go_simp) <;> (with_reducible rfl)
      change wpAnyH _ _ _ _ _ _ _ (Act.put _ (some 102) _) _
      simp only [Act.put, List.setIfInBounds_toArray, List.set_cons_zero, List.set_cons_succ]
      refine wpAnyH_take (i := 17) (v := ?_) rfl (by kernel_rfl) (by kernel_rfl) (by kernel_rfl) (fun _ _ _ h => h) (Or.inl ⟨by rfl, ?_⟩) hHeld ?_
      rotate_left
      · intro u hSu
        (go_simp) <;> (with_reducible rfl)
      change wpAnyH _ _ _ _ _ _ _ (Act.put _ (some 103) _) _
      simp only [Act.put, List.setIfInBounds_toArray, List.set_cons_zero, List.set_cons_succ]
      refine wpAnyH_take (i := 18) (v := ?_) rfl (by kernel_rfl) (by kernel_rfl) (by kernel_rfl) (fun _ _ _ h => h) (Or.inl ⟨by rfl, ?_⟩) hHeld ?_
      rotate_left
      · intro u hSu
        (go_simp) <;> (with_reducible rfl)
      change wpAnyH _ _ _ _ _ _ _ (Act.put _ (some 104) _) _
      simp only [Act.put, List.setIfInBounds_toArray, List.set_cons_zero, List.set_cons_succ]
      refine wpAnyH_take (i := 19) (v := ?_) rfl (by kernel_rfl) (by kernel_rfl) (by kernel_rfl) (fun _ _ _ h => h) (Or.inl ⟨by rfl, ?_⟩) hHeld ?_
      rotate_left
      · intro u hSu
        (go_simp) <;> (with_reducible rfl)
      change wpAnyH _ _ _ _ _ _ _ (Act.put _ (some 105) _) _
      simp only [Act.put, List.setIfInBounds_toArray, List.set_cons_zero, List.set_cons_succ]
      refine wpAnyH_take (i := 20) (v := ?_) rfl (by kernel_rfl) (by kernel_rfl) (by kernel_rfl) (fun _ _ _ h => h) (Or.inl ⟨by rfl, ?_⟩) hHeld ?_
      rotate_left
      · intro u hSu
        (go_simp) <;> (with_reducible rfl)
      change wpAnyH _ _ _ _ _ _ _ (Act.put _ (some 106) _) _
      simp only [Act.put, List.setIfInBounds_toArray, List.set_cons_zero, List.set_cons_succ]
      refine wpAnyH_take (i := 21) (v := ?_) rfl (by kernel_rfl) (by kernel_rfl) (by kernel_rfl) (fun _ _ _ h => h) (Or.inl ⟨by rfl, ?_⟩) hHeld ?_
      rotate_left
      · intro u hSu
        (go_simp) <;> (with_reducible rfl)
      change wpAnyH _ _ _ _ _ _ _ (Act.put _ (some 107) _) _
      simp only [Act.put, List.setIfInBounds_toArray, List.set_cons_zero, List.set_cons_succ]
      refine wpAnyH_take (i := 22) (v := ?_) rfl (by kernel_rfl) (by kernel_rfl) (by kernel_rfl) (fun _ _ _ h => h) (Or.inl ⟨by rfl, ?_⟩) hHeld ?_
      rotate_left
      · intro u hSu
        obtain ⟨r0, r1, r2, r3⟩ := hSu
        (go_simp) <;> (with_reducible rfl)
      change wpAnyH _ _ _ _ _ _ _ (Act.put _ (some 108) _) _
      simp only [Act.put, List.setIfInBounds_toArray, List.set_cons_zero, List.set_cons_succ]
      refine wpAnyH_ready (rs := [23]) (by kernel_rfl) (by simp) ?_
      refine AllReadyH.cons rfl (fun K hK => ?_) AllReadyH.nil
      go_simp
      go_at_call 10
      refine (CA.out _ _).mono ?_
      rintro e z1 ⟨rfl, hb⟩
      have Z1 : Hid (KnT w z1 p M lb g xb) := (HT.out.past (Below.refl _ _).drew).past hb
      clear hb
      refine hK.out _ _ ?_ (fun hHeld2 => ?_)
      · exact Z1.out.c
      clear hK K hHeld
      have hHeld := hHeld2
      clear hHeld2
      refine wpAnyH_take (i := 24) (v := ?_) rfl (by kernel_rfl) (by kernel_rfl) (by kernel_rfl) (fun _ _ _ h => h) (Or.inl ⟨by rfl, ?_⟩) hHeld ?_
      rotate_left
      · intro u hSu
        (go_simp) <;> (with_reducible rfl)
      change wpAnyH _ _ _ _ _ _ _ (Act.put _ (some 110) _) _
      simp only [Act.put, List.setIfInBounds_toArray, List.set_cons_zero, List.set_cons_succ]
      refine wpAnyH_take (i := 25) (v := ?_) rfl (by kernel_rfl) (by kernel_rfl) (by kernel_rfl) (fun _ _ _ h => h) (Or.inl ⟨by rfl, ?_⟩) hHeld ?_
      rotate_left
      · intro u hSu
        (go_simp) <;> (with_reducible rfl)
      change wpAnyH _ _ _ _ _ _ _ (Act.put _ (some 111) _) _
      simp only [Act.put, List.setIfInBounds_toArray, List.set_cons_zero, List.set_cons_succ]
      refine wpAnyH_take (i := 26) (v := ?_) rfl (by kernel_rfl) (by kernel_rfl) (by kernel_rfl) (fun _ _ _ h => h) (Or.inl ⟨by rfl, ?_⟩) hHeld ?_
      rotate_left
      · intro u hSu
        (go_simp) <;> (with_reducible rfl)
      change wpAnyH _ _ _ _ _ _ _ (Act.put _ (some 112) _) _
      simp only [Act.put, List.setIfInBounds_toArray, List.set_cons_zero, List.set_cons_succ]
      refine wpAnyH_take (i := 27) (v := ?_) rfl (by kernel_rfl) (by kernel_rfl) (by kernel_rfl) (fun _ _ _ h => h) (Or.inl ⟨by rfl, ?_⟩) hHeld ?_
      rotate_left
      · intro u hSu
        (go_simp) <;> (with_reducible rfl)
      change wpAnyH _ _ _ _ _ _ _ (Act.put _ (some 113) _) _
      simp only [Act.put, List.setIfInBounds_toArray, List.set_cons_zero, List.set_cons_succ]
      refine wpAnyH_take (i := 28) (v := ?_) rfl (by kernel_rfl) (by kernel_rfl) (by kernel_rfl) (fun _ _ _ h => h) (Or.inl ⟨by rfl, ?_⟩) hHeld ?_
      rotate_left
      · intro u hSu
        (go_simp) <;> (with_reducible rfl)
      change wpAnyH _ _ _ _ _ _ _ (Act.put _ (some 114) _) _
      simp only [Act.put, List.setIfInBounds_toArray, List.set_cons_zero, List.set_cons_succ]
      refine wpAnyH_take (i := 29) (v := ?_) rfl (by kernel_rfl) (by kernel_rfl) (by kernel_rfl) (fun _ _ _ h => h) (Or.inl ⟨by rfl, ?_⟩) hHeld ?_
      rotate_left
      · intro u hSu
        (go_simp) <;> (with_reducible rfl)
      change wpAnyH _ _ _ _ _ _ _ (Act.put _ (some 115) _) _
      simp only [Act.put, List.setIfInBounds_toArray, List.set_cons_zero, List.set_cons_succ]
      refine wpAnyH_take (i := 30) (v := ?_) rfl (by kernel_rfl) (by kernel_rfl) (by kernel_rfl) (fun _ _ _ h => h) (Or.inl ⟨by rfl, ?_⟩) hHeld ?_
      rotate_left
      · intro u hSu
        (go_simp) <;> (with_reducible rfl)
      change wpAnyH _ _ _ _ _ _ _ (Act.put _ (some 116) _) _
      simp only [Act.put, List.setIfInBounds_toArray, List.set_cons_zero, List.set_cons_succ]
      refine wpAnyH_take (i := 31) (v := ?_) rfl (by kernel_rfl) (by kernel_rfl) (by kernel_rfl) (fun _ _ _ h => h) (Or.inl ⟨by rfl, ?_⟩) hHeld ?_
      rotate_left
      · intro u hSu
        (go_simp) <;> (with_reducible rfl)
      change wpAnyH _ _ _ _ _ _ _ (Act.put _ (some 117) _) _
      simp only [Act.put, List.setIfInBounds_toArray, List.set_cons_zero, List.set_cons_succ]
      refine wpAnyH_take (i := 32) (v := ?_) rfl (by kernel_rfl) (by kernel_rfl) (by kernel_rfl) (fun _ _ _ h => h) (Or.inl ⟨by rfl, ?_⟩) hHeld ?_
      rotate_left
      · intro u hSu
        (go_simp) <;> (with_reducible rfl)
      change wpAnyH _ _ _ _ _ _ _ (Act.put _ (some 118) _) _
      simp only [Act.put, List.setIfInBounds_toArray, List.set_cons_zero, List.set_cons_succ]
      refine wpAnyH_take (i := 33) (v := ?_) rfl (by kernel_rfl) (by kernel_rfl) (by kernel_rfl) (fun _ _ _ h => h) (Or.inl ⟨by rfl, ?_⟩) hHeld ?_
      rotate_left
      · intro u hSu
        (go_simp) <;> (with_reducible rfl)
      change wpAnyH _ _ _ _ _ _ _ (Act.put _ (some 119) _) _
      simp only [Act.put, List.setIfInBounds_toArray, List.set_cons_zero, List.set_cons_succ]
      refine wpAnyH_take (i := 34) (v := ?_) rfl (by kernel_rfl) (by kernel_rfl) (by kernel_rfl) (fun _ _ _ h => h) (Or.inl ⟨by rfl, ?_⟩) hHeld ?_
      rotate_left
      · intro u hSu
        (go_simp) <;> (with_reducible rfl)
      change wpAnyH _ _ _ _ _ _ _ (Act.put _ (some 120) _) _
      simp only [Act.put, List.setIfInBounds_toArray, List.set_cons_zero, List.set_cons_succ]
      refine wpAnyH_take (i := 35) (v := ?_) rfl (by kernel_rfl) (by kernel_rfl) (by kernel_rfl) (fun _ _ _ h => h) (Or.inl ⟨by rfl, ?_⟩) hHeld ?_
      rotate_left
      · intro u hSu
        (go_simp) <;> (with_reducible rfl)
      change wpAnyH _ _ _ _ _ _ _ (Act.put _ (some 121) _) _
      simp only [Act.put, List.setIfInBounds_toArray, List.set_cons_zero, List.set_cons_succ]
      refine wpAnyH_take (i := 36) (v := ?_) rfl (by kernel_rfl) (by kernel_rfl) (by kernel_rfl) (fun _ _ _ h => h) (Or.inl ⟨by rfl, ?_⟩) hHeld ?_
      rotate_left
      · intro u hSu
        (go_simp) <;> (with_reducible rfl)
      change wpAnyH _ _ _ _ _ _ _ (Act.put _ (some 122) _) _
      simp only [Act.put, List.setIfInBounds_toArray, List.set_cons_zero, List.set_cons_succ]
      refine wpAnyH_take (i := 37) (v := ?_) rfl (by kernel_rfl) (by kernel_rfl) (by kernel_rfl) (fun _ _ _ h => h) (Or.inl ⟨by rfl, ?_⟩) hHeld ?_
      rotate_left
      · intro u hSu
        (go_simp) <;> (with_reducible rfl)
      change wpAnyH _ _ _ _ _ _ _ (Act.put _ (some 123) _) _
      simp only [Act.put, List.setIfInBounds_toArray, List.set_cons_zero, List.set_cons_succ]
      refine wpAnyH_take (i := 38) (v := ?_) rfl (by kernel_rfl) (by kernel_rfl) (by kernel_rfl) (fun _ _ _ h => h) (Or.inl ⟨by rfl, ?_⟩) hHeld ?_
      rotate_left
      · intro u hSu
        (go_simp) <;> (with_reducible rfl)
      change wpAnyH _ _ _ _ _ _ _ (Act.put _ (some 124) _) _
      simp only [Act.put, List.setIfInBounds_toArray, List.set_cons_zero, List.set_cons_succ]
      refine wpAnyH_take (i := 39) (v := ?_) rfl (by kernel_rfl) (by kernel_rfl) (by kernel_rfl) (fun _ _ _ h => h) (Or.inl ⟨by rfl, ?_⟩) hHeld ?_
      rotate_left
      · intro u hSu
        (go_simp) <;> (with_reducible rfl)
      change wpAnyH _ _ _ _ _ _ _ (Act.put _ (some 125) _) _
      simp only [Act.put, List.setIfInBounds_toArray, List.set_cons_zero, List.set_cons_succ]
      refine wpAnyH_take (i := 40) (v := ?_) rfl (by kernel_rfl) (by kernel_rfl) (by kernel_rfl) (fun _ _ _ h => h) (Or.inl ⟨by rfl, ?_⟩) hHeld ?_
      rotate_left
      · intro u hSu
        (go_simp) <;> (with_reducible rfl)
      change wpAnyH _ _ _ _ _ _ _ (Act.put _ (some 126) _) _
      simp only [Act.put, List.setIfInBounds_toArray, List.set_cons_zero, List.set_cons_succ]
      refine wpAnyH_take (i := 41) (v := ?_) rfl (by kernel_rfl) (by kernel_rfl) (by kernel_rfl) (fun _ _ _ h => h) (Or.inl ⟨by rfl, ?_⟩) hHeld ?_
      rotate_left
      · intro u hSu
        (go_simp) <;> (with_reducible rfl)
      change wpAnyH _ _ _ _ _ _ _ (Act.put _ (some 127) _) _
      simp only [Act.put, List.setIfInBounds_toArray, List.set_cons_zero, List.set_cons_succ]
      refine wpAnyH_take (i := 42) (v := ?_) rfl (by kernel_rfl) (by kernel_rfl) (by kernel_rfl) (fun _ _ _ h => h) (Or.inl ⟨by rfl, ?_⟩) hHeld ?_
      rotate_left
      · intro u hSu
        obtain ⟨r0, r1, r2, r3⟩ := hSu
        (go_simp) <;> (with_reducible rfl)
      change wpAnyH _ _ _ _ _ _ _ (Act.put _ (some 128) _) _
      simp only [Act.put, List.setIfInBounds_toArray, List.set_cons_zero, List.set_cons_succ]
      refine wpAnyH_take (i := 43) (v := ?_) rfl (by kernel_rfl) (by kernel_rfl) (by kernel_rfl) (fun _ _ _ h => h) (Or.inl ⟨by rfl, ?_⟩) hHeld ?_
      rotate_left
      · intro u hSu
        (go_simp) <;> (with_reducible rfl)
      change wpAnyH _ _ _ _ _ _ _ (Act.put _ (some 129) _) _
      simp only [Act.put, List.setIfInBounds_toArray, List.set_cons_zero, List.set_cons_succ]
      refine wpAnyH_take (i := 44) (v := ?_) rfl (by kernel_rfl) (by kernel_rfl) (by kernel_rfl) (fun _ _ _ h => h) (Or.inl ⟨by rfl, ?_⟩) hHeld ?_
      rotate_left
      · intro u hSu
        (go_simp) <;> (with_reducible rfl)
      change wpAnyH _ _ _ _ _ _ _ (Act.put _ (some 130) _) _
      simp only [Act.put, List.setIfInBounds_toArray, List.set_cons_zero, List.set_cons_succ]
      refine wpAnyH_take (i := 45) (v := ?_) rfl (by kernel_rfl) (by kernel_rfl) (by kernel_rfl) (fun _ _ _ h => h) (Or.inl ⟨by rfl, ?_⟩) hHeld ?_
      rotate_left
      · intro u hSu
        (go_simp) <;> (with_reducible rfl)
      change wpAnyH _ _ _ _ _ _ _ (Act.put _ (some 131) _) _
      simp only [Act.put, List.setIfInBounds_toArray, List.set_cons_zero, List.set_cons_succ]
      refine wpAnyH_take (i := 46) (v := ?_) rfl (by kernel_rfl) (by kernel_rfl) (by kernel_rfl) (fun _ _ _ h => h) (Or.inl ⟨by rfl, ?_⟩) hHeld ?_
      rotate_left
      · intro u hSu
        (go_simp) <;> (with_reducible rfl)
      change wpAnyH _ _ _ _ _ _ _ (Act.put _ (some 132) _) _
      simp only [Act.put, List.setIfInBounds_toArray, List.set_cons_zero, List.set_cons_succ]
      refine wpAnyH_take (i := 47) (v := ?_) rfl (by kernel_rfl) (by kernel_rfl) (by kernel_rfl) (fun _ _ _ h => h) (Or.inl ⟨by rfl, ?_⟩) hHeld ?_
      rotate_left
      · intro u hSu
        (go_simp) <;> (with_reducible rfl)
      change wpAnyH _ _ _ _ _ _ _ (Act.put _ (some 133) _) _
      simp only [Act.put, List.setIfInBounds_toArray, List.set_cons_zero, List.set_cons_succ]
      refine wpAnyH_take (i := 48) (v := ?_) rfl (by kernel_rfl) (by kernel_rfl) (by kernel_rfl) (fun _ _ _ h => h) (Or.inl ⟨by rfl, ?_⟩) hHeld ?_
      rotate_left
      · intro u hSu
        (go_simp) <;> (with_reducible rfl)
      change wpAnyH _ _ _ _ _ _ _ (Act.put _ (some 134) _) _
      simp only [Act.put, List.setIfInBounds_toArray, List.set_cons_zero, List.set_cons_succ]
      refine wpAnyH_take (i := 49) (v := ?_) rfl (by kernel_rfl) (by kernel_rfl) (by kernel_rfl) (fun _ _ _ h => h) (Or.inl ⟨by rfl, ?_⟩) hHeld ?_
      rotate_left
      · intro u hSu
        (go_simp) <;> (with_reducible rfl)
      change wpAnyH _ _ _ _ _ _ _ (Act.put _ (some 135) _) _
      simp only [Act.put, List.setIfInBounds_toArray, List.set_cons_zero, List.set_cons_succ]
      refine wpAnyH_take (i := 50) (v := ?_) rfl (by kernel_rfl) (by kernel_rfl) (by kernel_rfl) (fun _ _ _ h => h) (Or.inl ⟨by rfl, ?_⟩) hHeld ?_
      rotate_left
      · intro u hSu
        obtain ⟨r0, r1, r2, r3⟩ := hSu
        (go_simp) <;> (with_reducible rfl)
      change wpAnyH _ _ _ _ _ _ _ (Act.put _ (some 136) _) _
      simp only [Act.put, List.setIfInBounds_toArray, List.set_cons_zero, List.set_cons_succ]
      refine wpAnyH_take (i := 51) (v := ?_) rfl (by kernel_rfl) (by kernel_rfl) (by kernel_rfl) (fun _ _ _ h => h) (Or.inl ⟨by rfl, ?_⟩) hHeld ?_
      rotate_left
      · intro u hSu
        (go_simp) <;> (with_reducible rfl)
      change wpAnyH _ _ _ _ _ _ _ (Act.put _ (some 137) _) _
      simp only [Act.put, List.setIfInBounds_toArray, List.set_cons_zero, List.set_cons_succ]
      refine wpAnyH_take (i := 52) (v := ?_) rfl (by kernel_rfl) (by kernel_rfl) (by kernel_rfl) (fun _ _ _ h => h) (Or.inl ⟨by rfl, ?_⟩) hHeld ?_
      rotate_left
      · intro u hSu
        (go_simp) <;> (with_reducible rfl)
      change wpAnyH _ _ _ _ _ _ _ (Act.put _ (some 138) _) _
      simp only [Act.put, List.setIfInBounds_toArray, List.set_cons_zero, List.set_cons_succ]
      refine wpAnyH_take (i := 53) (v := ?_) rfl (by kernel_rfl) (by kernel_rfl) (by kernel_rfl) (fun _ _ _ h => h) (Or.inl ⟨by rfl, ?_⟩) hHeld ?_
      rotate_left
      · intro u hSu
        (go_simp) <;> (with_reducible rfl)
      change wpAnyH _ _ _ _ _ _ _ (Act.put _ (some 139) _) _
      simp only [Act.put, List.setIfInBounds_toArray, List.set_cons_zero, List.set_cons_succ]
      refine wpAnyH_take (i := 54) (v := ?_) rfl (by kernel_rfl) (by kernel_rfl) (by kernel_rfl) (fun _ _ _ h => h) (Or.inl ⟨by rfl, ?_⟩) hHeld ?_
      rotate_left
      · intro u hSu
        (go_simp) <;> (with_reducible rfl)
      change wpAnyH _ _ _ _ _ _ _ (Act.put _ (some 140) _) _
      simp only [Act.put, List.setIfInBounds_toArray, List.set_cons_zero, List.set_cons_succ]
      refine wpAnyH_take (i := 55) (v := ?_) rfl (by kernel_rfl) (by kernel_rfl) (by kernel_rfl) (fun _ _ _ h => h) (Or.inl ⟨by rfl, ?_⟩) hHeld ?_
      rotate_left
      · intro u hSu
        (go_simp) <;> (with_reducible rfl)
      change wpAnyH _ _ _ _ _ _ _ (Act.put _ (some 141) _) _
      simp only [Act.put, List.setIfInBounds_toArray, List.set_cons_zero, List.set_cons_succ]
      refine wpAnyH_take (i := 56) (v := ?_) rfl (by kernel_rfl) (by kernel_rfl) (by kernel_rfl) (fun _ _ _ h => h) (Or.inl ⟨by rfl, ?_⟩) hHeld ?_
      rotate_left
      · intro u hSu
        (go_simp) <;> (with_reducible rfl)
      change wpAnyH _ _ _ _ _ _ _ (Act.put _ (some 142) _) _
      simp only [Act.put, List.setIfInBounds_toArray, List.set_cons_zero, List.set_cons_succ]
      refine wpAnyH_take (i := 57) (v := ?_) rfl (by kernel_rfl) (by kernel_rfl) (by kernel_rfl) (fun _ _ _ h => h) (Or.inl ⟨by rfl, ?_⟩) hHeld ?_
      rotate_left
      · intro u hSu
        (go_simp) <;> (with_reducible rfl)
      change wpAnyH _ _ _ _ _ _ _ (Act.put _ (some 143) _) _
      simp only [Act.put, List.setIfInBounds_toArray, List.set_cons_zero, List.set_cons_succ]
      refine wpAnyH_take (i := 58) (v := ?_) rfl (by kernel_rfl) (by kernel_rfl) (by kernel_rfl) (fun _ _ _ h => h) (Or.inl ⟨by rfl, ?_⟩) hHeld ?_
      rotate_left
      · intro u hSu
        (go_simp) <;> (with_reducible rfl)
      change wpAnyH _ _ _ _ _ _ _ (Act.put _ (some 144) _) _
      simp only [Act.put, List.setIfInBounds_toArray, List.set_cons_zero, List.set_cons_succ]
      refine wpAnyH_take (i := 59) (v := ?_) rfl (by kernel_rfl) (by kernel_rfl) (by kernel_rfl) (fun _ _ _ h => h) (Or.inl ⟨by rfl, ?_⟩) hHeld ?_
      rotate_left
      · intro u hSu
        (go_simp) <;> (with_reducible rfl)
      change wpAnyH _ _ _ _ _ _ _ (Act.put _ (some 145) _) _
      simp only [Act.put, List.setIfInBounds_toArray, List.set_cons_zero, List.set_cons_succ]
      refine wpAnyH_take (i := 60) (v := ?_) rfl (by kernel_rfl) (by kernel_rfl) (by kernel_rfl) (fun _ _ _ h => h) (Or.inl ⟨by rfl, ?_⟩) hHeld ?_
      rotate_left
      · intro u hSu
        (go_simp) <;> (with_reducible rfl)
      change wpAnyH _ _ _ _ _ _ _ (Act.put _ (some 146) _) _
      simp only [Act.put, List.setIfInBounds_toArray, List.set_cons_zero, List.set_cons_succ]
      refine wpAnyH_take (i := 61) (v := ?_) rfl (by kernel_rfl) (by kernel_rfl) (by kernel_rfl) (fun _ _ _ h => h) (Or.inl ⟨by rfl, ?_⟩) hHeld ?_
      rotate_left
      · intro u hSu
        (go_simp) <;> (with_reducible rfl)
      change wpAnyH _ _ _ _ _ _ _ (Act.put _ (some 147) _) _
      simp only [Act.put, List.setIfInBounds_toArray, List.set_cons_zero, List.set_cons_succ]
      refine wpAnyH_ready (rs := [62]) (by kernel_rfl) (by simp) ?_
      refine AllReadyH.cons rfl (fun K hK => ?_) AllReadyH.nil
      go_simp
      go_at_call 9
      refine (COF.out _ Z1.out).mono ?_
      rintro e z2 ⟨Y, rfl, Z2, HAD⟩
      refine hK.out _ _ ?_ (fun hHeld2 => ?_)
      · exact Z2.out.c
      clear hK K hHeld
      have hHeld := hHeld2
      clear hHeld2
      refine wpAnyH_ready (rs := [63]) (by kernel_rfl) (by simp) ?_
      refine AllReadyH.cons rfl (fun K hK => ?_) AllReadyH.nil
      go_simp
      go_at_call 8
      refine (HAD.out).mono ?_
      rintro e z3 ⟨rfl, M3, HM3, Z3⟩
      refine hK.out _ _ ?_ (fun hHeld2 => ?_)
      · exact Z3.out.c
      clear hK K hHeld
      have hHeld := hHeld2
      clear hHeld2
      refine wpAnyH_take (i := 64) (v := ?_) rfl (by kernel_rfl) (by kernel_rfl) (by kernel_rfl) (fun _ _ _ h => h) (Or.inl ⟨by rfl, ?_⟩) hHeld ?_
      rotate_left
      · intro u hSu
        (go_simp) <;> (with_reducible rfl)
      change wpAnyH _ _ _ _ _ _ _ (Act.put _ (some 150) _) _
      simp only [Act.put, List.setIfInBounds_toArray, List.set_cons_zero, List.set_cons_succ]
      refine wpAnyH_take (i := 65) (v := ?_) rfl (by kernel_rfl) (by kernel_rfl) (by kernel_rfl) (fun _ _ _ h => h) (Or.inl ⟨by rfl, ?_⟩) hHeld ?_
      rotate_left
      · intro u hSu
        (go_simp) <;> (with_reducible rfl)
      change wpAnyH _ _ _ _ _ _ _ (Act.put _ (some 151) _) _
      simp only [Act.put, List.setIfInBounds_toArray, List.set_cons_zero, List.set_cons_succ]
      refine wpAnyH_take (i := 66) (v := ?_) rfl (by kernel_rfl) (by kernel_rfl) (by kernel_rfl) (fun _ _ _ h => h) (Or.inl ⟨by rfl, ?_⟩) hHeld ?_
      rotate_left
      · intro u hSu
        (go_simp) <;> (with_reducible rfl)
      change wpAnyH _ _ _ _ _ _ _ (Act.put _ (some 152) _) _
      simp only [Act.put, List.setIfInBounds_toArray, List.set_cons_zero, List.set_cons_succ]
      refine wpAnyH_take (i := 67) (v := ?_) rfl (by kernel_rfl) (by kernel_rfl) (by kernel_rfl) (fun _ _ _ h => h) (Or.inl ⟨by rfl, ?_⟩) hHeld ?_
      rotate_left
      · intro u hSu
        (go_simp) <;> (with_reducible rfl)
      change wpAnyH _ _ _ _ _ _ _ (Act.put _ (some 153) _) _
      simp only [Act.put, List.setIfInBounds_toArray, List.set_cons_zero, List.set_cons_succ]
      refine wpAnyH_ready (rs := [68]) (by kernel_rfl) (by simp) ?_
      refine AllReadyH.cons rfl (fun K hK => ?_) AllReadyH.nil
      go_simp
      go_at_call 14
      refine (CAE.out _ _ HM3 Z3.out).mono ?_
      rintro e z4 ⟨⟨ea, ec, rfl⟩, Z4⟩
      refine hK.out _ _ ?_ (fun hHeld2 => ?_)
      · exact Z4.out.c
      clear hK K hHeld
      have hHeld := hHeld2
      clear hHeld2
      refine wpAnyH_take (i := 69) (v := ?_) rfl (by kernel_rfl) (by kernel_rfl) (by kernel_rfl) (fun _ _ _ h => h) (Or.inl ⟨by rfl, ?_⟩) hHeld ?_
      rotate_left
      · intro u hSu
        (go_simp) <;> (with_reducible rfl)
      change wpAnyH _ _ _ _ _ _ _ (Act.put _ (some 155) _) _
      simp only [Act.put, List.setIfInBounds_toArray, List.set_cons_zero, List.set_cons_succ]
      refine wpAnyH_take (i := 70) (v := ?_) rfl (by kernel_rfl) (by kernel_rfl) (by kernel_rfl) (fun _ _ _ h => h) (Or.inl ⟨by rfl, ?_⟩) hHeld ?_
      rotate_left
      · intro u hSu
        (go_simp) <;> (with_reducible rfl)
      change wpAnyH _ _ _ _ _ _ _ (Act.put _ (some 156) _) _
      simp only [Act.put, List.setIfInBounds_toArray, List.set_cons_zero, List.set_cons_succ]
      refine wpAnyH_take (i := 71) (v := ?_) rfl (by kernel_rfl) (by kernel_rfl) (by kernel_rfl) (fun _ _ _ h => h) (Or.inl ⟨by rfl, ?_⟩) hHeld ?_
      rotate_left
      · intro u hSu
        (go_simp) <;> (with_reducible rfl)
      change wpAnyH _ _ _ _ _ _ _ (Act.put _ (some 157) _) _
      simp only [Act.put, List.setIfInBounds_toArray, List.set_cons_zero, List.set_cons_succ]
      refine wpAnyH_take (i := 72) (v := ?_) rfl (by kernel_rfl) (by kernel_rfl) (by kernel_rfl) (fun _ _ _ h => h) (Or.inl ⟨by rfl, ?_⟩) hHeld ?_
      rotate_left
      · intro u hSu
        (go_simp) <;> (with_reducible rfl)
      change wpAnyH _ _ _ _ _ _ _ (Act.put _ (some 0) _) _
      simp only [Act.put, List.setIfInBounds_toArray, List.set_cons_zero]
      refine wpAnyH_done (by kernel_rfl) ?_ _
      refine NoPanic.normal ?_
      go_wp2
      go_ret
      exact ⟨rfl, Z4.out.t.px.below⟩

set_option maxRecDepth 100000 in
theorem lifted (os : Os) (started : os.Started) (H : Type) (enc : TypeId × Value → H) :
    ReturnsInHanded {} Try.checked os 3 .any (Rows.prepKnownSpec.pre6 enc Try.prog Try.f3 Rows.prepKnownRow.domain false) (Rows.prepKnownSpec.post enc Try.prog Try.f3 false true false false) := by
  refine returnsInHanded_of_change (C := Try.checked) own started (by kernel_rfl) Try.func3
    (ChangeSpec.witness6 (enc := enc) (C := Try.checked) false ⟨#[], #[], []⟩ 8 (by kernel_rfl) (by kernel_rfl) (by kernel_rfl) (by kernel_rfl)) ?_
  intro W base args ds gs before hval0 hW hcnd _
  have hval : ∀ (j : Nat) t v, Try.f3.params[j]? = some t → args[j]? = some v → Value.okWide Try.prog W .any base t v := hval0
  have hW' := hW
  obtain ⟨p, q, hA0, hV, rfl, hfz, hnd⟩ := hW
  have hA : DataW.TrodAll enc Try.prog W 0 (fun _ => true) true Try.f3.params.toList args.toList ds p := hA0
  rw [Try.params3] at hA hval
  obtain ⟨hargs, rfl, rfl⟩ := trodAll_nil hA
  obtain rfl : args = #[] := by cases args; simp_all
  obtain ⟨rfl, rfl⟩ := trodVars_none hV
  clear hA0 hval0
  refine (walk  W ).mono fun e W' ⟨he, bel⟩ => ?_
  subst he
  exact ⟨_, rfl, _, _, _, [], _, [], hW', trodAll_mk1 (shut_bool Try.underlying4 _), trodAll_mk0, rfl, bel.frame _, fun h => by cases h⟩

theorem over : Rows.prepKnownRow.holds Try.pinned (OpenSpec.ofChange Rows.prepKnownSpec) :=
  OpenClaim.holds_of_wide 3 Try.f3 rfl rfl rfl rfl rfl rfl rfl ⟨rfl, rfl, rfl, rfl, rfl⟩ rfl rfl rfl rfl rfl (by kernel_rfl) Try.func3 (by kernel_rfl)
    (of_decide_eq_true (by kernel_rfl)) (by unfold Func.isWrapper; first | (rw [if_pos (by decide +kernel)]; kernel_rfl) | (rw [if_neg (by decide +kernel)]; exact ⟨rfl, rfl⟩))
    (fun os started H enc _ => lifted os started H enc)
theorem proved : Rows.PrepKnownSaid := over
#print axioms proved
end Go.Proofs.Ythgkbabikeknlaa.prepKnown
namespace Go.Proofs.Ythgkbabikeknlaa
/-- PrepKnown, as given. -/
theorem prepKnown_holds : Rows.PrepKnownSaid := prepKnown.proved
end Go.Proofs.Ythgkbabikeknlaa
