/-
  WalOnce: what is added in one call is there whole or not at all, for all lists of records.
-/
import Derived.Test.YtlfmhdljldbjmaaRows
import Derived.Test.YtlfmhdljldbjmaaWalPlay
import Derived.Test.YtlfmhdljldbjmaaBase
import Derived.WalkKit
import Derived.ProofKit
import Derived.OpenShut
import Derived.ShutString
import Derived.ChangeOld
import Derived.Below
import Derived.Carry
import Derived.Deep.QuietTactic
import Derived.BigQuiet
namespace Go.Proofs.Ytlfmhdljldbjmaa.walOnce
open Go.ChangeShapes Go.WideShapes Go.ChangeAt Go.RowKit
open Go.ChangeMaps (open_string shut_string)
set_option linter.unusedVariables false

theorem own : ownKnob Try.prog.godebug = none := by kernel_rfl
theorem laidOut : laidOutB Try.prog = true := by kernel_rfl
/-- A slice of integers that came in: nil, or a row of 'cap' cells, of which the first 'len' are its elements. -/
def IsRow (k : IntKind) (w : World) (a : Option Addr) (len cap : Nat) (zs : List Int) : Prop :=
  (a = none ∧ len = 0 ∧ cap = 0 ∧ zs = []) ∨
  ∃ x, a = some x ∧ len ≤ cap ∧ cap ≤ maxLen ∧ zs.length = cap ∧ (∀ i, i < zs.length → w.cell? (x.add i) = some (.int k (zs.getD i 0))) ∧ ∀ n ∈ zs, (Lit.int k n).wf = true

theorem sum_take (R : List (List Int)) (i : Nat) (r : List Int) (h : R[i]? = some r) : (frames (R.take (i + 1))).length = (frames (R.take i)).length + 12 + r.length := by
  rw [List.take_add_one, h, frames_app]
  simp [frames, frame_len]
  omega
set_option maxHeartbeats 4000000 in
set_option maxRecDepth 4000 in
theorem walk (a0 : Int) (a1 : Option Addr) (len1 cap1 : Nat) (z1 : List (List Int)) (w : World) (w0 : (Lit.int .i64 a0).wf = true) (l1 : z1.length = len1) (w1 : RowsOf w a1 cap1 z1) :
    Calls Try.prog 7 #[.int .i64 a0, .slice a1 len1 cap1] w fun e w' => e = .returned (.bool true) ∧ Below w.heap.size w w' := by
  obtain ⟨r0, r1⟩ := bounds_i64 w0
  clear w0
  have HRW : Hid (RowsOf w a1 cap1 z1) := w1
  have HLN : Hid (z1.length = len1) := l1
  clear w1 l1
  by_cases h64 : a0 < 64
  · have b1 : decide (a0 < 64) = true := decide_eq_true h64
    go_enter Try.func7, Try.ntmps7
    go_wp2_with (go_at_call 9; refine (awake_any _).mono ?_; rintro e w1 ⟨rfl, hb⟩)
    go_ret
    exact ⟨rfl, hb⟩
  have b1 : decide (a0 < 64) = false := decide_eq_false h64
  by_cases h2k : 2000 < a0
  · have b2 : decide (2000 < a0) = true := decide_eq_true h2k
    go_enter Try.func7, Try.ntmps7
    go_wp2_with (go_at_call 9; refine (awake_any _).mono ?_; rintro e w1 ⟨rfl, hb⟩)
    go_ret
    exact ⟨rfl, hb⟩
  have b2 : decide (2000 < a0) = false := decide_eq_false h2k
  by_cases h20 : 20 < len1
  · have b3 : decide ((20 : Int) < (len1 : Int)) = true := decide_eq_true (by omega)
    go_enter Try.func7, Try.ntmps7
    go_wp2_with (go_at_call 9; refine (awake_any _).mono ?_; rintro e w1 ⟨rfl, hb⟩)
    go_ret
    exact ⟨rfl, hb⟩
  have b3 : decide ((20 : Int) < (len1 : Int)) = false := decide_eq_false (by omega)
  go_enter Try.func7, Try.ntmps7
  go_wp2_with (go_at_call 9; refine (awake_any _).mono ?_; rintro e wa ⟨rfl, hb⟩; have BA : Hid (Below w.heap.size w wa) := hb; clear hb)
  go_loopw [5, 6] (fun sv iv wr => ∃ i m : Nat, sv = .int .i64 m ∧ iv = .int .i64 i ∧ i ≤ len1 ∧ m ≤ i * 212 ∧ wr = wa ∧ Hid (m = (frames (z1.take i)).length) ∧ Hid (∀ r ∈ z1.take i, r.length ≤ 200)) (fun _ iv _ => len1 - (intOf iv).toNat)
  case atStart => exact ⟨0, 0, rfl, rfl, Nat.zero_le _, Nat.zero_le _, rfl, by simp [frames, Hid], fun r hr => by simp at hr⟩
  case round =>
    obtain ⟨i, m, rfl, rfl, hi, hm, rfl, HS, HT⟩ := hrel
    by_cases hlt : i < len1
    · have hil : i < z1.length := by rw [HLN.out]; exact hlt
      obtain ⟨rb, ro, x, xc, hra, hcl, hrx, hnx⟩ := (HRW.out.below BA.out (Nat.le_refl _)).at hil
      subst hra
      obtain ⟨RS, hRS⟩ : ∃ RS, RS = z1.getD i [] := ⟨_, rfl⟩
      rw [← hRS] at hcl
      have HRS : Hid (z1[i]? = some RS) := by show _ = _; rw [hRS]; simp [List.getD, hil]
      obtain ⟨rn, hrn⟩ : ∃ rn, rn = RS.length := ⟨_, rfl⟩
      have HRL : Hid (RS.length = rn) := hrn.symm
      rw [← hrn] at hcl
      clear hrx hnx hRS hrn
      by_cases hbig : 200 < rn
      · have bb : decide ((200 : Int) < (rn : Int)) = true := decide_eq_true (by omega)
        go_wp2
        go_ret
        exact ⟨rfl, BA.out⟩
      · have bb : decide ((200 : Int) < (rn : Int)) = false := decide_eq_false (by omega)
        go_wp2
        go_roundw
        case rel =>
          refine ⟨i + 1, m + 12 + rn, by simp, by simp, by omega, by omega, trivial, ?_, fun r hr => ?_⟩
          · show _ = _
            rw [sum_take z1 i RS HRS.out, ← HS.out, HRL.out]
          · rw [List.take_add_one, HRS.out] at hr
            rcases List.mem_append.1 hr with hr | hr
            · exact HT.out r hr
            · simp at hr; subst hr; rw [HRL.out]; omega
        case measure => simp [intOf]; omega
    · have hin : i = len1 := by omega
      have HTA : Hid (z1.take i = z1) := by show _ = _; rw [hin, ← HLN.out, List.take_length]
      rw [HTA.out] at HS HT
      have bN : decide ((i : Int) < (len1 : Int)) = false := decide_eq_false (by omega)
      have h8 : ∀ r ∈ z1, r.length ≤ 8000 := fun r hr => by have := HT.out r hr; omega
      have H8 : Hid (∀ r ∈ z1, r.length ≤ 8000) := h8
      have hroom : 0 ≤ a0 ∧ a0 ≤ 1048576 := by omega
      have C1 : Hid (Calls Try.prog 10 #[.int .i64 a0] wr fun e w' => ∃ b X, e = .returned (.tuple #[.pointer (some ⟨b, 0, none⟩), .int .i64 0]) ∧ DT w w' b (newDS a0) X) := lt_new w wr BA.out a0 (by omega) (by omega)
      have C2 : Hid (∀ u b X, DT w u b (newDS a0) X → Calls Try.prog 11 #[.pointer (some ⟨b, 0, none⟩), .string ⟨#[119]⟩] u fun e w' => ∃ p X' Z, e = .returned (.tuple #[.pointer (some ⟨p, 0, none⟩), .int .i64 0]) ∧ LT w w' p b (newDS a0) ⟨[119], 1, false, [], 0⟩ X' Z) := fun u b X h => lt_open w u b _ X [119] h rfl may_w (by simp [newDS, sizeN])
      have C3 : Hid (∀ u p b X Z S' l' E, LT w u p b (newDS a0) ⟨[119], 1, false, [], 0⟩ X Z → addL (newDS a0) ⟨[119], 1, false, [], 0⟩ z1 = (E, S', l') → Calls Try.prog 12 #[.pointer (some ⟨p, 0, none⟩), .slice a1 len1 cap1] u fun e w' => ∃ X' Z', e = .returned (.int .i64 E) ∧ LT w w' p b S' l' X' Z') := fun u p b X Z S' l' E h he => lt_add w u p b _ _ X Z a1 cap1 len1 z1 h HLN.out (fun u' hb _ => HRW.out.below hb (Nat.le_refl _)) (by omega) (by simp [newDS, sizeN]) hroom (by simp [newDS]) (by simp; omega) S' l' E he
      have C4 : Hid (∀ u p b S l X Z, LT w u p b S l X Z → Calls Try.prog 13 #[.pointer (some ⟨p, 0, none⟩)] u fun e w' => e = .returned (.int .i64 (l.L.length : Nat)) ∧ LT w w' p b S l X Z ∧ Below u.heap.size u w') := fun u p b S l X Z h => lt_len w u p b S l X Z h
      clear h8 hin
      by_cases hfit : (m : Int) ≤ a0
      · have bf : decide ((m : Int) ≤ a0) = true := decide_eq_true hfit
        have HA : Hid (addL (newDS a0) ⟨[119], 1, false, [], 0⟩ z1 = (0, oneF a0 1 [119] (frames z1) 0, ⟨[119], 1, false, z1, 0⟩)) := addL_new a0 [119] z1 may_w H8.out (by rw [← HS.out]; exact hfit)
        have HSZ : Hid ((oneF a0 1 [119] (frames z1) 0).size = m) := by show _ = _; rw [HS.out]; simp [DS.size, oneF, sizeN]
        have HSL : Hid (sizeN (oneF a0 1 [119] (frames z1) 0).fs ≤ 1048576) := by have := HS.out; simp [oneF, sizeN, Hid]; omega
        have C5 : Hid (∀ u b X, DT w u b (oneF a0 1 [119] (frames z1) 0) X → Calls Try.prog 32 #[.pointer (some ⟨b, 0, none⟩)] u fun e w' => e = .returned (.int .i64 (m : Int)) ∧ DT w w' b (oneF a0 1 [119] (frames z1) 0) X ∧ Below u.heap.size u w') := fun u b X h => by have := lt_size w u b _ X h HSL.out; rw [HSZ.out] at this; exact this
        have C4' : Hid (∀ u p b X Z, LT w u p b (oneF a0 1 [119] (frames z1) 0) ⟨[119], 1, false, z1, 0⟩ X Z → Calls Try.prog 13 #[.pointer (some ⟨p, 0, none⟩)] u fun e w' => e = .returned (.int .i64 (len1 : Int)) ∧ LT w w' p b (oneF a0 1 [119] (frames z1) 0) ⟨[119], 1, false, z1, 0⟩ X Z) := fun u p b X Z h => by have := C4.out u p b _ _ X Z h; rw [show (⟨[119], 1, false, z1, 0⟩ : LS).L.length = len1 from HLN.out] at this; exact this.mono (by rintro e w' ⟨rfl, a1, _⟩; exact ⟨rfl, a1⟩)
        clear C4
        go_wp2_with (first | (go_at_call 10; refine C1.out.mono ?_; rintro e w2 ⟨b, X2, rfl, h1⟩; have D2 : Hid (DT w w2 b _ X2) := h1; clear h1) | (go_at_call 11; refine (C2.out _ _ _ D2.out).mono ?_; rintro e w3 ⟨p, X3, Z3, rfl, h1⟩; have L3 : Hid (LT w w3 p b _ _ X3 Z3) := h1; clear h1) | (go_at_call 12; refine (C3.out _ _ _ _ _ _ _ _ L3.out HA.out).mono ?_; rintro e w4 ⟨X4, Z4, rfl, h1⟩; have L4 : Hid (LT w w4 p b _ _ X4 Z4) := h1; clear h1) | (go_at_call 13; refine (C4'.out _ _ _ _ _ L4.out).mono ?_; rintro e w5 ⟨rfl, h1⟩; have L5 : Hid (LT w w5 p b _ _ X4 Z4) := h1; clear h1) | (go_at_call 32; refine (C5.out _ _ _ L5.out.dt).mono ?_; rintro e w6 ⟨rfl, h1, h2⟩; have D6 : Hid (DT w w6 b _ X4) := h1; clear h1 h2))
        go_ret
        exact ⟨by simp, D6.out.below⟩
      · have bf : decide ((m : Int) ≤ a0) = false := decide_eq_false hfit
        have HA : Hid (addL (newDS a0) ⟨[119], 1, false, [], 0⟩ z1 = (6, newDS a0, ⟨[119], 1, true, [], 0⟩)) := addL_full a0 [119] z1 may_w H8.out (by rw [← HS.out]; omega)
        have C5 : Hid (∀ u p b X Z, LT w u p b (newDS a0) ⟨[119], 1, true, [], 0⟩ X Z → Calls Try.prog 11 #[.pointer (some ⟨b, 0, none⟩), .string ⟨#[119]⟩] u fun e w' => ∃ p' X' Z', e = .returned (.tuple #[.pointer (some ⟨p', 0, none⟩), .int .i64 0]) ∧ LT w w' p' b (newDS a0) ⟨[119], 1, false, [], 0⟩ X' Z' ∧ LT w w' p b (newDS a0) ⟨[119], 1, true, [], 0⟩ X' Z ∧ ∀ k, Z' k → ¬ Z k) := fun u p b X Z h => lt_open2 w u p b _ _ X Z [119] h (by show (1 : Int) ≤ 1; omega) rfl may_w (by simp [newDS, sizeN])
        have C6 : Hid (∀ u p p' b X Z Z2, LT w u p b (newDS a0) ⟨[119], 1, true, [], 0⟩ X Z → LT w u p' b (newDS a0) ⟨[119], 1, false, [], 0⟩ X Z2 → (∀ k, Z2 k → ¬ Z k) → Calls Try.prog 17 #[.pointer (some ⟨p, 0, none⟩)] u fun e w' => ∃ X' Z', e = .returned (.int .i64 7) ∧ LT w w' p b (newDS a0) ⟨[119], 1, true, [], 0⟩ X' Z' ∧ LT w w' p' b (newDS a0) ⟨[119], 1, false, [], 0⟩ X' Z2) := fun u p p' b X Z Z2 h h2 hzz => lt_sync2 w u p p' b _ _ _ X Z Z2 h h2 hzz (by show (1 : Int) ≤ 1; omega) _ _ 7 (by simp [syncL, offN]) ⟨rfl, rfl⟩
        go_wp2_with (first | (go_at_call 10; refine C1.out.mono ?_; rintro e w2 ⟨b, X2, rfl, h1⟩; have D2 : Hid (DT w w2 b _ X2) := h1; clear h1) | (go_at_call 13; have hgo := L7b.out; clear hgo; refine (C4.out _ _ _ _ _ _ _ L7b.out).mono ?_; rintro e w8 ⟨rfl, h1, h2⟩; have L8 : Hid (LT w w8 p5 b _ _ X7 Z5) := h1; clear h1 h2) | (go_at_call 17; refine (C6.out _ _ _ _ _ _ _ L6a.out L6b.out ZZ.out).mono ?_; rintro e w7 ⟨X7, Z7, rfl, h1, h2⟩; have L7a : Hid (LT w w7 p b _ _ X7 Z7) := h1; have L7b : Hid (LT w w7 p5 b _ _ X7 Z5) := h2; clear h1 h2) | (go_at_call 13; refine (C4.out _ _ _ _ _ _ _ L5a.out).mono ?_; rintro e w6 ⟨rfl, h1, h2⟩; have L6a : Hid (LT w w6 p b _ _ X5 Z4) := h1; have L6b : Hid (LT w w6 p5 b _ _ X5 Z5) := L5b.out.past h2; clear h1 h2) | (go_at_call 11; have hgo := L4.out; clear hgo; refine (C5.out _ _ _ _ _ L4.out).mono ?_; rintro e w5 ⟨p5, X5, Z5, rfl, h1, h2, h3⟩; have L5b : Hid (LT w w5 p5 b _ _ X5 Z5) := h1; have L5a : Hid (LT w w5 p b _ _ X5 Z4) := h2; have ZZ : Hid (∀ k, Z5 k → ¬ Z4 k) := h3; clear h1 h2 h3) | (go_at_call 11; refine (C2.out _ _ _ D2.out).mono ?_; rintro e w3 ⟨p, X3, Z3, rfl, h1⟩; have L3 : Hid (LT w w3 p b _ _ X3 Z3) := h1; clear h1) | (go_at_call 12; refine (C3.out _ _ _ _ _ _ _ _ L3.out HA.out).mono ?_; rintro e w4 ⟨X4, Z4, rfl, h1⟩; have L4 : Hid (LT w w4 p b _ _ X4 Z4) := h1; clear h1))
        go_ret
        exact ⟨by simp, L8.out.below⟩

set_option maxRecDepth 100000 in
theorem lifted (os : Os) (started : os.Started) (H : Type) (enc : TypeId × Value → H) :
    ReturnsInHanded {} Try.checked os 7 .any (Rows.walOnceSpec.pre6 enc Try.prog Try.f7 Rows.walOnceRow.domain false) (Rows.walOnceSpec.post enc Try.prog Try.f7 false true false false) := by
  refine returnsInHanded_of_change (C := Try.checked) own started (by kernel_rfl) Try.func7
    (ChangeSpec.witness6 (enc := enc) (C := Try.checked) false ⟨#[], #[.int .i64 0, .slice none 0 0], []⟩ 8 (by kernel_rfl) (by kernel_rfl) (by kernel_rfl) (by kernel_rfl)) ?_
  intro W base args ds gs before hval0 hW hcnd _
  have hval : ∀ (j : Nat) t v, Try.f7.params[j]? = some t → args[j]? = some v → Value.okWide Try.prog W .any base t v := hval0
  have hW' := hW
  obtain ⟨p, q, hA0, hV, rfl, hfz, hnd⟩ := hW
  have hA : DataW.TrodAll enc Try.prog W 0 (fun _ => true) true Try.f7.params.toList args.toList ds p := hA0
  rw [Try.params7] at hA hval
  obtain ⟨v0, vs0, d0, ds0, p0, q0, hargs, rfl, rfl, h0, r0⟩ := trodAll_cons hA
  obtain ⟨v1, vs1, d1, ds1, p1, q1, rfl, rfl, rfl, h1, r1⟩ := trodAll_cons r0
  obtain ⟨rfl, rfl, rfl⟩ := trodAll_nil r1
  obtain rfl : args = #[v0, v1] := by cases args; simp_all
  obtain ⟨rfl, rfl⟩ := trodVars_none hV
  have k0 := h0
  have lt0 : ∀ x ∈ p0, x.block < W.heap.size := by obtain ⟨m, hm⟩ := k0; exact DataW.trod_lt m _ _ _ hm
  obtain ⟨a0, rfl, rfl, rfl, w0⟩ := open_int Try.underlying3 (hval 0 3 v0 rfl rfl) h0
  obtain ⟨a1, len1, cap1, rfl⟩ := okWide_slice Try.underlying45 (hval 1 45 v1 rfl rfl)
  have k1 := h1
  have lt1 : ∀ x ∈ p1, x.block < W.heap.size := by obtain ⟨m, hm⟩ := k1; exact DataW.trod_lt m _ _ _ hm
  obtain ⟨z1, l1, w1⟩ : ∃ ls : List (List Int), ls.length = len1 ∧ RowsOf W a1 cap1 ls := by
    obtain ⟨fuel, hf⟩ := h1
    exact rows_open Try.underlying45 Try.underlying31 (by kernel_rfl) (by kernel_rfl) hf
  clear hA0 hval0
  refine (walk a0 a1 len1 cap1 z1 W w0 l1 w1).mono fun e W' ⟨he, bel⟩ => ?_
  subst he
  exact ⟨_, rfl, _, _, _, [], _, [], hW', trodAll_mk1 (shut_bool Try.underlying4 _), (trodAll_cons_mk (Below.trod laidOut (by kernel_rfl) (of_decide_eq_true (by kernel_rfl)) k0 bel lt0) (trodAll_cons_mk (Below.trod laidOut (by kernel_rfl) (of_decide_eq_true (by kernel_rfl)) k1 bel lt1) trodAll_mk0)), rfl, bel.frame _, fun h => by cases h⟩

theorem over : Rows.walOnceRow.holds Try.pinned (OpenSpec.ofChange Rows.walOnceSpec) :=
  OpenClaim.holds_of_wide 7 Try.f7 rfl rfl rfl rfl rfl rfl rfl ⟨rfl, rfl, rfl, rfl, rfl⟩ rfl rfl rfl rfl rfl (by kernel_rfl) Try.func7 (by kernel_rfl)
    (of_decide_eq_true (by kernel_rfl)) (by unfold Func.isWrapper; first | (rw [if_pos (by decide +kernel)]; kernel_rfl) | (rw [if_neg (by decide +kernel)]; exact ⟨rfl, rfl⟩))
    (fun os started H enc _ => lifted os started H enc)
theorem proved : Rows.WalOnceSaid := over
#print axioms proved
end Go.Proofs.Ytlfmhdljldbjmaa.walOnce
namespace Go.Proofs.Ytlfmhdljldbjmaa
/-- WalOnce, as given. -/
theorem walOnce_holds : Rows.WalOnceSaid := walOnce.proved
end Go.Proofs.Ytlfmhdljldbjmaa
