/-
  WalClears: what was cleared stays away, for all records and all crashes.
-/
import Derived.Test.YtlfmhdljldbjmaaRows
import Derived.Test.YtlfmhdljldbjmaaWalPlay
import Derived.Test.YtlfmhdljldbjmaaBase
import Derived.WalkKit
import Derived.ProofKit
import Derived.OpenShut
import Derived.ShutString
import Derived.ChangeOld
import Derived.Below
import Derived.Carry
import Derived.Deep.QuietTactic
import Derived.BigQuiet
namespace Go.Proofs.Ytlfmhdljldbjmaa.walClears
open Go.ChangeShapes Go.WideShapes Go.ChangeAt Go.RowKit
open Go.ChangeMaps (open_string shut_string)
set_option linter.unusedVariables false

theorem own : ownKnob Try.prog.godebug = none := by kernel_rfl
theorem laidOut : laidOutB Try.prog = true := by kernel_rfl
/-- A slice of integers that came in: nil, or a row of 'cap' cells, of which the first 'len' are its elements. -/
def IsRow (k : IntKind) (w : World) (a : Option Addr) (len cap : Nat) (zs : List Int) : Prop :=
  (a = none ∧ len = 0 ∧ cap = 0 ∧ zs = []) ∨
  ∃ x, a = some x ∧ len ≤ cap ∧ cap ≤ maxLen ∧ zs.length = cap ∧ (∀ i, i < zs.length → w.cell? (x.add i) = some (.int k (zs.getD i 0))) ∧ ∀ n ∈ zs, (Lit.int k n).wf = true

theorem frames_bound (R : List (List Int)) (m : Nat) (h : ∀ r ∈ R, r.length ≤ m) : (frames R).length ≤ R.length * (12 + m) := by
  induction R with
  | nil => simp [frames]
  | cons r q ih =>
    have h1 := ih (fun x hx => h x (by simp [hx]))
    have h2 := h r (by simp)
    rw [frames_cons, List.length_append, frame_len]
    simp only [List.length_cons, Nat.succ_mul]
    omega
theorem rows_by {w : World} {a : Option Addr} {cap : Nat} {R : List (List Int)} (h : RowsOf w a cap R) : ∀ r ∈ R, By r := by
  intro r hr
  obtain ⟨i, hi, rfl⟩ := List.mem_iff_getElem.1 hr
  obtain ⟨rb, ro, x, xc, _, _, hrx, _⟩ := h.at hi
  have hb := hrx.bytes
  have he : R.getD i [] = R[i] := by simp [List.getD, hi]
  rw [he] at hb
  exact hb
theorem crashB_len (B : List Int) (sf keep : Nat) (torn : Int) (h : sf ≤ B.length) : (crashB B sf keep torn).length ≤ B.length := by
  unfold crashB crashF
  simp only
  split
  · simp; omega
  · simp; omega
set_option maxHeartbeats 4000000 in
set_option maxRecDepth 8000 in
theorem walk (a0 : Option Addr) (len0 cap0 : Nat) (z0 : List (List Int)) (a1 : Option Addr) (len1 cap1 : Nat) (z1 : List (List Int)) (a2 : Int) (a3 : Int) (w : World) (l0 : z0.length = len0) (w0 : RowsOf w a0 cap0 z0) (l1 : z1.length = len1) (w1 : RowsOf w a1 cap1 z1) (w2 : (Lit.int .i64 a2).wf = true) (w3 : (Lit.int .u8 a3).wf = true) :
    Calls Try.prog 8 #[.slice a0 len0 cap0, .slice a1 len1 cap1, .int .i64 a2, .int .u8 a3] w fun e w' => e = .returned (.bool true) ∧ Below w.heap.size w w' := by
  obtain ⟨k0, k1⟩ := bounds_i64 w2
  have htn := bounds_u8 w3
  clear w2 w3
  have HR_z0 : Hid (RowsOf w a0 cap0 z0) := w0
  have HL_z0 : Hid (z0.length = len0) := l0
  have HR_z1 : Hid (RowsOf w a1 cap1 z1) := w1
  have HL_z1 : Hid (z1.length = len1) := l1
  clear w0 l0 w1 l1
  by_cases h10 : 10 < len0
  · have b1 : decide ((10 : Int) < (len0 : Int)) = true := decide_eq_true (by omega)
    go_enter Try.func8, Try.ntmps8
    go_wp2_with (go_at_call 9; refine (awake_any _).mono ?_; rintro e wa ⟨rfl, hb⟩)
    go_ret
    exact ⟨rfl, hb⟩
  have b1 : decide ((10 : Int) < (len0 : Int)) = false := decide_eq_false (by omega)
  by_cases h11 : 10 < len1
  · have b2 : decide ((10 : Int) < (len1 : Int)) = true := decide_eq_true (by omega)
    go_enter Try.func8, Try.ntmps8
    go_wp2_with (go_at_call 9; refine (awake_any _).mono ?_; rintro e wa ⟨rfl, hb⟩)
    go_ret
    exact ⟨rfl, hb⟩
  have b2 : decide ((10 : Int) < (len1 : Int)) = false := decide_eq_false (by omega)
  have C1 : Hid (∀ u, Below w.heap.size w u → Calls Try.prog 10 #[.int .i64 20000] u fun e w' => ∃ b X, e = .returned (.tuple #[.pointer (some ⟨b, 0, none⟩), .int .i64 0]) ∧ DT w w' b (newDS 20000) X) := fun u hb => lt_new w u hb 20000 (by omega) (by omega)
  have C2 : Hid (∀ u b X, DT w u b (newDS 20000) X → Calls Try.prog 11 #[.pointer (some ⟨b, 0, none⟩), .string ⟨#[119]⟩] u fun e w' => ∃ p X' Z, e = .returned (.tuple #[.pointer (some ⟨p, 0, none⟩), .int .i64 0]) ∧ LT w w' p b (newDS 20000) ⟨[119], 1, false, [], 0⟩ X' Z) := fun u b X h => lt_open w u b _ X [119] h rfl may_w (by simp [newDS, sizeN])
  go_enter Try.func8, Try.ntmps8
  go_wp2_with (first | (go_at_call 9; refine (awake_any _).mono ?_; rintro e wa ⟨rfl, hb⟩; have BA : Hid (Below w.heap.size w wa) := hb; clear hb) | (go_at_call 10; refine (C1.out _ BA.out).mono ?_; rintro e w2 ⟨b, X2, rfl, h1⟩; have D2 : Hid (DT w w2 b _ X2) := h1; clear h1) | (go_at_call 11; refine (C2.out _ _ _ D2.out).mono ?_; rintro e w3 ⟨p, X3, Z3, rfl, h1⟩; have L3 : Hid (LT w w3 p b _ _ X3 Z3) := h1; clear h1))
  go_loopw [13] (fun iv wr => ∃ i : Nat, iv = .int .i64 i ∧ i ≤ len0 ∧ wr = w3 ∧ Hid (∀ r ∈ z0.take i, r.length ≤ 200)) (fun iv _ => len0 - (intOf iv).toNat)
  case atStart => exact ⟨0, rfl, Nat.zero_le _, rfl, fun r hr => by simp at hr⟩
  case round =>
    obtain ⟨i, rfl, hi, rfl, HT13⟩ := hrel
    by_cases hlt : i < len0
    · have hil : i < z0.length := by rw [HL_z0.out]; exact hlt
      obtain ⟨rb, ro, x, xc, hra, hcl, hrx, hnx⟩ := (HR_z0.out.below (L3.out.below) (Nat.le_refl _)).at hil
      subst hra
      obtain ⟨RS, hRS⟩ : ∃ RS, RS = z0.getD i [] := ⟨_, rfl⟩
      rw [← hRS] at hcl
      have HRS : Hid (z0[i]? = some RS) := by show _ = _; rw [hRS]; simp [List.getD, hil]
      obtain ⟨rn, hrn⟩ : ∃ rn, rn = RS.length := ⟨_, rfl⟩
      have HRL : Hid (RS.length = rn) := hrn.symm
      rw [← hrn] at hcl
      clear hrx hnx hRS hrn
      by_cases hbig : 200 < rn
      · have bb : decide ((200 : Int) < (rn : Int)) = true := decide_eq_true (by omega)
        go_wp2
        go_ret
        exact ⟨rfl, L3.out.below⟩
      · have bb : decide ((200 : Int) < (rn : Int)) = false := decide_eq_false (by omega)
        go_wp2
        go_roundw
        case rel =>
          refine ⟨i + 1, by simp, by omega, trivial, fun r hr => ?_⟩
          rw [List.take_add_one, HRS.out] at hr
          rcases List.mem_append.1 hr with hr | hr
          · exact HT13.out r hr
          · simp at hr; subst hr; rw [HRL.out]; omega
        case measure => simp [intOf]; omega
    · have hin : i = len0 := by omega
      have HA13 : Hid (∀ r ∈ z0, r.length ≤ 200) := by have := HT13.out; rw [hin, ← HL_z0.out, List.take_length] at this; exact this
      have bN13 : decide ((i : Int) < (len0 : Int)) = false := decide_eq_false (by omega)
      clear hin HT13
      obtain ⟨w3, rfl⟩ : ∃ w3 : World, w3 = wr := ⟨wr, rfl⟩
      go_wp2
      go_loopw [14] (fun iv wr => ∃ i : Nat, iv = .int .i64 i ∧ i ≤ len1 ∧ wr = w3 ∧ Hid (∀ r ∈ z1.take i, r.length ≤ 200)) (fun iv _ => len1 - (intOf iv).toNat)
      case atStart => exact ⟨0, rfl, Nat.zero_le _, rfl, fun r hr => by simp at hr⟩
      case round =>
        obtain ⟨i, rfl, hi, rfl, HT14⟩ := hrel
        by_cases hlt : i < len1
        · have hil : i < z1.length := by rw [HL_z1.out]; exact hlt
          obtain ⟨rb, ro, x, xc, hra, hcl, hrx, hnx⟩ := (HR_z1.out.below (L3.out.below) (Nat.le_refl _)).at hil
          subst hra
          obtain ⟨RS, hRS⟩ : ∃ RS, RS = z1.getD i [] := ⟨_, rfl⟩
          rw [← hRS] at hcl
          have HRS : Hid (z1[i]? = some RS) := by show _ = _; rw [hRS]; simp [List.getD, hil]
          obtain ⟨rn, hrn⟩ : ∃ rn, rn = RS.length := ⟨_, rfl⟩
          have HRL : Hid (RS.length = rn) := hrn.symm
          rw [← hrn] at hcl
          clear hrx hnx hRS hrn
          by_cases hbig : 200 < rn
          · have bb : decide ((200 : Int) < (rn : Int)) = true := decide_eq_true (by omega)
            go_wp2
            go_ret
            exact ⟨rfl, L3.out.below⟩
          · have bb : decide ((200 : Int) < (rn : Int)) = false := decide_eq_false (by omega)
            go_wp2
            go_roundw
            case rel =>
              refine ⟨i + 1, by simp, by omega, trivial, fun r hr => ?_⟩
              rw [List.take_add_one, HRS.out] at hr
              rcases List.mem_append.1 hr with hr | hr
              · exact HT14.out r hr
              · simp at hr; subst hr; rw [HRL.out]; omega
            case measure => simp [intOf]; omega
        · have hin : i = len1 := by omega
          have HA14 : Hid (∀ r ∈ z1, r.length ≤ 200) := by have := HT14.out; rw [hin, ← HL_z1.out, List.take_length] at this; exact this
          have bN14 : decide ((i : Int) < (len1 : Int)) = false := decide_eq_false (by omega)
          clear hin HT14
          obtain ⟨w3, rfl⟩ : ∃ w3 : World, w3 = wr := ⟨wr, rfl⟩
          have H80 : Hid (∀ r ∈ z0, r.length ≤ 8000) := fun r hr => by have := HA13.out r hr; omega
          have H81 : Hid (∀ r ∈ z1, r.length ≤ 8000) := fun r hr => by have := HA14.out r hr; omega
          have F0 : Hid ((frames z0).length ≤ 2120) := by have := frames_bound z0 200 HA13.out; rw [HL_z0.out] at this; show _ ≤ _; omega
          have F1 : Hid ((frames z1).length ≤ 2120) := by have := frames_bound z1 200 HA14.out; rw [HL_z1.out] at this; show _ ≤ _; omega
          have e1 : addL (newDS 20000) ⟨[119], 1, false, [], 0⟩ z0 = (0, oneF 20000 1 [119] (frames z0) 0, ⟨[119], 1, false, z0, 0⟩) := addL_new 20000 [119] z0 may_w H80.out (by have := F0.out; omega)
          have e4 : addL (oneF 20000 1 [119] [] 0) ⟨[119], 1, false, [], 0⟩ z1 = (0, oneF 20000 1 [119] (frames z1) 0, ⟨[119], 1, false, z1, 0⟩) := addL_one 20000 1 [119] [] z1 0 0 may_w H81.out (by have := F1.out; simp [frames] at this ⊢; omega)
          have hby : ∀ r ∈ z1, By r := rows_by HR_z1.out
          have hoc := open_crash 20000 1 [119] z1 hby H81.out len1 (by rw [HL_z1.out]; exact Nat.le_refl _) a2 a3 htn
          obtain ⟨k, kk1, kk2, o1, o2⟩ := hoc
          have hk : k = len1 := by rw [HL_z1.out] at kk2; omega
          have htl : z1.take len1 = z1 := by rw [← HL_z1.out, List.take_length]
          rw [hk, htl] at o1 o2
          clear hk kk1 kk2
          obtain ⟨SC, hSC⟩ : ∃ SC, SC = (oneF 20000 1 [119] (frames z1) (frames z1).length).crash a2 a3 := ⟨_, rfl⟩
          rw [← hSC] at o1 o2
          have CA : Hid (∀ u p b X Z S l S' l' a cap n R, LT w u p b S l X Z → RowsOf w a cap R → R.length = n → n ≤ 10 → sizeN S.fs ≤ 1048576 → 0 ≤ S.room ∧ S.room ≤ 1048576 → S.fs.length + 1 ≤ 1000 → l.L.length + n ≤ 1000000 → addL S l R = (0, S', l') → Calls Try.prog 12 #[.pointer (some ⟨p, 0, none⟩), .slice a n cap] u fun e w' => ∃ X' Z', e = .returned (.int .i64 0) ∧ LT w w' p b S' l' X' Z') := fun u p b X Z S l S' l' a cap n R h hr hn h1 h2 h3 h4 h5 he => lt_add w u p b S l X Z a cap n R h hn (fun u' hb _ => hr.below hb (Nat.le_refl _)) (by omega) h2 h3 h4 h5 S' l' 0 he
          have CY : Hid (∀ u p b X Z B sf L ls, LT w u p b (oneF 20000 1 [119] B sf) ⟨[119], 1, false, L, ls⟩ X Z → Calls Try.prog 17 #[.pointer (some ⟨p, 0, none⟩)] u fun e w' => ∃ X' Z', e = .returned (.int .i64 0) ∧ LT w w' p b (oneF 20000 1 [119] B B.length) ⟨[119], 1, false, L, L.length⟩ X' Z') := fun u p b X Z B sf L ls h => lt_sync w u p b _ _ X Z h _ _ 0 (syncL_one 20000 1 [119] B L sf ls may_w)
          have CC : Hid (∀ u p b X Z, LT w u p b (oneF 20000 1 [119] (frames z0) (frames z0).length) ⟨[119], 1, false, z0, z0.length⟩ X Z → Calls Try.prog 15 #[.pointer (some ⟨p, 0, none⟩)] u fun e w' => ∃ X' Z', e = .returned (.int .i64 0) ∧ LT w w' p b (oneF 20000 1 [119] [] 0) ⟨[119], 1, false, [], 0⟩ X' Z') := fun u p b X Z h => lt_clear w u p b _ _ X Z h (by have := F0.out; simp [oneF, sizeN]; omega) _ _ 0 (clearL_one 20000 1 [119] _ _ _ _ may_w)
          have CL : Hid (∀ u p b S l X Z, LT w u p b S l X Z → Calls Try.prog 13 #[.pointer (some ⟨p, 0, none⟩)] u fun e w' => e = .returned (.int .i64 (l.L.length : Nat)) ∧ LT w w' p b S l X Z ∧ Below u.heap.size u w') := fun u p b S l X Z h => lt_len w u p b S l X Z h
          have CX : Hid (∀ u b X, DT w u b (oneF 20000 1 [119] (frames z1) (frames z1).length) X → Calls Try.prog 16 #[.pointer (some ⟨b, 0, none⟩), .int .i64 a2, .int .u8 a3] u fun e w' => e = .returned (.tuple #[]) ∧ ∃ X', DT w w' b SC X') := fun u b X h => by rw [hSC]; exact lt_crash w u b _ X a2 a3 h (by have := F1.out; simp [oneF, sizeN]; omega) k0 k1 htn
          have CO : Hid (∀ u b X, DT w u b SC X → Calls Try.prog 18 #[.pointer (some ⟨b, 0, none⟩)] u fun e w' => e = .returned (.tuple #[]) ∧ ∃ X', DT w w' b SC.on X') := fun u b X h => lt_on w u b _ X h (by rw [hSC]; show (1 : Int) ≤ 1000000000; omega) (by rw [hSC]; show (0 : Int) ≤ 1; omega)
          have hszc : sizeN SC.on.fs ≤ 1048576 := by
            rw [hSC, crash_one]
            have h1 := crashB_len (frames z1) (frames z1).length a2.toNat a3 (Nat.le_refl _)
            have h2 := F1.out
            simp [oneF, sizeN]
            omega
          have CP : Hid (∀ u b X, DT w u b SC.on X → Calls Try.prog 11 #[.pointer (some ⟨b, 0, none⟩), .string ⟨#[119]⟩] u fun e w' => ∃ p X' Z, e = .returned (.tuple #[.pointer (some ⟨p, 0, none⟩), .int .i64 0]) ∧ LT w w' p b (oneF 20000 2 [119] (frames z1) (frames z1).length) ⟨[119], 2, false, z1, len1⟩ X' Z) := fun u b X h => by
            have hc := lt_open w u b _ X [119] h (by rw [hSC]; rfl) may_w hszc
            rw [o1, o2] at hc
            exact hc
          have HE1 : Hid (addL (newDS 20000) ⟨[119], 1, false, [], 0⟩ z0 = (0, oneF 20000 1 [119] (frames z0) 0, ⟨[119], 1, false, z0, 0⟩)) := e1
          have HE4 : Hid (addL (oneF 20000 1 [119] [] 0) ⟨[119], 1, false, [], 0⟩ z1 = (0, oneF 20000 1 [119] (frames z1) 0, ⟨[119], 1, false, z1, 0⟩)) := e4
          have HZN : Hid (sizeN (newDS 20000).fs ≤ 1048576) := by simp [newDS, sizeN, Hid]
          have HZE : Hid (sizeN (oneF 20000 1 [119] [] 0).fs ≤ 1048576) := by simp [oneF, sizeN, Hid]
          clear e1 e4 o1 o2 hby hSC hszc htl
          go_wp2_with (first
            | (go_at_call 13; have hgo := L12.out; clear hgo; refine (CL.out _ _ _ _ _ _ _ L12.out).mono ?_; rintro e w13 ⟨rfl, h1, h2⟩; rw [show (⟨[119], 2, false, z1, len1⟩ : LS).L.length = len1 from HL_z1.out]; have L13 : Hid (LT w w13 p12 b _ _ X12 Z12) := h1; clear h1 h2)
            | (go_at_call 11; refine (CP.out _ _ _ D11.out).mono ?_; rintro e w12 ⟨p12, X12, Z12, rfl, h1⟩; have L12 : Hid (LT w w12 p12 b _ _ X12 Z12) := h1; clear h1)
            | (go_at_call 18; refine (CO.out _ _ _ D10.out).mono ?_; rintro e w11 ⟨rfl, X11, h1⟩; have D11 : Hid (DT w w11 b _ X11) := h1; clear h1)
            | (go_at_call 16; refine (CX.out _ _ _ L9.out.dt).mono ?_; rintro e w10 ⟨rfl, X10, h1⟩; have D10 : Hid (DT w w10 b _ X10) := h1; clear h1)
            | (go_at_call 17; have hgo := L8.out; clear hgo; refine (CY.out _ _ _ _ _ _ _ _ _ L8.out).mono ?_; rintro e w9 ⟨X9, Z9, rfl, h1⟩; have L9 : Hid (LT w w9 p b _ _ X9 Z9) := h1; clear h1)
            | (go_at_call 12; have hgo := L7.out; clear hgo; refine (CA.out _ _ _ _ _ _ _ _ _ _ _ _ _ L7.out HR_z1.out HL_z1.out (by omega) HZE.out (by show (0 : Int) ≤ 20000 ∧ (20000 : Int) ≤ 1048576; omega) (by show 2 ≤ 1000; omega) (by show 0 + len1 ≤ 1000000; omega) HE4.out).mono ?_; rintro e w8 ⟨X8, Z8, rfl, h1⟩; have L8 : Hid (LT w w8 p b _ _ X8 Z8) := h1; clear h1)
            | (go_at_call 13; refine (CL.out _ _ _ _ _ _ _ L6.out).mono ?_; rintro e w7 ⟨rfl, h1, h2⟩; have L7 : Hid (LT w w7 p b _ _ X6 Z6) := h1; clear h1 h2)
            | (go_at_call 15; refine (CC.out _ _ _ _ _ L5.out).mono ?_; rintro e w6 ⟨X6, Z6, rfl, h1⟩; have L6 : Hid (LT w w6 p b _ _ X6 Z6) := h1; clear h1)
            | (go_at_call 17; refine (CY.out _ _ _ _ _ _ _ _ _ L4.out).mono ?_; rintro e w5 ⟨X5, Z5, rfl, h1⟩; have L5 : Hid (LT w w5 p b _ _ X5 Z5) := h1; clear h1)
            | (go_at_call 12; refine (CA.out _ _ _ _ _ _ _ _ _ _ _ _ _ L3.out HR_z0.out HL_z0.out (by omega) HZN.out (by show (0 : Int) ≤ 20000 ∧ (20000 : Int) ≤ 1048576; omega) (by show 1 ≤ 1000; omega) (by show 0 + len0 ≤ 1000000; omega) HE1.out).mono ?_; rintro e w4 ⟨X4, Z4, rfl, h1⟩; have L4 : Hid (LT w w4 p b _ _ X4 Z4) := h1; clear h1))
          go_loopw [17] (fun iv wr => ∃ i : Nat, iv = .int .i64 i ∧ i ≤ len1 ∧ Hid (LT w wr p12 b (oneF 20000 2 [119] (frames z1) (frames z1).length) ⟨[119], 2, false, z1, len1⟩ X12 Z12)) (fun iv _ => len1 - (intOf iv).toNat)
          case atStart => exact ⟨0, rfl, Nat.zero_le _, L13⟩
          case round =>
            obtain ⟨i, rfl, hi, LI⟩ := hrel
            by_cases hlt : i < len1
            · have hil : i < z1.length := by rw [HL_z1.out]; exact hlt
              obtain ⟨RS, hRS⟩ : ∃ RS, RS = z1.getD i [] := ⟨_, rfl⟩
              have CT : Hid (Calls Try.prog 14 #[.pointer (some ⟨p12, 0, none⟩), .int .i64 (i : Int)] wr fun e w' => ∃ a c, e = .returned (.tuple #[.slice a RS.length c, .int .i64 0]) ∧ LT w w' p12 b (oneF 20000 2 [119] (frames z1) (frames z1).length) ⟨[119], 2, false, z1, len1⟩ X12 Z12 ∧ Row w' a RS) := (lt_at w wr p12 b _ _ X12 Z12 i LI.out (off_one _ _ _ _ _ _ _) hil).mono (by rintro e w' ⟨a, c, rfl, a1, a2, a3, a4, a5⟩; rw [hRS]; exact ⟨a, c, rfl, a1, a3⟩)
              have HAT : Hid (∀ u, Below w.heap.size w u → ∃ rb ro x xc, a1 = some (⟨rb, ro, none⟩ : Addr) ∧ u.cell? ⟨rb, ro + i, none⟩ = some (.slice x RS.length xc) ∧ Row u x RS) := fun u hb => by
                obtain ⟨rb, ro, x, xc, hra, hcl, hrx, hnx⟩ := (HR_z1.out.below hb (Nat.le_refl _)).at hil
                rw [← hRS] at hcl hrx
                exact ⟨rb, ro, x, xc, hra, hcl, hrx⟩
              clear hRS
              go_wp2_with (go_at_call 14; refine CT.out.mono ?_; rintro e w14 ⟨a14, c14, rfl, h1, h2⟩; have L14 : Hid (LT w w14 p12 b (oneF 20000 2 [119] (frames z1) (frames z1).length) ⟨[119], 2, false, z1, len1⟩ X12 Z12) := h1; have R14 : Hid (Row w14 a14 RS) := h2; clear h1 h2)
              obtain ⟨rb, ro, x, xc, hra, hcl, hrx⟩ := HAT.out w14 L14.out.below
              subst hra
              have s1 : ∀ n, (convert 31 9 (.slice a14 RS.length c14)).run Try.prog (w14.drewN n) = .ok (.string (strOfNums RS)) (w14.drewN n) := fun n => str_of_row (R14.out.below (below_drewN (Below.refl _ _) n) (Nat.le_refl _)) c14
              have s2 : ∀ n, (convert 31 9 (.slice x RS.length xc)).run Try.prog (w14.drewN n) = .ok (.string (strOfNums RS)) (w14.drewN n) := fun n => str_of_row (hrx.below (below_drewN (Below.refl _ _) n) (Nat.le_refl _)) xc
              obtain ⟨rn, hrn⟩ : ∃ rn, rn = RS.length := ⟨_, rfl⟩
              rw [← hrn] at s1 s2 hcl ⊢
              have hne : ((strOfNums RS).toList != (strOfNums RS).toList) = false := by simp
              clear hrn hrx
              go_quiet (fail)
              go_wp2
              go_roundw
              case rel => exact ⟨i + 1, by simp, by omega, L14.out.past (below_drewN (Below.refl _ _) nq)⟩
              case measure => simp [intOf]; omega
            · have bN17 : decide ((i : Int) < (len1 : Int)) = false := decide_eq_false (by omega)
              go_wp2
              go_ret
              exact ⟨rfl, LI.out.below⟩

set_option maxRecDepth 100000 in
theorem lifted (os : Os) (started : os.Started) (H : Type) (enc : TypeId × Value → H) :
    ReturnsInHanded {} Try.checked os 8 .any (Rows.walClearsSpec.pre6 enc Try.prog Try.f8 Rows.walClearsRow.domain false) (Rows.walClearsSpec.post enc Try.prog Try.f8 false true false false) := by
  refine returnsInHanded_of_change (C := Try.checked) own started (by kernel_rfl) Try.func8
    (ChangeSpec.witness6 (enc := enc) (C := Try.checked) false ⟨#[], #[.slice none 0 0, .slice none 0 0, .int .i64 0, .int .u8 0], []⟩ 8 (by kernel_rfl) (by kernel_rfl) (by kernel_rfl) (by kernel_rfl)) ?_
  intro W base args ds gs before hval0 hW hcnd _
  have hval : ∀ (j : Nat) t v, Try.f8.params[j]? = some t → args[j]? = some v → Value.okWide Try.prog W .any base t v := hval0
  have hW' := hW
  obtain ⟨p, q, hA0, hV, rfl, hfz, hnd⟩ := hW
  have hA : DataW.TrodAll enc Try.prog W 0 (fun _ => true) true Try.f8.params.toList args.toList ds p := hA0
  rw [Try.params8] at hA hval
  obtain ⟨v0, vs0, d0, ds0, p0, q0, hargs, rfl, rfl, h0, r0⟩ := trodAll_cons hA
  obtain ⟨v1, vs1, d1, ds1, p1, q1, rfl, rfl, rfl, h1, r1⟩ := trodAll_cons r0
  obtain ⟨v2, vs2, d2, ds2, p2, q2, rfl, rfl, rfl, h2, r2⟩ := trodAll_cons r1
  obtain ⟨v3, vs3, d3, ds3, p3, q3, rfl, rfl, rfl, h3, r3⟩ := trodAll_cons r2
  obtain ⟨rfl, rfl, rfl⟩ := trodAll_nil r3
  obtain rfl : args = #[v0, v1, v2, v3] := by cases args; simp_all
  obtain ⟨rfl, rfl⟩ := trodVars_none hV
  obtain ⟨a0, len0, cap0, rfl⟩ := okWide_slice Try.underlying45 (hval 0 45 v0 rfl rfl)
  have k0 := h0
  have lt0 : ∀ x ∈ p0, x.block < W.heap.size := by obtain ⟨m, hm⟩ := k0; exact DataW.trod_lt m _ _ _ hm
  obtain ⟨z0, l0, w0⟩ : ∃ ls : List (List Int), ls.length = len0 ∧ RowsOf W a0 cap0 ls := by
    obtain ⟨fuel, hf⟩ := h0
    exact rows_open Try.underlying45 Try.underlying31 (by kernel_rfl) (by kernel_rfl) hf
  obtain ⟨a1, len1, cap1, rfl⟩ := okWide_slice Try.underlying45 (hval 1 45 v1 rfl rfl)
  have k1 := h1
  have lt1 : ∀ x ∈ p1, x.block < W.heap.size := by obtain ⟨m, hm⟩ := k1; exact DataW.trod_lt m _ _ _ hm
  obtain ⟨z1, l1, w1⟩ : ∃ ls : List (List Int), ls.length = len1 ∧ RowsOf W a1 cap1 ls := by
    obtain ⟨fuel, hf⟩ := h1
    exact rows_open Try.underlying45 Try.underlying31 (by kernel_rfl) (by kernel_rfl) hf
  have k2 := h2
  have lt2 : ∀ x ∈ p2, x.block < W.heap.size := by obtain ⟨m, hm⟩ := k2; exact DataW.trod_lt m _ _ _ hm
  obtain ⟨a2, rfl, rfl, rfl, w2⟩ := open_int Try.underlying3 (hval 2 3 v2 rfl rfl) h2
  have k3 := h3
  have lt3 : ∀ x ∈ p3, x.block < W.heap.size := by obtain ⟨m, hm⟩ := k3; exact DataW.trod_lt m _ _ _ hm
  obtain ⟨a3, rfl, rfl, rfl, w3⟩ := open_int Try.underlying5 (hval 3 5 v3 rfl rfl) h3
  clear hA0 hval0
  refine (walk a0 len0 cap0 z0 a1 len1 cap1 z1 a2 a3 W l0 w0 l1 w1 w2 w3).mono fun e W' ⟨he, bel⟩ => ?_
  subst he
  exact ⟨_, rfl, _, _, _, [], _, [], hW', trodAll_mk1 (shut_bool Try.underlying4 _), (trodAll_cons_mk (Below.trod laidOut (by kernel_rfl) (of_decide_eq_true (by kernel_rfl)) k0 bel lt0) (trodAll_cons_mk (Below.trod laidOut (by kernel_rfl) (of_decide_eq_true (by kernel_rfl)) k1 bel lt1) (trodAll_cons_mk (Below.trod laidOut (by kernel_rfl) (of_decide_eq_true (by kernel_rfl)) k2 bel lt2) (trodAll_cons_mk (Below.trod laidOut (by kernel_rfl) (of_decide_eq_true (by kernel_rfl)) k3 bel lt3) trodAll_mk0)))), rfl, bel.frame _, fun h => by cases h⟩

theorem over : Rows.walClearsRow.holds Try.pinned (OpenSpec.ofChange Rows.walClearsSpec) :=
  OpenClaim.holds_of_wide 8 Try.f8 rfl rfl rfl rfl rfl rfl rfl ⟨rfl, rfl, rfl, rfl, rfl⟩ rfl rfl rfl rfl rfl (by kernel_rfl) Try.func8 (by kernel_rfl)
    (of_decide_eq_true (by kernel_rfl)) (by unfold Func.isWrapper; first | (rw [if_pos (by decide +kernel)]; kernel_rfl) | (rw [if_neg (by decide +kernel)]; exact ⟨rfl, rfl⟩))
    (fun os started H enc _ => lifted os started H enc)
theorem proved : Rows.WalClearsSaid := over
#print axioms proved
end Go.Proofs.Ytlfmhdljldbjmaa.walClears
namespace Go.Proofs.Ytlfmhdljldbjmaa
/-- WalClears, as given. -/
theorem walClears_holds : Rows.WalClearsSaid := walClears.proved
end Go.Proofs.Ytlfmhdljldbjmaa
