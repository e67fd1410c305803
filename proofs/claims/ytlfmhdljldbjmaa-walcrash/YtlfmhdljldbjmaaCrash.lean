/-
  WalCrash: behind any crash the log has a beginning of what was added, at least what was safe.
-/
import Derived.Test.YtlfmhdljldbjmaaRows
import Derived.Test.YtlfmhdljldbjmaaWalMore
import Derived.Test.YtlfmhdljldbjmaaBase
import Derived.WalkKit
import Derived.ProofKit
import Derived.OpenShut
import Derived.ShutString
import Derived.ChangeOld
import Derived.Below
import Derived.Carry
import Derived.Deep.QuietTactic
import Derived.BigQuiet
namespace Go.Proofs.Ytlfmhdljldbjmaa.walCrash
open Go.ChangeShapes Go.WideShapes Go.ChangeAt Go.RowKit
open Go.ChangeMaps (open_string shut_string)
set_option linter.unusedVariables false

theorem own : ownKnob Try.prog.godebug = none := by kernel_rfl
theorem laidOut : laidOutB Try.prog = true := by kernel_rfl
/-- A slice of integers that came in: nil, or a row of 'cap' cells, of which the first 'len' are its elements. -/
def IsRow (k : IntKind) (w : World) (a : Option Addr) (len cap : Nat) (zs : List Int) : Prop :=
  (a = none ∧ len = 0 ∧ cap = 0 ∧ zs = []) ∨
  ∃ x, a = some x ∧ len ≤ cap ∧ cap ≤ maxLen ∧ zs.length = cap ∧ (∀ i, i < zs.length → w.cell? (x.add i) = some (.int k (zs.getD i 0))) ∧ ∀ n ∈ zs, (Lit.int k n).wf = true

set_option maxHeartbeats 4000000 in
set_option maxRecDepth 8000 in
theorem walk (a0 : Option Addr) (len0 cap0 : Nat) (z0 : List (List Int)) (a1 : Int) (a2 : Int) (a3 : Int) (w : World) (l0 : z0.length = len0) (w0 : RowsOf w a0 cap0 z0) (w1 : (Lit.int .i64 a1).wf = true) (w2 : (Lit.int .i64 a2).wf = true) (w3 : (Lit.int .u8 a3).wf = true) :
    Calls Try.prog 5 #[.slice a0 len0 cap0, .int .i64 a1, .int .i64 a2, .int .u8 a3] w fun e w' => e = .returned (.bool true) ∧ Below w.heap.size w w' := by
  obtain ⟨sy0, sy1⟩ := bounds_i64 w1
  obtain ⟨k0, k1⟩ := bounds_i64 w2
  have htn := bounds_u8 w3
  clear w1 w2 w3
  have HR : Hid (RowsOf w a0 cap0 z0) := w0
  have HL : Hid (z0.length = len0) := l0
  clear w0 l0
  by_cases h20 : 20 < len0
  · have b1 : decide ((20 : Int) < (len0 : Int)) = true := decide_eq_true (by omega)
    go_enter Try.func5, Try.ntmps5
    go_wp2_with (go_at_call 9; refine (awake_any _).mono ?_; rintro e wa ⟨rfl, hb⟩)
    go_ret
    exact ⟨rfl, hb⟩
  have b1 : decide ((20 : Int) < (len0 : Int)) = false := decide_eq_false (by omega)
  by_cases hs0 : a1 < 0
  · have b2 : decide (a1 < 0) = true := decide_eq_true hs0
    go_enter Try.func5, Try.ntmps5
    go_wp2_with (go_at_call 9; refine (awake_any _).mono ?_; rintro e wa ⟨rfl, hb⟩)
    go_ret
    exact ⟨rfl, hb⟩
  obtain ⟨s, rfl⟩ : ∃ s : Nat, a1 = s := ⟨a1.toNat, by omega⟩
  have b2 : decide ((s : Int) < 0) = false := decide_eq_false hs0
  by_cases hsl : len0 < s
  · have b3 : decide ((len0 : Int) < (s : Int)) = true := decide_eq_true (by omega)
    go_enter Try.func5, Try.ntmps5
    go_wp2_with (go_at_call 9; refine (awake_any _).mono ?_; rintro e wa ⟨rfl, hb⟩)
    go_ret
    exact ⟨rfl, hb⟩
  have b3 : decide ((len0 : Int) < (s : Int)) = false := decide_eq_false (by omega)
  have C1 : Hid (∀ u, Below w.heap.size w u → Calls Try.prog 10 #[.int .i64 20000] u fun e w' => ∃ b X, e = .returned (.tuple #[.pointer (some ⟨b, 0, none⟩), .int .i64 0]) ∧ DT w w' b (newDS 20000) X) := fun u hb => lt_new w u hb 20000 (by omega) (by omega)
  have C2 : Hid (∀ u b X, DT w u b (newDS 20000) X → Calls Try.prog 11 #[.pointer (some ⟨b, 0, none⟩), .string ⟨#[119]⟩] u fun e w' => ∃ p X' Z, e = .returned (.tuple #[.pointer (some ⟨p, 0, none⟩), .int .i64 0]) ∧ LT w w' p b (newDS 20000) ⟨[119], 1, false, [], 0⟩ X' Z) := fun u b X h => lt_open w u b _ X [119] h rfl may_w (by simp [newDS, sizeN])
  go_enter Try.func5, Try.ntmps5
  go_wp2_with (first | (go_at_call 9; refine (awake_any _).mono ?_; rintro e wa ⟨rfl, hb⟩; have BA : Hid (Below w.heap.size w wa) := hb; clear hb) | (go_at_call 10; refine (C1.out _ BA.out).mono ?_; rintro e w2 ⟨b, X2, rfl, h1⟩; have D2 : Hid (DT w w2 b _ X2) := h1; clear h1) | (go_at_call 11; refine (C2.out _ _ _ D2.out).mono ?_; rintro e w3 ⟨p, X3, Z3, rfl, h1⟩; have L3 : Hid (LT w w3 p b _ _ X3 Z3) := h1; clear h1))
  clear b1 b2 b3 hs0
  go_loopw [13] (fun iv wr => ∃ i : Nat, iv = .int .i64 i ∧ i ≤ len0 ∧ Hid (∀ r ∈ z0.take i, r.length ≤ 300) ∧ ∃ X Z, Hid (LT w wr p b (stD z0 s i) (stL z0 s i) X Z)) (fun iv _ => len0 - (intOf iv).toNat)
  case atStart =>
    refine ⟨0, rfl, Nat.zero_le _, fun r hr => by simp at hr, X3, Z3, ?_⟩
    rw [(st_zero z0 s).1, (st_zero z0 s).2]
    exact L3
  case round =>
    obtain ⟨i, rfl, hi, HT, XI, ZI, LI⟩ := hrel
    by_cases hlt : i < len0
    · have hil : i < z0.length := by rw [HL.out]; exact hlt
      obtain ⟨rb, ro, x, xc, hra, hcw, hrx, hnx, hxc⟩ := HR.out.at2 hil
      have hcl : wr.cell? ⟨rb, ro + i, none⟩ = some (.slice x (z0.getD i []).length xc) := by rw [LI.out.below.cell (lt_of_cell hcw)]; exact hcw
      obtain ⟨RS, hRS⟩ : ∃ RS, RS = z0.getD i [] := ⟨_, rfl⟩
      rw [← hRS] at hcl hrx hxc
      have HRS : Hid (z0[i]? = some RS) := by show _ = _; rw [hRS]; simp [List.getD, hil]
      obtain ⟨rn, hrn⟩ : ∃ rn, rn = RS.length := ⟨_, rfl⟩
      have HRL : Hid (RS.length = rn) := hrn.symm
      rw [← hrn] at hcl hxc
      have HRX : Hid (∀ u', Below w.heap.size w u' → Row u' x RS) := fun u' hb => hrx.below hb (Nat.le_refl _)
      have HNX : Hid ((x = none → xc = 0) ∧ rn ≤ xc) := ⟨hnx, hxc⟩
      clear hrx hnx hxc hRS hrn hcw
      subst hra
      by_cases hbig : 300 < rn
      · have bb : decide ((300 : Int) < (rn : Int)) = true := decide_eq_true (by omega)
        go_wp2
        go_ret
        exact ⟨rfl, LI.out.below⟩
      · have bb : decide ((300 : Int) < (rn : Int)) = false := decide_eq_false (by omega)
        have CA : Hid (Calls Try.prog 12 #[.pointer (some ⟨p, 0, none⟩), .slice (some ⟨wr.heap.size, 0, none⟩) 1 1] (wr.alloc (.cells #[.slice x rn xc] 31)) fun e w' => ∃ X' Z', e = .returned (.int .i64 0) ∧ LT w w' p b (stA z0 s i) (stB z0 s i) X' Z') := by
          obtain ⟨g1, g2, g3, g4, g5⟩ := st_size z0 s i HT.out (by omega)
          refine lt_add1 w wr p b _ _ XI ZI x rn xc RS LI.out HRL.out HRX.out HNX.out.1 HNX.out.2 g1 (by rw [g2]; omega) (by omega) ?_ _ _ 0 (st_add z0 s i RS HRS.out (by rw [HRL.out]; omega) HT.out (by omega))
          show (z0.take i).length + 1 ≤ 1000000
          have : (z0.take i).length ≤ i := List.length_take_le _ _
          omega
        have HT2 : Hid (∀ r ∈ z0.take (i + 1), r.length ≤ 300) := by
          intro r hr
          rw [List.take_add_one, HRS.out] at hr
          rcases List.mem_append.1 hr with hr | hr
          · exact HT.out r hr
          · simp at hr; subst hr; rw [HRL.out]; omega
        by_cases hsy : i + 1 = s
        · have CY : Hid (∀ u X Z, LT w u p b (stA z0 s i) (stB z0 s i) X Z → Calls Try.prog 17 #[.pointer (some ⟨p, 0, none⟩)] u fun e w' => ∃ X' Z', e = .returned (.int .i64 0) ∧ LT w w' p b (stD z0 s (i + 1)) (stL z0 s (i + 1)) X' Z') := fun u X Z h => lt_sync w u p b _ _ X Z h _ _ 0 (st_sync z0 s i hsy hil)
          have bq : ((i : Int) + 1 == (s : Int)) = true := by simp; omega
          clear hsy
          go_wp2_with (first | (go_at_call 12; refine CA.out.mono ?_; rintro e w4 ⟨X4, Z4, rfl, h1⟩; have L4 : Hid (LT w w4 p b (stA z0 s i) (stB z0 s i) X4 Z4) := h1; clear h1) | (go_at_call 17; refine (CY.out _ _ _ L4.out).mono ?_; rintro e w5 ⟨X5, Z5, rfl, h1⟩; have L5 : Hid (LT w w5 p b (stD z0 s (i + 1)) (stL z0 s (i + 1)) X5 Z5) := h1; clear h1))
          go_roundw
          case rel => exact ⟨i + 1, by simp, by omega, HT2, X5, Z5, L5⟩
          case measure => simp [intOf]; omega
        · have bq : ((i : Int) + 1 == (s : Int)) = false := by simp; omega
          have HS : Hid (stA z0 s i = stD z0 s (i + 1) ∧ stB z0 s i = stL z0 s (i + 1)) := st_next z0 s i hsy
          clear hsy
          go_wp2_with (first | (go_at_call 12; refine CA.out.mono ?_; rintro e w4 ⟨X4, Z4, rfl, h1⟩; have L4 : Hid (LT w w4 p b (stA z0 s i) (stB z0 s i) X4 Z4) := h1; clear h1))
          go_roundw
          case rel =>
            have h9 := L4.out
            rw [HS.out.1, HS.out.2] at h9
            exact ⟨i + 1, by simp, by omega, HT2, X4, Z4, h9⟩
          case measure => simp [intOf]; omega
    · have hin : i = len0 := by omega
      have HA : Hid (∀ r ∈ z0, r.length ≤ 300) := by have := HT.out; rw [hin, ← HL.out, List.take_length] at this; exact this
      have bN : decide ((i : Int) < (len0 : Int)) = false := decide_eq_false (by omega)
      have LE : Hid (LT w wr p b (stD z0 s len0) (stL z0 s len0) XI ZI) := by have := LI.out; rw [hin] at this; exact this
      obtain ⟨k, S2, l2, S9, l9, hk1, hk2, o1, o2, q1, q2, q3, q4, q5, q6, q7, q8, q9⟩ := st_end z0 s len0 HL.out (by omega) (rows_by HR.out) HA.out (by omega) a2 a3 htn
      obtain ⟨g1, g2, g3, g4, g5⟩ := st_size z0 s len0 (fun r hr => HA.out r (List.mem_of_mem_take hr)) (by omega)
      have hkl : l2.L.length = k := by rw [q1, List.length_take, HL.out]; omega
      obtain ⟨SC, hSC⟩ : ∃ SC, SC = (stD z0 s len0).crash a2 a3 := ⟨_, rfl⟩
      have hlv : SC.lives = 1 := by rw [hSC]; exact g5
      have CX : Hid (∀ u X, DT w u b (stD z0 s len0) X → Calls Try.prog 16 #[.pointer (some ⟨b, 0, none⟩), .int .i64 a2, .int .u8 a3] u fun e w' => e = .returned (.tuple #[]) ∧ ∃ X', DT w w' b SC X') := fun u X h => by rw [hSC]; exact lt_crash w u b _ X a2 a3 h g1 k0 k1 htn
      have CO : Hid (∀ u X, DT w u b SC X → Calls Try.prog 18 #[.pointer (some ⟨b, 0, none⟩)] u fun e w' => e = .returned (.tuple #[]) ∧ ∃ X', DT w w' b SC.on X') := fun u X h => lt_on w u b _ X h (by rw [hlv]; omega) (by rw [hlv]; omega)
      have CP : Hid (∀ u X, DT w u b SC.on X → Calls Try.prog 11 #[.pointer (some ⟨b, 0, none⟩), .string ⟨#[119]⟩] u fun e w' => ∃ p X' Z, e = .returned (.tuple #[.pointer (some ⟨p, 0, none⟩), .int .i64 0]) ∧ LT w w' p b S2 l2 X' Z) := fun u X h => by
        rw [← hSC] at o1 o2 q9
        have hc := lt_open w u b _ X [119] h rfl may_w q9
        rw [o1, o2] at hc
        exact hc
      have CL : Hid (∀ u p X Z, LT w u p b S2 l2 X Z → Calls Try.prog 13 #[.pointer (some ⟨p, 0, none⟩)] u fun e w' => e = .returned (.int .i64 (k : Nat)) ∧ LT w w' p b S2 l2 X Z) := fun u p X Z h => (lt_len w u p b S2 l2 X Z h).mono (by rintro e w' ⟨rfl, a1, a2⟩; rw [hkl]; exact ⟨rfl, a1⟩)
      have CF : Hid (∀ u p X Z, LT w u p b S2 l2 X Z → Calls Try.prog 19 #[.pointer (some ⟨p, 0, none⟩)] u fun e w' => e = .returned (.int .i64 (k : Nat)) ∧ LT w w' p b S2 l2 X Z) := fun u p X Z h => (lt_safe w u p b S2 l2 X Z h).mono (by rintro e w' ⟨rfl, a1, a2⟩; rw [q2]; exact ⟨rfl, a1⟩)
      have CT : Hid (∀ u p X Z (j : Nat), LT w u p b S2 l2 X Z → j < k → Calls Try.prog 14 #[.pointer (some ⟨p, 0, none⟩), .int .i64 (j : Int)] u fun e w' => ∃ a c, e = .returned (.tuple #[.slice a (z0.getD j []).length c, .int .i64 0]) ∧ LT w w' p b S2 l2 X Z ∧ Row w' a (z0.getD j [])) := fun u p X Z j h hj => (lt_at w u p b S2 l2 X Z j h q3 (by rw [hkl]; exact hj)).mono (by
        have hg : l2.L.getD j [] = z0.getD j [] := by rw [q1]; simp [List.getD, hj]
        rintro e w' ⟨a, c, rfl, a1, a2, a3, a4, a5⟩
        rw [hg] at a3 ⊢
        exact ⟨a, c, rfl, a1, a3⟩)
      have CZ : Hid (∀ u p X Z, LT w u p b S2 l2 X Z → Calls Try.prog 12 #[.pointer (some ⟨p, 0, none⟩), .slice (some ⟨u.heap.size + 1, 0, none⟩) 1 1] ((u.alloc (.cells #[.int .u8 122] 5 (1, 2))).alloc (.cells #[.slice (some ⟨u.heap.size, 0, none⟩) 1 1] 31)) fun e w' => ∃ X' Z', e = .returned (.int .i64 0) ∧ LT w w' p b S9 l9 X' Z') := fun u p X Z h => lt_add w _ p b S2 l2 X Z _ 1 1 [[122]] ((h.past ((Below.refl _ _).alloc (Nat.le_refl _) _)).past ((Below.refl _ _).alloc (Nat.le_refl _) _)) rfl (fun u' _ hk => rows_made u u' 122 (by omega) X Z h.pd.disk.lt h.pd.log.lt hk) (by omega) q6 (by rw [q7]; omega) (by omega) (by rw [hkl]; omega) S9 l9 0 q4
      have C9 : Hid (∀ u p X Z, LT w u p b S9 l9 X Z → Calls Try.prog 13 #[.pointer (some ⟨p, 0, none⟩)] u fun e w' => e = .returned (.int .i64 ((k + 1 : Nat) : Int)) ∧ LT w w' p b S9 l9 X Z) := fun u p X Z h => (lt_len w u p b S9 l9 X Z h).mono (by rintro e w' ⟨rfl, a1, a2⟩; rw [q5]; exact ⟨rfl, a1⟩)
      have b5 : decide (k < s) = false := decide_eq_false (by omega)
      have b6 : decide (len0 < k) = false := decide_eq_false (by omega)
      clear o1 o2 q1 q2 q3 q4 q5 q6 q7 q8 q9 g1 g2 g3 g4 g5 hkl hlv hSC hin LI L3 D2 C1 C2 BA
      go_wp2_with (first
        | (go_at_call 13; refine (CL.out _ _ _ _ LC.out).mono ?_; rintro e wl ⟨rfl, h1⟩; clear LC; have LC : Hid (LT w wl p8 b S2 l2 X8 Z8) := h1; clear h1)
        | (go_at_call 19; refine (CF.out _ _ _ _ LC.out).mono ?_; rintro e wl ⟨rfl, h1⟩; clear LC; have LC : Hid (LT w wl p8 b S2 l2 X8 Z8) := h1; clear h1)
        | (go_at_call 11; refine (CP.out _ _ D7.out).mono ?_; rintro e w8 ⟨p8, X8, Z8, rfl, h1⟩; have LC : Hid (LT w w8 p8 b S2 l2 X8 Z8) := h1; clear h1)
        | (go_at_call 18; refine (CO.out _ _ D6.out).mono ?_; rintro e w7 ⟨rfl, X7, h1⟩; have D7 : Hid (DT w w7 b _ X7) := h1; clear h1)
        | (go_at_call 16; refine (CX.out _ _ LE.out.dt).mono ?_; rintro e w6 ⟨rfl, X6, h1⟩; have D6 : Hid (DT w w6 b _ X6) := h1; clear h1))
      clear b5 b6 D6 D7 CX CO CP CF LE
      go_loopw [16] (fun iv wr => ∃ j : Nat, iv = .int .i64 j ∧ j ≤ k ∧ Hid (LT w wr p8 b S2 l2 X8 Z8)) (fun iv _ => k - (intOf iv).toNat)
      case atStart => exact ⟨0, rfl, Nat.zero_le _, LC⟩
      case round =>
        clear LC
        obtain ⟨j, rfl, hj, LJ⟩ := hrel
        by_cases hjt : j < k
        · have hjl : j < z0.length := by rw [HL.out]; omega
          have bj : decide ((j : Int) < (k : Int)) = true := decide_eq_true (by omega)
          obtain ⟨RS, hRS⟩ : ∃ RS, RS = z0.getD j [] := ⟨_, rfl⟩
          have CTj : Hid (∀ u, LT w u p8 b S2 l2 X8 Z8 → Calls Try.prog 14 #[.pointer (some ⟨p8, 0, none⟩), .int .i64 (j : Int)] u fun e w' => ∃ a c, e = .returned (.tuple #[.slice a RS.length c, .int .i64 0]) ∧ LT w w' p8 b S2 l2 X8 Z8 ∧ Row w' a RS) := fun u h => by rw [hRS]; exact CT.out u p8 X8 Z8 j h hjt
          have HAT : Hid (∀ u, Below w.heap.size w u → ∃ rb ro x xc, a0 = some (⟨rb, ro, none⟩ : Addr) ∧ u.cell? ⟨rb, ro + j, none⟩ = some (.slice x RS.length xc) ∧ Row u x RS) := fun u hb => by
            obtain ⟨rb, ro, x, xc, hra, hcl, hrx, hnx⟩ := (HR.out.below hb (Nat.le_refl _)).at hjl
            rw [← hRS] at hcl hrx
            exact ⟨rb, ro, x, xc, hra, hcl, hrx⟩
          clear hRS
          go_wp2_with (first
            | (go_at_call 13; refine (CL.out _ _ _ _ LJ.out).mono ?_; rintro e wl ⟨rfl, h1⟩; clear LJ; have LJ : Hid (LT w wl p8 b S2 l2 X8 Z8) := h1; clear h1)
            | (go_at_call 14; refine (CTj.out _ LJ.out).mono ?_; rintro e w14 ⟨a14, c14, rfl, h1, h2⟩; have L14 : Hid (LT w w14 p8 b S2 l2 X8 Z8) := h1; have R14 : Hid (Row w14 a14 RS) := h2; clear h1 h2))
          obtain ⟨rb, ro, x, xc, hra, hcl, hrx⟩ := HAT.out w14 L14.out.below
          subst hra
          have s1 : ∀ n, (convert 31 9 (.slice a14 RS.length c14)).run Try.prog (w14.drewN n) = .ok (.string (strOfNums RS)) (w14.drewN n) := fun n => str_of_row (R14.out.below (below_drewN (Below.refl _ _) n) (Nat.le_refl _)) c14
          have s2 : ∀ n, (convert 31 9 (.slice x RS.length xc)).run Try.prog (w14.drewN n) = .ok (.string (strOfNums RS)) (w14.drewN n) := fun n => str_of_row (hrx.below (below_drewN (Below.refl _ _) n) (Nat.le_refl _)) xc
          obtain ⟨rn, hrn⟩ : ∃ rn, rn = RS.length := ⟨_, rfl⟩
          rw [← hrn] at s1 s2 hcl ⊢
          have hne : ((strOfNums RS).toList != (strOfNums RS).toList) = false := by simp
          have hjn : j < len0 := by omega
          clear hrn hrx
          go_quiet (fail)
          go_wp2
          go_roundw
          case rel => exact ⟨j + 1, by simp, by omega, L14.out.past (below_drewN (Below.refl _ _) nq)⟩
          case measure => simp [intOf]; omega
        · have bj : decide ((j : Int) < (k : Int)) = false := decide_eq_false (by omega)
          have hcv := fun (w : World) (C : Array Value) (n c : Nat) => Lib.run_convert_bytes_const (P := Try.prog) w 31 5 C n c Try.underlying31 Try.underlying5
          go_wp2_with (first
            | (go_at_call 13; have hgo := L20.out; clear hgo; refine (C9.out _ _ _ _ L20.out).mono ?_; rintro e w21 ⟨rfl, h1⟩; have L21 : Hid (LT w w21 p8 b S9 l9 X20 Z20) := h1; clear h1)
            | (go_at_call 12; refine (CZ.out _ _ _ _ LJ.out).mono ?_; rintro e w20 ⟨X20, Z20, rfl, h1⟩; have L20 : Hid (LT w w20 p8 b S9 l9 X20 Z20) := h1; clear h1)
            | (go_at_call 13; refine (CL.out _ _ _ _ LJ.out).mono ?_; rintro e wl ⟨rfl, h1⟩; clear LJ; have LJ : Hid (LT w wl p8 b S2 l2 X8 Z8) := h1; clear h1))
          go_ret
          refine ⟨?_, L21.out.below⟩
          simp
          omega

set_option maxRecDepth 100000 in
theorem lifted (os : Os) (started : os.Started) (H : Type) (enc : TypeId × Value → H) :
    ReturnsInHanded {} Try.checked os 5 .any (Rows.walCrashSpec.pre6 enc Try.prog Try.f5 Rows.walCrashRow.domain false) (Rows.walCrashSpec.post enc Try.prog Try.f5 false true false false) := by
  refine returnsInHanded_of_change (C := Try.checked) own started (by kernel_rfl) Try.func5
    (ChangeSpec.witness6 (enc := enc) (C := Try.checked) false ⟨#[], #[.slice none 0 0, .int .i64 0, .int .i64 0, .int .u8 0], []⟩ 8 (by kernel_rfl) (by kernel_rfl) (by kernel_rfl) (by kernel_rfl)) ?_
  intro W base args ds gs before hval0 hW hcnd _
  have hval : ∀ (j : Nat) t v, Try.f5.params[j]? = some t → args[j]? = some v → Value.okWide Try.prog W .any base t v := hval0
  have hW' := hW
  obtain ⟨p, q, hA0, hV, rfl, hfz, hnd⟩ := hW
  have hA : DataW.TrodAll enc Try.prog W 0 (fun _ => true) true Try.f5.params.toList args.toList ds p := hA0
  rw [Try.params5] at hA hval
  obtain ⟨v0, vs0, d0, ds0, p0, q0, hargs, rfl, rfl, h0, r0⟩ := trodAll_cons hA
  obtain ⟨v1, vs1, d1, ds1, p1, q1, rfl, rfl, rfl, h1, r1⟩ := trodAll_cons r0
  obtain ⟨v2, vs2, d2, ds2, p2, q2, rfl, rfl, rfl, h2, r2⟩ := trodAll_cons r1
  obtain ⟨v3, vs3, d3, ds3, p3, q3, rfl, rfl, rfl, h3, r3⟩ := trodAll_cons r2
  obtain ⟨rfl, rfl, rfl⟩ := trodAll_nil r3
  obtain rfl : args = #[v0, v1, v2, v3] := by cases args; simp_all
  obtain ⟨rfl, rfl⟩ := trodVars_none hV
  obtain ⟨a0, len0, cap0, rfl⟩ := okWide_slice Try.underlying45 (hval 0 45 v0 rfl rfl)
  have k0 := h0
  have lt0 : ∀ x ∈ p0, x.block < W.heap.size := by obtain ⟨m, hm⟩ := k0; exact DataW.trod_lt m _ _ _ hm
  obtain ⟨z0, l0, w0⟩ : ∃ ls : List (List Int), ls.length = len0 ∧ RowsOf W a0 cap0 ls := by
    obtain ⟨fuel, hf⟩ := h0
    exact rows_open Try.underlying45 Try.underlying31 (by kernel_rfl) (by kernel_rfl) hf
  have k1 := h1
  have lt1 : ∀ x ∈ p1, x.block < W.heap.size := by obtain ⟨m, hm⟩ := k1; exact DataW.trod_lt m _ _ _ hm
  obtain ⟨a1, rfl, rfl, rfl, w1⟩ := open_int Try.underlying3 (hval 1 3 v1 rfl rfl) h1
  have k2 := h2
  have lt2 : ∀ x ∈ p2, x.block < W.heap.size := by obtain ⟨m, hm⟩ := k2; exact DataW.trod_lt m _ _ _ hm
  obtain ⟨a2, rfl, rfl, rfl, w2⟩ := open_int Try.underlying3 (hval 2 3 v2 rfl rfl) h2
  have k3 := h3
  have lt3 : ∀ x ∈ p3, x.block < W.heap.size := by obtain ⟨m, hm⟩ := k3; exact DataW.trod_lt m _ _ _ hm
  obtain ⟨a3, rfl, rfl, rfl, w3⟩ := open_int Try.underlying5 (hval 3 5 v3 rfl rfl) h3
  clear hA0 hval0
  refine (walk a0 len0 cap0 z0 a1 a2 a3 W l0 w0 w1 w2 w3).mono fun e W' ⟨he, bel⟩ => ?_
  subst he
  exact ⟨_, rfl, _, _, _, [], _, [], hW', trodAll_mk1 (shut_bool Try.underlying4 _), (trodAll_cons_mk (Below.trod laidOut (by kernel_rfl) (of_decide_eq_true (by kernel_rfl)) k0 bel lt0) (trodAll_cons_mk (Below.trod laidOut (by kernel_rfl) (of_decide_eq_true (by kernel_rfl)) k1 bel lt1) (trodAll_cons_mk (Below.trod laidOut (by kernel_rfl) (of_decide_eq_true (by kernel_rfl)) k2 bel lt2) (trodAll_cons_mk (Below.trod laidOut (by kernel_rfl) (of_decide_eq_true (by kernel_rfl)) k3 bel lt3) trodAll_mk0)))), rfl, bel.frame _, fun h => by cases h⟩

theorem over : Rows.walCrashRow.holds Try.pinned (OpenSpec.ofChange Rows.walCrashSpec) :=
  OpenClaim.holds_of_wide 5 Try.f5 rfl rfl rfl rfl rfl rfl rfl ⟨rfl, rfl, rfl, rfl, rfl⟩ rfl rfl rfl rfl rfl (by kernel_rfl) Try.func5 (by kernel_rfl)
    (of_decide_eq_true (by kernel_rfl)) (by unfold Func.isWrapper; first | (rw [if_pos (by decide +kernel)]; kernel_rfl) | (rw [if_neg (by decide +kernel)]; exact ⟨rfl, rfl⟩))
    (fun os started H enc _ => lifted os started H enc)
theorem proved : Rows.WalCrashSaid := over
#print axioms proved
end Go.Proofs.Ytlfmhdljldbjmaa.walCrash
namespace Go.Proofs.Ytlfmhdljldbjmaa
/-- WalCrash, as given. -/
theorem walCrash_holds : Rows.WalCrashSaid := walCrash.proved
end Go.Proofs.Ytlfmhdljldbjmaa
