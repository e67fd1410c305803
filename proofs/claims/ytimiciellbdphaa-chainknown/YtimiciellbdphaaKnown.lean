/-
  ChainKnown: what chapter 11 says of trims and of bounds is answered so.
-/
import Derived.Test.YtimiciellbdphaaRows
import Derived.Test.YtimiciellbdphaaChainFull
import Derived.Test.YtimiciellbdphaaChainKeep
import Derived.WalkKit
import Derived.ProofKit
import Derived.OpenShut
import Derived.ShutString
import Derived.ChangeOld
import Derived.Below
import Derived.Carry
import Derived.Deep.DeepCutAuto
import Derived.Deep.RegionWith
namespace Go.Proofs.Ytimiciellbdphaa.chainKnown
open Go.ChangeShapes Go.WideShapes Go.ChangeAt Go.RowKit
open Go.ChangeMaps (open_string shut_string)
set_option linter.unusedVariables false

theorem own : ownKnob Try.prog.godebug = none := by kernel_rfl
theorem laidOut : laidOutB Try.prog = true := by kernel_rfl
/-- A slice of integers that came in: nil, or a row of 'cap' cells, of which the first 'len' are its elements. -/
def IsRow (k : IntKind) (w : World) (a : Option Addr) (len cap : Nat) (zs : List Int) : Prop :=
  (a = none ∧ len = 0 ∧ cap = 0 ∧ zs = []) ∨
  ∃ x, a = some x ∧ len ≤ cap ∧ cap ≤ maxLen ∧ zs.length = cap ∧ (∀ i, i < zs.length → w.cell? (x.add i) = some (.int k (zs.getD i 0))) ∧ ∀ n ∈ zs, (Lit.int k n).wf = true

set_option maxHeartbeats 3000000 in
set_option maxRecDepth 8000 in
theorem walk  (w : World)  :
    Calls Try.prog 3 #[] w fun e w' => e = .returned (.bool true) ∧ Below w.heap.size w w' := by
  have AW : Hid (∀ u, Calls Try.prog 8 #[] u fun e w' => e = .returned (.bool true) ∧ Below u.heap.size u w') := fun u => lawake_any u
  have AT : Hid (∀ (t : Int) u, Calls Try.prog 11 #[.int .i64 t] u fun e w' => e = .returned (.agg #[.int .i64 t, .int .u8 0]) ∧ Below u.heap.size u w') := fun t u => lat_any t u
  have C0 : Hid (∀ W u, Below W.heap.size W u → Calls Try.prog 9 #[] u fun e w' => ∃ p, e = .returned (.pointer (some ⟨p, 0, none⟩)) ∧ ChW W w' p []) := fun W u hb => (wnew_any W u hb).mono fun e w' ⟨p, h1, h2, _⟩ => ⟨p, h1, h2⟩
  have P1 : Hid (∀ u p, ChW w u p [] → Calls Try.prog 10 #[.pointer (some ⟨p, 0, none⟩), .agg #[.int .i64 (-1), .int .u8 0, .string ⟨#[]⟩, .bool false]] u fun e w' => e = .returned (.int .i64 1) ∧ ChW w w' p []) := fun u p h => by have h2 := wput_is (V := vz (-1) [] false) h (vz_in (-1) [] false (by omega) (by omega) (by decide) (by decide)) ex_1; exact h2
  have P2 : Hid (∀ u p, ChW w u p [] → Calls Try.prog 10 #[.pointer (some ⟨p, 0, none⟩), .agg #[.int .i64 1, .int .u8 0, .string ⟨#[120]⟩, .bool true]] u fun e w' => e = .returned (.int .i64 1) ∧ ChW w w' p []) := fun u p h => by have h2 := wput_is (V := vz 1 [120] true) h (vz_in 1 [120] true (by omega) (by omega) (by decide) (by decide)) ex_2; exact h2
  have P4 : Hid (∀ u p, ChW w u p [] → Calls Try.prog 10 #[.pointer (some ⟨p, 0, none⟩), .agg #[.int .i64 1, .int .u8 0, .string ⟨#[120]⟩, .bool false]] u fun e w' => e = .returned (.int .i64 0) ∧ ChW w w' p exL1) := fun u p h => by have h2 := wput_is (V := vz 1 [120] false) h (vz_in 1 [120] false (by omega) (by omega) (by decide) (by decide)) ex_4; exact h2
  have P5 : Hid (∀ u p, ChW w u p exL1 → Calls Try.prog 10 #[.pointer (some ⟨p, 0, none⟩), .agg #[.int .i64 1, .int .u8 0, .string ⟨#[121]⟩, .bool false]] u fun e w' => e = .returned (.int .i64 5) ∧ ChW w w' p exL1) := fun u p h => by have h2 := wput_is (V := vz 1 [121] false) h (vz_in 1 [121] false (by omega) (by omega) (by decide) (by decide)) ex_5; exact h2
  have P6 : Hid (∀ u p, ChW w u p exL1 → Calls Try.prog 10 #[.pointer (some ⟨p, 0, none⟩), .agg #[.int .i64 2, .int .u8 0, .string ⟨#[]⟩, .bool true]] u fun e w' => e = .returned (.int .i64 0) ∧ ChW w w' p exL2) := fun u p h => by have h2 := wput_is (V := vz 2 [] true) h (vz_in 2 [] true (by omega) (by omega) (by decide) (by decide)) ex_6; exact h2
  have P7 : Hid (∀ u p, ChW w u p exL2 → Calls Try.prog 10 #[.pointer (some ⟨p, 0, none⟩), .agg #[.int .i64 5, .int .u8 0, .string ⟨#[118]⟩, .bool false]] u fun e w' => e = .returned (.int .i64 0) ∧ ChW w w' p exL3) := fun u p h => by have h2 := wput_is (V := vz 5 [118] false) h (vz_in 5 [118] false (by omega) (by omega) (by decide) (by decide)) ex_7; exact h2
  have P3 : Hid (∀ u p, ChW w u p [] → Calls Try.prog 10 #[.pointer (some ⟨p, 0, none⟩), .agg #[.int .i64 1, .int .u8 0, .string (strOfNums (List.replicate 201 0)), .bool false]] u fun e w' => e = .returned (.int .i64 1) ∧ ChW w w' p []) := fun u p h => by have h2 := wput_is (V := vz 1 (List.replicate 201 0) false) h (vz_in 1 (List.replicate 201 0) false (by omega) (by omega) (fun z hz => by rw [(List.mem_replicate.1 hz).2]; omega) (by rw [List.length_replicate]; omega)) ex_3; exact h2
  have T8 : Hid (∀ u p, ChW w u p exL3 → Calls Try.prog 12 #[.pointer (some ⟨p, 0, none⟩), .agg #[.int .i64 0, .int .u8 0]] u fun e w' => e = .returned (.int .i64 0) ∧ ChW w w' p exL3) := fun u p h => by have h2 := wtrim_is (r := 0) h ex_8 (by rfl); exact h2
  have T9 : Hid (∀ u p, ChW w u p exL3 → Calls Try.prog 12 #[.pointer (some ⟨p, 0, none⟩), .agg #[.int .i64 1, .int .u8 0]] u fun e w' => e = .returned (.int .i64 0) ∧ ChW w w' p exL3) := fun u p h => by have h2 := wtrim_is (r := 0) h ex_9 (by rfl); exact h2
  have T10 : Hid (∀ u p, ChW w u p exL3 → Calls Try.prog 12 #[.pointer (some ⟨p, 0, none⟩), .agg #[.int .i64 4, .int .u8 0]] u fun e w' => e = .returned (.int .i64 2) ∧ ChW w w' p exL4) := fun u p h => by have h2 := wtrim_is (r := 2) h ex_10 (by rfl); exact h2
  have T11 : Hid (∀ u p, ChW w u p exL4 → Calls Try.prog 12 #[.pointer (some ⟨p, 0, none⟩), .agg #[.int .i64 9, .int .u8 0]] u fun e w' => e = .returned (.int .i64 0) ∧ ChW w w' p exL4) := fun u p h => by have h2 := wtrim_is (r := 0) h ex_11 (by rfl); exact h2
  have LL : Hid (∀ u p, ChW w u p exL4 → Calls Try.prog 13 #[.pointer (some ⟨p, 0, none⟩)] u fun e w' => ∃ b off c, e = .returned (.slice (some ⟨b, off, none⟩) 1 c) ∧ 1 ≤ c ∧ w'.cell? ⟨b, off + 2, none⟩ = some (.string ⟨#[118]⟩) ∧ ChW w w' p exL4) := fun u p h => by
    refine (wall_any h).mono ?_
    rintro e w1 ⟨⟨a, c, rfl, hv⟩, h1, _⟩
    have hc : 1 ≤ c := hv.room
    rcases hv.cells with e1 | ⟨b, off, rfl, hc2⟩
    · cases e1
    · refine ⟨b, off, c, rfl, hc, ?_, h1⟩
      have := (hc2 0 (vz 5 [118] false) rfl).c2
      rw [Nat.zero_mul, Nat.add_zero] at this
      exact this
  have PF : Hid (∀ W u p (k : Nat), k < 50 → ChW W u p (fullN k) → Calls Try.prog 10 #[.pointer (some ⟨p, 0, none⟩), .agg #[.int .i64 (k : Int), .int .u8 0, .string ⟨#[]⟩, .bool false]] u fun e w' => e = .returned (.int .i64 0) ∧ ChW W w' p (fullN (k + 1))) := fun W u p k hk h => by have h2 := wput_is (V := vz k [] false) h (vz_in k [] false (by omega) (by omega) (by simp) (by simp)) (full_put k hk); exact h2
  have PG : Hid (∀ W u p, ChW W u p (fullN 50) → Calls Try.prog 10 #[.pointer (some ⟨p, 0, none⟩), .agg #[.int .i64 99, .int .u8 0, .string ⟨#[]⟩, .bool false]] u fun e w' => e = .returned (.int .i64 6) ∧ ChW W w' p (fullN 50)) := fun W u p h => by have h2 := wput_is (V := vz 99 [] false) h (vz_in 99 [] false (by omega) (by omega) (by simp) (by simp)) (Prod.ext full_more.1 full_more.2); exact h2
  have PH : Hid (∀ W u p, ChW W u p (fullN 50) → Calls Try.prog 10 #[.pointer (some ⟨p, 0, none⟩), .agg #[.int .i64 9, .int .u8 0, .string ⟨#[]⟩, .bool false]] u fun e w' => e = .returned (.int .i64 5) ∧ Below W.heap.size W w') := fun W u p h => by
    have h2 := wput_any (V := vz 9 [] false) h (vz_in 9 [] false (by omega) (by omega) (by simp) (by simp))
    rw [full_there] at h2
    exact h2.mono (by rintro e w1 ⟨rfl, h1⟩; exact ⟨rfl, h1.below⟩)
  obtain ⟨Z, hZ⟩ : ∃ Z, Z = zeros 201 := ⟨_, rfl⟩
  obtain ⟨Q, hQ⟩ : ∃ Q, Q = strOfNums (List.replicate 201 0) := ⟨_, rfl⟩
  have hmk : ∀ u : World, (Instr.makeSlice 32 (.int .i64 201) (.int .i64 201)).run Try.prog u = .ok (.slice (some ⟨u.heap.size, 0, none⟩) 201 201) (u.alloc (.cells Z 5)) := fun u => by rw [hZ]; exact run_bytes u 201 (by omega)
  have HCV : Hid (∀ (u x : World), Below (u.alloc (.cells Z 5)).heap.size (u.alloc (.cells Z 5)) x → (convert 32 9 (.slice (some ⟨u.heap.size, 0, none⟩) 201 201)).run Try.prog x = .ok (.string Q) x) := fun u x hb => by
    have h1 : Row (u.alloc (.cells Z 5)) (some ⟨u.heap.size, 0, none⟩) (List.replicate 201 0) := by rw [hZ]; exact (mine_zeros u 201).row
    rw [hQ]
    exact str_at (by rw [List.length_replicate]) (h1.below hb (Nat.le_refl _)) 201
  rw [← hQ] at P3
  clear hZ hQ
  generalize exL1 = M1 at *
  generalize exL2 = M2 at *
  generalize exL3 = M3 at *
  generalize exL4 = M4 at *
  generalize hM0 : ([] : List Ver) = M0 at *
  go_enter Try.func3, Try.ntmps3
  go_upto_region 6 with (first | (go_at_call 8; refine (AW.out _).mono ?_; rintro e v01 ⟨rfl, hb⟩; have B01 : Hid (Below w.heap.size w v01) := hb; clear hb AW) | (have hgo := B01.out; clear hgo; go_at_call 9; refine (C0.out w _ B01.out).mono ?_; rintro e v02 ⟨p, rfl, h2⟩; have H02 : Hid (ChW w v02 p M0) := h2; clear h2 B01) | (have hgo := H02.out; clear hgo; go_at_call 11; refine (AT.out (-1) _).mono ?_; rintro e v1 ⟨rfl, hb⟩; have H1 : Hid (ChW w v1 p M0) := H02.out.past hb; clear hb H02) | (have hgo := H1.out; clear hgo; go_at_call 10; refine (P1.out _ _ H1.out).mono ?_; rintro e v2 ⟨rfl, h2⟩; have H2 : Hid (ChW w v2 p M0) := h2; clear h2 H1 P1) | (have hgo := H2.out; clear hgo; go_at_call 11; refine (AT.out 1 _).mono ?_; rintro e v3 ⟨rfl, hb⟩; have H3 : Hid (ChW w v3 p M0) := H2.out.past hb; clear hb H2) | (have hgo := H3.out; clear hgo; go_at_call 10; refine (P2.out _ _ H3.out).mono ?_; rintro e v4 ⟨rfl, h4⟩; have H4 : Hid (ChW w v4 p M0) := h4; clear h4 H3 P2))
  go_cut [4] (fun dv wx => dv = .int .i64 1 ∧ Hid (ChW w wx p M0))
  case first =>
    have hcv1 := fun u : World => HCV.out u (u.alloc (.cells Z 5)) (Below.refl _ _)
    have hcv2 : (convert 32 9 (.slice (some ⟨v4.heap.size, 0, none⟩) 201 201)).run Try.prog (v4.drew.alloc (.cells Z 5)) = .ok (.string Q) (v4.drew.alloc (.cells Z 5)) := HCV.out v4.drew _ (Below.refl _ _)
    have hcv4 : (convert 32 9 (.slice (some ⟨v4.heap.size, 0, none⟩) 201 201)).run Try.prog (v4.alloc (.cells Z 5)).drew = .ok (.string Q) (v4.alloc (.cells Z 5)).drew := HCV.out v4.drew _ (Below.refl _ _)
    go_region_with (first | (go_at_call 11; refine (AT.out 1 _).mono ?_; rintro e x1 ⟨rfl, hb⟩; have X1 : Hid (ChW w x1 p M0) := (by first | exact (H4.out.past (Below.refl _ _).drew).past hb | exact ((H4.out.past (Below.refl _ _).drew).past ((Below.refl _ _).alloc (Nat.le_refl _) _)).past hb); (try (have hcv3 : (convert 32 9 (.slice (some ⟨v4.heap.size, 0, none⟩) 201 201)).run Try.prog x1 = .ok (.string Q) x1 := HCV.out v4.drew x1 hb)); clear hb) | (go_at_call 10; first | (refine (P3.out _ _ X1.out).mono ?_; rintro e x2 ⟨rfl, h2⟩; have X2 : Hid (ChW w x2 p M0) := h2; clear h2) | (refine (P3.out _ _ (X1.out.past ((Below.refl _ _).alloc (Nat.le_refl _) _))).mono ?_; rintro e x2 ⟨rfl, h2⟩; have X2 : Hid (ChW w x2 p M0) := h2; clear h2)))
    all_goals (go_wp2; go_meet; exact ⟨rfl, X2⟩)
  case rest =>
    obtain ⟨rfl, HR⟩ := hcut
    go_wp2_with (first | (have hgo := HR.out; clear hgo; go_at_call 11; refine (AT.out 1 _).mono ?_; rintro e v5 ⟨rfl, hb⟩; have H5 : Hid (ChW w v5 p M0) := HR.out.past hb; clear hb HR) | (have hgo := H5.out; clear hgo; go_at_call 10; refine (P4.out _ _ H5.out).mono ?_; rintro e v6 ⟨rfl, h6⟩; have H6 : Hid (ChW w v6 p M1) := h6; clear h6 H5 P4) | (have hgo := H6.out; clear hgo; go_at_call 11; refine (AT.out 1 _).mono ?_; rintro e v7 ⟨rfl, hb⟩; have H7 : Hid (ChW w v7 p M1) := H6.out.past hb; clear hb H6) | (have hgo := H7.out; clear hgo; go_at_call 10; refine (P5.out _ _ H7.out).mono ?_; rintro e v8 ⟨rfl, h8⟩; have H8 : Hid (ChW w v8 p M1) := h8; clear h8 H7 P5) | (have hgo := H8.out; clear hgo; go_at_call 11; refine (AT.out 2 _).mono ?_; rintro e v9 ⟨rfl, hb⟩; have H9 : Hid (ChW w v9 p M1) := H8.out.past hb; clear hb H8) | (have hgo := H9.out; clear hgo; go_at_call 10; refine (P6.out _ _ H9.out).mono ?_; rintro e v10 ⟨rfl, h10⟩; have H10 : Hid (ChW w v10 p M2) := h10; clear h10 H9 P6) | (have hgo := H10.out; clear hgo; go_at_call 11; refine (AT.out 5 _).mono ?_; rintro e v11 ⟨rfl, hb⟩; have H11 : Hid (ChW w v11 p M2) := H10.out.past hb; clear hb H10) | (have hgo := H11.out; clear hgo; go_at_call 10; refine (P7.out _ _ H11.out).mono ?_; rintro e v12 ⟨rfl, h12⟩; have H12 : Hid (ChW w v12 p M3) := h12; clear h12 H11 P7) | (have hgo := H12.out; clear hgo; go_at_call 11; refine (AT.out 0 _).mono ?_; rintro e v13 ⟨rfl, hb⟩; have H13 : Hid (ChW w v13 p M3) := H12.out.past hb; clear hb H12) | (have hgo := H13.out; clear hgo; go_at_call 12; refine (T8.out _ _ H13.out).mono ?_; rintro e v14 ⟨rfl, h14⟩; have H14 : Hid (ChW w v14 p M3) := h14; clear h14 H13 T8) | (have hgo := H14.out; clear hgo; go_at_call 11; refine (AT.out 1 _).mono ?_; rintro e v15 ⟨rfl, hb⟩; have H15 : Hid (ChW w v15 p M3) := H14.out.past hb; clear hb H14) | (have hgo := H15.out; clear hgo; go_at_call 12; refine (T9.out _ _ H15.out).mono ?_; rintro e v16 ⟨rfl, h16⟩; have H16 : Hid (ChW w v16 p M3) := h16; clear h16 H15 T9) | (have hgo := H16.out; clear hgo; go_at_call 11; refine (AT.out 4 _).mono ?_; rintro e v17 ⟨rfl, hb⟩; have H17 : Hid (ChW w v17 p M3) := H16.out.past hb; clear hb H16) | (have hgo := H17.out; clear hgo; go_at_call 12; refine (T10.out _ _ H17.out).mono ?_; rintro e v18 ⟨rfl, h18⟩; have H18 : Hid (ChW w v18 p M4) := h18; clear h18 H17 T10) | (have hgo := H18.out; clear hgo; go_at_call 11; refine (AT.out 9 _).mono ?_; rintro e v19 ⟨rfl, hb⟩; have H19 : Hid (ChW w v19 p M4) := H18.out.past hb; clear hb H18) | (have hgo := H19.out; clear hgo; go_at_call 12; refine (T11.out _ _ H19.out).mono ?_; rintro e v20 ⟨rfl, h20⟩; have H20 : Hid (ChW w v20 p M4) := h20; clear h20 H19 T11) | (have hgo := H20.out; clear hgo; go_at_call 13; refine (LL.out _ _ H20.out).mono ?_; rintro e W ⟨lb, lo, lc, rfl, hlc, hl, hW⟩; have HLC : Hid (W.cell? ⟨lb, lo + 2, none⟩ = some (.string ⟨#[118]⟩)) := hl; have BW : Hid (Below w.heap.size w W) := hW.below; clear hl hW H20 LL) | (have hgo := BW.out; clear hgo; go_at_call 9; refine (C0.out W _ (Below.refl _ _)).mono ?_; rintro e y0 ⟨q, rfl, h0⟩; have Y0 : Hid (ChW W y0 q M0) := h0; clear h0 C0))
    have HF0 : Hid (fullN 0 = M0) := hM0
    go_loopw [12] (fun iv wr => ∃ k : Nat, iv = .int .i64 k ∧ k ≤ 50 ∧ Hid (ChW W wr q (fullN k))) (fun iv _ => 50 - (intOf iv).toNat)
    case atStart => exact ⟨0, rfl, Nat.zero_le _, by rw [HF0.out]; exact Y0⟩
    case round =>
      obtain ⟨k, rfl, hk, HK⟩ := hrel
      by_cases hlt : k < 50
      · have hlt2 : (k : Int) < 50 := by omega
        go_wp2_with (first | (have hgo := HK.out; clear hgo; go_at_call 11; refine (AT.out (k : Int) _).mono ?_; rintro e z1 ⟨rfl, hb⟩; have K1 : Hid (ChW W z1 q (fullN k)) := HK.out.past hb; clear hb HK) | (have hgo := K1.out; clear hgo; go_at_call 10; refine (PF.out W _ _ k hlt K1.out).mono ?_; rintro e z2 ⟨rfl, h2⟩; have K2 : Hid (ChW W z2 q (fullN (k + 1))) := h2; clear h2 K1))
        go_roundw
        case rel => exact ⟨k + 1, by go_num, by omega, K2⟩
        case measure => simp [intOf]; omega
      · obtain rfl : k = 50 := by omega
        have hl := (HK.out.below.cell (p := ⟨lb, lo + 2, none⟩) (lt_of_cell HLC.out)).trans HLC.out
        go_wp2_with (first | (have hgo := HK.out; clear hgo; go_at_call 11; refine (AT.out 99 _).mono ?_; rintro e z1 ⟨rfl, hb⟩; have K1 : Hid (ChW W z1 q (fullN 50)) := HK.out.past hb; clear hb HK) | (have hgo := K1.out; clear hgo; go_at_call 10; refine (PG.out W _ _ K1.out).mono ?_; rintro e z2 ⟨rfl, h2⟩; have K2 : Hid (ChW W z2 q (fullN 50)) := h2; clear h2 K1) | (have hgo := K2.out; clear hgo; go_at_call 11; refine (AT.out 9 _).mono ?_; rintro e z3 ⟨rfl, hb⟩; have K3 : Hid (ChW W z3 q (fullN 50)) := K2.out.past hb; clear hb K2) | (have hgo := K3.out; clear hgo; go_at_call 10; refine (PH.out W _ _ K3.out).mono ?_; rintro e z4 ⟨rfl, h4⟩; have K4 : Hid (Below W.heap.size W z4) := h4; clear h4 K3))
        go_ret
        exact ⟨rfl, BW.out.trans (K4.out.mono BW.out.size)⟩

set_option maxRecDepth 100000 in
theorem lifted (os : Os) (started : os.Started) (H : Type) (enc : TypeId × Value → H) :
    ReturnsInHanded {} Try.checked os 3 .any (Rows.chainKnownSpec.pre6 enc Try.prog Try.f3 Rows.chainKnownRow.domain false) (Rows.chainKnownSpec.post enc Try.prog Try.f3 false true false false) := by
  refine returnsInHanded_of_change (C := Try.checked) own started (by kernel_rfl) Try.func3
    (ChangeSpec.witness6 (enc := enc) (C := Try.checked) false ⟨#[], #[], []⟩ 8 (by kernel_rfl) (by kernel_rfl) (by kernel_rfl) (by kernel_rfl)) ?_
  intro W base args ds gs before hval0 hW hcnd _
  have hval : ∀ (j : Nat) t v, Try.f3.params[j]? = some t → args[j]? = some v → Value.okWide Try.prog W .any base t v := hval0
  have hW' := hW
  obtain ⟨p, q, hA0, hV, rfl, hfz, hnd⟩ := hW
  have hA : DataW.TrodAll enc Try.prog W 0 (fun _ => true) true Try.f3.params.toList args.toList ds p := hA0
  rw [Try.params3] at hA hval
  obtain ⟨hargs, rfl, rfl⟩ := trodAll_nil hA
  obtain rfl : args = #[] := by cases args; simp_all
  obtain ⟨rfl, rfl⟩ := trodVars_none hV
  clear hA0 hval0
  refine (walk  W ).mono fun e W' ⟨he, bel⟩ => ?_
  subst he
  exact ⟨_, rfl, _, _, _, [], _, [], hW', trodAll_mk1 (shut_bool Try.underlying4 _), trodAll_mk0, rfl, bel.frame _, fun h => by cases h⟩

theorem over : Rows.chainKnownRow.holds Try.pinned (OpenSpec.ofChange Rows.chainKnownSpec) :=
  OpenClaim.holds_of_wide 3 Try.f3 rfl rfl rfl rfl rfl rfl rfl ⟨rfl, rfl, rfl, rfl, rfl⟩ rfl rfl rfl rfl rfl (by kernel_rfl) Try.func3 (by kernel_rfl)
    (of_decide_eq_true (by kernel_rfl)) (by unfold Func.isWrapper; first | (rw [if_pos (by decide +kernel)]; kernel_rfl) | (rw [if_neg (by decide +kernel)]; exact ⟨rfl, rfl⟩))
    (fun os started H enc _ => lifted os started H enc)
theorem proved : Rows.ChainKnownSaid := over
#print axioms proved
end Go.Proofs.Ytimiciellbdphaa.chainKnown
namespace Go.Proofs.Ytimiciellbdphaa
/-- ChainKnown, as given. -/
theorem chainKnown_holds : Rows.ChainKnownSaid := chainKnown.proved
end Go.Proofs.Ytimiciellbdphaa
