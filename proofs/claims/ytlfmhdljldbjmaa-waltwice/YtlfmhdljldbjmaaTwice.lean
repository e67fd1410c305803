/-
  WalTwice: a log that is opened once more is as it was, for all records.
-/
import Derived.Test.YtlfmhdljldbjmaaRows
import Derived.Test.YtlfmhdljldbjmaaWalTwo
import Derived.Test.YtlfmhdljldbjmaaRecsTwo
import Derived.Test.YtlfmhdljldbjmaaRefSame
import Derived.Test.YtlfmhdljldbjmaaBase
import Derived.WalkKit
import Derived.ProofKit
import Derived.OpenShut
import Derived.ShutString
import Derived.ChangeOld
import Derived.Below
import Derived.Carry
import Derived.Deep.QuietTactic
import Derived.BigQuiet
namespace Go.Proofs.Ytlfmhdljldbjmaa.walTwice
open Go.ChangeShapes Go.WideShapes Go.ChangeAt Go.RowKit
open Go.ChangeMaps (open_string shut_string)
set_option linter.unusedVariables false

theorem own : ownKnob Try.prog.godebug = none := by kernel_rfl
theorem laidOut : laidOutB Try.prog = true := by kernel_rfl
/-- A slice of integers that came in: nil, or a row of 'cap' cells, of which the first 'len' are its elements. -/
def IsRow (k : IntKind) (w : World) (a : Option Addr) (len cap : Nat) (zs : List Int) : Prop :=
  (a = none ∧ len = 0 ∧ cap = 0 ∧ zs = []) ∨
  ∃ x, a = some x ∧ len ≤ cap ∧ cap ≤ maxLen ∧ zs.length = cap ∧ (∀ i, i < zs.length → w.cell? (x.add i) = some (.int k (zs.getD i 0))) ∧ ∀ n ∈ zs, (Lit.int k n).wf = true

set_option maxHeartbeats 4000000 in
set_option maxRecDepth 8000 in
theorem walk (a0 : Option Addr) (len0 cap0 : Nat) (z0 : List (List Int)) (a1 : Option Addr) (len1 cap1 : Nat) (z1 : List (List Int)) (a2 : Int) (a3 : Int) (a4 : Int) (w : World) (l0 : z0.length = len0) (w0 : RowsOf w a0 cap0 z0) (l1 : z1.length = len1) (w1 : RowsOf w a1 cap1 z1) (w2 : (Lit.int .i64 a2).wf = true) (w3 : (Lit.int .i64 a3).wf = true) (w4 : (Lit.int .u8 a4).wf = true) :
    Calls Try.prog 6 #[.slice a0 len0 cap0, .slice a1 len1 cap1, .int .i64 a2, .int .i64 a3, .int .u8 a4] w fun e w' => e = .returned (.bool true) ∧ Below w.heap.size w w' := by
  obtain ⟨k0, k1⟩ := bounds_i64 w2
  obtain ⟨k2, k3⟩ := bounds_i64 w3
  have htn := bounds_u8 w4
  clear w2 w3 w4
  have HR0 : Hid (RowsOf w a0 cap0 z0) := w0
  have HL0 : Hid (z0.length = len0) := l0
  have HR1 : Hid (RowsOf w a1 cap1 z1) := w1
  have HL1 : Hid (z1.length = len1) := l1
  clear w0 l0 w1 l1
  by_cases h10 : 10 < len0
  · have b1 : decide ((10 : Int) < (len0 : Int)) = true := decide_eq_true (by omega)
    go_enter Try.func6, Try.ntmps6
    go_wp2_with (go_at_call 9; refine (awake_any _).mono ?_; rintro e wa ⟨rfl, hb⟩)
    go_ret
    exact ⟨rfl, hb⟩
  have b1 : decide ((10 : Int) < (len0 : Int)) = false := decide_eq_false (by omega)
  by_cases h11 : 10 < len1
  · have b2 : decide ((10 : Int) < (len1 : Int)) = true := decide_eq_true (by omega)
    go_enter Try.func6, Try.ntmps6
    go_wp2_with (go_at_call 9; refine (awake_any _).mono ?_; rintro e wa ⟨rfl, hb⟩)
    go_ret
    exact ⟨rfl, hb⟩
  have b2 : decide ((10 : Int) < (len1 : Int)) = false := decide_eq_false (by omega)
  obtain ⟨ZZ, hZZ⟩ : ∃ ZZ, ZZ = z0 ++ z1 := ⟨_, rfl⟩
  have HZZ : Hid (ZZ = z0 ++ z1) := hZZ
  have HLZ : Hid (ZZ.length = len0 + len1) := by show _ = _; rw [hZZ, List.length_append, HL0.out, HL1.out]
  clear hZZ
  go_enter Try.func6, Try.ntmps6
  go_wp2_with (go_at_call 9; refine (awake_any _).mono ?_; rintro e wa ⟨rfl, hb⟩; have BA : Hid (Below w.heap.size w wa) := hb; clear hb)
  clear b1 b2
  go_loopw [11] (fun iv wr => ∃ i : Nat, iv = .int .i64 i ∧ i ≤ len0 + len1 ∧ Hid (Below w.heap.size w wr) ∧ Hid (∀ r ∈ ZZ.take i, r.length ≤ 200)) (fun iv _ => len0 + len1 - (intOf iv).toNat)
  case atStart => exact ⟨0, rfl, Nat.zero_le _, BA, fun r hr => by simp at hr⟩
  case round =>
    obtain ⟨i, rfl, hi, HB, HT⟩ := hrel
    by_cases hlt : i < len0 + len1
    · have hil : i < ZZ.length := by rw [HLZ.out]; exact hlt
      obtain ⟨RS, hRS⟩ : ∃ RS, RS = ZZ.getD i [] := ⟨_, rfl⟩
      have HRS : Hid (ZZ[i]? = some RS) := by show _ = _; rw [hRS]; simp [List.getD, hil]
      obtain ⟨rn, hrn⟩ : ∃ rn, rn = RS.length := ⟨_, rfl⟩
      have HRL : Hid (RS.length = rn) := hrn.symm
      have HAT : Hid (∀ u v cap', MixRows wr u (.slice v (len0 + len1) cap') (len0 + len1) (z0 ++ z1) → ∃ rb ro x xc, v = some (⟨rb, ro, none⟩ : Addr) ∧ u.cell? ⟨rb, ro + i, none⟩ = some (.slice x rn xc)) := fun u v cap' h => by
        rw [← HZZ.out] at h
        obtain ⟨rb, ro, x, xc, hra, hcl, hrx, hnx⟩ := h.rows.at hil
        rw [← hRS, ← hrn] at hcl
        exact ⟨rb, ro, x, xc, hra, hcl⟩
      clear hRS hrn
      have ARM : True := trivial
      by_cases hbig : 200 < rn
      · have bb : decide ((200 : Int) < (rn : Int)) = true := decide_eq_true (by omega)
        have bl : decide ((i : Int) < (len0 : Int) + (len1 : Int)) = true := decide_eq_true (by omega)
        go_wp2_with (first | (have hgo := HM5.out; clear hgo; at_builtin; refine wpList_append_rows (by rfl) (.tmp 48) (.tmp 49) rfl wr _ _ z0 rfl HM5.out _ _ _ rfl z1 (HR1.out.below HB.out (Nat.le_refl _)) HL1.out (by omega) ?_; intro b6 c6 w6 hmix6; have HM6 : Hid (MixRows wr w6 (.slice b6 (len0 + len1) c6) (len0 + len1) (z0 ++ z1)) := hmix6; obtain ⟨rb, ro, x, xc, hra, hcl⟩ := HAT.out _ _ _ hmix6; subst hra; clear hmix6) | (at_builtin; refine wpList_append_rows (by rfl) (.tmp 46) (.tmp 47) rfl wr _ 0 [] rfl (MixRows.made wr) _ _ _ rfl z0 (HR0.out.below HB.out (Nat.le_refl _)) HL0.out (by omega) ?_; intro b5 c5 w5 hmix5; rw [Nat.zero_add, List.nil_append] at hmix5; rw [Nat.zero_add]; have HM5 : Hid (MixRows wr w5 (.slice b5 len0 c5) len0 z0) := hmix5; clear hmix5))
        go_ret
        exact ⟨rfl, HB.out.trans (HM6.out.below.mono HB.out.size)⟩
      · have bb : decide ((200 : Int) < (rn : Int)) = false := decide_eq_false (by omega)
        have bl : decide ((i : Int) < (len0 : Int) + (len1 : Int)) = true := decide_eq_true (by omega)
        go_wp2_with (first | (have hgo := HM5.out; clear hgo; at_builtin; refine wpList_append_rows (by rfl) (.tmp 48) (.tmp 49) rfl wr _ _ z0 rfl HM5.out _ _ _ rfl z1 (HR1.out.below HB.out (Nat.le_refl _)) HL1.out (by omega) ?_; intro b6 c6 w6 hmix6; have HM6 : Hid (MixRows wr w6 (.slice b6 (len0 + len1) c6) (len0 + len1) (z0 ++ z1)) := hmix6; obtain ⟨rb, ro, x, xc, hra, hcl⟩ := HAT.out _ _ _ hmix6; subst hra; clear hmix6) | (at_builtin; refine wpList_append_rows (by rfl) (.tmp 46) (.tmp 47) rfl wr _ 0 [] rfl (MixRows.made wr) _ _ _ rfl z0 (HR0.out.below HB.out (Nat.le_refl _)) HL0.out (by omega) ?_; intro b5 c5 w5 hmix5; rw [Nat.zero_add, List.nil_append] at hmix5; rw [Nat.zero_add]; have HM5 : Hid (MixRows wr w5 (.slice b5 len0 c5) len0 z0) := hmix5; clear hmix5))
        go_roundw
        case rel =>
          refine ⟨i + 1, by simp, by omega, HB.out.trans (HM6.out.below.mono HB.out.size), fun r hr => ?_⟩
          rw [List.take_add_one, HRS.out] at hr
          rcases List.mem_append.1 hr with hr | hr
          · exact HT.out r hr
          · simp at hr; subst hr; rw [HRL.out]; omega
        case measure => simp [intOf]; omega
    · have hin : i = len0 + len1 := by omega
      have bN : decide ((i : Int) < (len0 : Int) + (len1 : Int)) = false := decide_eq_false (by omega)
      have HA : Hid (∀ r ∈ ZZ, r.length ≤ 200) := by have := HT.out; rw [hin, ← HLZ.out, List.take_length] at this; exact this
      obtain ⟨n, k, hn1, hn2, hn3, e1, o1, o2, e4, o5, o6⟩ := twice z0 z1 (rows_by HR0.out) (rows_by HR1.out) (fun r hr => HA.out r (by rw [HZZ.out]; exact List.mem_append_left _ hr)) (fun r hr => HA.out r (by rw [HZZ.out]; exact List.mem_append_right _ hr)) (by rw [HL0.out]; omega) (by rw [HL1.out]; omega) a2 a3 a4 htn
      have f0 := frames_bound z0 200 (fun r hr => HA.out r (by rw [HZZ.out]; exact List.mem_append_left _ hr))
      have f1 := frames_bound z1 200 (fun r hr => HA.out r (by rw [HZZ.out]; exact List.mem_append_right _ hr))
      have fn := frames_bound (z0.take n) 200 (fun r hr => HA.out r (by rw [HZZ.out]; exact List.mem_append_left _ (List.mem_of_mem_take hr)))
      have hnl : (z0.take n).length = n := by rw [List.length_take]; omega
      rw [HL0.out] at hn1 f0
      rw [HL1.out] at hn3 f1
      rw [hnl] at fn
      have hLK : ((z0.take n ++ z1).take k).length = k := by rw [List.length_take, List.length_append, hnl, HL1.out]; omega
      have hL4 : (z0.take n ++ z1).length = n + len1 := by rw [List.length_append, hnl, HL1.out]
      have f4 : (frames (z0.take n ++ z1)).length ≤ 10000 := by rw [frames_app, List.length_append]; omega
      obtain ⟨SA, hSA⟩ : ∃ S, S = oneF 20000 1 [119] (frames z0) 0 := ⟨_, rfl⟩
      obtain ⟨SB, hSB⟩ : ∃ S, S = oneF 20000 2 [119] (frames (z0.take n)) (frames (z0.take n)).length := ⟨_, rfl⟩
      obtain ⟨SC, hSC⟩ : ∃ S, S = oneF 20000 2 [119] (frames (z0.take n ++ z1)) (frames (z0.take n)).length := ⟨_, rfl⟩
      obtain ⟨SE, hSE⟩ : ∃ S, S = oneF 20000 3 [119] (frames ((z0.take n ++ z1).take k)) (frames ((z0.take n ++ z1).take k)).length := ⟨_, rfl⟩
      obtain ⟨lB, hlB⟩ : ∃ l, l = (⟨[119], 2, false, z0.take n, n⟩ : LS) := ⟨_, rfl⟩
      obtain ⟨lC, hlC⟩ : ∃ l, l = (⟨[119], 2, false, z0.take n ++ z1, n⟩ : LS) := ⟨_, rfl⟩
      obtain ⟨LK, hLKe⟩ : ∃ L, L = (z0.take n ++ z1).take k := ⟨_, rfl⟩
      obtain ⟨lE, hlE⟩ : ∃ l, l = (⟨[119], 3, false, LK, k⟩ : LS) := ⟨_, rfl⟩
      have hoE : offN SE lE = false := by rw [hSE, hlE]; exact off_one _ _ _ _ _ _ _
      have hkE : lE.L = LK := by rw [hlE]
      have HLK : Hid (LK.length = k) := by show _ = _; rw [hLKe]; exact hLK
      have zA : sizeN SA.fs ≤ 1048576 := by rw [hSA]; simp only [oneF, sizeN]; simp; omega
      have zB : sizeN SB.fs ≤ 1048576 := by rw [hSB]; simp only [oneF, sizeN]; simp; omega
      have zC : sizeN SC.fs ≤ 1048576 := by rw [hSC]; simp only [oneF, sizeN]; simp; omega
      have zX : sizeN (SA.crash a2 a4).on.fs ≤ 1048576 := by
        rw [hSA, crash_one]
        have h1 := crashB_len (frames z0) 0 a2.toNat a4 (Nat.zero_le _)
        simp only [oneF, sizeN]; simp; omega
      have zY : sizeN (SC.crash a3 a4).on.fs ≤ 1048576 := by
        rw [hSC, crash_one]
        have h1 := crashB_len (frames (z0.take n ++ z1)) (frames (z0.take n)).length a3.toNat a4 (by rw [frames_app, List.length_append]; omega)
        simp only [oneF, sizeN]; simp; omega
      rw [← hSA] at e1 o1 o2
      rw [← hSB, ← hlB] at e4
      rw [← hSB] at o1
      rw [← hlB] at o2
      rw [← hSC] at e4 o5 o6
      rw [← hlC] at e4
      rw [← hSE] at o5
      rw [← hLKe, ← hlE] at o6
      have C1 : Hid (∀ u, Below w.heap.size w u → Calls Try.prog 10 #[.int .i64 20000] u fun e w' => ∃ b X, e = .returned (.tuple #[.pointer (some ⟨b, 0, none⟩), .int .i64 0]) ∧ DT w w' b (newDS 20000) X) := fun u hb => lt_new w u hb 20000 (by omega) (by omega)
      have C2 : Hid (∀ u b X, DT w u b (newDS 20000) X → Calls Try.prog 11 #[.pointer (some ⟨b, 0, none⟩), .string ⟨#[119]⟩] u fun e w' => ∃ p X' Z, e = .returned (.tuple #[.pointer (some ⟨p, 0, none⟩), .int .i64 0]) ∧ LT w w' p b (newDS 20000) ⟨[119], 1, false, [], 0⟩ X' Z) := fun u b X h => lt_open w u b _ X [119] h rfl may_w (by simp [newDS, sizeN])
      have C3 : Hid (∀ u p b X Z, LT w u p b (newDS 20000) ⟨[119], 1, false, [], 0⟩ X Z → Calls Try.prog 12 #[.pointer (some ⟨p, 0, none⟩), .slice a0 len0 cap0] u fun e w' => ∃ X' Z', e = .returned (.int .i64 0) ∧ LT w w' p b SA ⟨[119], 1, false, z0, 0⟩ X' Z') := fun u p b X Z h => lt_add w u p b _ _ X Z a0 cap0 len0 z0 h HL0.out (fun u' hb _ => HR0.out.below hb (Nat.le_refl _)) (by omega) (by simp [newDS, sizeN]) (by show (0 : Int) ≤ 20000 ∧ (20000 : Int) ≤ 1048576; omega) (by show 1 ≤ 1000; omega) (by show 0 + len0 ≤ 1000000; omega) _ _ 0 e1
      have C4 : Hid (∀ u b X, DT w u b SA X → Calls Try.prog 16 #[.pointer (some ⟨b, 0, none⟩), .int .i64 a2, .int .u8 a4] u fun e w' => e = .returned (.tuple #[]) ∧ ∃ X', DT w w' b (SA.crash a2 a4) X') := fun u b X h => lt_crash w u b _ X a2 a4 h zA k0 k1 htn
      have C5 : Hid (∀ u b X, DT w u b (SA.crash a2 a4) X → Calls Try.prog 18 #[.pointer (some ⟨b, 0, none⟩)] u fun e w' => e = .returned (.tuple #[]) ∧ ∃ X', DT w w' b (SA.crash a2 a4).on X') := fun u b X h => lt_on w u b _ X h (by rw [hSA]; show (1 : Int) ≤ 1000000000; omega) (by rw [hSA]; show (0 : Int) ≤ 1; omega)
      have C6 : Hid (∀ u b X, DT w u b (SA.crash a2 a4).on X → Calls Try.prog 11 #[.pointer (some ⟨b, 0, none⟩), .string ⟨#[119]⟩] u fun e w' => ∃ p X' Z, e = .returned (.tuple #[.pointer (some ⟨p, 0, none⟩), .int .i64 0]) ∧ LT w w' p b SB lB X' Z) := fun u b X h => by
        have hc := lt_open w u b _ X [119] h rfl may_w zX
        rw [o1, o2] at hc
        exact hc
      have C7 : Hid (∀ u p b X Z, LT w u p b SB lB X Z → Calls Try.prog 13 #[.pointer (some ⟨p, 0, none⟩)] u fun e w' => e = .returned (.int .i64 (n : Nat)) ∧ LT w w' p b SB lB X Z) := fun u p b X Z h => (lt_len w u p b SB lB X Z h).mono (by rintro e w' ⟨rfl, a1, a2⟩; rw [show lB.L.length = n by rw [hlB]; exact hnl]; exact ⟨rfl, a1⟩)
      have C8 : Hid (∀ u p b X Z, LT w u p b SB lB X Z → Calls Try.prog 12 #[.pointer (some ⟨p, 0, none⟩), .slice a1 len1 cap1] u fun e w' => ∃ X' Z', e = .returned (.int .i64 0) ∧ LT w w' p b SC lC X' Z') := fun u p b X Z h => lt_add w u p b _ _ X Z a1 cap1 len1 z1 h HL1.out (fun u' hb _ => HR1.out.below hb (Nat.le_refl _)) (by omega) zB (by rw [hSB]; show (0 : Int) ≤ 20000 ∧ (20000 : Int) ≤ 1048576; omega) (by rw [hSB]; show 2 ≤ 1000; omega) (by rw [show lB.L.length = n by rw [hlB]; exact hnl]; omega) _ _ 0 e4
      have C9 : Hid (∀ u b X, DT w u b SC X → Calls Try.prog 16 #[.pointer (some ⟨b, 0, none⟩), .int .i64 a3, .int .u8 a4] u fun e w' => e = .returned (.tuple #[]) ∧ ∃ X', DT w w' b (SC.crash a3 a4) X') := fun u b X h => lt_crash w u b _ X a3 a4 h zC k2 k3 htn
      have CO : Hid (∀ u b X, DT w u b (SC.crash a3 a4) X → Calls Try.prog 18 #[.pointer (some ⟨b, 0, none⟩)] u fun e w' => e = .returned (.tuple #[]) ∧ ∃ X', DT w w' b (SC.crash a3 a4).on X') := fun u b X h => lt_on w u b _ X h (by rw [hSC]; show (2 : Int) ≤ 1000000000; omega) (by rw [hSC]; show (0 : Int) ≤ 2; omega)
      have CP : Hid (∀ u b X, DT w u b (SC.crash a3 a4).on X → Calls Try.prog 11 #[.pointer (some ⟨b, 0, none⟩), .string ⟨#[119]⟩] u fun e w' => ∃ p X' Z, e = .returned (.tuple #[.pointer (some ⟨p, 0, none⟩), .int .i64 0]) ∧ LT w w' p b SE lE X' Z) := fun u b X h => by
        have hc := lt_open w u b _ X [119] h rfl may_w zY
        rw [o5, o6] at hc
        exact hc
      have CL : Hid (∀ u p b X Z, LT w u p b SE lE X Z → Calls Try.prog 13 #[.pointer (some ⟨p, 0, none⟩)] u fun e w' => e = .returned (.int .i64 (k : Nat)) ∧ LT w w' p b SE lE X Z ∧ Below u.heap.size u w') := fun u p b X Z h => (lt_len w u p b SE lE X Z h).mono (by rintro e w' ⟨rfl, a1, a2⟩; rw [hkE, HLK.out]; exact ⟨rfl, a1, a2⟩)
      have CT : Hid (∀ u p b X Z (j : Nat), LT w u p b SE lE X Z → j < k → Calls Try.prog 14 #[.pointer (some ⟨p, 0, none⟩), .int .i64 (j : Int)] u fun e w' => ∃ a c, e = .returned (.tuple #[.slice a (LK.getD j []).length c, .int .i64 0]) ∧ LT w w' p b SE lE X Z ∧ Below u.heap.size u w' ∧ NewRow w' 0 a c (LK.getD j [])) := fun u p b X Z j h hj => (lt_at w u p b SE lE X Z j h hoE (by rw [hkE, HLK.out]; exact hj)).mono (by
        rw [hkE]
        rintro e w' ⟨a, c, rfl, a1, a2, a3, a4, a5, a6⟩
        exact ⟨a, c, rfl, a1, a2, ⟨a3, a5, a4, fun g hg => ⟨Nat.zero_le _, a6 g hg⟩⟩⟩)
      have HKE : Hid (LK = (z0.take n ++ z1).take k) := hLKe
      have HNL : Hid ((z0.take n).length = n) := hnl
      have hcap : n ≤ cap0 := by have := HR0.out.le; rw [HL0.out] at this; omega
      have b5 : decide ((n : Int) < 0) = false := decide_eq_false (by omega)
      have b6 : decide (len0 < n) = false := decide_eq_false (by omega)
      have b7 : decide (k < n) = false := decide_eq_false (by omega)
      have b8 : decide ((n : Int) + (len1 : Int) < (k : Int)) = false := decide_eq_false (by omega)
      clear e1 o1 o2 e4 o5 o6 f0 f1 fn f4 hnl hLK hL4 hSA hSB hSC hSE hlB hlC hLKe hlE hoE hkE zA zB zC zX zY hin HT HA BA
      go_wp2_with (first
        | (have hgo := HM14.out; clear hgo; at_builtin; refine wpList_append_rows (by rfl) (.tmp 129) (.tmp 130) rfl w13 _ _ (z0.take n) rfl HM14.out _ _ _ rfl z1 (HR1.out.below L13.out.below (Nat.le_refl _)) HL1.out (by omega) ?_; intro b15 c15 w15 hmix; have HM15 : Hid (MixRows w13 w15 (.slice b15 (n + len1) c15) (n + len1) (z0.take n ++ z1)) := hmix; clear hmix)
        | (at_builtin; refine wpList_append_rows (by rfl) (.tmp 125) (.tmp 128) rfl w13 _ 0 [] rfl (MixRows.made w13) _ _ _ rfl (z0.take n) ((HR0.out.below L13.out.below (Nat.le_refl _)).take n) HNL.out (by omega) ?_; intro b14 c14 w14 hmix; rw [Nat.zero_add, List.nil_append] at hmix; rw [Nat.zero_add]; have HM14 : Hid (MixRows w13 w14 (.slice b14 n c14) n (z0.take n)) := hmix; clear hmix)
        | (go_at_call 13; have hgo := L12.out; clear hgo; refine (CL.out _ _ _ _ _ L12.out).mono ?_; rintro e w13 ⟨rfl, h1, h2⟩; have L13 : Hid (LT w w13 p11 b SE lE X11 Z11) := h1; clear h1 h2)
        | (go_at_call 13; have hgo := L11.out; clear hgo; refine (CL.out _ _ _ _ _ L11.out).mono ?_; rintro e w12 ⟨rfl, h1, h2⟩; have L12 : Hid (LT w w12 p11 b SE lE X11 Z11) := h1; clear h1 h2)
        | (go_at_call 11; have hgo := D10.out; clear hgo; refine (CP.out _ _ _ D10.out).mono ?_; rintro e w11 ⟨p11, X11, Z11, rfl, h1⟩; have L11 : Hid (LT w w11 p11 b SE lE X11 Z11) := h1; clear h1)
        | (go_at_call 18; have hgo := D9.out; clear hgo; refine (CO.out _ _ _ D9.out).mono ?_; rintro e w10 ⟨rfl, X10, h1⟩; have D10 : Hid (DT w w10 b _ X10) := h1; clear h1)
        | (go_at_call 16; have hgo := L8.out; clear hgo; refine (C9.out _ _ _ L8.out.dt).mono ?_; rintro e w9 ⟨rfl, X9, h1⟩; have D9 : Hid (DT w w9 b _ X9) := h1; clear h1)
        | (go_at_call 12; have hgo := L7.out; clear hgo; refine (C8.out _ _ _ _ _ L7.out).mono ?_; rintro e w8 ⟨X8, Z8, rfl, h1⟩; have L8 : Hid (LT w w8 p6 b SC lC X8 Z8) := h1; clear h1)
        | (go_at_call 13; refine (C7.out _ _ _ _ _ L6.out).mono ?_; rintro e w7 ⟨rfl, h1⟩; have L7 : Hid (LT w w7 p6 b SB lB X6 Z6) := h1; clear h1)
        | (go_at_call 11; have hgo := D5.out; clear hgo; refine (C6.out _ _ _ D5.out).mono ?_; rintro e w6 ⟨p6, X6, Z6, rfl, h1⟩; have L6 : Hid (LT w w6 p6 b SB lB X6 Z6) := h1; clear h1)
        | (go_at_call 18; refine (C5.out _ _ _ D4.out).mono ?_; rintro e w5 ⟨rfl, X5, h1⟩; have D5 : Hid (DT w w5 b _ X5) := h1; clear h1)
        | (go_at_call 16; refine (C4.out _ _ _ L3.out.dt).mono ?_; rintro e w4 ⟨rfl, X4, h1⟩; have D4 : Hid (DT w w4 b _ X4) := h1; clear h1)
        | (go_at_call 12; refine (C3.out _ _ _ _ _ L2.out).mono ?_; rintro e w3 ⟨X3, Z3, rfl, h1⟩; have L3 : Hid (LT w w3 p b SA _ X3 Z3) := h1; clear h1)
        | (go_at_call 11; refine (C2.out _ _ _ D1.out).mono ?_; rintro e w2 ⟨p, X2, Z2, rfl, h1⟩; have L2 : Hid (LT w w2 p b _ _ X2 Z2) := h1; clear h1)
        | (go_at_call 10; refine (C1.out _ HB.out).mono ?_; rintro e w1 ⟨b, X1, rfl, h1⟩; have D1 : Hid (DT w w1 b _ X1) := h1; clear h1))
      have L15 : Hid (LT w w15 p11 b SE lE X11 Z11) := L13.out.past HM15.out.below
      go_loopw [23, 24] (fun gv iv wr => ∃ j : Nat, iv = .int .i64 j ∧ j ≤ k ∧ Hid (Below w15.heap.size w15 wr) ∧ ∃ ga gc, gv = .slice ga j gc ∧ Hid (OwnRows0 wr w15.heap.size (.slice ga j gc) j (LK.take j))) (fun _ iv _ => k - (intOf iv).toNat)
      case atStart => exact ⟨0, rfl, Nat.zero_le _, Below.refl _ _, none, 0, rfl, OwnRows0.none _ _⟩
      case round =>
        obtain ⟨j, rfl, hj, HBW, ga, gc, rfl, HG⟩ := hrel
        have LJ : Hid (LT w wr p11 b SE lE X11 Z11) := L15.out.past HBW.out
        by_cases hjt : j < k
        · have bj : decide (j < k) = true := decide_eq_true hjt
          obtain ⟨RS, hRS⟩ : ∃ RS, RS = LK.getD j [] := ⟨_, rfl⟩
          have HRS : Hid (LK[j]? = some RS) := by
            have hl : j < LK.length := by rw [HLK.out]; exact hjt
            show _ = _; rw [hRS]; simp [List.getD, hl]
          obtain ⟨rn, hrn⟩ : ∃ rn, rn = RS.length := ⟨_, rfl⟩
          have HRL : Hid (RS.length = rn) := hrn.symm
          have CTj : Hid (∀ u, LT w u p11 b SE lE X11 Z11 → Calls Try.prog 14 #[.pointer (some ⟨p11, 0, none⟩), .int .i64 (j : Int)] u fun e w' => ∃ a c, e = .returned (.tuple #[.slice a rn c, .int .i64 0]) ∧ LT w w' p11 b SE lE X11 Z11 ∧ Below u.heap.size u w' ∧ NewRow w' 0 a c RS) := fun u h => by rw [hrn, hRS]; exact CT.out u p11 b X11 Z11 j h hjt
          clear hRS hrn
          go_wp2_with (first
            | (at_builtin; refine wpList_append_rec0 rfl (.tmp 144) (.tmp 146) rfl w15.heap.size w15 (BB.out.alloc BB.out.size _) (by simp; exact Nat.le_trans BB.out.size (Nat.le_succ _)) _ j (LK.take j) rfl (HG2.out.below ((Below.refl _ _).alloc (Nat.le_refl _) _) (Nat.le_refl _)) ⟨w21.heap.size, 0, none⟩ rfl a21 c21 RS rn HRL.out (by rw [World.cell?_alloc_new]; rfl) (NR.out.below ((Below.refl _ _).alloc (Nat.le_refl _) _) (Nat.le_refl _)) (by omega) ?_; intro a22 c22 w22 h1 h2; have HG3 : Hid (OwnRows0 w22 w15.heap.size (.slice a22 (j + 1) c22) (j + 1) (LK.take j ++ [RS])) := h1; have B22 : Hid (Below w15.heap.size w15 w22) := h2; clear h1 h2)
            | (go_at_call 14; refine (CTj.out _ L20.out).mono ?_; rintro e w21 ⟨a21, c21, rfl, h1, h2, h3⟩; have BB : Hid (Below w15.heap.size w15 w21) := B20.out.trans (h2.mono B20.out.size); have HG2 : Hid (OwnRows0 w21 w15.heap.size (.slice ga j gc) j (LK.take j)) := HG1.out.below h2 (Nat.le_refl _); have NR : Hid (NewRow w21 0 a21 c21 RS) := h3; clear h1 h2 h3)
            | (go_at_call 13; refine (CL.out _ _ _ _ _ LJ.out).mono ?_; rintro e w20 ⟨rfl, h1, h2⟩; have L20 : Hid (LT w w20 p11 b SE lE X11 Z11) := h1; have B20 : Hid (Below w15.heap.size w15 w20) := HBW.out.trans (h2.mono HBW.out.size); have HG1 : Hid (OwnRows0 w20 w15.heap.size (.slice ga j gc) j (LK.take j)) := HG.out.below h2 (Nat.le_refl _); clear h1 h2))
          go_roundw
          case rel =>
            refine ⟨j + 1, by simp, by omega, B22, a22, c22, rfl, ?_⟩
            have e : LK.take (j + 1) = LK.take j ++ [RS] := by rw [List.take_add_one, HRS.out]; rfl
            rw [e]
            exact HG3
          case measure => simp [intOf]; omega
        · obtain rfl : j = k := by omega
          have bj : decide (j < j) = false := decide_eq_false (by omega)
          have HGK : Hid (OwnRows0 wr w15.heap.size (.slice ga j gc) j LK) := by
            have h := HG.out
            rw [← HLK.out, List.take_length, HLK.out] at h
            exact h
          have hk15 : j ≤ c15 := by
            have h := HM15.out.rows.le
            rw [List.length_append, HNL.out, HL1.out] at h
            omega
          have SAME : Hid (∀ u, Below wr.heap.size wr u → Calls Try.prog 31 #[.slice ga j gc, .slice b15 j c15] u fun e w' => e = .returned (.bool true) ∧ ∃ m, w' = u.drewN m) := fun u hb => by
            have r1 := HGK.out.rows.below hb (Nat.le_refl _)
            have r2 := ((HM15.out.rows.take j).below HBW.out (Nat.le_refl _)).below hb (Nat.le_refl _)
            rw [← HKE.out] at r2
            have h := rsame_any ga j gc LK b15 j c15 LK u HLK.out HLK.out r1 r2 (by omega)
            rw [decide_eq_true rfl] at h
            exact h
          go_wp2_with (first
            | (go_at_call 31; refine (SAME.out _ B30.out).mono ?_; rintro e w31 ⟨rfl, m31, rfl⟩)
            | (go_at_call 13; have hgo := L29.out; clear hgo; refine (CL.out _ _ _ _ _ L29.out).mono ?_; rintro e w30 ⟨rfl, h1, h2⟩; have L30 : Hid (LT w w30 p11 b SE lE X11 Z11) := h1; have B30 : Hid (Below wr.heap.size wr w30) := B29.out.trans (h2.mono B29.out.size); clear h1 h2)
            | (go_at_call 13; refine (CL.out _ _ _ _ _ LJ.out).mono ?_; rintro e w29 ⟨rfl, h1, h2⟩; have L29 : Hid (LT w w29 p11 b SE lE X11 Z11) := h1; have B29 : Hid (Below wr.heap.size wr w29) := h2; clear h1 h2))
          go_ret
          exact ⟨rfl, below_drewN L30.out.below _⟩

set_option maxRecDepth 100000 in
theorem lifted (os : Os) (started : os.Started) (H : Type) (enc : TypeId × Value → H) :
    ReturnsInHanded {} Try.checked os 6 .any (Rows.walTwiceSpec.pre6 enc Try.prog Try.f6 Rows.walTwiceRow.domain false) (Rows.walTwiceSpec.post enc Try.prog Try.f6 false true false false) := by
  refine returnsInHanded_of_change (C := Try.checked) own started (by kernel_rfl) Try.func6
    (ChangeSpec.witness6 (enc := enc) (C := Try.checked) false ⟨#[], #[.slice none 0 0, .slice none 0 0, .int .i64 0, .int .i64 0, .int .u8 0], []⟩ 8 (by kernel_rfl) (by kernel_rfl) (by kernel_rfl) (by kernel_rfl)) ?_
  intro W base args ds gs before hval0 hW hcnd _
  have hval : ∀ (j : Nat) t v, Try.f6.params[j]? = some t → args[j]? = some v → Value.okWide Try.prog W .any base t v := hval0
  have hW' := hW
  obtain ⟨p, q, hA0, hV, rfl, hfz, hnd⟩ := hW
  have hA : DataW.TrodAll enc Try.prog W 0 (fun _ => true) true Try.f6.params.toList args.toList ds p := hA0
  rw [Try.params6] at hA hval
  obtain ⟨v0, vs0, d0, ds0, p0, q0, hargs, rfl, rfl, h0, r0⟩ := trodAll_cons hA
  obtain ⟨v1, vs1, d1, ds1, p1, q1, rfl, rfl, rfl, h1, r1⟩ := trodAll_cons r0
  obtain ⟨v2, vs2, d2, ds2, p2, q2, rfl, rfl, rfl, h2, r2⟩ := trodAll_cons r1
  obtain ⟨v3, vs3, d3, ds3, p3, q3, rfl, rfl, rfl, h3, r3⟩ := trodAll_cons r2
  obtain ⟨v4, vs4, d4, ds4, p4, q4, rfl, rfl, rfl, h4, r4⟩ := trodAll_cons r3
  obtain ⟨rfl, rfl, rfl⟩ := trodAll_nil r4
  obtain rfl : args = #[v0, v1, v2, v3, v4] := by cases args; simp_all
  obtain ⟨rfl, rfl⟩ := trodVars_none hV
  obtain ⟨a0, len0, cap0, rfl⟩ := okWide_slice Try.underlying45 (hval 0 45 v0 rfl rfl)
  have k0 := h0
  have lt0 : ∀ x ∈ p0, x.block < W.heap.size := by obtain ⟨m, hm⟩ := k0; exact DataW.trod_lt m _ _ _ hm
  obtain ⟨z0, l0, w0⟩ : ∃ ls : List (List Int), ls.length = len0 ∧ RowsOf W a0 cap0 ls := by
    obtain ⟨fuel, hf⟩ := h0
    exact rows_open Try.underlying45 Try.underlying31 (by kernel_rfl) (by kernel_rfl) hf
  obtain ⟨a1, len1, cap1, rfl⟩ := okWide_slice Try.underlying45 (hval 1 45 v1 rfl rfl)
  have k1 := h1
  have lt1 : ∀ x ∈ p1, x.block < W.heap.size := by obtain ⟨m, hm⟩ := k1; exact DataW.trod_lt m _ _ _ hm
  obtain ⟨z1, l1, w1⟩ : ∃ ls : List (List Int), ls.length = len1 ∧ RowsOf W a1 cap1 ls := by
    obtain ⟨fuel, hf⟩ := h1
    exact rows_open Try.underlying45 Try.underlying31 (by kernel_rfl) (by kernel_rfl) hf
  have k2 := h2
  have lt2 : ∀ x ∈ p2, x.block < W.heap.size := by obtain ⟨m, hm⟩ := k2; exact DataW.trod_lt m _ _ _ hm
  obtain ⟨a2, rfl, rfl, rfl, w2⟩ := open_int Try.underlying3 (hval 2 3 v2 rfl rfl) h2
  have k3 := h3
  have lt3 : ∀ x ∈ p3, x.block < W.heap.size := by obtain ⟨m, hm⟩ := k3; exact DataW.trod_lt m _ _ _ hm
  obtain ⟨a3, rfl, rfl, rfl, w3⟩ := open_int Try.underlying3 (hval 3 3 v3 rfl rfl) h3
  have k4 := h4
  have lt4 : ∀ x ∈ p4, x.block < W.heap.size := by obtain ⟨m, hm⟩ := k4; exact DataW.trod_lt m _ _ _ hm
  obtain ⟨a4, rfl, rfl, rfl, w4⟩ := open_int Try.underlying5 (hval 4 5 v4 rfl rfl) h4
  clear hA0 hval0
  refine (walk a0 len0 cap0 z0 a1 len1 cap1 z1 a2 a3 a4 W l0 w0 l1 w1 w2 w3 w4).mono fun e W' ⟨he, bel⟩ => ?_
  subst he
  exact ⟨_, rfl, _, _, _, [], _, [], hW', trodAll_mk1 (shut_bool Try.underlying4 _), (trodAll_cons_mk (Below.trod laidOut (by kernel_rfl) (of_decide_eq_true (by kernel_rfl)) k0 bel lt0) (trodAll_cons_mk (Below.trod laidOut (by kernel_rfl) (of_decide_eq_true (by kernel_rfl)) k1 bel lt1) (trodAll_cons_mk (Below.trod laidOut (by kernel_rfl) (of_decide_eq_true (by kernel_rfl)) k2 bel lt2) (trodAll_cons_mk (Below.trod laidOut (by kernel_rfl) (of_decide_eq_true (by kernel_rfl)) k3 bel lt3) (trodAll_cons_mk (Below.trod laidOut (by kernel_rfl) (of_decide_eq_true (by kernel_rfl)) k4 bel lt4) trodAll_mk0))))), rfl, bel.frame _, fun h => by cases h⟩

theorem over : Rows.walTwiceRow.holds Try.pinned (OpenSpec.ofChange Rows.walTwiceSpec) :=
  OpenClaim.holds_of_wide 6 Try.f6 rfl rfl rfl rfl rfl rfl rfl ⟨rfl, rfl, rfl, rfl, rfl⟩ rfl rfl rfl rfl rfl (by kernel_rfl) Try.func6 (by kernel_rfl)
    (of_decide_eq_true (by kernel_rfl)) (by unfold Func.isWrapper; first | (rw [if_pos (by decide +kernel)]; kernel_rfl) | (rw [if_neg (by decide +kernel)]; exact ⟨rfl, rfl⟩))
    (fun os started H enc _ => lifted os started H enc)
theorem proved : Rows.WalTwiceSaid := over
#print axioms proved
end Go.Proofs.Ytlfmhdljldbjmaa.walTwice
namespace Go.Proofs.Ytlfmhdljldbjmaa
/-- WalTwice, as given. -/
theorem walTwice_holds : Rows.WalTwiceSaid := walTwice.proved
end Go.Proofs.Ytlfmhdljldbjmaa
