/-
  ChainTrims: what is trimmed at a time is not seen from that time on, for every list of versions and every two stamps (of more than 40 versions, of values of more than 300 bytes the statement asks nothing).
-/
import Derived.Test.YtimiciellbdphaaRows
import Derived.Test.YtimiciellbdphaaChainKeep
import Derived.Test.YtimiciellbdphaaChainFacts
import Derived.Test.YtimiciellbdphaaVersOpen
import Derived.Test.YtimiciellbdphaaPairOpen
import Derived.WalkKit
import Derived.ProofKit
import Derived.OpenShut
import Derived.ShutString
import Derived.ChangeOld
import Derived.Below
import Derived.Carry
namespace Go.Proofs.Ytimiciellbdphaa.chainTrims
open Go.ChangeShapes Go.WideShapes Go.ChangeAt Go.RowKit
open Go.ChangeMaps (open_string shut_string)
set_option linter.unusedVariables false

theorem own : ownKnob Try.prog.godebug = none := by kernel_rfl
theorem laidOut : laidOutB Try.prog = true := by kernel_rfl
/-- A slice of integers that came in: nil, or a row of 'cap' cells, of which the first 'len' are its elements. -/
def IsRow (k : IntKind) (w : World) (a : Option Addr) (len cap : Nat) (zs : List Int) : Prop :=
  (a = none ∧ len = 0 ∧ cap = 0 ∧ zs = []) ∨
  ∃ x, a = some x ∧ len ≤ cap ∧ cap ≤ maxLen ∧ zs.length = cap ∧ (∀ i, i < zs.length → w.cell? (x.add i) = some (.int k (zs.getD i 0))) ∧ ∀ n ∈ zs, (Lit.int k n).wf = true

set_option maxRecDepth 4000 in
set_option maxHeartbeats 4000000 in
theorem walk (a0 : Option Addr) (len0 cap0 : Nat) (z0 : List Ver) (a1 b1 : Int) (a2 b2 : Int) (w : World) (l0 : z0.length = len0) (w0 : CVersOf w a0 cap0 z0) (w1 : (Lit.int .i64 a1).wf = true) (x1 : (Lit.int .u8 b1).wf = true) (w2 : (Lit.int .i64 a2).wf = true) (x2 : (Lit.int .u8 b2).wf = true) :
    Calls Try.prog 6 #[.slice a0 len0 cap0, .agg #[.int .i64 a1, .int .u8 b1], .agg #[.int .i64 a2, .int .u8 b2]] w fun e w' => e = .returned (.bool true) ∧ Below w.heap.size w w' := by
  have by1 := bounds_i64 w1
  have by1n := bounds_u8 x1
  have by2 := bounds_i64 w2
  have by2n := bounds_u8 x2
  have AW : Hid (∀ u, Calls Try.prog 8 #[] u fun e w' => e = .returned (.bool true) ∧ Below u.heap.size u w') := fun u => lawake_any u
  have HL : Hid (z0.length = len0) := l0
  have HA : Hid (CVersOf w a0 cap0 z0) := w0
  have hcap : len0 ≤ cap0 := by rw [← l0]; exact w0.room
  obtain ⟨W0, hW0⟩ : ∃ W0, W0 = (w.alloc (.cells #[.int .i64 a1, .int .u8 b1] 28)).alloc (.cells #[.int .i64 a2, .int .u8 b2] 28) := ⟨_, rfl⟩
  have HW0 : Hid ((w.alloc (.cells #[.int .i64 a1, .int .u8 b1] 28)).alloc (.cells #[.int .i64 a2, .int .u8 b2] 28) = W0) := hW0.symm
  have HB0 : Hid (Below w.heap.size w W0) := by rw [hW0]; exact ((Below.refl _ _).alloc (Nat.le_refl _) _).alloc (by simp) _
  have HC0 : Hid (W0.cell? ⟨w.heap.size, 0, none⟩ = some (.int .i64 a1) ∧ W0.cell? ⟨w.heap.size, 1, none⟩ = some (.int .u8 b1) ∧ W0.cell? ⟨w.heap.size + 1, 0, none⟩ = some (.int .i64 a2) ∧ W0.cell? ⟨w.heap.size + 1, 1, none⟩ = some (.int .u8 b2)) := by
    have e1 := range_new w [.int .i64 a1, .int .u8 b1] 28
    have e2 := range_new (w.alloc (.cells #[.int .i64 a1, .int .u8 b1] 28)) [.int .i64 a2, .int .u8 b2] 28
    have hb : Below (w.alloc (.cells #[.int .i64 a1, .int .u8 b1] 28)).heap.size (w.alloc (.cells #[.int .i64 a1, .int .u8 b1] 28)) W0 := by rw [hW0]; exact (Below.refl _ _).alloc (Nat.le_refl _) _
    rw [World.size_alloc] at e2
    have f0 := e1 0 _ rfl
    have f1 := e1 1 _ rfl
    have f2 := e2 0 _ rfl
    have f3 := e2 1 _ rfl
    rw [hW0]
    refine ⟨?_, ?_, f2, f3⟩
    · rw [← hW0]; exact (hb.cell (p := ⟨w.heap.size, 0, none⟩) (by simp)).trans f0
    · rw [← hW0]; exact (hb.cell (p := ⟨w.heap.size, 1, none⟩) (by simp)).trans f1
  have CN : Hid (∀ u, Below W0.heap.size W0 u → Calls Try.prog 9 #[] u fun e w' => ∃ p, e = .returned (.pointer (some ⟨p, 0, none⟩)) ∧ ChW W0 w' p []) := fun u hb => (wnew_any W0 u hb).mono fun e w' ⟨p, h1, h2, _⟩ => ⟨p, h1, h2⟩
  clear w0 w1 w2 x1 x2 l0 hW0
  by_cases h40 : 40 < len0
  · have b40 : (40 : Int) < (len0 : Int) := by omega
    go_enter Try.func6, Try.ntmps6
    go_wp2_with (first | (go_at_call 8; refine (AW.out _).mono ?_; rintro e v1 ⟨rfl, hb1⟩; rw [HW0.out] at hb1; have B1 : Hid (Below w.heap.size w v1) := HB0.out.trans (hb1.mono HB0.out.size); clear hb1))
    go_ret
    exact ⟨rfl, B1.out⟩
  · have b40 : ¬ (40 : Int) < (len0 : Int) := by omega
    go_enter Try.func6, Try.ntmps6
    go_wp2_with (first | (go_at_call 8; refine (AW.out _).mono ?_; rintro e v1 ⟨rfl, hb1⟩; rw [HW0.out] at hb1; have B1 : Hid (Below W0.heap.size W0 v1) := hb1; clear hb1) | (have hgo := B1.out; clear hgo; go_at_call 9; refine (CN.out _ B1.out).mono ?_; rintro e v2 ⟨p, rfl, h2⟩; have H2 : Hid (ChW W0 v2 p []) := h2; clear h2 B1))
    clear CN AW
    go_loopw [8] (fun iv wr => ∃ i : Nat, iv = .int .i64 i ∧ i ≤ len0 ∧ Hid (ChW W0 wr p (putsV (z0.take i)))) (fun iv _ => len0 - (intOf iv).toNat)
    case atStart => exact ⟨0, rfl, Nat.zero_le _, by rw [List.take_zero]; exact H2⟩
    case round =>
      obtain ⟨i, rfl, hi, HC⟩ := hrel
      have h0 : (0 : Int) ≤ (i : Int) := by omega
      by_cases hlt : i < len0
      · have h1 : (i : Int) < (len0 : Int) := by omega
        obtain ⟨V, hV⟩ : ∃ V, z0[i]? = some V := ⟨_, List.getElem?_eq_getElem (by rw [HL.out]; exact hlt)⟩
        have hin := HA.out.ins V (List.mem_of_getElem? hV)
        obtain ⟨b, off, rfl, hcv⟩ : ∃ b off, a0 = some ⟨b, off, none⟩ ∧ CVerAt w b (off + i * 4) V := by
          rcases HA.out.cells with e | ⟨b, off, e, hc⟩
          · rw [e] at hV; simp at hV
          · exact ⟨b, off, e, hc i V hV⟩
        obtain ⟨q0, q1, q2, q3⟩ := hcv.past (HB0.out.trans (HC.out.below.mono HB0.out.size))
        have HT : Hid (putsV (z0.take (i + 1)) = (putV (putsV (z0.take i)) V).2) := by show _ = _; rw [List.take_add_one, hV]; exact puts_snoc _ _
        have PU : Hid (Calls Try.prog 10 #[.pointer (some ⟨p, 0, none⟩), cvv V] wr fun e w' => e = .returned (.int .i64 (putV (putsV (z0.take i)) V).1) ∧ ChW W0 w' p (putV (putsV (z0.take i)) V).2) := wput_any HC.out hin
        rw [← HT.out] at PU
        have hsz := strOfNums_size V.v
        obtain ⟨r1, hr1⟩ : ∃ r, r = (putV (putsV (z0.take i)) V).1 := ⟨_, rfl⟩
        obtain ⟨t1, ht1⟩ : ∃ t, t = V.t := ⟨_, rfl⟩
        obtain ⟨n1, hn1⟩ : ∃ t, t = V.n := ⟨_, rfl⟩
        obtain ⟨S1, hS1⟩ : ∃ t, t = strOfNums V.v := ⟨_, rfl⟩
        obtain ⟨g1, hg1⟩ : ∃ t, t = V.g := ⟨_, rfl⟩
        have hmx : S1.size ≤ 9223372036854775807 := by rw [hS1, hsz]; exact hin.few
        rw [show cvv V = .agg #[.int .i64 V.t, .int .u8 V.n, .string (strOfNums V.v), .bool V.g] from rfl, ← ht1, ← hn1, ← hS1, ← hg1, ← hr1] at PU
        rw [← ht1] at q0
        rw [← hn1] at q1
        rw [← hS1] at q2
        rw [← hg1] at q3
        have HBW : Hid (Below w.heap.size w wr) := HB0.out.trans (HC.out.below.mono HB0.out.size)
        clear hr1 ht1 hn1 hS1 hg1 hV hin hcv HT hsz
        by_cases h300 : 300 < S1.size
        · have b300 : (300 : Int) < (S1.size : Int) := by omega
          go_wp2
          go_ret
          exact ⟨rfl, HBW.out⟩
        · have b300 : ¬ (300 : Int) < (S1.size : Int) := by omega
          go_wp2_with (go_at_call 10; refine PU.out.mono ?_; rintro e w3 ⟨rfl, h3⟩; have H3 : Hid (ChW W0 w3 p (putsV (z0.take (i + 1)))) := h3; clear h3 PU)
          go_roundw
          case rel => exact ⟨i + 1, by go_num, by omega, H3⟩
          case measure => simp [intOf]; omega
      · obtain rfl : i = len0 := by omega
        have HTK : Hid (z0.take i = z0) := List.take_of_length_le (by rw [HL.out]; exact Nat.le_refl _)
        rw [HTK.out] at HC
        obtain ⟨L, hL⟩ : ∃ L, L = putsV z0 := ⟨_, rfl⟩
        rw [← hL] at HC
        clear hL HTK
        have HCN : Hid (Chn L) := HC.out.chn
        obtain ⟨R, hR⟩ : ∃ R, R = restV L a1 b1 := ⟨_, rfl⟩
        have HRN : Hid (Chn R) := by rw [hR]; exact HCN.out.rest a1 b1
        obtain ⟨oA, hoA⟩ : ∃ o, o = atV L zeroK a2 b2 := ⟨_, rfl⟩
        obtain ⟨oB, hoB⟩ : ∃ o, o = atV R zeroK a2 b2 := ⟨_, rfl⟩
        obtain ⟨N, hN⟩ : ∃ N, N = L.length := ⟨_, rfl⟩
        obtain ⟨M, hM⟩ : ∃ M, M = R.length := ⟨_, rfl⟩
        have hN50 : N ≤ 50 := by rw [hN]; exact HCN.out.few
        have hMN : M ≤ N := by rw [hM, hN, hR]; exact List.length_filter_le _ _
        obtain ⟨A, hA⟩ : ∃ A, A = orZero oA := ⟨_, rfl⟩
        obtain ⟨B, hB⟩ : ∃ B, B = orZero oB := ⟨_, rfl⟩
        obtain ⟨pa, hpa⟩ : ∃ b, b = oA.isSome := ⟨_, rfl⟩
        obtain ⟨pb, hpb⟩ : ∃ b, b = oB.isSome := ⟨_, rfl⟩
        obtain ⟨c, hc⟩ : ∃ c, c = cmpS a2 b2 a1 b1 := ⟨_, rfl⟩
        have HKA : Hid (VerOk A) := by rw [hA, hoA]; exact chn_at HCN.out a2 b2
        have HKB : Hid (VerOk B) := by rw [hB, hoB]; exact chn_at HRN.out a2 b2
        have HZA : Hid (A.k = zeroK) := by rw [hA, hoA]; exact chn_key HCN.out a2 b2
        have HZB : Hid (B.k = zeroK) := by rw [hB, hoB]; exact chn_key HRN.out a2 b2
        have HFIN : Hid (¬ c < 0 → (A = B ∧ pa = pb) ∨ (¬ A = B ∧ pa = true ∧ pb = false ∧ A.g = true)) := fun hcc => by
          have hst : ¬ ltS a2 b2 a1 b1 := fun hl => hcc (by rw [hc]; exact cmp_neg.2 hl)
          rcases trim_at HCN.out hst with e | ⟨e1, X, e2, e3⟩
          · left
            rw [hA, hB, hpa, hpb, hoA, hoB, hR, e]
            exact ⟨rfl, rfl⟩
          · right
            rw [hA, hB, hpa, hpb, hoA, hoB, hR, e1, e2]
            refine ⟨fun h => ?_, rfl, rfl, e3⟩
            have : X.g = false := by have := congrArg Ver.g h; exact this
            rw [this] at e3
            cases e3
        have CA : Hid (Calls Try.prog 17 #[.pointer (some ⟨p, 0, none⟩), .agg #[.int .i64 a2, .int .u8 b2]] wr fun e w' => e = .returned (.tuple #[cvv A, .bool pa]) ∧ ChW W0 w' p L) := by
          rw [hA, hpa, hoA]; exact (wat_any HC.out a2 b2).mono fun e w' ⟨h1, h2, _⟩ => ⟨h1, h2⟩
        have CB : Hid (∀ u F, ChX W0 u p R F → Calls Try.prog 17 #[.pointer (some ⟨p, 0, none⟩), .agg #[.int .i64 a2, .int .u8 b2]] u fun e w' => e = .returned (.tuple #[cvv B, .bool pb]) ∧ Below u.heap.size u w') := fun u F h => by
          rw [hB, hpb, hoB]; exact (wat_any h.chw a2 b2).mono fun e w' ⟨h1, _, h2⟩ => ⟨h1, h2⟩
        have CL : Hid (∀ u F, ChX W0 u p L F → Calls Try.prog 23 #[.pointer (some ⟨p, 0, none⟩)] u fun e w' => e = .returned (.int .i64 (N : Nat)) ∧ Below u.heap.size u w') := fun u F h => by
          rw [hN]; exact (wlen_any h.chw).mono fun e w' ⟨h1, _, h2⟩ => ⟨h1, h2⟩
        have CL2 : Hid (∀ u F, ChX W0 u p R F → Calls Try.prog 23 #[.pointer (some ⟨p, 0, none⟩)] u fun e w' => e = .returned (.int .i64 (M : Nat)) ∧ Below u.heap.size u w') := fun u F h => by
          rw [hM]; exact (wlen_any h.chw).mono fun e w' ⟨h1, _, h2⟩ => ⟨h1, h2⟩
        have CT : Hid (∀ u F, ChX W0 u p L F → Calls Try.prog 12 #[.pointer (some ⟨p, 0, none⟩), .agg #[.int .i64 a1, .int .u8 b1]] u fun e w' => e = .returned (.int .i64 ((N : Int) - (M : Int))) ∧ ChX W0 w' p R F ∧ ∀ k i, F k → w'.cell? ⟨k, i, none⟩ = u.cell? ⟨k, i, none⟩) := fun u F h => by
          have := xtrim_any h a1 b1
          rw [← hR, ← hM, ← hN] at this
          exact this
        have CT2 : Hid (∀ u F, ChX W0 u p R F → Calls Try.prog 12 #[.pointer (some ⟨p, 0, none⟩), .agg #[.int .i64 a1, .int .u8 b1]] u fun e w' => e = .returned (.int .i64 0) ∧ ChX W0 w' p R F ∧ ∀ k i, F k → w'.cell? ⟨k, i, none⟩ = u.cell? ⟨k, i, none⟩) := fun u F h => by
          have := xtrim_any h a1 b1
          rw [show restV R a1 b1 = R by rw [hR]; exact trim_same HCN.out a1 b1, Int.sub_self] at this
          exact this
        have CC : Hid (∀ u, Calls Try.prog 21 #[.agg #[.int .i64 a2, .int .u8 b2], .agg #[.int .i64 a1, .int .u8 b1]] u fun e w' => e = .returned (.int .i64 c) ∧ Below u.heap.size u w') := fun u => by rw [hc]; exact rcmp6_any a2 b2 a1 b1 u
        have HS : Hid (∀ u, Below W0.heap.size W0 u → u.cell? ⟨w.heap.size, 0, none⟩ = some (.int .i64 a1) ∧ u.cell? ⟨w.heap.size, 1, none⟩ = some (.int .u8 b1) ∧ u.cell? ⟨w.heap.size + 1, 0, none⟩ = some (.int .i64 a2) ∧ u.cell? ⟨w.heap.size + 1, 1, none⟩ = some (.int .u8 b2)) := fun u hb =>
          ⟨(hb.cell (p := ⟨w.heap.size, 0, none⟩) (lt_of_cell HC0.out.1)).trans HC0.out.1, (hb.cell (p := ⟨w.heap.size, 1, none⟩) (lt_of_cell HC0.out.2.1)).trans HC0.out.2.1, (hb.cell (p := ⟨w.heap.size + 1, 0, none⟩) (lt_of_cell HC0.out.2.2.1)).trans HC0.out.2.2.1, (hb.cell (p := ⟨w.heap.size + 1, 1, none⟩) (lt_of_cell HC0.out.2.2.2)).trans HC0.out.2.2.2⟩
        have CO : Hid (∀ V : Ver, V.k = zeroK → ∀ u, Calls Try.prog 15 #[cvv V] u fun e w' => e = .returned (vv V) ∧ Below u.heap.size u w') := fun V h u => lone_any V h u
        have CO1 : Hid (∀ u, Calls Try.prog 15 #[cvv A] u fun e w' => e = .returned (vv A) ∧ Below u.heap.size u w') := fun u => CO.out A HZA.out u
        have CO2 : Hid (∀ u, Calls Try.prog 15 #[cvv B] u fun e w' => e = .returned (vv B) ∧ Below u.heap.size u w') := fun u => CO.out B HZB.out u
        have HBW : Hid (∀ u, Below W0.heap.size W0 u → Below w.heap.size w u) := fun u h => HB0.out.trans (h.mono HB0.out.size)
        clear hR hoA hoB hN hM hA hB hpa hpb hc HCN HRN HZA HZB CO HA HL HC0 H2
        obtain ⟨tA, htA⟩ : ∃ t, t = A.t := ⟨_, rfl⟩
        obtain ⟨nA, hnA⟩ : ∃ t, t = A.n := ⟨_, rfl⟩
        obtain ⟨SA, hSA⟩ : ∃ t, t = strOfNums A.v := ⟨_, rfl⟩
        obtain ⟨gA, hgA⟩ : ∃ t, t = A.g := ⟨_, rfl⟩
        obtain ⟨tB, htB⟩ : ∃ t, t = B.t := ⟨_, rfl⟩
        obtain ⟨nB, hnB⟩ : ∃ t, t = B.n := ⟨_, rfl⟩
        obtain ⟨SB, hSB⟩ : ∃ t, t = strOfNums B.v := ⟨_, rfl⟩
        obtain ⟨gB, hgB⟩ : ∃ t, t = B.g := ⟨_, rfl⟩
        rw [show cvv A = .agg #[.int .i64 A.t, .int .u8 A.n, .string (strOfNums A.v), .bool A.g] from rfl, ← htA, ← hnA, ← hSA, ← hgA] at CA CO1
        rw [show cvv B = .agg #[.int .i64 B.t, .int .u8 B.n, .string (strOfNums B.v), .bool B.g] from rfl, ← htB, ← hnB, ← hSB, ← hgB] at CB CO2
        rw [← hgA] at HFIN
        clear htA hnA hSA hgA htB hnB hSB hgB
        have hsub : (((M : Nat) : Int) != ((N : Nat) : Int) - (((N : Nat) : Int) - ((M : Nat) : Int))) = false := by simp; omega
        obtain ⟨s0, s1, s2, s3⟩ := HS.out wr HC.out.below
        by_cases hcc : c < 0
        · have bc : decide (c < 0) = true := decide_eq_true hcc
          go_wp2_with (first | (have hgo := CA.out; clear hgo; go_at_call 17; refine CA.out.mono ?_; rintro e w4 ⟨rfl, h4⟩; have H4 : Hid (ChX W0 (w4.alloc (.cells #[.int .i64 tA, .int .u8 nA, .string SA, .bool gA] 31)) p L (fun k => k = w4.heap.size)) := h4.keep _; have D4 : Hid (BxA (w4.alloc (.cells #[.int .i64 tA, .int .u8 nA, .string SA, .bool gA] 31)) w4.heap.size tA nA SA gA) := BxA.made _ _ _ _ _ _; clear h4 CA s0 s1 s2 s3 HC) | (have hgo := H4.out; clear hgo; go_at_call 23; refine (CL.out _ _ H4.out).mono ?_; rintro e w5 ⟨rfl, hb5⟩; have H5 : Hid (ChX W0 w5 p L (fun k => k = w4.heap.size)) := H4.out.past hb5; have D5 : Hid (BxA w5 w4.heap.size tA nA SA gA) := D4.out.past hb5; obtain ⟨s0, s1, s2, s3⟩ := HS.out w5 H5.out.below; clear hb5 H4 D4 CL) | (have hgo := H5.out; clear hgo; go_at_call 12; refine (CT.out _ _ H5.out).mono ?_; rintro e w6 ⟨rfl, h6, hk6⟩; have H6 : Hid (ChX W0 w6 p R (fun k => k = w4.heap.size)) := h6; have D6 : Hid (BxA w6 w4.heap.size tA nA SA gA) := D5.out.same (fun i => hk6 _ i rfl); clear s0 s1 s2 s3; obtain ⟨s0, s1, s2, s3⟩ := HS.out w6 H6.out.below; clear h6 hk6 H5 D5 CT) | (have hgo := H6.out; clear hgo; go_at_call 17; refine (CB.out _ _ H6.out).mono ?_; rintro e w7 ⟨rfl, hb7⟩; have H7 : Hid (ChX W0 (w7.alloc (.cells #[.int .i64 tB, .int .u8 nB, .string SB, .bool gB] 31)) p R (fun k => k = w4.heap.size ∨ k = w7.heap.size)) := (H6.out.past hb7).keep _; have D7 : Hid (BxA (w7.alloc (.cells #[.int .i64 tB, .int .u8 nB, .string SB, .bool gB] 31)) w4.heap.size tA nA SA gA) := (D6.out.past hb7).past ((Below.refl _ _).alloc (Nat.le_refl _) _); have E7 : Hid (BxA (w7.alloc (.cells #[.int .i64 tB, .int .u8 nB, .string SB, .bool gB] 31)) w7.heap.size tB nB SB gB) := BxA.made _ _ _ _ _ _; clear hb7 H6 D6 CB s0 s1 s2 s3) | (have hgo := H7.out; clear hgo; go_at_call 23; refine (CL2.out _ _ H7.out).mono ?_; rintro e w8 ⟨rfl, hb8⟩; have H8 : Hid (ChX W0 w8 p R (fun k => k = w4.heap.size ∨ k = w7.heap.size)) := H7.out.past hb8; have D8 : Hid (BxA w8 w4.heap.size tA nA SA gA) := D7.out.past hb8; have E8 : Hid (BxA w8 w7.heap.size tB nB SB gB) := E7.out.past hb8; obtain ⟨s0, s1, s2, s3⟩ := HS.out w8 H8.out.below; clear hb8 H7 D7 E7 CL2) | (have hgo := H8.out; clear hgo; go_at_call 12; refine (CT2.out _ _ H8.out).mono ?_; rintro e w9 ⟨rfl, h9, hk9⟩; have H9 : Hid (ChX W0 w9 p R (fun k => k = w4.heap.size ∨ k = w7.heap.size)) := h9; have D9 : Hid (BxA w9 w4.heap.size tA nA SA gA) := D8.out.same (fun i => hk9 _ i (.inl rfl)); have E9 : Hid (BxA w9 w7.heap.size tB nB SB gB) := E8.out.same (fun i => hk9 _ i (.inr rfl)); clear s0 s1 s2 s3; obtain ⟨s0, s1, s2, s3⟩ := HS.out w9 H9.out.below; clear h9 hk9 H8 D8 E8 CT2) | (have hgo := H9.out; clear hgo; go_at_call 21; refine (CC.out _).mono ?_; rintro e w10 ⟨rfl, hb10⟩; have H10 : Hid (ChX W0 w10 p R (fun k => k = w4.heap.size ∨ k = w7.heap.size)) := H9.out.past hb10; have D10 : Hid (BxA w10 w4.heap.size tA nA SA gA) := D9.out.past hb10; have E10 : Hid (BxA w10 w7.heap.size tB nB SB gB) := E9.out.past hb10; clear hb10 H9 D9 E9 CC s0 s1 s2 s3))
          go_ret
          exact ⟨rfl, HBW.out _ H10.out.below⟩
        · have bc : decide (c < 0) = false := decide_eq_false hcc
          go_wp2_with (first | (have hgo := CA.out; clear hgo; go_at_call 17; refine CA.out.mono ?_; rintro e w4 ⟨rfl, h4⟩; have H4 : Hid (ChX W0 (w4.alloc (.cells #[.int .i64 tA, .int .u8 nA, .string SA, .bool gA] 31)) p L (fun k => k = w4.heap.size)) := h4.keep _; have D4 : Hid (BxA (w4.alloc (.cells #[.int .i64 tA, .int .u8 nA, .string SA, .bool gA] 31)) w4.heap.size tA nA SA gA) := BxA.made _ _ _ _ _ _; clear h4 CA s0 s1 s2 s3 HC) | (have hgo := H4.out; clear hgo; go_at_call 23; refine (CL.out _ _ H4.out).mono ?_; rintro e w5 ⟨rfl, hb5⟩; have H5 : Hid (ChX W0 w5 p L (fun k => k = w4.heap.size)) := H4.out.past hb5; have D5 : Hid (BxA w5 w4.heap.size tA nA SA gA) := D4.out.past hb5; obtain ⟨s0, s1, s2, s3⟩ := HS.out w5 H5.out.below; clear hb5 H4 D4 CL) | (have hgo := H5.out; clear hgo; go_at_call 12; refine (CT.out _ _ H5.out).mono ?_; rintro e w6 ⟨rfl, h6, hk6⟩; have H6 : Hid (ChX W0 w6 p R (fun k => k = w4.heap.size)) := h6; have D6 : Hid (BxA w6 w4.heap.size tA nA SA gA) := D5.out.same (fun i => hk6 _ i rfl); clear s0 s1 s2 s3; obtain ⟨s0, s1, s2, s3⟩ := HS.out w6 H6.out.below; clear h6 hk6 H5 D5 CT) | (have hgo := H6.out; clear hgo; go_at_call 17; refine (CB.out _ _ H6.out).mono ?_; rintro e w7 ⟨rfl, hb7⟩; have H7 : Hid (ChX W0 (w7.alloc (.cells #[.int .i64 tB, .int .u8 nB, .string SB, .bool gB] 31)) p R (fun k => k = w4.heap.size ∨ k = w7.heap.size)) := (H6.out.past hb7).keep _; have D7 : Hid (BxA (w7.alloc (.cells #[.int .i64 tB, .int .u8 nB, .string SB, .bool gB] 31)) w4.heap.size tA nA SA gA) := (D6.out.past hb7).past ((Below.refl _ _).alloc (Nat.le_refl _) _); have E7 : Hid (BxA (w7.alloc (.cells #[.int .i64 tB, .int .u8 nB, .string SB, .bool gB] 31)) w7.heap.size tB nB SB gB) := BxA.made _ _ _ _ _ _; clear hb7 H6 D6 CB s0 s1 s2 s3) | (have hgo := H7.out; clear hgo; go_at_call 23; refine (CL2.out _ _ H7.out).mono ?_; rintro e w8 ⟨rfl, hb8⟩; have H8 : Hid (ChX W0 w8 p R (fun k => k = w4.heap.size ∨ k = w7.heap.size)) := H7.out.past hb8; have D8 : Hid (BxA w8 w4.heap.size tA nA SA gA) := D7.out.past hb8; have E8 : Hid (BxA w8 w7.heap.size tB nB SB gB) := E7.out.past hb8; obtain ⟨s0, s1, s2, s3⟩ := HS.out w8 H8.out.below; clear hb8 H7 D7 E7 CL2) | (have hgo := H8.out; clear hgo; go_at_call 12; refine (CT2.out _ _ H8.out).mono ?_; rintro e w9 ⟨rfl, h9, hk9⟩; have H9 : Hid (ChX W0 w9 p R (fun k => k = w4.heap.size ∨ k = w7.heap.size)) := h9; have D9 : Hid (BxA w9 w4.heap.size tA nA SA gA) := D8.out.same (fun i => hk9 _ i (.inl rfl)); have E9 : Hid (BxA w9 w7.heap.size tB nB SB gB) := E8.out.same (fun i => hk9 _ i (.inr rfl)); clear s0 s1 s2 s3; obtain ⟨s0, s1, s2, s3⟩ := HS.out w9 H9.out.below; clear h9 hk9 H8 D8 E8 CT2) | (have hgo := H9.out; clear hgo; go_at_call 21; refine (CC.out _).mono ?_; rintro e w10 ⟨rfl, hb10⟩; have H10 : Hid (ChX W0 w10 p R (fun k => k = w4.heap.size ∨ k = w7.heap.size)) := H9.out.past hb10; have D10 : Hid (BxA w10 w4.heap.size tA nA SA gA) := D9.out.past hb10; have E10 : Hid (BxA w10 w7.heap.size tB nB SB gB) := E9.out.past hb10; clear hb10 H9 D9 E9 CC s0 s1 s2 s3))
          rcases HFIN.out hcc with ⟨hAB, rfl⟩ | ⟨hAB, rfl, rfl, rfl⟩
          · have HEQ : Hid (∀ u, (Op.equalIn 10000 47 (vv A) (vv B)).run Try.prog u = .ok true u) := fun u => eq_yes u HKA.out HKB.out hAB
            have heq := HEQ.out
            clear hAB hcc
            cases pa
            all_goals
              refine wp_region_noPanic ?_
              refine wp_region_held_drew (S := fun u => Below w10.heap.size w10 u) (by kernel_rfl) ?_ (fun hHeld => ?_)
              · exact (Below.refl _ _).drew
              refine wpAnyH_take (i := 0) (v := ?_) rfl (by kernel_rfl) (by kernel_rfl) (by kernel_rfl) (fun _ _ _ h => h) (Or.inl ⟨by rfl, ?_⟩) hHeld ?_
              rotate_left
              · intro u hSu
                obtain ⟨y0, y1, y2, y3⟩ := D10.out.past hSu
                (go_simp) <;> (with_reducible rfl)
              change wpAnyH _ _ _ _ _ _ _ (Act.put _ (some 73) _) _
              simp only [Act.put, List.setIfInBounds_toArray, List.set_cons_zero, List.set_cons_succ]
              refine wpAnyH_take (i := 2) (v := ?_) rfl (by kernel_rfl) (by kernel_rfl) (by kernel_rfl) (fun _ _ _ h => h) (Or.inl ⟨by rfl, ?_⟩) hHeld ?_
              rotate_left
              · intro u hSu
                obtain ⟨y0, y1, y2, y3⟩ := E10.out.past hSu
                (go_simp) <;> (with_reducible rfl)
              change wpAnyH _ _ _ _ _ _ _ (Act.put _ (some 75) _) _
              simp only [Act.put, List.setIfInBounds_toArray, List.set_cons_zero, List.set_cons_succ]
              refine wpAnyH_ready (rs := [1]) (by kernel_rfl) (by simp) ?_
              refine AllReadyH.cons rfl (fun K hK => ?_) AllReadyH.nil
              go_simp
              go_at_call 15
              refine (CO1.out _).mono ?_
              rintro e x1 ⟨rfl, hbx1⟩
              have Bx1 : Hid (Below w10.heap.size w10 x1) := hHeld.trans (hbx1.mono hHeld.size)
              clear hbx1
              refine hK.out _ _ ?_ (fun hHeld2 => ?_)
              · exact Bx1.out
              clear hK K hHeld
              have hHeld := hHeld2
              clear hHeld2
              refine wpAnyH_ready (rs := [3]) (by kernel_rfl) (by simp) ?_
              refine AllReadyH.cons rfl (fun K hK => ?_) AllReadyH.nil
              go_simp
              go_at_call 15
              refine (CO2.out _).mono ?_
              rintro e x2 ⟨rfl, hbx2⟩
              have Bx2 : Hid (Below w10.heap.size w10 x2) := hHeld.trans (hbx2.mono hHeld.size)
              clear hbx2
              refine hK.out _ _ ?_ (fun hHeld2 => ?_)
              · exact Bx2.out
              clear hK K hHeld
              have hHeld := hHeld2
              clear hHeld2
              refine wpAnyH_take (i := 4) (v := ?_) rfl (by kernel_rfl) (by kernel_rfl) (by kernel_rfl) (fun _ _ _ h => h) (Or.inl ⟨by rfl, ?_⟩) hHeld ?_
              rotate_left
              · intro u hSu
                (go_simp) <;> (with_reducible rfl)
              change wpAnyH _ _ _ _ _ _ _ (Act.put _ (some 77) _) _
              simp only [Act.put, List.setIfInBounds_toArray, List.set_cons_zero, List.set_cons_succ]
              refine wpAnyH_take (i := 5) (v := ?_) rfl (by kernel_rfl) (by kernel_rfl) (by kernel_rfl) (fun _ _ _ h => h) (Or.inl ⟨by rfl, ?_⟩) hHeld ?_
              rotate_left
              · intro u hSu
                (go_simp) <;> (with_reducible rfl)
              change wpAnyH _ _ _ _ _ _ _ (Act.put _ (some 78) _) _
              simp only [Act.put, List.setIfInBounds_toArray, List.set_cons_zero, List.set_cons_succ]
              refine wpAnyH_take (i := 6) (v := ?_) rfl (by kernel_rfl) (by kernel_rfl) (by kernel_rfl) (fun _ _ _ h => h) (Or.inl ⟨by rfl, ?_⟩) hHeld ?_
              rotate_left
              · intro u hSu
                (go_simp) <;> (with_reducible rfl)
              change wpAnyH _ _ _ _ _ _ _ (Act.put _ (some 79) _) _
              simp only [Act.put, List.setIfInBounds_toArray, List.set_cons_zero, List.set_cons_succ]
              refine wpAnyH_take (i := 7) (v := ?_) rfl (by kernel_rfl) (by kernel_rfl) (by kernel_rfl) (fun _ _ _ h => h) (Or.inl ⟨by rfl, ?_⟩) hHeld ?_
              rotate_left
              · intro u hSu
                (go_simp) <;> (with_reducible rfl)
              change wpAnyH _ _ _ _ _ _ _ (Act.put _ (some 80) _) _
              simp only [Act.put, List.setIfInBounds_toArray, List.set_cons_zero, List.set_cons_succ]
              refine wpAnyH_take (i := 8) (v := ?_) rfl (by kernel_rfl) (by kernel_rfl) (by kernel_rfl) (fun _ _ _ h => h) (Or.inl ⟨by rfl, ?_⟩) hHeld ?_
              rotate_left
              · intro u hSu
                (go_simp) <;> (with_reducible rfl)
              change wpAnyH _ _ _ _ _ _ _ (Act.put _ (some 81) _) _
              simp only [Act.put, List.setIfInBounds_toArray, List.set_cons_zero, List.set_cons_succ]
              refine wpAnyH_take (i := 9) (v := ?_) rfl (by kernel_rfl) (by kernel_rfl) (by kernel_rfl) (fun _ _ _ h => h) (Or.inl ⟨by rfl, ?_⟩) hHeld ?_
              rotate_left
              · intro u hSu
                (go_simp) <;> (with_reducible rfl)
              change wpAnyH _ _ _ _ _ _ _ (Act.put _ (some 82) _) _
              simp only [Act.put, List.setIfInBounds_toArray, List.set_cons_zero, List.set_cons_succ]
              refine wpAnyH_take (i := 10) (v := ?_) rfl (by kernel_rfl) (by kernel_rfl) (by kernel_rfl) (fun _ _ _ h => h) (Or.inl ⟨by rfl, ?_⟩) hHeld ?_
              rotate_left
              · intro u hSu
                (go_simp) <;> (with_reducible rfl)
              change wpAnyH _ _ _ _ _ _ _ (Act.put _ (some 83) _) _
              simp only [Act.put, List.setIfInBounds_toArray, List.set_cons_zero, List.set_cons_succ]
              refine wpAnyH_take (i := 11) (v := undef) rfl (by kernel_rfl) (by kernel_rfl) (by kernel_rfl) (fun _ _ _ h => h) (Or.inr ⟨by rfl, rfl⟩) hHeld ?_
              change wpAnyH _ _ _ _ _ _ _ (Act.put _ (some 84) _) _
              simp only [Act.put, List.setIfInBounds_toArray, List.set_cons_zero, List.set_cons_succ]
              refine wpAnyH_take (i := 12) (v := undef) rfl (by kernel_rfl) (by kernel_rfl) (by kernel_rfl) (fun _ _ _ h => h) (Or.inr ⟨by rfl, rfl⟩) hHeld ?_
              change wpAnyH _ _ _ _ _ _ _ (Act.put _ (some 85) _) _
              simp only [Act.put, List.setIfInBounds_toArray, List.set_cons_zero, List.set_cons_succ]
              refine wpAnyH_take (i := 13) (v := undef) rfl (by kernel_rfl) (by kernel_rfl) (by kernel_rfl) (fun _ _ _ h => h) (Or.inr ⟨by rfl, rfl⟩) hHeld ?_
              change wpAnyH _ _ _ _ _ _ _ (Act.put _ (some 86) _) _
              simp only [Act.put, List.setIfInBounds_toArray, List.set_cons_zero, List.set_cons_succ]
              refine wpAnyH_take (i := 14) (v := undef) rfl (by kernel_rfl) (by kernel_rfl) (by kernel_rfl) (fun _ _ _ h => h) (Or.inr ⟨by rfl, rfl⟩) hHeld ?_
              change wpAnyH _ _ _ _ _ _ _ (Act.put _ (some 87) _) _
              simp only [Act.put, List.setIfInBounds_toArray, List.set_cons_zero, List.set_cons_succ]
              refine wpAnyH_take (i := 15) (v := undef) rfl (by kernel_rfl) (by kernel_rfl) (by kernel_rfl) (fun _ _ _ h => h) (Or.inr ⟨by rfl, rfl⟩) hHeld ?_
              change wpAnyH _ _ _ _ _ _ _ (Act.put _ (some 88) _) _
              simp only [Act.put, List.setIfInBounds_toArray, List.set_cons_zero, List.set_cons_succ]
              refine wpAnyH_take (i := 16) (v := undef) rfl (by kernel_rfl) (by kernel_rfl) (by kernel_rfl) (fun _ _ _ h => h) (Or.inr ⟨by rfl, rfl⟩) hHeld ?_
              change wpAnyH _ _ _ _ _ _ _ (Act.put _ (some 89) _) _
              simp only [Act.put, List.setIfInBounds_toArray, List.set_cons_zero, List.set_cons_succ]
              refine wpAnyH_take (i := 17) (v := undef) rfl (by kernel_rfl) (by kernel_rfl) (by kernel_rfl) (fun _ _ _ h => h) (Or.inr ⟨by rfl, rfl⟩) hHeld ?_
              change wpAnyH _ _ _ _ _ _ _ (Act.put _ (some 90) _) _
              simp only [Act.put, List.setIfInBounds_toArray, List.set_cons_zero, List.set_cons_succ]
              refine wpAnyH_take (i := 18) (v := undef) rfl (by kernel_rfl) (by kernel_rfl) (by kernel_rfl) (fun _ _ _ h => h) (Or.inr ⟨by rfl, rfl⟩) hHeld ?_
              change wpAnyH _ _ _ _ _ _ _ (Act.put _ (some 91) _) _
              simp only [Act.put, List.setIfInBounds_toArray, List.set_cons_zero, List.set_cons_succ]
              refine wpAnyH_take (i := 19) (v := undef) rfl (by kernel_rfl) (by kernel_rfl) (by kernel_rfl) (fun _ _ _ h => h) (Or.inr ⟨by rfl, rfl⟩) hHeld ?_
              change wpAnyH _ _ _ _ _ _ _ (Act.put _ (some 92) _) _
              simp only [Act.put, List.setIfInBounds_toArray, List.set_cons_zero, List.set_cons_succ]
              refine wpAnyH_take (i := 20) (v := ?_) rfl (by kernel_rfl) (by kernel_rfl) (by kernel_rfl) (fun _ _ _ h => h) (Or.inl ⟨by rfl, ?_⟩) hHeld ?_
              rotate_left
              · intro u hSu
                (go_simp) <;> (with_reducible rfl)
              change wpAnyH _ _ _ _ _ _ _ (Act.put _ (some 93) _) _
              simp only [Act.put, List.setIfInBounds_toArray, List.set_cons_zero, List.set_cons_succ]
              refine wpAnyH_take (i := 21) (v := ?_) rfl (by kernel_rfl) (by kernel_rfl) (by kernel_rfl) (fun _ _ _ h => h) (Or.inl ⟨by rfl, ?_⟩) hHeld ?_
              rotate_left
              · intro u hSu
                (go_simp) <;> (with_reducible rfl)
              change wpAnyH _ _ _ _ _ _ _ (Act.put _ (some 6) _) _
              simp only [Act.put, List.setIfInBounds_toArray, List.set_cons_zero, List.set_cons_succ]
              refine wpAnyH_done (by kernel_rfl) ?_ _
              refine NoPanic.normal ?_
              go_wp2
              go_ret
              exact ⟨rfl, HBW.out _ (H10.out.below.trans (Bx2.out.mono H10.out.below.size))⟩
          · have HEQ : Hid (∀ u, (Op.equalIn 10000 47 (vv A) (vv B)).run Try.prog u = .ok false u) := fun u => eq_no u HKA.out HKB.out hAB
            have heq := HEQ.out
            clear hAB hcc
            refine wp_region_noPanic ?_
            refine wp_region_held_drew (S := fun u => Below w10.heap.size w10 u) (by kernel_rfl) ?_ (fun hHeld => ?_)
            · exact (Below.refl _ _).drew
            refine wpAnyH_take (i := 0) (v := ?_) rfl (by kernel_rfl) (by kernel_rfl) (by kernel_rfl) (fun _ _ _ h => h) (Or.inl ⟨by rfl, ?_⟩) hHeld ?_
            rotate_left
            · intro u hSu
              obtain ⟨y0, y1, y2, y3⟩ := D10.out.past hSu
              (go_simp) <;> (with_reducible rfl)
            change wpAnyH _ _ _ _ _ _ _ (Act.put _ (some 73) _) _
            simp only [Act.put, List.setIfInBounds_toArray, List.set_cons_zero, List.set_cons_succ]
            refine wpAnyH_take (i := 2) (v := ?_) rfl (by kernel_rfl) (by kernel_rfl) (by kernel_rfl) (fun _ _ _ h => h) (Or.inl ⟨by rfl, ?_⟩) hHeld ?_
            rotate_left
            · intro u hSu
              obtain ⟨y0, y1, y2, y3⟩ := E10.out.past hSu
              (go_simp) <;> (with_reducible rfl)
            change wpAnyH _ _ _ _ _ _ _ (Act.put _ (some 75) _) _
            simp only [Act.put, List.setIfInBounds_toArray, List.set_cons_zero, List.set_cons_succ]
            refine wpAnyH_ready (rs := [1]) (by kernel_rfl) (by simp) ?_
            refine AllReadyH.cons rfl (fun K hK => ?_) AllReadyH.nil
            go_simp
            go_at_call 15
            refine (CO1.out _).mono ?_
            rintro e x1 ⟨rfl, hbx1⟩
            have Bx1 : Hid (Below w10.heap.size w10 x1) := hHeld.trans (hbx1.mono hHeld.size)
            clear hbx1
            refine hK.out _ _ ?_ (fun hHeld2 => ?_)
            · exact Bx1.out
            clear hK K hHeld
            have hHeld := hHeld2
            clear hHeld2
            refine wpAnyH_ready (rs := [3]) (by kernel_rfl) (by simp) ?_
            refine AllReadyH.cons rfl (fun K hK => ?_) AllReadyH.nil
            go_simp
            go_at_call 15
            refine (CO2.out _).mono ?_
            rintro e x2 ⟨rfl, hbx2⟩
            have Bx2 : Hid (Below w10.heap.size w10 x2) := hHeld.trans (hbx2.mono hHeld.size)
            clear hbx2
            refine hK.out _ _ ?_ (fun hHeld2 => ?_)
            · exact Bx2.out
            clear hK K hHeld
            have hHeld := hHeld2
            clear hHeld2
            refine wpAnyH_take (i := 4) (v := ?_) rfl (by kernel_rfl) (by kernel_rfl) (by kernel_rfl) (fun _ _ _ h => h) (Or.inl ⟨by rfl, ?_⟩) hHeld ?_
            rotate_left
            · intro u hSu
              (go_simp) <;> (with_reducible rfl)
            change wpAnyH _ _ _ _ _ _ _ (Act.put _ (some 77) _) _
            simp only [Act.put, List.setIfInBounds_toArray, List.set_cons_zero, List.set_cons_succ]
            refine wpAnyH_take (i := 5) (v := ?_) rfl (by kernel_rfl) (by kernel_rfl) (by kernel_rfl) (fun _ _ _ h => h) (Or.inl ⟨by rfl, ?_⟩) hHeld ?_
            rotate_left
            · intro u hSu
              (go_simp) <;> (with_reducible rfl)
            change wpAnyH _ _ _ _ _ _ _ (Act.put _ (some 78) _) _
            simp only [Act.put, List.setIfInBounds_toArray, List.set_cons_zero, List.set_cons_succ]
            refine wpAnyH_take (i := 6) (v := undef) rfl (by kernel_rfl) (by kernel_rfl) (by kernel_rfl) (fun _ _ _ h => h) (Or.inr ⟨by rfl, rfl⟩) hHeld ?_
            change wpAnyH _ _ _ _ _ _ _ (Act.put _ (some 79) _) _
            simp only [Act.put, List.setIfInBounds_toArray, List.set_cons_zero, List.set_cons_succ]
            refine wpAnyH_take (i := 7) (v := undef) rfl (by kernel_rfl) (by kernel_rfl) (by kernel_rfl) (fun _ _ _ h => h) (Or.inr ⟨by rfl, rfl⟩) hHeld ?_
            change wpAnyH _ _ _ _ _ _ _ (Act.put _ (some 80) _) _
            simp only [Act.put, List.setIfInBounds_toArray, List.set_cons_zero, List.set_cons_succ]
            refine wpAnyH_take (i := 8) (v := undef) rfl (by kernel_rfl) (by kernel_rfl) (by kernel_rfl) (fun _ _ _ h => h) (Or.inr ⟨by rfl, rfl⟩) hHeld ?_
            change wpAnyH _ _ _ _ _ _ _ (Act.put _ (some 81) _) _
            simp only [Act.put, List.setIfInBounds_toArray, List.set_cons_zero, List.set_cons_succ]
            refine wpAnyH_take (i := 9) (v := ?_) rfl (by kernel_rfl) (by kernel_rfl) (by kernel_rfl) (fun _ _ _ h => h) (Or.inl ⟨by rfl, ?_⟩) hHeld ?_
            rotate_left
            · intro u hSu
              (go_simp) <;> (with_reducible rfl)
            change wpAnyH _ _ _ _ _ _ _ (Act.put _ (some 82) _) _
            simp only [Act.put, List.setIfInBounds_toArray, List.set_cons_zero, List.set_cons_succ]
            refine wpAnyH_take (i := 10) (v := ?_) rfl (by kernel_rfl) (by kernel_rfl) (by kernel_rfl) (fun _ _ _ h => h) (Or.inl ⟨by rfl, ?_⟩) hHeld ?_
            rotate_left
            · intro u hSu
              (go_simp) <;> (with_reducible rfl)
            change wpAnyH _ _ _ _ _ _ _ (Act.put _ (some 83) _) _
            simp only [Act.put, List.setIfInBounds_toArray, List.set_cons_zero, List.set_cons_succ]
            refine wpAnyH_take (i := 11) (v := ?_) rfl (by kernel_rfl) (by kernel_rfl) (by kernel_rfl) (fun _ _ _ h => h) (Or.inl ⟨by rfl, ?_⟩) hHeld ?_
            rotate_left
            · intro u hSu
              (go_simp) <;> (with_reducible rfl)
            change wpAnyH _ _ _ _ _ _ _ (Act.put _ (some 84) _) _
            simp only [Act.put, List.setIfInBounds_toArray, List.set_cons_zero, List.set_cons_succ]
            refine wpAnyH_take (i := 12) (v := ?_) rfl (by kernel_rfl) (by kernel_rfl) (by kernel_rfl) (fun _ _ _ h => h) (Or.inl ⟨by rfl, ?_⟩) hHeld ?_
            rotate_left
            · intro u hSu
              (go_simp) <;> (with_reducible rfl)
            change wpAnyH _ _ _ _ _ _ _ (Act.put _ (some 85) _) _
            simp only [Act.put, List.setIfInBounds_toArray, List.set_cons_zero, List.set_cons_succ]
            refine wpAnyH_take (i := 13) (v := ?_) rfl (by kernel_rfl) (by kernel_rfl) (by kernel_rfl) (fun _ _ _ h => h) (Or.inl ⟨by rfl, ?_⟩) hHeld ?_
            rotate_left
            · intro u hSu
              (go_simp) <;> (with_reducible rfl)
            change wpAnyH _ _ _ _ _ _ _ (Act.put _ (some 86) _) _
            simp only [Act.put, List.setIfInBounds_toArray, List.set_cons_zero, List.set_cons_succ]
            refine wpAnyH_take (i := 14) (v := ?_) rfl (by kernel_rfl) (by kernel_rfl) (by kernel_rfl) (fun _ _ _ h => h) (Or.inl ⟨by rfl, ?_⟩) hHeld ?_
            rotate_left
            · intro u hSu
              (go_simp) <;> (with_reducible rfl)
            change wpAnyH _ _ _ _ _ _ _ (Act.put _ (some 87) _) _
            simp only [Act.put, List.setIfInBounds_toArray, List.set_cons_zero, List.set_cons_succ]
            refine wpAnyH_take (i := 15) (v := ?_) rfl (by kernel_rfl) (by kernel_rfl) (by kernel_rfl) (fun _ _ _ h => h) (Or.inl ⟨by rfl, ?_⟩) hHeld ?_
            rotate_left
            · intro u hSu
              (go_simp) <;> (with_reducible rfl)
            change wpAnyH _ _ _ _ _ _ _ (Act.put _ (some 88) _) _
            simp only [Act.put, List.setIfInBounds_toArray, List.set_cons_zero, List.set_cons_succ]
            refine wpAnyH_take (i := 16) (v := ?_) rfl (by kernel_rfl) (by kernel_rfl) (by kernel_rfl) (fun _ _ _ h => h) (Or.inl ⟨by rfl, ?_⟩) hHeld ?_
            rotate_left
            · intro u hSu
              (go_simp) <;> (with_reducible rfl)
            change wpAnyH _ _ _ _ _ _ _ (Act.put _ (some 89) _) _
            simp only [Act.put, List.setIfInBounds_toArray, List.set_cons_zero, List.set_cons_succ]
            refine wpAnyH_take (i := 17) (v := ?_) rfl (by kernel_rfl) (by kernel_rfl) (by kernel_rfl) (fun _ _ _ h => h) (Or.inl ⟨by rfl, ?_⟩) hHeld ?_
            rotate_left
            · intro u hSu
              (go_simp) <;> (with_reducible rfl)
            change wpAnyH _ _ _ _ _ _ _ (Act.put _ (some 90) _) _
            simp only [Act.put, List.setIfInBounds_toArray, List.set_cons_zero, List.set_cons_succ]
            refine wpAnyH_take (i := 18) (v := ?_) rfl (by kernel_rfl) (by kernel_rfl) (by kernel_rfl) (fun _ _ _ h => h) (Or.inl ⟨by rfl, ?_⟩) hHeld ?_
            rotate_left
            · intro u hSu
              obtain ⟨y0, y1, y2, y3⟩ := D10.out.past hSu
              (go_simp) <;> (with_reducible rfl)
            change wpAnyH _ _ _ _ _ _ _ (Act.put _ (some 91) _) _
            simp only [Act.put, List.setIfInBounds_toArray, List.set_cons_zero, List.set_cons_succ]
            refine wpAnyH_take (i := 19) (v := ?_) rfl (by kernel_rfl) (by kernel_rfl) (by kernel_rfl) (fun _ _ _ h => h) (Or.inl ⟨by rfl, ?_⟩) hHeld ?_
            rotate_left
            · intro u hSu
              (go_simp) <;> (with_reducible rfl)
            change wpAnyH _ _ _ _ _ _ _ (Act.put _ (some 92) _) _
            simp only [Act.put, List.setIfInBounds_toArray, List.set_cons_zero, List.set_cons_succ]
            refine wpAnyH_take (i := 20) (v := ?_) rfl (by kernel_rfl) (by kernel_rfl) (by kernel_rfl) (fun _ _ _ h => h) (Or.inl ⟨by rfl, ?_⟩) hHeld ?_
            rotate_left
            · intro u hSu
              (go_simp) <;> (with_reducible rfl)
            change wpAnyH _ _ _ _ _ _ _ (Act.put _ (some 93) _) _
            simp only [Act.put, List.setIfInBounds_toArray, List.set_cons_zero, List.set_cons_succ]
            refine wpAnyH_take (i := 21) (v := ?_) rfl (by kernel_rfl) (by kernel_rfl) (by kernel_rfl) (fun _ _ _ h => h) (Or.inl ⟨by rfl, ?_⟩) hHeld ?_
            rotate_left
            · intro u hSu
              (go_simp) <;> (with_reducible rfl)
            change wpAnyH _ _ _ _ _ _ _ (Act.put _ (some 6) _) _
            simp only [Act.put, List.setIfInBounds_toArray, List.set_cons_zero, List.set_cons_succ]
            refine wpAnyH_done (by kernel_rfl) ?_ _
            refine NoPanic.normal ?_
            go_wp2
            go_ret
            exact ⟨rfl, HBW.out _ (H10.out.below.trans (Bx2.out.mono H10.out.below.size))⟩

set_option maxRecDepth 100000 in
theorem lifted (os : Os) (started : os.Started) (H : Type) (enc : TypeId × Value → H) :
    ReturnsInHanded {} Try.checked os 6 .any (Rows.chainTrimsSpec.pre6 enc Try.prog Try.f6 Rows.chainTrimsRow.domain false) (Rows.chainTrimsSpec.post enc Try.prog Try.f6 false true false false) := by
  refine returnsInHanded_of_change (C := Try.checked) own started (by kernel_rfl) Try.func6
    (ChangeSpec.witness6 (enc := enc) (C := Try.checked) false ⟨#[], #[.slice none 0 0, .agg #[.int .i64 0, .int .u8 0], .agg #[.int .i64 0, .int .u8 0]], []⟩ 8 (by kernel_rfl) (by kernel_rfl) (by kernel_rfl) (by kernel_rfl)) ?_
  intro W base args ds gs before hval0 hW hcnd _
  have hval : ∀ (j : Nat) t v, Try.f6.params[j]? = some t → args[j]? = some v → Value.okWide Try.prog W .any base t v := hval0
  have hW' := hW
  obtain ⟨p, q, hA0, hV, rfl, hfz, hnd⟩ := hW
  have hA : DataW.TrodAll enc Try.prog W 0 (fun _ => true) true Try.f6.params.toList args.toList ds p := hA0
  rw [Try.params6] at hA hval
  obtain ⟨v0, vs0, d0, ds0, p0, q0, hargs, rfl, rfl, h0, r0⟩ := trodAll_cons hA
  obtain ⟨v1, vs1, d1, ds1, p1, q1, rfl, rfl, rfl, h1, r1⟩ := trodAll_cons r0
  obtain ⟨v2, vs2, d2, ds2, p2, q2, rfl, rfl, rfl, h2, r2⟩ := trodAll_cons r1
  obtain ⟨rfl, rfl, rfl⟩ := trodAll_nil r2
  obtain rfl : args = #[v0, v1, v2] := by cases args; simp_all
  obtain ⟨rfl, rfl⟩ := trodVars_none hV
  obtain ⟨a0, len0, cap0, rfl⟩ := okWide_slice Try.underlying34 (hval 0 34 v0 rfl rfl)
  have k0 := h0
  have lt0 : ∀ x ∈ p0, x.block < W.heap.size := by obtain ⟨m, hm⟩ := k0; exact DataW.trod_lt m _ _ _ hm
  obtain ⟨z0, l0, w0⟩ : ∃ xs : List Ver, xs.length = len0 ∧ CVersOf W a0 cap0 xs := by
    obtain ⟨fuel, hf⟩ := h0
    exact vers_open Try.underlying34 Try.underlying31 Try.underlying28 Try.underlying2 Try.underlying5 Try.underlying9 Try.underlying4 rfl rfl rfl rfl rfl (by kernel_rfl) (by kernel_rfl) (by kernel_rfl) (by kernel_rfl) (by kernel_rfl) (by kernel_rfl) hf
  have k1 := h1
  have lt1 : ∀ x ∈ p1, x.block < W.heap.size := by obtain ⟨m, hm⟩ := k1; exact DataW.trod_lt m _ _ _ hm
  obtain ⟨a1, b1, rfl, w1, x1⟩ := struct2_open Try.underlying28 Try.underlying2 Try.underlying5 rfl rfl (by kernel_rfl) (by kernel_rfl) (by kernel_rfl) (hval 1 28 v1 rfl rfl) h1
  have k2 := h2
  have lt2 : ∀ x ∈ p2, x.block < W.heap.size := by obtain ⟨m, hm⟩ := k2; exact DataW.trod_lt m _ _ _ hm
  obtain ⟨a2, b2, rfl, w2, x2⟩ := struct2_open Try.underlying28 Try.underlying2 Try.underlying5 rfl rfl (by kernel_rfl) (by kernel_rfl) (by kernel_rfl) (hval 2 28 v2 rfl rfl) h2
  clear hA0 hval0
  refine (walk a0 len0 cap0 z0 a1 b1 a2 b2 W l0 w0 w1 x1 w2 x2).mono fun e W' ⟨he, bel⟩ => ?_
  subst he
  exact ⟨_, rfl, _, _, _, [], _, [], hW', trodAll_mk1 (shut_bool Try.underlying4 _), (trodAll_cons_mk (Below.trod laidOut (by kernel_rfl) (of_decide_eq_true (by kernel_rfl)) k0 bel lt0) (trodAll_cons_mk (Below.trod laidOut (by kernel_rfl) (of_decide_eq_true (by kernel_rfl)) k1 bel lt1) (trodAll_cons_mk (Below.trod laidOut (by kernel_rfl) (of_decide_eq_true (by kernel_rfl)) k2 bel lt2) trodAll_mk0))), rfl, bel.frame _, fun h => by cases h⟩

theorem over : Rows.chainTrimsRow.holds Try.pinned (OpenSpec.ofChange Rows.chainTrimsSpec) :=
  OpenClaim.holds_of_wide 6 Try.f6 rfl rfl rfl rfl rfl rfl rfl ⟨rfl, rfl, rfl, rfl, rfl⟩ rfl rfl rfl rfl rfl (by kernel_rfl) Try.func6 (by kernel_rfl)
    (of_decide_eq_true (by kernel_rfl)) (by unfold Func.isWrapper; first | (rw [if_pos (by decide +kernel)]; kernel_rfl) | (rw [if_neg (by decide +kernel)]; exact ⟨rfl, rfl⟩))
    (fun os started H enc _ => lifted os started H enc)
theorem proved : Rows.ChainTrimsSaid := over
#print axioms proved
end Go.Proofs.Ytimiciellbdphaa.chainTrims
namespace Go.Proofs.Ytimiciellbdphaa
/-- ChainTrims, as given. -/
theorem chainTrims_holds : Rows.ChainTrimsSaid := chainTrims.proved
end Go.Proofs.Ytimiciellbdphaa
