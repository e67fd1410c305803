/-
  ChainOrder: versions that are put in any order are the same chain, for every list of versions (of more than 40, of values of more than 300 bytes, of two alike stamps the statement asks nothing).
-/
import Derived.Test.YtimiciellbdphaaRows
import Derived.Test.YtimiciellbdphaaChainTwo
import Derived.Test.YtimiciellbdphaaChainFacts
import Derived.Test.YtimiciellbdphaaVersOpen
import Derived.WalkKit
import Derived.ProofKit
import Derived.OpenShut
import Derived.ShutString
import Derived.ChangeOld
import Derived.Below
import Derived.Carry
namespace Go.Proofs.Ytimiciellbdphaa.chainOrder
open Go.ChangeShapes Go.WideShapes Go.ChangeAt Go.RowKit
open Go.ChangeMaps (open_string shut_string)
set_option linter.unusedVariables false

theorem own : ownKnob Try.prog.godebug = none := by kernel_rfl
theorem laidOut : laidOutB Try.prog = true := by kernel_rfl
/-- A slice of integers that came in: nil, or a row of 'cap' cells, of which the first 'len' are its elements. -/
def IsRow (k : IntKind) (w : World) (a : Option Addr) (len cap : Nat) (zs : List Int) : Prop :=
  (a = none ∧ len = 0 ∧ cap = 0 ∧ zs = []) ∨
  ∃ x, a = some x ∧ len ≤ cap ∧ cap ≤ maxLen ∧ zs.length = cap ∧ (∀ i, i < zs.length → w.cell? (x.add i) = some (.int k (zs.getD i 0))) ∧ ∀ n ∈ zs, (Lit.int k n).wf = true

set_option maxRecDepth 4000 in
set_option maxHeartbeats 4000000 in
theorem walk (a0 : Option Addr) (len0 cap0 : Nat) (z0 : List Ver) (w : World) (l0 : z0.length = len0) (w0 : CVersOf w a0 cap0 z0) :
    Calls Try.prog 5 #[.slice a0 len0 cap0] w fun e w' => e = .returned (.bool true) ∧ Below w.heap.size w w' := by
  have AW : Hid (∀ u, Calls Try.prog 8 #[] u fun e w' => e = .returned (.bool true) ∧ Below u.heap.size u w') := fun u => lawake_any u
  have HL : Hid (z0.length = len0) := l0
  have HA : Hid (CVersOf w a0 cap0 z0) := w0
  have hcap : len0 ≤ cap0 := by rw [← l0]; exact w0.room
  have CN : Hid (∀ u, Below w.heap.size w u → Calls Try.prog 9 #[] u fun e w' => ∃ p, e = .returned (.pointer (some ⟨p, 0, none⟩)) ∧ ChW w w' p []) := fun u hb => (wnew_any w u hb).mono fun e w' ⟨p, h1, h2, _⟩ => ⟨p, h1, h2⟩
  have CN2 : Hid (∀ u p, ChW w u p [] → Calls Try.prog 9 #[] u fun e w' => ∃ q, e = .returned (.pointer (some ⟨q, 0, none⟩)) ∧ Ch2 w w' p [] q []) := fun u p h => new2_any h
  clear w0 l0
  by_cases h40 : 40 < len0
  · have b40 : (40 : Int) < (len0 : Int) := by omega
    go_enter Try.func5, Try.ntmps5
    go_wp2_with (first | (go_at_call 8; refine (AW.out _).mono ?_; rintro e v1 ⟨rfl, hb1⟩; have B1 : Hid (Below w.heap.size w v1) := hb1; clear hb1))
    go_ret
    exact ⟨rfl, B1.out⟩
  · have b40 : ¬ (40 : Int) < (len0 : Int) := by omega
    go_enter Try.func5, Try.ntmps5
    go_wp2_with (first | (go_at_call 8; refine (AW.out _).mono ?_; rintro e v1 ⟨rfl, hb1⟩; have B1 : Hid (Below w.heap.size w v1) := hb1; clear hb1) | (have hgo := B1.out; clear hgo; go_at_call 9; refine (CN.out _ B1.out).mono ?_; rintro e v2 ⟨p, rfl, h2⟩; have H2 : Hid (ChW w v2 p []) := h2; clear h2 B1) | (have hgo := H2.out; clear hgo; go_at_call 9; refine (CN2.out _ _ H2.out).mono ?_; rintro e v3 ⟨q, rfl, h3⟩; have H3 : Hid (Ch2 w v3 p [] q []) := h3; clear h3 H2))
    clear CN CN2 AW
    go_loopw [5] (fun iv wr => ∃ i : Nat, iv = .int .i64 i ∧ i ≤ len0 ∧ Hid (Ch2 w wr p (putsV (z0.take i)) q (putsV (z0.reverse.take i))) ∧ Hid (Dst (z0.take i))) (fun iv _ => len0 - (intOf iv).toNat)
    case atStart => exact ⟨0, rfl, Nat.zero_le _, by rw [List.take_zero, List.take_zero]; exact H3, by rw [List.take_zero]; exact List.Pairwise.nil⟩
    case round =>
      obtain ⟨i, rfl, hi, HC, HD⟩ := hrel
      have h0 : (0 : Int) ≤ (i : Int) := by omega
      by_cases hlt : i < len0
      · have h1 : (i : Int) < (len0 : Int) := by omega
        obtain ⟨V, hV⟩ : ∃ V, z0[i]? = some V := ⟨_, List.getElem?_eq_getElem (by rw [HL.out]; exact hlt)⟩
        obtain ⟨j, hj⟩ : ∃ j : Nat, j = len0 - 1 - i := ⟨_, rfl⟩
        have hjl : j < len0 := by omega
        have hj0 : (0 : Int) ≤ (j : Int) := by omega
        have hj1 : (j : Int) < (len0 : Int) := by omega
        have hji : (len0 : Int) - 1 - (i : Int) = (j : Int) := by omega
        obtain ⟨V2, hV2⟩ : ∃ V, z0[j]? = some V := ⟨_, List.getElem?_eq_getElem (by rw [HL.out]; exact hjl)⟩
        have hrv : z0.reverse[i]? = some V2 := by rw [List.getElem?_reverse (by rw [HL.out]; exact hlt), HL.out, ← hj]; exact hV2
        have hin := HA.out.ins V (List.mem_of_getElem? hV)
        have hin2 := HA.out.ins V2 (List.mem_of_getElem? hV2)
        obtain ⟨b, off, rfl, hcl⟩ : ∃ b off, a0 = some ⟨b, off, none⟩ ∧ ∀ i V, z0[i]? = some V → CVerAt w b (off + i * 4) V := by
          rcases HA.out.cells with e | ⟨b, off, e, hc⟩
          · rw [e] at hV; simp at hV
          · exact ⟨b, off, e, hc⟩
        have HCL : Hid (∀ i V, z0[i]? = some V → ∀ u, Below w.heap.size w u → u.cell? ⟨b, off + i * 4, none⟩ = some (.int .i64 V.t) ∧ u.cell? ⟨b, off + i * 4 + 1, none⟩ = some (.int .u8 V.n) ∧ u.cell? ⟨b, off + i * 4 + 2, none⟩ = some (.string (strOfNums V.v)) ∧ u.cell? ⟨b, off + i * 4 + 3, none⟩ = some (.bool V.g)) := fun i V h u hb => by
          have := (hcl i V h).past hb
          exact ⟨this.c0, this.c1, this.c2, this.c3⟩
        have HT : Hid (putsV (z0.take (i + 1)) = (putV (putsV (z0.take i)) V).2) := by show _ = _; rw [List.take_add_one, hV]; exact puts_snoc _ _
        have HT2 : Hid (putsV (z0.reverse.take (i + 1)) = (putV (putsV (z0.reverse.take i)) V2).2) := by show _ = _; rw [List.take_add_one, hrv]; exact puts_snoc _ _
        have PU : Hid (∀ u, Ch2 w u p (putsV (z0.take i)) q (putsV (z0.reverse.take i)) → Calls Try.prog 10 #[.pointer (some ⟨p, 0, none⟩), cvv V] u fun e w' => (∃ r, e = .returned (.int .i64 r)) ∧ Ch2 w w' p (putsV (z0.take (i + 1))) q (putsV (z0.reverse.take i))) := fun u h => by rw [HT.out]; exact (put2_any h hin).mono fun e w' ⟨h1, h2⟩ => ⟨⟨_, h1⟩, h2⟩
        have PU2 : Hid (∀ u, Ch2 w u p (putsV (z0.take (i + 1))) q (putsV (z0.reverse.take i)) → Calls Try.prog 10 #[.pointer (some ⟨q, 0, none⟩), cvv V2] u fun e w' => (∃ r, e = .returned (.int .i64 r)) ∧ Ch2 w w' p (putsV (z0.take (i + 1))) q (putsV (z0.reverse.take (i + 1)))) := fun u h => by rw [HT2.out]; exact (put2_any h.swap hin2).mono fun e w' ⟨h1, h2⟩ => ⟨⟨_, h1⟩, h2.swap⟩
        have hsz := strOfNums_size V.v
        have HV : Hid (z0[i]? = some V) := hV
        have C1 : Hid (∀ u, Below w.heap.size w u → u.cell? ⟨b, off + i * 4, none⟩ = some (.int .i64 V.t) ∧ u.cell? ⟨b, off + i * 4 + 1, none⟩ = some (.int .u8 V.n) ∧ u.cell? ⟨b, off + i * 4 + 2, none⟩ = some (.string (strOfNums V.v)) ∧ u.cell? ⟨b, off + i * 4 + 3, none⟩ = some (.bool V.g)) := fun u hb => HCL.out i V hV u hb
        have C2 : Hid (∀ u, Below w.heap.size w u → u.cell? ⟨b, off + j * 4, none⟩ = some (.int .i64 V2.t) ∧ u.cell? ⟨b, off + j * 4 + 1, none⟩ = some (.int .u8 V2.n) ∧ u.cell? ⟨b, off + j * 4 + 2, none⟩ = some (.string (strOfNums V2.v)) ∧ u.cell? ⟨b, off + j * 4 + 3, none⟩ = some (.bool V2.g)) := fun u hb => HCL.out j V2 hV2 u hb
        rw [show cvv V = .agg #[.int .i64 V.t, .int .u8 V.n, .string (strOfNums V.v), .bool V.g] from rfl] at PU
        rw [show cvv V2 = .agg #[.int .i64 V2.t, .int .u8 V2.n, .string (strOfNums V2.v), .bool V2.g] from rfl] at PU2
        obtain ⟨t1, ht1⟩ : ∃ t, t = V.t := ⟨_, rfl⟩
        obtain ⟨n1, hn1⟩ : ∃ t, t = V.n := ⟨_, rfl⟩
        obtain ⟨S1, hS1⟩ : ∃ t, t = strOfNums V.v := ⟨_, rfl⟩
        obtain ⟨g1, hg1⟩ : ∃ t, t = V.g := ⟨_, rfl⟩
        obtain ⟨t2, ht2⟩ : ∃ t, t = V2.t := ⟨_, rfl⟩
        obtain ⟨n2, hn2⟩ : ∃ t, t = V2.n := ⟨_, rfl⟩
        obtain ⟨S2, hS2⟩ : ∃ t, t = strOfNums V2.v := ⟨_, rfl⟩
        obtain ⟨g2, hg2⟩ : ∃ t, t = V2.g := ⟨_, rfl⟩
        have hmx : S1.size ≤ 9223372036854775807 := by rw [hS1, hsz]; exact hin.few
        have HVT : Hid (t1 = V.t ∧ n1 = V.n) := ⟨ht1, hn1⟩
        rw [← ht1, ← hn1, ← hS1, ← hg1] at PU C1
        rw [← ht2, ← hn2, ← hS2, ← hg2] at PU2 C2
        have HBW : Hid (Below w.heap.size w wr) := HC.out.below
        clear ht1 hn1 hS1 hg1 ht2 hn2 hS2 hg2 hV hV2 hrv hin hin2 hcl HT HT2 hsz hj
        obtain ⟨q0, q1, q2, q3⟩ := C1.out wr HBW.out
        by_cases h300 : 300 < S1.size
        · have b300 : (300 : Int) < (S1.size : Int) := by omega
          go_wp2
          go_ret
          exact ⟨rfl, HBW.out⟩
        · have b300 : ¬ (300 : Int) < (S1.size : Int) := by omega
          go_wp2
          clear q0 q1 q2 q3
          go_loopw [6] (fun kv wi => ∃ k : Nat, kv = .int .i64 k ∧ k ≤ i ∧ Hid (Below wr.heap.size wr wi) ∧ Hid (∀ m V', m < k → z0[m]? = some V' → ¬ (V'.t = t1 ∧ V'.n = n1))) (fun kv _ => i - (intOf kv).toNat)
          case atStart => exact ⟨0, rfl, Nat.zero_le _, Below.refl _ _, fun m V' hm => by omega⟩
          case round =>
            obtain ⟨k, rfl, hk, HBI, HNE⟩ := hrel
            have k0 : (0 : Int) ≤ (k : Int) := by omega
            by_cases hki : k < i
            · have k1 : (k : Int) < (i : Int) := by omega
              have k2 : (k : Int) < (len0 : Int) := by omega
              obtain ⟨V3, hV3⟩ : ∃ V, z0[k]? = some V := ⟨_, List.getElem?_eq_getElem (by rw [HL.out]; omega)⟩
              have HBX : Hid (Below w.heap.size w wr) := HBW.out.trans (HBI.out.mono HBW.out.size)
              obtain ⟨q0, q1, q2, q3⟩ := C1.out wr HBX.out
              obtain ⟨y0, y1, y2, y3⟩ := HCL.out k V3 hV3 wr HBX.out
              have heq := fun u => eq_st u V3.t V3.n t1 n1
              have HV3 : Hid (z0[k]? = some V3) := hV3
              obtain ⟨t3, ht3⟩ : ∃ t, t = V3.t := ⟨_, rfl⟩
              obtain ⟨n3, hn3⟩ : ∃ t, t = V3.n := ⟨_, rfl⟩
              have HT3 : Hid (t3 = V3.t ∧ n3 = V3.n) := ⟨ht3, hn3⟩
              rw [← ht3, ← hn3] at heq
              rw [← ht3] at y0
              rw [← hn3] at y1
              clear ht3 hn3 hV3 y2 y3 q2 q3
              by_cases hs : t3 = t1 ∧ n3 = n1
              · rw [decide_eq_true hs] at heq
                clear hs
                go_wp2
                go_quiet (fail)
                go_wp2
                go_ret
                exact ⟨rfl, below_dN HBX.out _⟩
              · rw [decide_eq_false hs] at heq
                have HN2 : Hid (∀ m V', m < k + 1 → z0[m]? = some V' → ¬ (V'.t = t1 ∧ V'.n = n1)) := fun m V' hm hV' => by
                  by_cases e : m < k
                  · exact HNE.out m V' e hV'
                  · obtain rfl : m = k := by omega
                    rw [HV3.out] at hV'
                    injection hV' with hV'
                    subst hV'
                    rw [← HT3.out.1, ← HT3.out.2]
                    exact hs
                clear hs
                go_wp2
                go_quiet (fail)
                go_wp2
                go_roundw
                case rel => exact ⟨k + 1, by go_num, by omega, below_dN HBI.out _, HN2⟩
                case measure => simp [intOf]; omega
            · obtain rfl : k = i := by omega
              have HBX : Hid (Below w.heap.size w wr) := HBW.out.trans (HBI.out.mono HBW.out.size)
              have HC1 : Hid (Ch2 w wr p (putsV (z0.take k)) q (putsV (z0.reverse.take k))) := HC.out.past HBI.out
              have HD1 : Hid (Dst (z0.take (k + 1))) := by
                show List.Pairwise _ _
                rw [List.take_add_one, HV.out, List.pairwise_append]
                refine ⟨HD.out, by simp, fun A hA B hB => ?_⟩
                simp at hB
                subst hB
                obtain ⟨m, hm⟩ := List.getElem?_of_mem hA
                have hmk : m < k := by have := (List.getElem?_eq_some_iff.1 hm).1; rw [List.length_take] at this; omega
                rw [List.getElem?_take_of_lt hmk] at hm
                have := HNE.out m A hmk hm
                rw [HVT.out.1, HVT.out.2] at this
                exact this
              obtain ⟨q0, q1, q2, q3⟩ := C1.out wr HBX.out
              go_wp2_with (first | (have hgo := PU.out; clear hgo; go_at_call 10; refine (PU.out _ HC1.out).mono ?_; rintro e w3 ⟨⟨r3, rfl⟩, h3⟩; have H3' : Hid (Ch2 w w3 p (putsV (z0.take (k + 1))) q (putsV (z0.reverse.take k))) := h3; clear q0 q1 q2 q3; obtain ⟨q0, q1, q2, q3⟩ := C2.out w3 H3'.out.below; clear h3 PU) | (have hgo := H3'.out; clear hgo; go_at_call 10; refine (PU2.out _ H3'.out).mono ?_; rintro e w4 ⟨⟨r4, rfl⟩, h4⟩; have H4' : Hid (Ch2 w w4 p (putsV (z0.take (k + 1))) q (putsV (z0.reverse.take (k + 1)))) := h4; clear h4 PU2 H3'))
              go_roundw
              case rel => exact ⟨k + 1, by go_num, by omega, H4', HD1⟩
              case measure => simp [intOf]; omega
      · obtain rfl : i = len0 := by omega
        have ht1 : z0.take i = z0 := List.take_of_length_le (by rw [HL.out]; exact Nat.le_refl _)
        have ht2 : z0.reverse.take i = z0.reverse := List.take_of_length_le (by rw [List.length_reverse, HL.out]; exact Nat.le_refl _)
        rw [ht1, ht2] at HC
        rw [ht1] at HD
        rw [← puts_order z0 (by rw [HL.out]; omega) (fun V hV => ⟨(HA.out.ins V hV).key, (HA.out.ins V hV).n.1, (HA.out.ins V hV).n.2, (HA.out.ins V hV).val⟩) HD.out] at HC
        obtain ⟨L, hL⟩ : ∃ L, L = putsV z0 := ⟨_, rfl⟩
        rw [← hL] at HC
        clear hL ht1 ht2 HD H3 HA HL
        have HCN : Hid (Chn L) := HC.out.one.chn
        obtain ⟨N, hN⟩ : ∃ N, N = L.length := ⟨_, rfl⟩
        have hN50 : N ≤ 50 := by rw [hN]; exact HCN.out.few
        have HN : Hid (L.length = N) := hN.symm
        have CAa : Hid (∀ u, Ch2 w u p L q L → Calls Try.prog 13 #[.pointer (some ⟨p, 0, none⟩)] u fun e w' => (∃ a c, e = .returned (.slice a N c) ∧ CVersOf w' a c L) ∧ Below u.heap.size u w') := fun u h => by
          rw [hN]; exact (wall_any h.one).mono fun e w' ⟨h1, _, h2⟩ => ⟨h1, h2⟩
        have CAb : Hid (∀ u, Ch2 w u p L q L → Calls Try.prog 13 #[.pointer (some ⟨q, 0, none⟩)] u fun e w' => (∃ a c, e = .returned (.slice a N c) ∧ CVersOf w' a c L) ∧ Below u.heap.size u w') := fun u h => by
          rw [hN]; exact (wall_any h.swap.one).mono fun e w' ⟨h1, _, h2⟩ => ⟨h1, h2⟩
        have CV : Hid (∀ u a c, CVersOf u a c L → Calls Try.prog 25 #[.slice a N c] u fun e w' => (∃ a' c', e = .returned (.slice a' N c') ∧ w'.ownsRow u.heap.size 47 20 (.slice a' N c') N (L.flatMap encV)) ∧ Below u.heap.size u w') := fun u a c h => lvers_any a N c L u HN.out (by omega) h
        have HSM : Hid (∀ (u : World) (B : Nat) a c, u.ownsRow B 47 20 (.slice a N c) N (L.flatMap encV) → B ≤ u.heap.size → StoreR (u.alloc (.cells #[.slice a N c] 40)) B u.heap.size L) := fun u B a c h hB => store_made HN.out h hB (chn_ok HCN.out) (by rw [HN.out]; omega) 40
        clear hN
        go_wp2_with (first | (have hgo := HC.out; clear hgo; go_at_call 13; refine (CAa.out _ HC.out).mono ?_; rintro e x1 ⟨⟨a1, c1, rfl, hv1⟩, hb1⟩; have K1 : Hid (Ch2 w x1 p L q L) := HC.out.past hb1; have V1 : Hid (CVersOf x1 a1 c1 L) := hv1; clear hv1 hb1 HC CAa) | (have hgo := V1.out; clear hgo; go_at_call 25; refine (CV.out _ _ _ V1.out).mono ?_; rintro e x2 ⟨⟨a2, c2, rfl, ho2⟩, hb2⟩; have K2 : Hid (Ch2 w (x2.alloc (.cells #[.slice a2 N c2] 40)) p L q L) := (K1.out.past hb2).past ((Below.refl _ _).alloc (Nat.le_refl _) _); have S2 : Hid (StoreR (x2.alloc (.cells #[.slice a2 N c2] 40)) x1.heap.size x2.heap.size L) := HSM.out x2 _ a2 c2 ho2 hb2.size; clear ho2 hb2 K1 V1) | (have hgo := K2.out; clear hgo; go_at_call 13; refine (CAb.out _ K2.out).mono ?_; rintro e x3 ⟨⟨a3, c3, rfl, hv3⟩, hb3⟩; have K3 : Hid (Ch2 w x3 p L q L) := K2.out.past hb3; have S3 : Hid (StoreR x3 x1.heap.size x2.heap.size L) := S2.out.past hb3; have V3 : Hid (CVersOf x3 a3 c3 L) := hv3; clear hv3 hb3 K2 S2 CAb) | (have hgo := V3.out; clear hgo; go_at_call 25; refine (CV.out _ _ _ V3.out).mono ?_; rintro e x4 ⟨⟨a4, c4, rfl, ho4⟩, hb4⟩; have K4 : Hid (Ch2 w (x4.alloc (.cells #[.slice a4 N c4] 40)) p L q L) := (K3.out.past hb4).past ((Below.refl _ _).alloc (Nat.le_refl _) _); have S4 : Hid (StoreR (x4.alloc (.cells #[.slice a4 N c4] 40)) x1.heap.size x2.heap.size L) := (S3.out.past hb4).past ((Below.refl _ _).alloc (Nat.le_refl _) _); have T4 : Hid (StoreR (x4.alloc (.cells #[.slice a4 N c4] 40)) x3.heap.size x4.heap.size L) := HSM.out x4 _ a4 c4 ho4 hb4.size; clear ho4 hb4 K3 S3 V3) | (have hgo := K4.out; clear hgo; go_at_call 24; refine (same_yes _ _ L L _ S4.out.looks T4.out.looks rfl).mono ?_; rintro e x5 ⟨rfl, hb5⟩; have B5 : Hid (Below w.heap.size w x5) := K4.out.below.trans (hb5.mono K4.out.below.size); clear hb5 K4 S4 T4))
        go_ret
        exact ⟨rfl, B5.out⟩

set_option maxRecDepth 100000 in
theorem lifted (os : Os) (started : os.Started) (H : Type) (enc : TypeId × Value → H) :
    ReturnsInHanded {} Try.checked os 5 .any (Rows.chainOrderSpec.pre6 enc Try.prog Try.f5 Rows.chainOrderRow.domain false) (Rows.chainOrderSpec.post enc Try.prog Try.f5 false true false false) := by
  refine returnsInHanded_of_change (C := Try.checked) own started (by kernel_rfl) Try.func5
    (ChangeSpec.witness6 (enc := enc) (C := Try.checked) false ⟨#[], #[.slice none 0 0], []⟩ 8 (by kernel_rfl) (by kernel_rfl) (by kernel_rfl) (by kernel_rfl)) ?_
  intro W base args ds gs before hval0 hW hcnd _
  have hval : ∀ (j : Nat) t v, Try.f5.params[j]? = some t → args[j]? = some v → Value.okWide Try.prog W .any base t v := hval0
  have hW' := hW
  obtain ⟨p, q, hA0, hV, rfl, hfz, hnd⟩ := hW
  have hA : DataW.TrodAll enc Try.prog W 0 (fun _ => true) true Try.f5.params.toList args.toList ds p := hA0
  rw [Try.params5] at hA hval
  obtain ⟨v0, vs0, d0, ds0, p0, q0, hargs, rfl, rfl, h0, r0⟩ := trodAll_cons hA
  obtain ⟨rfl, rfl, rfl⟩ := trodAll_nil r0
  obtain rfl : args = #[v0] := by cases args; simp_all
  obtain ⟨rfl, rfl⟩ := trodVars_none hV
  obtain ⟨a0, len0, cap0, rfl⟩ := okWide_slice Try.underlying34 (hval 0 34 v0 rfl rfl)
  have k0 := h0
  have lt0 : ∀ x ∈ p0, x.block < W.heap.size := by obtain ⟨m, hm⟩ := k0; exact DataW.trod_lt m _ _ _ hm
  obtain ⟨z0, l0, w0⟩ : ∃ xs : List Ver, xs.length = len0 ∧ CVersOf W a0 cap0 xs := by
    obtain ⟨fuel, hf⟩ := h0
    exact vers_open Try.underlying34 Try.underlying31 Try.underlying28 Try.underlying2 Try.underlying5 Try.underlying9 Try.underlying4 rfl rfl rfl rfl rfl (by kernel_rfl) (by kernel_rfl) (by kernel_rfl) (by kernel_rfl) (by kernel_rfl) (by kernel_rfl) hf
  clear hA0 hval0
  refine (walk a0 len0 cap0 z0 W l0 w0).mono fun e W' ⟨he, bel⟩ => ?_
  subst he
  exact ⟨_, rfl, _, _, _, [], _, [], hW', trodAll_mk1 (shut_bool Try.underlying4 _), (trodAll_cons_mk (Below.trod laidOut (by kernel_rfl) (of_decide_eq_true (by kernel_rfl)) k0 bel lt0) trodAll_mk0), rfl, bel.frame _, fun h => by cases h⟩

theorem over : Rows.chainOrderRow.holds Try.pinned (OpenSpec.ofChange Rows.chainOrderSpec) :=
  OpenClaim.holds_of_wide 5 Try.f5 rfl rfl rfl rfl rfl rfl rfl ⟨rfl, rfl, rfl, rfl, rfl⟩ rfl rfl rfl rfl rfl (by kernel_rfl) Try.func5 (by kernel_rfl)
    (of_decide_eq_true (by kernel_rfl)) (by unfold Func.isWrapper; first | (rw [if_pos (by decide +kernel)]; kernel_rfl) | (rw [if_neg (by decide +kernel)]; exact ⟨rfl, rfl⟩))
    (fun os started H enc _ => lifted os started H enc)
theorem proved : Rows.ChainOrderSaid := over
#print axioms proved
end Go.Proofs.Ytimiciellbdphaa.chainOrder
namespace Go.Proofs.Ytimiciellbdphaa
/-- ChainOrder, as given. -/
theorem chainOrder_holds : Rows.ChainOrderSaid := chainOrder.proved
end Go.Proofs.Ytimiciellbdphaa
