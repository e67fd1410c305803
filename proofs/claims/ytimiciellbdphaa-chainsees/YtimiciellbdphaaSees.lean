/-
  ChainSees: what is seen at two times parts just where a version lies between, for every list of versions and every two stamps (of more than 40 versions, of values of more than 250 bytes the statement asks nothing).
-/
import Derived.Test.YtimiciellbdphaaRows
import Derived.Test.YtimiciellbdphaaChainSee
import Derived.Test.YtimiciellbdphaaChainKeep
import Derived.Test.YtimiciellbdphaaChainFacts
import Derived.Test.YtimiciellbdphaaChainBtw
import Derived.Test.YtimiciellbdphaaVersOpen
import Derived.Test.YtimiciellbdphaaPairOpen
import Derived.WalkKit
import Derived.ProofKit
import Derived.OpenShut
import Derived.ShutString
import Derived.ChangeOld
import Derived.Below
import Derived.Carry
namespace Go.Proofs.Ytimiciellbdphaa.chainSees
open Go.ChangeShapes Go.WideShapes Go.ChangeAt Go.RowKit
open Go.ChangeMaps (open_string shut_string)
set_option linter.unusedVariables false

theorem own : ownKnob Try.prog.godebug = none := by kernel_rfl
theorem laidOut : laidOutB Try.prog = true := by kernel_rfl
/-- A slice of integers that came in: nil, or a row of 'cap' cells, of which the first 'len' are its elements. -/
def IsRow (k : IntKind) (w : World) (a : Option Addr) (len cap : Nat) (zs : List Int) : Prop :=
  (a = none ∧ len = 0 ∧ cap = 0 ∧ zs = []) ∨
  ∃ x, a = some x ∧ len ≤ cap ∧ cap ≤ maxLen ∧ zs.length = cap ∧ (∀ i, i < zs.length → w.cell? (x.add i) = some (.int k (zs.getD i 0))) ∧ ∀ n ∈ zs, (Lit.int k n).wf = true

set_option maxRecDepth 4000 in
set_option maxHeartbeats 4000000 in
theorem walk (a0 : Option Addr) (len0 cap0 : Nat) (z0 : List Ver) (a1 b1 : Int) (a2 b2 : Int) (w : World) (l0 : z0.length = len0) (w0 : CVersOf w a0 cap0 z0) (w1 : (Lit.int .i64 a1).wf = true) (x1 : (Lit.int .u8 b1).wf = true) (w2 : (Lit.int .i64 a2).wf = true) (x2 : (Lit.int .u8 b2).wf = true) :
    Calls Try.prog 7 #[.slice a0 len0 cap0, .agg #[.int .i64 a1, .int .u8 b1], .agg #[.int .i64 a2, .int .u8 b2]] w fun e w' => e = .returned (.bool true) ∧ Below w.heap.size w w' := by
  have by1 := bounds_i64 w1
  have by1n := bounds_u8 x1
  have by2 := bounds_i64 w2
  have by2n := bounds_u8 x2
  have AW : Hid (∀ u, Calls Try.prog 8 #[] u fun e w' => e = .returned (.bool true) ∧ Below u.heap.size u w') := fun u => lawake_any u
  have HL : Hid (z0.length = len0) := l0
  have HA : Hid (CVersOf w a0 cap0 z0) := w0
  have hcap : len0 ≤ cap0 := by rw [← l0]; exact w0.room
  obtain ⟨W0, hW0⟩ : ∃ W0, W0 = (w.alloc (.cells #[.int .i64 a1, .int .u8 b1] 28)).alloc (.cells #[.int .i64 a2, .int .u8 b2] 28) := ⟨_, rfl⟩
  have HW0 : Hid ((w.alloc (.cells #[.int .i64 a1, .int .u8 b1] 28)).alloc (.cells #[.int .i64 a2, .int .u8 b2] 28) = W0) := hW0.symm
  have HB0 : Hid (Below w.heap.size w W0) := by rw [hW0]; exact ((Below.refl _ _).alloc (Nat.le_refl _) _).alloc (by simp) _
  have HC0 : Hid (W0.cell? ⟨w.heap.size, 0, none⟩ = some (.int .i64 a1) ∧ W0.cell? ⟨w.heap.size, 1, none⟩ = some (.int .u8 b1) ∧ W0.cell? ⟨w.heap.size + 1, 0, none⟩ = some (.int .i64 a2) ∧ W0.cell? ⟨w.heap.size + 1, 1, none⟩ = some (.int .u8 b2)) := by
    have e1 := range_new w [.int .i64 a1, .int .u8 b1] 28
    have e2 := range_new (w.alloc (.cells #[.int .i64 a1, .int .u8 b1] 28)) [.int .i64 a2, .int .u8 b2] 28
    have hb : Below (w.alloc (.cells #[.int .i64 a1, .int .u8 b1] 28)).heap.size (w.alloc (.cells #[.int .i64 a1, .int .u8 b1] 28)) W0 := by rw [hW0]; exact (Below.refl _ _).alloc (Nat.le_refl _) _
    rw [World.size_alloc] at e2
    have f0 := e1 0 _ rfl
    have f1 := e1 1 _ rfl
    have f2 := e2 0 _ rfl
    have f3 := e2 1 _ rfl
    rw [hW0]
    refine ⟨?_, ?_, f2, f3⟩
    · rw [← hW0]; exact (hb.cell (p := ⟨w.heap.size, 0, none⟩) (by simp)).trans f0
    · rw [← hW0]; exact (hb.cell (p := ⟨w.heap.size, 1, none⟩) (by simp)).trans f1
  have CN : Hid (∀ u, Below W0.heap.size W0 u → Calls Try.prog 9 #[] u fun e w' => ∃ p, e = .returned (.pointer (some ⟨p, 0, none⟩)) ∧ ChW W0 w' p []) := fun u hb => (wnew_any W0 u hb).mono fun e w' ⟨p, h1, h2, _⟩ => ⟨p, h1, h2⟩
  obtain ⟨c0, hc0⟩ : ∃ c, c = cmpS a1 b1 a2 b2 := ⟨_, rfl⟩
  have CC0 : Hid (∀ u, Calls Try.prog 21 #[.agg #[.int .i64 a1, .int .u8 b1], .agg #[.int .i64 a2, .int .u8 b2]] u fun e w' => e = .returned (.int .i64 c0) ∧ Below u.heap.size u w') := fun u => by rw [hc0]; exact rcmp6_any a1 b1 a2 b2 u
  have HAB : Hid (¬ 0 < c0 → ¬ ltS a2 b2 a1 b1) := fun h hl => h (by rw [hc0]; exact cmp_pos.2 hl)
  have HS : Hid (∀ u, Below W0.heap.size W0 u → u.cell? ⟨w.heap.size, 0, none⟩ = some (.int .i64 a1) ∧ u.cell? ⟨w.heap.size, 1, none⟩ = some (.int .u8 b1) ∧ u.cell? ⟨w.heap.size + 1, 0, none⟩ = some (.int .i64 a2) ∧ u.cell? ⟨w.heap.size + 1, 1, none⟩ = some (.int .u8 b2)) := fun u hb =>
    ⟨(hb.cell (p := ⟨w.heap.size, 0, none⟩) (lt_of_cell HC0.out.1)).trans HC0.out.1, (hb.cell (p := ⟨w.heap.size, 1, none⟩) (lt_of_cell HC0.out.2.1)).trans HC0.out.2.1, (hb.cell (p := ⟨w.heap.size + 1, 0, none⟩) (lt_of_cell HC0.out.2.2.1)).trans HC0.out.2.2.1, (hb.cell (p := ⟨w.heap.size + 1, 1, none⟩) (lt_of_cell HC0.out.2.2.2)).trans HC0.out.2.2.2⟩
  have HBW0 : Hid (∀ u, Below W0.heap.size W0 u → Below w.heap.size w u) := fun u h => HB0.out.trans (h.mono HB0.out.size)
  clear w0 w1 w2 x1 x2 l0 hW0 hc0 HC0
  by_cases h40 : 40 < len0
  · have b40 : (40 : Int) < (len0 : Int) := by omega
    go_enter Try.func7, Try.ntmps7
    go_wp2_with (first | (go_at_call 8; refine (AW.out _).mono ?_; rintro e v1 ⟨rfl, hb1⟩; rw [HW0.out] at hb1; have B1 : Hid (Below w.heap.size w v1) := HB0.out.trans (hb1.mono HB0.out.size); clear hb1))
    go_ret
    exact ⟨rfl, B1.out⟩
  · have b40 : ¬ (40 : Int) < (len0 : Int) := by omega
    by_cases hc : 0 < c0
    · have bc : decide (0 < c0) = true := decide_eq_true hc
      go_enter Try.func7, Try.ntmps7
      go_wp2_with (first | (go_at_call 8; refine (AW.out _).mono ?_; rintro e v1 ⟨rfl, hb1⟩; rw [HW0.out] at hb1; have B1 : Hid (Below W0.heap.size W0 v1) := hb1; clear hb1; obtain ⟨s0, s1, s2, s3⟩ := HS.out v1 B1.out) | (have hgo := B1.out; clear hgo; go_at_call 21; refine (CC0.out _).mono ?_; rintro e v2 ⟨rfl, hb2⟩; have B2 : Hid (Below W0.heap.size W0 v2) := B1.out.trans (hb2.mono B1.out.size); clear hb2 B1 s0 s1 s2 s3))
      go_ret
      exact ⟨rfl, HBW0.out _ B2.out⟩
    · have bc : decide (0 < c0) = false := decide_eq_false hc
      have HLT : Hid (¬ ltS a2 b2 a1 b1) := HAB.out hc
      clear HAB
      go_enter Try.func7, Try.ntmps7
      go_wp2_with (first | (go_at_call 8; refine (AW.out _).mono ?_; rintro e v1 ⟨rfl, hb1⟩; rw [HW0.out] at hb1; have B1 : Hid (Below W0.heap.size W0 v1) := hb1; clear hb1; obtain ⟨s0, s1, s2, s3⟩ := HS.out v1 B1.out) | (have hgo := B1.out; clear hgo; go_at_call 21; refine (CC0.out _).mono ?_; rintro e v2 ⟨rfl, hb2⟩; have B2 : Hid (Below W0.heap.size W0 v2) := B1.out.trans (hb2.mono B1.out.size); clear hb2 B1 s0 s1 s2 s3) | (have hgo := B2.out; clear hgo; go_at_call 9; refine (CN.out _ B2.out).mono ?_; rintro e v3 ⟨p, rfl, h3⟩; have H3 : Hid (ChW W0 v3 p []) := h3; clear h3 B2))
      clear CN AW CC0 bc hc
      go_loopw [8, 9] (fun bv iv wr => ∃ (i : Nat) (bt : Bool), iv = .int .i64 i ∧ bv = .bool bt ∧ i ≤ len0 ∧ Hid (ChW W0 wr p (putsV (z0.take i))) ∧ Hid (bt = true ↔ Btw (putsV (z0.take i)) a1 b1 a2 b2)) (fun _ iv _ => len0 - (intOf iv).toNat)
      case atStart => exact ⟨0, false, rfl, rfl, Nat.zero_le _, by rw [List.take_zero]; exact H3, by rw [List.take_zero]; exact btw_nil⟩
      case round =>
        obtain ⟨i, bt, rfl, rfl, hi, HC, HBT⟩ := hrel
        have h0 : (0 : Int) ≤ (i : Int) := by omega
        by_cases hlt : i < len0
        · have h1 : (i : Int) < (len0 : Int) := by omega
          obtain ⟨V, hV⟩ : ∃ V, z0[i]? = some V := ⟨_, List.getElem?_eq_getElem (by rw [HL.out]; exact hlt)⟩
          have hin := HA.out.ins V (List.mem_of_getElem? hV)
          obtain ⟨b, off, rfl, hcv⟩ : ∃ b off, a0 = some ⟨b, off, none⟩ ∧ CVerAt w b (off + i * 4) V := by
            rcases HA.out.cells with e | ⟨b, off, e, hc⟩
            · rw [e] at hV; simp at hV
            · exact ⟨b, off, e, hc i V hV⟩
          have HCV : Hid (∀ u, Below W0.heap.size W0 u → u.cell? ⟨b, off + i * 4, none⟩ = some (.int .i64 V.t) ∧ u.cell? ⟨b, off + i * 4 + 1, none⟩ = some (.int .u8 V.n) ∧ u.cell? ⟨b, off + i * 4 + 2, none⟩ = some (.string (strOfNums V.v)) ∧ u.cell? ⟨b, off + i * 4 + 3, none⟩ = some (.bool V.g)) := fun u hb => by
            have := hcv.past (HBW0.out u hb)
            exact ⟨this.c0, this.c1, this.c2, this.c3⟩
          have HT : Hid (putsV (z0.take (i + 1)) = (putV (putsV (z0.take i)) V).2) := by show _ = _; rw [List.take_add_one, hV]; exact puts_snoc _ _
          have PU : Hid (Calls Try.prog 10 #[.pointer (some ⟨p, 0, none⟩), cvv V] wr fun e w' => e = .returned (.int .i64 (putV (putsV (z0.take i)) V).1) ∧ ChW W0 w' p (putV (putsV (z0.take i)) V).2) := wput_any HC.out hin
          have HPF : Hid ((putsV (z0.take i)).length < 50) := Nat.lt_of_le_of_lt (puts_facts (z0.take i) (by rw [List.length_take]; omega) (fun X hX => HA.out.pv X (List.mem_of_mem_take hX))).2.2 (by rw [List.length_take]; omega)
          have HBU : Hid (Btw (putsV (z0.take (i + 1))) a1 b1 a2 b2 ↔ Btw (putsV (z0.take i)) a1 b1 a2 b2 ∨ ((putV (putsV (z0.take i)) V).1 = 0 ∧ ltS a1 b1 V.t V.n ∧ ¬ ltS a2 b2 V.t V.n)) := by show _ ↔ _; rw [HT.out]; exact btw_put HC.out.chn hin.key HPF.out
          rw [← HT.out] at PU
          have hsz := strOfNums_size V.v
          obtain ⟨r1, hr1⟩ : ∃ r, r = (putV (putsV (z0.take i)) V).1 := ⟨_, rfl⟩
          obtain ⟨t1, ht1⟩ : ∃ t, t = V.t := ⟨_, rfl⟩
          obtain ⟨n1, hn1⟩ : ∃ t, t = V.n := ⟨_, rfl⟩
          obtain ⟨S1, hS1⟩ : ∃ t, t = strOfNums V.v := ⟨_, rfl⟩
          obtain ⟨g1, hg1⟩ : ∃ t, t = V.g := ⟨_, rfl⟩
          have hmx : S1.size ≤ 9223372036854775807 := by rw [hS1, hsz]; exact hin.few
          rw [show cvv V = .agg #[.int .i64 V.t, .int .u8 V.n, .string (strOfNums V.v), .bool V.g] from rfl, ← ht1, ← hn1, ← hS1, ← hg1, ← hr1] at PU
          rw [← ht1, ← hn1, ← hS1, ← hg1] at HCV
          rw [← ht1, ← hn1, ← hr1] at HBU
          have HBW : Hid (Below w.heap.size w wr) := HBW0.out _ HC.out.below
          obtain ⟨q0, q1, q2, q3⟩ := HCV.out wr HC.out.below
          obtain ⟨c1, hc1⟩ : ∃ c, c = cmpS t1 n1 a1 b1 := ⟨_, rfl⟩
          obtain ⟨c2, hc2⟩ : ∃ c, c = cmpS t1 n1 a2 b2 := ⟨_, rfl⟩
          have CC1 : Hid (∀ u, Calls Try.prog 21 #[.agg #[.int .i64 t1, .int .u8 n1], .agg #[.int .i64 a1, .int .u8 b1]] u fun e w' => e = .returned (.int .i64 c1) ∧ Below u.heap.size u w') := fun u => by rw [hc1]; exact rcmp6_any t1 n1 a1 b1 u
          have CC2 : Hid (∀ u, Calls Try.prog 21 #[.agg #[.int .i64 t1, .int .u8 n1], .agg #[.int .i64 a2, .int .u8 b2]] u fun e w' => e = .returned (.int .i64 c2) ∧ Below u.heap.size u w') := fun u => by rw [hc2]; exact rcmp6_any t1 n1 a2 b2 u
          have HC1 : Hid (0 < c1 ↔ ltS a1 b1 t1 n1) := by show _ ↔ _; rw [hc1]; exact cmp_pos
          have HC2 : Hid (0 < c2 ↔ ltS a2 b2 t1 n1) := by show _ ↔ _; rw [hc2]; exact cmp_pos
          clear hr1 ht1 hn1 hS1 hg1 hV hin hcv HT hsz hc1 hc2 HPF
          by_cases h250 : 250 < S1.size
          · have b250 : (250 : Int) < (S1.size : Int) := by omega
            go_wp2
            go_ret
            exact ⟨rfl, HBW.out⟩
          · have b250 : ¬ (250 : Int) < (S1.size : Int) := by omega
            by_cases hr : r1 = 0
            · subst hr
              have HBU2 : Hid (Btw (putsV (z0.take (i + 1))) a1 b1 a2 b2 ↔ bt = true ∨ (0 < c1 ∧ ¬ 0 < c2)) := by
                show _ ↔ _
                rw [HBU.out, HBT.out, HC1.out, HC2.out]
                simp
              clear HBU HBT HC1 HC2
              go_wp2_with (first | (have hgo := PU.out; clear hgo; go_at_call 10; refine PU.out.mono ?_; rintro e w3 ⟨rfl, h3⟩; have H4 : Hid (ChW W0 w3 p (putsV (z0.take (i + 1)))) := h3; clear h3 PU q0 q1 q2 q3; obtain ⟨q0, q1, q2, q3⟩ := HCV.out w3 H4.out.below; obtain ⟨s0, s1, s2, s3⟩ := HS.out w3 H4.out.below))
              have FV : Hid (∀ u, Below w3.heap.size w3 u → u.cell? ⟨b, off + i * 4, none⟩ = some (.int .i64 t1) ∧ u.cell? ⟨b, off + i * 4 + 1, none⟩ = some (.int .u8 n1) ∧ u.cell? ⟨b, off + i * 4 + 2, none⟩ = some (.string S1) ∧ u.cell? ⟨b, off + i * 4 + 3, none⟩ = some (.bool g1)) := fun u hu => HCV.out u (H4.out.below.trans (hu.mono H4.out.below.size))
              have FZ : Hid (∀ u, Below w3.heap.size w3 u → u.cell? ⟨w.heap.size, 0, none⟩ = some (.int .i64 a1) ∧ u.cell? ⟨w.heap.size, 1, none⟩ = some (.int .u8 b1) ∧ u.cell? ⟨w.heap.size + 1, 0, none⟩ = some (.int .i64 a2) ∧ u.cell? ⟨w.heap.size + 1, 1, none⟩ = some (.int .u8 b2)) := fun u hu => HS.out u (H4.out.below.trans (hu.mono H4.out.below.size))
              clear q0 q1 q2 q3 s0 s1 s2 s3
              cases bt with
              | true =>
                have HBU3 : Hid (true = true ↔ Btw (putsV (z0.take (i + 1))) a1 b1 a2 b2) := by show _ ↔ _; rw [HBU2.out]; simp
                clear HBU2
                refine wp_region_noPanic ?_
                refine wp_region_held_drew (S := fun u => Below w3.heap.size w3 u) (by kernel_rfl) ?_ (fun hHeld => ?_)
                · exact (Below.refl _ _).drew
                refine wpAnyH_take (i := 0) (v := ?_) rfl (by kernel_rfl) (by kernel_rfl) (by kernel_rfl) (fun _ _ _ h => h) (Or.inl ⟨by rfl, ?_⟩) hHeld ?_
                rotate_left
                · intro u hSu
                  (go_simp) <;> (with_reducible rfl)
                change wpAnyH _ _ _ _ _ _ _ (Act.put _ (some 46) _) _
                simp only [Act.put, List.setIfInBounds_toArray, List.set_cons_zero, List.set_cons_succ]
                refine wpAnyH_take (i := 1) (v := ?_) rfl (by kernel_rfl) (by kernel_rfl) (by kernel_rfl) (fun _ _ _ h => h) (Or.inl ⟨by rfl, ?_⟩) hHeld ?_
                rotate_left
                · intro u hSu
                  (go_simp) <;> (with_reducible rfl)
                change wpAnyH _ _ _ _ _ _ _ (Act.put _ (some 47) _) _
                simp only [Act.put, List.setIfInBounds_toArray, List.set_cons_zero, List.set_cons_succ]
                refine wpAnyH_take (i := 2) (v := undef) rfl (by kernel_rfl) (by kernel_rfl) (by kernel_rfl) (fun _ _ _ h => h) (Or.inr ⟨by rfl, rfl⟩) hHeld ?_
                change wpAnyH _ _ _ _ _ _ _ (Act.put _ (some 48) _) _
                simp only [Act.put, List.setIfInBounds_toArray, List.set_cons_zero, List.set_cons_succ]
                refine wpAnyH_take (i := 3) (v := undef) rfl (by kernel_rfl) (by kernel_rfl) (by kernel_rfl) (fun _ _ _ h => h) (Or.inr ⟨by rfl, rfl⟩) hHeld ?_
                change wpAnyH _ _ _ _ _ _ _ (Act.put _ (some 49) _) _
                simp only [Act.put, List.setIfInBounds_toArray, List.set_cons_zero, List.set_cons_succ]
                refine wpAnyH_take (i := 4) (v := undef) rfl (by kernel_rfl) (by kernel_rfl) (by kernel_rfl) (fun _ _ _ h => h) (Or.inr ⟨by rfl, rfl⟩) hHeld ?_
                change wpAnyH _ _ _ _ _ _ _ (Act.put _ (some 50) _) _
                simp only [Act.put, List.setIfInBounds_toArray, List.set_cons_zero, List.set_cons_succ]
                refine wpAnyH_take (i := 5) (v := undef) rfl (by kernel_rfl) (by kernel_rfl) (by kernel_rfl) (fun _ _ _ h => h) (Or.inr ⟨by rfl, rfl⟩) hHeld ?_
                change wpAnyH _ _ _ _ _ _ _ (Act.put _ (some 51) _) _
                simp only [Act.put, List.setIfInBounds_toArray, List.set_cons_zero, List.set_cons_succ]
                refine wpAnyH_take (i := 6) (v := undef) rfl (by kernel_rfl) (by kernel_rfl) (by kernel_rfl) (fun _ _ _ h => h) (Or.inr ⟨by rfl, rfl⟩) hHeld ?_
                change wpAnyH _ _ _ _ _ _ _ (Act.put _ (some 52) _) _
                simp only [Act.put, List.setIfInBounds_toArray, List.set_cons_zero, List.set_cons_succ]
                refine wpAnyH_take (i := 7) (v := undef) rfl (by kernel_rfl) (by kernel_rfl) (by kernel_rfl) (fun _ _ _ h => h) (Or.inr ⟨by rfl, rfl⟩) hHeld ?_
                change wpAnyH _ _ _ _ _ _ _ (Act.put _ (some 53) _) _
                simp only [Act.put, List.setIfInBounds_toArray, List.set_cons_zero, List.set_cons_succ]
                refine wpAnyH_take (i := 8) (v := undef) rfl (by kernel_rfl) (by kernel_rfl) (by kernel_rfl) (fun _ _ _ h => h) (Or.inr ⟨by rfl, rfl⟩) hHeld ?_
                change wpAnyH _ _ _ _ _ _ _ (Act.put _ (some 54) _) _
                simp only [Act.put, List.setIfInBounds_toArray, List.set_cons_zero, List.set_cons_succ]
                refine wpAnyH_take (i := 9) (v := undef) rfl (by kernel_rfl) (by kernel_rfl) (by kernel_rfl) (fun _ _ _ h => h) (Or.inr ⟨by rfl, rfl⟩) hHeld ?_
                change wpAnyH _ _ _ _ _ _ _ (Act.put _ (some 55) _) _
                simp only [Act.put, List.setIfInBounds_toArray, List.set_cons_zero, List.set_cons_succ]
                refine wpAnyH_take (i := 10) (v := undef) rfl (by kernel_rfl) (by kernel_rfl) (by kernel_rfl) (fun _ _ _ h => h) (Or.inr ⟨by rfl, rfl⟩) hHeld ?_
                change wpAnyH _ _ _ _ _ _ _ (Act.put _ (some 56) _) _
                simp only [Act.put, List.setIfInBounds_toArray, List.set_cons_zero, List.set_cons_succ]
                refine wpAnyH_take (i := 11) (v := undef) rfl (by kernel_rfl) (by kernel_rfl) (by kernel_rfl) (fun _ _ _ h => h) (Or.inr ⟨by rfl, rfl⟩) hHeld ?_
                change wpAnyH _ _ _ _ _ _ _ (Act.put _ (some 57) _) _
                simp only [Act.put, List.setIfInBounds_toArray, List.set_cons_zero, List.set_cons_succ]
                refine wpAnyH_take (i := 12) (v := undef) rfl (by kernel_rfl) (by kernel_rfl) (by kernel_rfl) (fun _ _ _ h => h) (Or.inr ⟨by rfl, rfl⟩) hHeld ?_
                change wpAnyH _ _ _ _ _ _ _ (Act.put _ (some 58) _) _
                simp only [Act.put, List.setIfInBounds_toArray, List.set_cons_zero, List.set_cons_succ]
                refine wpAnyH_take (i := 13) (v := undef) rfl (by kernel_rfl) (by kernel_rfl) (by kernel_rfl) (fun _ _ _ h => h) (Or.inr ⟨by rfl, rfl⟩) hHeld ?_
                change wpAnyH _ _ _ _ _ _ _ (Act.put _ (some 59) _) _
                simp only [Act.put, List.setIfInBounds_toArray, List.set_cons_zero, List.set_cons_succ]
                refine wpAnyH_take (i := 14) (v := undef) rfl (by kernel_rfl) (by kernel_rfl) (by kernel_rfl) (fun _ _ _ h => h) (Or.inr ⟨by rfl, rfl⟩) hHeld ?_
                change wpAnyH _ _ _ _ _ _ _ (Act.put _ (some 60) _) _
                simp only [Act.put, List.setIfInBounds_toArray, List.set_cons_zero, List.set_cons_succ]
                refine wpAnyH_take (i := 15) (v := undef) rfl (by kernel_rfl) (by kernel_rfl) (by kernel_rfl) (fun _ _ _ h => h) (Or.inr ⟨by rfl, rfl⟩) hHeld ?_
                change wpAnyH _ _ _ _ _ _ _ (Act.put _ (some 61) _) _
                simp only [Act.put, List.setIfInBounds_toArray, List.set_cons_zero, List.set_cons_succ]
                refine wpAnyH_take (i := 16) (v := undef) rfl (by kernel_rfl) (by kernel_rfl) (by kernel_rfl) (fun _ _ _ h => h) (Or.inr ⟨by rfl, rfl⟩) hHeld ?_
                change wpAnyH _ _ _ _ _ _ _ (Act.put _ (some 62) _) _
                simp only [Act.put, List.setIfInBounds_toArray, List.set_cons_zero, List.set_cons_succ]
                refine wpAnyH_take (i := 17) (v := undef) rfl (by kernel_rfl) (by kernel_rfl) (by kernel_rfl) (fun _ _ _ h => h) (Or.inr ⟨by rfl, rfl⟩) hHeld ?_
                change wpAnyH _ _ _ _ _ _ _ (Act.put _ (some 63) _) _
                simp only [Act.put, List.setIfInBounds_toArray, List.set_cons_zero, List.set_cons_succ]
                refine wpAnyH_take (i := 18) (v := undef) rfl (by kernel_rfl) (by kernel_rfl) (by kernel_rfl) (fun _ _ _ h => h) (Or.inr ⟨by rfl, rfl⟩) hHeld ?_
                change wpAnyH _ _ _ _ _ _ _ (Act.put _ (some 64) _) _
                simp only [Act.put, List.setIfInBounds_toArray, List.set_cons_zero, List.set_cons_succ]
                refine wpAnyH_take (i := 19) (v := undef) rfl (by kernel_rfl) (by kernel_rfl) (by kernel_rfl) (fun _ _ _ h => h) (Or.inr ⟨by rfl, rfl⟩) hHeld ?_
                change wpAnyH _ _ _ _ _ _ _ (Act.put _ (some 65) _) _
                simp only [Act.put, List.setIfInBounds_toArray, List.set_cons_zero, List.set_cons_succ]
                refine wpAnyH_take (i := 20) (v := ?_) rfl (by kernel_rfl) (by kernel_rfl) (by kernel_rfl) (fun _ _ _ h => h) (Or.inl ⟨by rfl, ?_⟩) hHeld ?_
                rotate_left
                · intro u hSu
                  (go_simp) <;> (with_reducible rfl)
                change wpAnyH _ _ _ _ _ _ _ (Act.put _ (some 66) _) _
                simp only [Act.put, List.setIfInBounds_toArray, List.set_cons_zero, List.set_cons_succ]
                refine wpAnyH_take (i := 21) (v := ?_) rfl (by kernel_rfl) (by kernel_rfl) (by kernel_rfl) (fun _ _ _ h => h) (Or.inl ⟨by rfl, ?_⟩) hHeld ?_
                rotate_left
                · intro u hSu
                  (go_simp) <;> (with_reducible rfl)
                change wpAnyH _ _ _ _ _ _ _ (Act.put _ (some 8) _) _
                simp only [Act.put, List.setIfInBounds_toArray, List.set_cons_zero, List.set_cons_succ]
                refine wpAnyH_done (by kernel_rfl) ?_ _
                refine NoPanic.normal ?_
                go_wp2
                go_roundw
                case rel => exact ⟨i + 1, true, by go_num, rfl, by omega, H4.out.past (Below.refl _ _).drew, HBU3⟩
                case measure => simp [intOf]; omega
              | false =>
                by_cases hp1 : 0 < c1
                · have d1 : decide (0 < c1) = true := decide_eq_true hp1
                  have HBU3 : Hid (decide (c2 ≤ 0) = true ↔ Btw (putsV (z0.take (i + 1))) a1 b1 a2 b2) := by show _ ↔ _; rw [HBU2.out, decide_eq_true_eq]; exact ⟨fun h => .inr ⟨hp1, by omega⟩, fun h => by rcases h with h | h; cases h; omega⟩
                  obtain ⟨bn, hbn⟩ : ∃ bn, bn = decide (c2 ≤ 0) := ⟨_, rfl⟩
                  rw [← hbn] at HBU3
                  have hbn2 : decide (c2 ≤ 0) = bn := hbn.symm
                  clear HBU2 hbn
                  refine wp_region_noPanic ?_
                  refine wp_region_held_drew (S := fun u => Below w3.heap.size w3 u) (by kernel_rfl) ?_ (fun hHeld => ?_)
                  · exact (Below.refl _ _).drew
                  refine wpAnyH_take (i := 0) (v := ?_) rfl (by kernel_rfl) (by kernel_rfl) (by kernel_rfl) (fun _ _ _ h => h) (Or.inl ⟨by rfl, ?_⟩) hHeld ?_
                  rotate_left
                  · intro u hSu
                    (go_simp) <;> (with_reducible rfl)
                  change wpAnyH _ _ _ _ _ _ _ (Act.put _ (some 46) _) _
                  simp only [Act.put, List.setIfInBounds_toArray, List.set_cons_zero, List.set_cons_succ]
                  refine wpAnyH_take (i := 1) (v := ?_) rfl (by kernel_rfl) (by kernel_rfl) (by kernel_rfl) (fun _ _ _ h => h) (Or.inl ⟨by rfl, ?_⟩) hHeld ?_
                  rotate_left
                  · intro u hSu
                    (go_simp) <;> (with_reducible rfl)
                  change wpAnyH _ _ _ _ _ _ _ (Act.put _ (some 47) _) _
                  simp only [Act.put, List.setIfInBounds_toArray, List.set_cons_zero, List.set_cons_succ]
                  refine wpAnyH_take (i := 2) (v := ?_) rfl (by kernel_rfl) (by kernel_rfl) (by kernel_rfl) (fun _ _ _ h => h) (Or.inl ⟨by rfl, ?_⟩) hHeld ?_
                  rotate_left
                  · intro u hSu
                    (go_simp) <;> (with_reducible rfl)
                  change wpAnyH _ _ _ _ _ _ _ (Act.put _ (some 48) _) _
                  simp only [Act.put, List.setIfInBounds_toArray, List.set_cons_zero, List.set_cons_succ]
                  refine wpAnyH_take (i := 3) (v := ?_) rfl (by kernel_rfl) (by kernel_rfl) (by kernel_rfl) (fun _ _ _ h => h) (Or.inl ⟨by rfl, ?_⟩) hHeld ?_
                  rotate_left
                  · intro u hSu
                    (go_simp) <;> (with_reducible rfl)
                  change wpAnyH _ _ _ _ _ _ _ (Act.put _ (some 49) _) _
                  simp only [Act.put, List.setIfInBounds_toArray, List.set_cons_zero, List.set_cons_succ]
                  refine wpAnyH_take (i := 4) (v := ?_) rfl (by kernel_rfl) (by kernel_rfl) (by kernel_rfl) (fun _ _ _ h => h) (Or.inl ⟨by rfl, ?_⟩) hHeld ?_
                  rotate_left
                  · intro u hSu
                    (go_simp) <;> (with_reducible rfl)
                  change wpAnyH _ _ _ _ _ _ _ (Act.put _ (some 50) _) _
                  simp only [Act.put, List.setIfInBounds_toArray, List.set_cons_zero, List.set_cons_succ]
                  refine wpAnyH_take (i := 5) (v := ?_) rfl (by kernel_rfl) (by kernel_rfl) (by kernel_rfl) (fun _ _ _ h => h) (Or.inl ⟨by rfl, ?_⟩) hHeld ?_
                  rotate_left
                  · intro u hSu
                    (go_simp) <;> (with_reducible rfl)
                  change wpAnyH _ _ _ _ _ _ _ (Act.put _ (some 51) _) _
                  simp only [Act.put, List.setIfInBounds_toArray, List.set_cons_zero, List.set_cons_succ]
                  refine wpAnyH_take (i := 6) (v := ?_) rfl (by kernel_rfl) (by kernel_rfl) (by kernel_rfl) (fun _ _ _ h => h) (Or.inl ⟨by rfl, ?_⟩) hHeld ?_
                  rotate_left
                  · intro u hSu
                    obtain ⟨q0, q1, q2, q3⟩ := FV.out u hSu
                    (go_simp) <;> (with_reducible rfl)
                  change wpAnyH _ _ _ _ _ _ _ (Act.put _ (some 52) _) _
                  simp only [Act.put, List.setIfInBounds_toArray, List.set_cons_zero, List.set_cons_succ]
                  refine wpAnyH_take (i := 7) (v := ?_) rfl (by kernel_rfl) (by kernel_rfl) (by kernel_rfl) (fun _ _ _ h => h) (Or.inl ⟨by rfl, ?_⟩) hHeld ?_
                  rotate_left
                  · intro u hSu
                    obtain ⟨s0, s1, s2, s3⟩ := FZ.out u hSu
                    (go_simp) <;> (with_reducible rfl)
                  change wpAnyH _ _ _ _ _ _ _ (Act.put _ (some 53) _) _
                  simp only [Act.put, List.setIfInBounds_toArray, List.set_cons_zero, List.set_cons_succ]
                  refine wpAnyH_ready (rs := [8]) (by kernel_rfl) (by simp) ?_
                  refine AllReadyH.cons rfl (fun K hK => ?_) AllReadyH.nil
                  go_simp
                  go_at_call 21
                  refine (CC1.out _).mono ?_
                  rintro e x1 ⟨rfl, hbx1⟩
                  have B1 : Hid (Below w3.heap.size w3 x1) := hHeld.trans (hbx1.mono hHeld.size)
                  clear hbx1
                  refine hK.out _ _ ?_ (fun hHeld2 => ?_)
                  · exact B1.out
                  clear hK K hHeld
                  have hHeld := hHeld2
                  clear hHeld2
                  refine wpAnyH_take (i := 9) (v := ?_) rfl (by kernel_rfl) (by kernel_rfl) (by kernel_rfl) (fun _ _ _ h => h) (Or.inl ⟨by rfl, ?_⟩) hHeld ?_
                  rotate_left
                  · intro u hSu
                    (go_simp) <;> (with_reducible rfl)
                  change wpAnyH _ _ _ _ _ _ _ (Act.put _ (some 55) _) _
                  simp only [Act.put, List.setIfInBounds_toArray, List.set_cons_zero, List.set_cons_succ]
                  refine wpAnyH_take (i := 10) (v := ?_) rfl (by kernel_rfl) (by kernel_rfl) (by kernel_rfl) (fun _ _ _ h => h) (Or.inl ⟨by rfl, ?_⟩) hHeld ?_
                  rotate_left
                  · intro u hSu
                    (go_simp) <;> (with_reducible rfl)
                  change wpAnyH _ _ _ _ _ _ _ (Act.put _ (some 56) _) _
                  simp only [Act.put, List.setIfInBounds_toArray, List.set_cons_zero, List.set_cons_succ]
                  refine wpAnyH_take (i := 11) (v := ?_) rfl (by kernel_rfl) (by kernel_rfl) (by kernel_rfl) (fun _ _ _ h => h) (Or.inl ⟨by rfl, ?_⟩) hHeld ?_
                  rotate_left
                  · intro u hSu
                    (go_simp) <;> (with_reducible rfl)
                  change wpAnyH _ _ _ _ _ _ _ (Act.put _ (some 57) _) _
                  simp only [Act.put, List.setIfInBounds_toArray, List.set_cons_zero, List.set_cons_succ]
                  refine wpAnyH_take (i := 12) (v := ?_) rfl (by kernel_rfl) (by kernel_rfl) (by kernel_rfl) (fun _ _ _ h => h) (Or.inl ⟨by rfl, ?_⟩) hHeld ?_
                  rotate_left
                  · intro u hSu
                    (go_simp) <;> (with_reducible rfl)
                  change wpAnyH _ _ _ _ _ _ _ (Act.put _ (some 58) _) _
                  simp only [Act.put, List.setIfInBounds_toArray, List.set_cons_zero, List.set_cons_succ]
                  refine wpAnyH_take (i := 13) (v := ?_) rfl (by kernel_rfl) (by kernel_rfl) (by kernel_rfl) (fun _ _ _ h => h) (Or.inl ⟨by rfl, ?_⟩) hHeld ?_
                  rotate_left
                  · intro u hSu
                    (go_simp) <;> (with_reducible rfl)
                  change wpAnyH _ _ _ _ _ _ _ (Act.put _ (some 59) _) _
                  simp only [Act.put, List.setIfInBounds_toArray, List.set_cons_zero, List.set_cons_succ]
                  refine wpAnyH_take (i := 14) (v := ?_) rfl (by kernel_rfl) (by kernel_rfl) (by kernel_rfl) (fun _ _ _ h => h) (Or.inl ⟨by rfl, ?_⟩) hHeld ?_
                  rotate_left
                  · intro u hSu
                    (go_simp) <;> (with_reducible rfl)
                  change wpAnyH _ _ _ _ _ _ _ (Act.put _ (some 60) _) _
                  simp only [Act.put, List.setIfInBounds_toArray, List.set_cons_zero, List.set_cons_succ]
                  refine wpAnyH_take (i := 15) (v := ?_) rfl (by kernel_rfl) (by kernel_rfl) (by kernel_rfl) (fun _ _ _ h => h) (Or.inl ⟨by rfl, ?_⟩) hHeld ?_
                  rotate_left
                  · intro u hSu
                    obtain ⟨q0, q1, q2, q3⟩ := FV.out u hSu
                    (go_simp) <;> (with_reducible rfl)
                  change wpAnyH _ _ _ _ _ _ _ (Act.put _ (some 61) _) _
                  simp only [Act.put, List.setIfInBounds_toArray, List.set_cons_zero, List.set_cons_succ]
                  refine wpAnyH_take (i := 16) (v := ?_) rfl (by kernel_rfl) (by kernel_rfl) (by kernel_rfl) (fun _ _ _ h => h) (Or.inl ⟨by rfl, ?_⟩) hHeld ?_
                  rotate_left
                  · intro u hSu
                    obtain ⟨s0, s1, s2, s3⟩ := FZ.out u hSu
                    (go_simp) <;> (with_reducible rfl)
                  change wpAnyH _ _ _ _ _ _ _ (Act.put _ (some 62) _) _
                  simp only [Act.put, List.setIfInBounds_toArray, List.set_cons_zero, List.set_cons_succ]
                  refine wpAnyH_ready (rs := [17]) (by kernel_rfl) (by simp) ?_
                  refine AllReadyH.cons rfl (fun K hK => ?_) AllReadyH.nil
                  go_simp
                  go_at_call 21
                  refine (CC2.out _).mono ?_
                  rintro e x2 ⟨rfl, hbx2⟩
                  have B2 : Hid (Below w3.heap.size w3 x2) := hHeld.trans (hbx2.mono hHeld.size)
                  clear hbx2
                  refine hK.out _ _ ?_ (fun hHeld2 => ?_)
                  · exact B2.out
                  clear hK K hHeld
                  have hHeld := hHeld2
                  clear hHeld2
                  refine wpAnyH_take (i := 18) (v := ?_) rfl (by kernel_rfl) (by kernel_rfl) (by kernel_rfl) (fun _ _ _ h => h) (Or.inl ⟨by rfl, ?_⟩) hHeld ?_
                  rotate_left
                  · intro u hSu
                    (go_simp) <;> (with_reducible rfl)
                  change wpAnyH _ _ _ _ _ _ _ (Act.put _ (some 64) _) _
                  simp only [Act.put, List.setIfInBounds_toArray, List.set_cons_zero, List.set_cons_succ]
                  refine wpAnyH_take (i := 19) (v := ?_) rfl (by kernel_rfl) (by kernel_rfl) (by kernel_rfl) (fun _ _ _ h => h) (Or.inl ⟨by rfl, ?_⟩) hHeld ?_
                  rotate_left
                  · intro u hSu
                    (go_simp) <;> (with_reducible rfl)
                  change wpAnyH _ _ _ _ _ _ _ (Act.put _ (some 65) _) _
                  simp only [Act.put, List.setIfInBounds_toArray, List.set_cons_zero, List.set_cons_succ]
                  refine wpAnyH_take (i := 20) (v := ?_) rfl (by kernel_rfl) (by kernel_rfl) (by kernel_rfl) (fun _ _ _ h => h) (Or.inl ⟨by rfl, ?_⟩) hHeld ?_
                  rotate_left
                  · intro u hSu
                    (go_simp) <;> (with_reducible rfl)
                  change wpAnyH _ _ _ _ _ _ _ (Act.put _ (some 66) _) _
                  simp only [Act.put, List.setIfInBounds_toArray, List.set_cons_zero, List.set_cons_succ]
                  refine wpAnyH_take (i := 21) (v := ?_) rfl (by kernel_rfl) (by kernel_rfl) (by kernel_rfl) (fun _ _ _ h => h) (Or.inl ⟨by rfl, ?_⟩) hHeld ?_
                  rotate_left
                  · intro u hSu
                    (go_simp) <;> (with_reducible rfl)
                  change wpAnyH _ _ _ _ _ _ _ (Act.put _ (some 8) _) _
                  simp only [Act.put, List.setIfInBounds_toArray, List.set_cons_zero, List.set_cons_succ]
                  refine wpAnyH_done (by kernel_rfl) ?_ _
                  refine NoPanic.normal ?_
                  go_wp2
                  go_roundw
                  case rel => exact ⟨i + 1, bn, by go_num, rfl, by omega, H4.out.past B2.out, HBU3⟩
                  case measure => simp [intOf]; omega
                · have d1 : decide (0 < c1) = false := decide_eq_false hp1
                  have HBU3 : Hid (false = true ↔ Btw (putsV (z0.take (i + 1))) a1 b1 a2 b2) := by show _ ↔ _; rw [HBU2.out]; simp [hp1]
                  clear HBU2
                  refine wp_region_noPanic ?_
                  refine wp_region_held_drew (S := fun u => Below w3.heap.size w3 u) (by kernel_rfl) ?_ (fun hHeld => ?_)
                  · exact (Below.refl _ _).drew
                  refine wpAnyH_take (i := 0) (v := ?_) rfl (by kernel_rfl) (by kernel_rfl) (by kernel_rfl) (fun _ _ _ h => h) (Or.inl ⟨by rfl, ?_⟩) hHeld ?_
                  rotate_left
                  · intro u hSu
                    (go_simp) <;> (with_reducible rfl)
                  change wpAnyH _ _ _ _ _ _ _ (Act.put _ (some 46) _) _
                  simp only [Act.put, List.setIfInBounds_toArray, List.set_cons_zero, List.set_cons_succ]
                  refine wpAnyH_take (i := 1) (v := ?_) rfl (by kernel_rfl) (by kernel_rfl) (by kernel_rfl) (fun _ _ _ h => h) (Or.inl ⟨by rfl, ?_⟩) hHeld ?_
                  rotate_left
                  · intro u hSu
                    (go_simp) <;> (with_reducible rfl)
                  change wpAnyH _ _ _ _ _ _ _ (Act.put _ (some 47) _) _
                  simp only [Act.put, List.setIfInBounds_toArray, List.set_cons_zero, List.set_cons_succ]
                  refine wpAnyH_take (i := 2) (v := ?_) rfl (by kernel_rfl) (by kernel_rfl) (by kernel_rfl) (fun _ _ _ h => h) (Or.inl ⟨by rfl, ?_⟩) hHeld ?_
                  rotate_left
                  · intro u hSu
                    (go_simp) <;> (with_reducible rfl)
                  change wpAnyH _ _ _ _ _ _ _ (Act.put _ (some 48) _) _
                  simp only [Act.put, List.setIfInBounds_toArray, List.set_cons_zero, List.set_cons_succ]
                  refine wpAnyH_take (i := 3) (v := ?_) rfl (by kernel_rfl) (by kernel_rfl) (by kernel_rfl) (fun _ _ _ h => h) (Or.inl ⟨by rfl, ?_⟩) hHeld ?_
                  rotate_left
                  · intro u hSu
                    (go_simp) <;> (with_reducible rfl)
                  change wpAnyH _ _ _ _ _ _ _ (Act.put _ (some 49) _) _
                  simp only [Act.put, List.setIfInBounds_toArray, List.set_cons_zero, List.set_cons_succ]
                  refine wpAnyH_take (i := 4) (v := ?_) rfl (by kernel_rfl) (by kernel_rfl) (by kernel_rfl) (fun _ _ _ h => h) (Or.inl ⟨by rfl, ?_⟩) hHeld ?_
                  rotate_left
                  · intro u hSu
                    (go_simp) <;> (with_reducible rfl)
                  change wpAnyH _ _ _ _ _ _ _ (Act.put _ (some 50) _) _
                  simp only [Act.put, List.setIfInBounds_toArray, List.set_cons_zero, List.set_cons_succ]
                  refine wpAnyH_take (i := 5) (v := ?_) rfl (by kernel_rfl) (by kernel_rfl) (by kernel_rfl) (fun _ _ _ h => h) (Or.inl ⟨by rfl, ?_⟩) hHeld ?_
                  rotate_left
                  · intro u hSu
                    (go_simp) <;> (with_reducible rfl)
                  change wpAnyH _ _ _ _ _ _ _ (Act.put _ (some 51) _) _
                  simp only [Act.put, List.setIfInBounds_toArray, List.set_cons_zero, List.set_cons_succ]
                  refine wpAnyH_take (i := 6) (v := ?_) rfl (by kernel_rfl) (by kernel_rfl) (by kernel_rfl) (fun _ _ _ h => h) (Or.inl ⟨by rfl, ?_⟩) hHeld ?_
                  rotate_left
                  · intro u hSu
                    obtain ⟨q0, q1, q2, q3⟩ := FV.out u hSu
                    (go_simp) <;> (with_reducible rfl)
                  change wpAnyH _ _ _ _ _ _ _ (Act.put _ (some 52) _) _
                  simp only [Act.put, List.setIfInBounds_toArray, List.set_cons_zero, List.set_cons_succ]
                  refine wpAnyH_take (i := 7) (v := ?_) rfl (by kernel_rfl) (by kernel_rfl) (by kernel_rfl) (fun _ _ _ h => h) (Or.inl ⟨by rfl, ?_⟩) hHeld ?_
                  rotate_left
                  · intro u hSu
                    obtain ⟨s0, s1, s2, s3⟩ := FZ.out u hSu
                    (go_simp) <;> (with_reducible rfl)
                  change wpAnyH _ _ _ _ _ _ _ (Act.put _ (some 53) _) _
                  simp only [Act.put, List.setIfInBounds_toArray, List.set_cons_zero, List.set_cons_succ]
                  refine wpAnyH_ready (rs := [8]) (by kernel_rfl) (by simp) ?_
                  refine AllReadyH.cons rfl (fun K hK => ?_) AllReadyH.nil
                  go_simp
                  go_at_call 21
                  refine (CC1.out _).mono ?_
                  rintro e x1 ⟨rfl, hbx1⟩
                  have B1 : Hid (Below w3.heap.size w3 x1) := hHeld.trans (hbx1.mono hHeld.size)
                  clear hbx1
                  refine hK.out _ _ ?_ (fun hHeld2 => ?_)
                  · exact B1.out
                  clear hK K hHeld
                  have hHeld := hHeld2
                  clear hHeld2
                  refine wpAnyH_take (i := 9) (v := ?_) rfl (by kernel_rfl) (by kernel_rfl) (by kernel_rfl) (fun _ _ _ h => h) (Or.inl ⟨by rfl, ?_⟩) hHeld ?_
                  rotate_left
                  · intro u hSu
                    (go_simp) <;> (with_reducible rfl)
                  change wpAnyH _ _ _ _ _ _ _ (Act.put _ (some 55) _) _
                  simp only [Act.put, List.setIfInBounds_toArray, List.set_cons_zero, List.set_cons_succ]
                  refine wpAnyH_take (i := 10) (v := ?_) rfl (by kernel_rfl) (by kernel_rfl) (by kernel_rfl) (fun _ _ _ h => h) (Or.inl ⟨by rfl, ?_⟩) hHeld ?_
                  rotate_left
                  · intro u hSu
                    (go_simp) <;> (with_reducible rfl)
                  change wpAnyH _ _ _ _ _ _ _ (Act.put _ (some 56) _) _
                  simp only [Act.put, List.setIfInBounds_toArray, List.set_cons_zero, List.set_cons_succ]
                  refine wpAnyH_take (i := 11) (v := undef) rfl (by kernel_rfl) (by kernel_rfl) (by kernel_rfl) (fun _ _ _ h => h) (Or.inr ⟨by rfl, rfl⟩) hHeld ?_
                  change wpAnyH _ _ _ _ _ _ _ (Act.put _ (some 57) _) _
                  simp only [Act.put, List.setIfInBounds_toArray, List.set_cons_zero, List.set_cons_succ]
                  refine wpAnyH_take (i := 12) (v := undef) rfl (by kernel_rfl) (by kernel_rfl) (by kernel_rfl) (fun _ _ _ h => h) (Or.inr ⟨by rfl, rfl⟩) hHeld ?_
                  change wpAnyH _ _ _ _ _ _ _ (Act.put _ (some 58) _) _
                  simp only [Act.put, List.setIfInBounds_toArray, List.set_cons_zero, List.set_cons_succ]
                  refine wpAnyH_take (i := 13) (v := undef) rfl (by kernel_rfl) (by kernel_rfl) (by kernel_rfl) (fun _ _ _ h => h) (Or.inr ⟨by rfl, rfl⟩) hHeld ?_
                  change wpAnyH _ _ _ _ _ _ _ (Act.put _ (some 59) _) _
                  simp only [Act.put, List.setIfInBounds_toArray, List.set_cons_zero, List.set_cons_succ]
                  refine wpAnyH_take (i := 14) (v := undef) rfl (by kernel_rfl) (by kernel_rfl) (by kernel_rfl) (fun _ _ _ h => h) (Or.inr ⟨by rfl, rfl⟩) hHeld ?_
                  change wpAnyH _ _ _ _ _ _ _ (Act.put _ (some 60) _) _
                  simp only [Act.put, List.setIfInBounds_toArray, List.set_cons_zero, List.set_cons_succ]
                  refine wpAnyH_take (i := 15) (v := undef) rfl (by kernel_rfl) (by kernel_rfl) (by kernel_rfl) (fun _ _ _ h => h) (Or.inr ⟨by rfl, rfl⟩) hHeld ?_
                  change wpAnyH _ _ _ _ _ _ _ (Act.put _ (some 61) _) _
                  simp only [Act.put, List.setIfInBounds_toArray, List.set_cons_zero, List.set_cons_succ]
                  refine wpAnyH_take (i := 16) (v := undef) rfl (by kernel_rfl) (by kernel_rfl) (by kernel_rfl) (fun _ _ _ h => h) (Or.inr ⟨by rfl, rfl⟩) hHeld ?_
                  change wpAnyH _ _ _ _ _ _ _ (Act.put _ (some 62) _) _
                  simp only [Act.put, List.setIfInBounds_toArray, List.set_cons_zero, List.set_cons_succ]
                  refine wpAnyH_take (i := 17) (v := undef) rfl (by kernel_rfl) (by kernel_rfl) (by kernel_rfl) (fun _ _ _ h => h) (Or.inr ⟨by rfl, rfl⟩) hHeld ?_
                  change wpAnyH _ _ _ _ _ _ _ (Act.put _ (some 63) _) _
                  simp only [Act.put, List.setIfInBounds_toArray, List.set_cons_zero, List.set_cons_succ]
                  refine wpAnyH_take (i := 18) (v := undef) rfl (by kernel_rfl) (by kernel_rfl) (by kernel_rfl) (fun _ _ _ h => h) (Or.inr ⟨by rfl, rfl⟩) hHeld ?_
                  change wpAnyH _ _ _ _ _ _ _ (Act.put _ (some 64) _) _
                  simp only [Act.put, List.setIfInBounds_toArray, List.set_cons_zero, List.set_cons_succ]
                  refine wpAnyH_take (i := 19) (v := ?_) rfl (by kernel_rfl) (by kernel_rfl) (by kernel_rfl) (fun _ _ _ h => h) (Or.inl ⟨by rfl, ?_⟩) hHeld ?_
                  rotate_left
                  · intro u hSu
                    (go_simp) <;> (with_reducible rfl)
                  change wpAnyH _ _ _ _ _ _ _ (Act.put _ (some 65) _) _
                  simp only [Act.put, List.setIfInBounds_toArray, List.set_cons_zero, List.set_cons_succ]
                  refine wpAnyH_take (i := 20) (v := ?_) rfl (by kernel_rfl) (by kernel_rfl) (by kernel_rfl) (fun _ _ _ h => h) (Or.inl ⟨by rfl, ?_⟩) hHeld ?_
                  rotate_left
                  · intro u hSu
                    (go_simp) <;> (with_reducible rfl)
                  change wpAnyH _ _ _ _ _ _ _ (Act.put _ (some 66) _) _
                  simp only [Act.put, List.setIfInBounds_toArray, List.set_cons_zero, List.set_cons_succ]
                  refine wpAnyH_take (i := 21) (v := ?_) rfl (by kernel_rfl) (by kernel_rfl) (by kernel_rfl) (fun _ _ _ h => h) (Or.inl ⟨by rfl, ?_⟩) hHeld ?_
                  rotate_left
                  · intro u hSu
                    (go_simp) <;> (with_reducible rfl)
                  change wpAnyH _ _ _ _ _ _ _ (Act.put _ (some 8) _) _
                  simp only [Act.put, List.setIfInBounds_toArray, List.set_cons_zero, List.set_cons_succ]
                  refine wpAnyH_done (by kernel_rfl) ?_ _
                  refine NoPanic.normal ?_
                  go_wp2
                  go_roundw
                  case rel => exact ⟨i + 1, false, by go_num, rfl, by omega, H4.out.past B1.out, HBU3⟩
                  case measure => simp [intOf]; omega
            · have br : decide (r1 = 0) = false := decide_eq_false hr
              have HBU2 : Hid (bt = true ↔ Btw (putsV (z0.take (i + 1))) a1 b1 a2 b2) := by
                show _ ↔ _
                rw [HBU.out, HBT.out]
                simp [hr]
              clear HBU HBT HC1 HC2
              go_wp2_with (first | (have hgo := PU.out; clear hgo; go_at_call 10; refine PU.out.mono ?_; rintro e w3 ⟨rfl, h3⟩; have H4 : Hid (ChW W0 w3 p (putsV (z0.take (i + 1)))) := h3; clear h3 PU q0 q1 q2 q3))
              go_roundw
              case rel => exact ⟨i + 1, bt, by go_num, rfl, by omega, H4, HBU2⟩
              case measure => simp [intOf]; omega
        · obtain rfl : i = len0 := by omega
          obtain ⟨L, hL⟩ : ∃ L, L = putsV (z0.take i) := ⟨_, rfl⟩
          rw [← hL] at HC HBT
          clear hL
          have HCH : Hid (Chn L) := HC.out.chn
          obtain ⟨A, hA⟩ : ∃ A, A = orZero (atV L zeroK a1 b1) := ⟨_, rfl⟩
          obtain ⟨B, hB⟩ : ∃ B, B = orZero (atV L zeroK a2 b2) := ⟨_, rfl⟩
          obtain ⟨pa, hpa⟩ : ∃ b, b = (atV L zeroK a1 b1).isSome := ⟨_, rfl⟩
          obtain ⟨qa, hqa⟩ : ∃ b, b = (atV L zeroK a2 b2).isSome := ⟨_, rfl⟩
          obtain ⟨s1, hs1⟩ : ∃ k, k = sinceV L a1 b1 := ⟨_, rfl⟩
          obtain ⟨s2, hs2⟩ : ∃ k, k = sinceV L a2 b2 := ⟨_, rfl⟩
          have HS12 : Hid (bt = true ↔ s2 < s1) := by show _ ↔ _; rw [HBT.out, hs1, hs2]; exact (since_between HLT.out).symm
          have HPQ : Hid (pa = true → qa = true) := fun h => by rw [hqa]; exact at_later HCH.out.one HLT.out (by rw [← hpa]; exact h)
          have HAB : Hid (bt = false → A = B ∧ pa = qa) := fun h => by
            have hn : ¬ Btw L a1 b1 a2 b2 := fun hb => by rw [HBT.out.2 hb] at h; cases h
            have e := at_between HCH.out.one HCH.out.ups HLT.out hn
            rw [hA, hB, hpa, hqa, e]
            exact ⟨rfl, rfl⟩
          have HPA : Hid (pa = true → ¬ 0 < cmpS A.t A.n a1 b1 ∧ sinceV L A.t A.n = s1) := fun h => by
            obtain ⟨X, hX⟩ := Option.isSome_iff_exists.1 (show (atV L zeroK a1 b1).isSome = true by rw [← hpa]; exact h)
            have eA : A = X := by rw [hA, hX]; rfl
            rw [eA, hs1]
            exact ⟨fun hp => (at_some_facts HCH.out.one HCH.out.ups hX).2.1 (cmp_pos.1 hp), since_at HCH.out.one HCH.out.ups hX⟩
          have CA : Hid (∀ u, ChW W0 u p L → Calls Try.prog 17 #[.pointer (some ⟨p, 0, none⟩), .agg #[.int .i64 a1, .int .u8 b1]] u fun e w' => e = .returned (.tuple #[cvv A, .bool pa]) ∧ Below u.heap.size u w') := fun u hu => by rw [hA, hpa]; obtain ⟨X, h1, _⟩ := hu; exact cat_any p L X a1 b1 u h1
          have CB : Hid (∀ u, ChW W0 u p L → Calls Try.prog 17 #[.pointer (some ⟨p, 0, none⟩), .agg #[.int .i64 a2, .int .u8 b2]] u fun e w' => e = .returned (.tuple #[cvv B, .bool qa]) ∧ Below u.heap.size u w') := fun u hu => by rw [hB, hqa]; obtain ⟨X, h1, _⟩ := hu; exact cat_any p L X a2 b2 u h1
          have CS : Hid (∀ t n u, ChW W0 u p L → Calls Try.prog 22 #[.pointer (some ⟨p, 0, none⟩), .agg #[.int .i64 t, .int .u8 n]] u fun e w' => e = .returned (.int .i64 (sinceV L t n : Nat)) ∧ Below u.heap.size u w') := fun t n u hu => by obtain ⟨X, h1, _⟩ := hu; exact csince_any p L X t n u h1
          have CS1 : Hid (∀ u, ChW W0 u p L → Calls Try.prog 22 #[.pointer (some ⟨p, 0, none⟩), .agg #[.int .i64 a1, .int .u8 b1]] u fun e w' => e = .returned (.int .i64 (s1 : Nat)) ∧ Below u.heap.size u w') := fun u hu => by rw [hs1]; exact CS.out a1 b1 u hu
          have CS2 : Hid (∀ u, ChW W0 u p L → Calls Try.prog 22 #[.pointer (some ⟨p, 0, none⟩), .agg #[.int .i64 a2, .int .u8 b2]] u fun e w' => e = .returned (.int .i64 (s2 : Nat)) ∧ Below u.heap.size u w') := fun u hu => by rw [hs2]; exact CS.out a2 b2 u hu
          obtain ⟨ka, tx, nx, vx, gx⟩ := A
          obtain ⟨kb, ty, ny, vy, gy⟩ := B
          obtain ⟨X1, hX1⟩ : ∃ X1, X1 = strOfNums vx := ⟨_, rfl⟩
          obtain ⟨Y1, hY1⟩ : ∃ Y1, Y1 = strOfNums vy := ⟨_, rfl⟩
          obtain ⟨cx, hcx⟩ : ∃ c, c = cmpS tx nx a1 b1 := ⟨_, rfl⟩
          obtain ⟨sx, hsx⟩ : ∃ c, c = sinceV L tx nx := ⟨_, rfl⟩
          have HPA2 : Hid (pa = true → ¬ 0 < cx ∧ sx = s1) := fun h => by rw [hcx, hsx]; exact HPA.out h
          have HAB2 : Hid (bt = false → (tx = ty ∧ nx = ny ∧ X1 = Y1 ∧ gx = gy) ∧ pa = qa) := fun h => by
            obtain ⟨e1, e2⟩ := HAB.out h
            injection e1 with _ e3 e4 e5 e6
            rw [hX1, hY1, e5]
            exact ⟨⟨e3, e4, rfl, e6⟩, e2⟩
          have CXA : Hid (∀ u, Calls Try.prog 21 #[.agg #[.int .i64 tx, .int .u8 nx], .agg #[.int .i64 a1, .int .u8 b1]] u fun e w' => e = .returned (.int .i64 cx) ∧ Below u.heap.size u w') := fun u => by rw [hcx]; exact rcmp6_any tx nx a1 b1 u
          have CSX : Hid (∀ u, ChW W0 u p L → Calls Try.prog 22 #[.pointer (some ⟨p, 0, none⟩), .agg #[.int .i64 tx, .int .u8 nx]] u fun e w' => e = .returned (.int .i64 (sx : Nat)) ∧ Below u.heap.size u w') := fun u hu => by rw [hsx]; exact CS.out tx nx u hu
          rw [show cvv ⟨ka, tx, nx, vx, gx⟩ = .agg #[.int .i64 tx, .int .u8 nx, .string (strOfNums vx), .bool gx] from rfl, ← hX1] at CA
          rw [show cvv ⟨kb, ty, ny, vy, gy⟩ = .agg #[.int .i64 ty, .int .u8 ny, .string (strOfNums vy), .bool gy] from rfl, ← hY1] at CB
          have q4 := HS.out wr HC.out.below
          obtain ⟨q0, q1, q2, q3⟩ := q4
          clear hA hB hpa hqa hs1 hs2 hX1 hY1 hcx hsx HPA HAB HBT CS HCH
          go_wp2_with (first | (have hgo := CA.out; clear hgo; go_at_call 17; refine (CA.out _ HC.out).mono ?_; rintro e w5 ⟨rfl, hb5⟩; have H5 : Hid (ChW W0 (w5.alloc (.cells #[.int .i64 tx, .int .u8 nx, .string X1, .bool gx] 31)) p L) := (HC.out.past hb5).past ((Below.refl _ _).alloc (Nat.le_refl _) _); have E5 : Hid (BxA (w5.alloc (.cells #[.int .i64 tx, .int .u8 nx, .string X1, .bool gx] 31)) w5.heap.size tx nx X1 gx) := BxA.made w5 31 tx nx X1 gx; clear hb5 q0 q1 q2 q3; obtain ⟨q0, q1, q2, q3⟩ := HS.out _ H5.out.below; clear CA) | (have hgo := H5.out; clear hgo; go_at_call 17; refine (CB.out _ H5.out).mono ?_; rintro e w6 ⟨rfl, hb6⟩; obtain ⟨W7, HW7, H7, E7, F7⟩ := sees_two H5.out hb6 E5.out ty ny Y1 gy 31; clear hb6 H5 E5 q0 q1 q2 q3 CB))
          rw [HW7.out]
          have FZ : Hid (∀ u, Below W7.heap.size W7 u → u.cell? ⟨w.heap.size, 0, none⟩ = some (.int .i64 a1) ∧ u.cell? ⟨w.heap.size, 1, none⟩ = some (.int .u8 b1) ∧ u.cell? ⟨w.heap.size + 1, 0, none⟩ = some (.int .i64 a2) ∧ u.cell? ⟨w.heap.size + 1, 1, none⟩ = some (.int .u8 b2)) := fun u hu => HS.out u (H7.out.below.trans (hu.mono H7.out.below.size))
          have HSL : Hid (∀ u, Below W7.heap.size W7 u → ChW W0 u p L) := fun u hu => H7.out.past hu
          cases pa with
          | true =>
            obtain ⟨hcx, hsx⟩ := HPA2.out rfl
            have hq := HPQ.out rfl
            subst hq
            have hsx2 := hsx.symm
            clear hsx
            subst hsx2
            have dcx : decide (0 < cx) = false := decide_eq_false (by omega)
            clear HPA2 HPQ hcx
            refine wp_region_noPanic ?_
            refine wp_region_held_drew (S := fun u => Below W7.heap.size W7 u) (by kernel_rfl) ?_ (fun hHeld => ?_)
            · exact (Below.refl _ _).drew
            refine wpAnyH_take (i := 0) (v := ?_) rfl (by kernel_rfl) (by kernel_rfl) (by kernel_rfl) (fun _ _ _ h => h) (Or.inl ⟨by rfl, ?_⟩) hHeld ?_
            rotate_left
            · intro u hSu
              (go_simp) <;> (with_reducible rfl)
            change wpAnyH _ _ _ _ _ _ _ (Act.put _ (some 79) _) _
            simp only [Act.put, List.setIfInBounds_toArray, List.set_cons_zero, List.set_cons_succ]
            refine wpAnyH_take (i := 1) (v := ?_) rfl (by kernel_rfl) (by kernel_rfl) (by kernel_rfl) (fun _ _ _ h => h) (Or.inl ⟨by rfl, ?_⟩) hHeld ?_
            rotate_left
            · intro u hSu
              (go_simp) <;> (with_reducible rfl)
            change wpAnyH _ _ _ _ _ _ _ (Act.put _ (some 80) _) _
            simp only [Act.put, List.setIfInBounds_toArray, List.set_cons_zero, List.set_cons_succ]
            refine wpAnyH_take (i := 2) (v := ?_) rfl (by kernel_rfl) (by kernel_rfl) (by kernel_rfl) (fun _ _ _ h => h) (Or.inl ⟨by rfl, ?_⟩) hHeld ?_
            rotate_left
            · intro u hSu
              (go_simp) <;> (with_reducible rfl)
            change wpAnyH _ _ _ _ _ _ _ (Act.put _ (some 81) _) _
            simp only [Act.put, List.setIfInBounds_toArray, List.set_cons_zero, List.set_cons_succ]
            refine wpAnyH_take (i := 3) (v := ?_) rfl (by kernel_rfl) (by kernel_rfl) (by kernel_rfl) (fun _ _ _ h => h) (Or.inl ⟨by rfl, ?_⟩) hHeld ?_
            rotate_left
            · intro u hSu
              obtain ⟨e0, e1, e2, e3⟩ := E7.out.past hSu
              (go_simp) <;> (with_reducible rfl)
            change wpAnyH _ _ _ _ _ _ _ (Act.put _ (some 82) _) _
            simp only [Act.put, List.setIfInBounds_toArray, List.set_cons_zero, List.set_cons_succ]
            refine wpAnyH_take (i := 4) (v := ?_) rfl (by kernel_rfl) (by kernel_rfl) (by kernel_rfl) (fun _ _ _ h => h) (Or.inl ⟨by rfl, ?_⟩) hHeld ?_
            rotate_left
            · intro u hSu
              obtain ⟨z0, z1, z2, z3⟩ := FZ.out u hSu
              (go_simp) <;> (with_reducible rfl)
            change wpAnyH _ _ _ _ _ _ _ (Act.put _ (some 83) _) _
            simp only [Act.put, List.setIfInBounds_toArray, List.set_cons_zero, List.set_cons_succ]
            refine wpAnyH_ready (rs := [5]) (by kernel_rfl) (by simp) ?_
            refine AllReadyH.cons rfl (fun K hK => ?_) AllReadyH.nil
            go_simp
            go_at_call 21
            refine (CXA.out _).mono ?_
            rintro e x1 ⟨rfl, hbx1⟩
            have B1 : Hid (Below W7.heap.size W7 x1) := hHeld.trans (hbx1.mono hHeld.size)
            clear hbx1
            refine hK.out _ _ ?_ (fun hHeld2 => ?_)
            · exact B1.out
            clear hK K hHeld
            have hHeld := hHeld2
            clear hHeld2
            refine wpAnyH_take (i := 6) (v := ?_) rfl (by kernel_rfl) (by kernel_rfl) (by kernel_rfl) (fun _ _ _ h => h) (Or.inl ⟨by rfl, ?_⟩) hHeld ?_
            rotate_left
            · intro u hSu
              (go_simp) <;> (with_reducible rfl)
            change wpAnyH _ _ _ _ _ _ _ (Act.put _ (some 85) _) _
            simp only [Act.put, List.setIfInBounds_toArray, List.set_cons_zero, List.set_cons_succ]
            refine wpAnyH_take (i := 7) (v := ?_) rfl (by kernel_rfl) (by kernel_rfl) (by kernel_rfl) (fun _ _ _ h => h) (Or.inl ⟨by rfl, ?_⟩) hHeld ?_
            rotate_left
            · intro u hSu
              (go_simp) <;> (with_reducible rfl)
            change wpAnyH _ _ _ _ _ _ _ (Act.put _ (some 86) _) _
            simp only [Act.put, List.setIfInBounds_toArray, List.set_cons_zero, List.set_cons_succ]
            refine wpAnyH_take (i := 8) (v := ?_) rfl (by kernel_rfl) (by kernel_rfl) (by kernel_rfl) (fun _ _ _ h => h) (Or.inl ⟨by rfl, ?_⟩) hHeld ?_
            rotate_left
            · intro u hSu
              (go_simp) <;> (with_reducible rfl)
            change wpAnyH _ _ _ _ _ _ _ (Act.put _ (some 87) _) _
            simp only [Act.put, List.setIfInBounds_toArray, List.set_cons_zero, List.set_cons_succ]
            refine wpAnyH_take (i := 9) (v := ?_) rfl (by kernel_rfl) (by kernel_rfl) (by kernel_rfl) (fun _ _ _ h => h) (Or.inl ⟨by rfl, ?_⟩) hHeld ?_
            rotate_left
            · intro u hSu
              (go_simp) <;> (with_reducible rfl)
            change wpAnyH _ _ _ _ _ _ _ (Act.put _ (some 88) _) _
            simp only [Act.put, List.setIfInBounds_toArray, List.set_cons_zero, List.set_cons_succ]
            refine wpAnyH_take (i := 10) (v := ?_) rfl (by kernel_rfl) (by kernel_rfl) (by kernel_rfl) (fun _ _ _ h => h) (Or.inl ⟨by rfl, ?_⟩) hHeld ?_
            rotate_left
            · intro u hSu
              obtain ⟨e0, e1, e2, e3⟩ := E7.out.past hSu
              (go_simp) <;> (with_reducible rfl)
            change wpAnyH _ _ _ _ _ _ _ (Act.put _ (some 89) _) _
            simp only [Act.put, List.setIfInBounds_toArray, List.set_cons_zero, List.set_cons_succ]
            refine wpAnyH_take (i := 12) (v := ?_) rfl (by kernel_rfl) (by kernel_rfl) (by kernel_rfl) (fun _ _ _ h => h) (Or.inl ⟨by rfl, ?_⟩) hHeld ?_
            rotate_left
            · intro u hSu
              (go_simp) <;> (with_reducible rfl)
            change wpAnyH _ _ _ _ _ _ _ (Act.put _ (some 91) _) _
            simp only [Act.put, List.setIfInBounds_toArray, List.set_cons_zero, List.set_cons_succ]
            refine wpAnyH_take (i := 13) (v := ?_) rfl (by kernel_rfl) (by kernel_rfl) (by kernel_rfl) (fun _ _ _ h => h) (Or.inl ⟨by rfl, ?_⟩) hHeld ?_
            rotate_left
            · intro u hSu
              obtain ⟨z0, z1, z2, z3⟩ := FZ.out u hSu
              (go_simp) <;> (with_reducible rfl)
            change wpAnyH _ _ _ _ _ _ _ (Act.put _ (some 92) _) _
            simp only [Act.put, List.setIfInBounds_toArray, List.set_cons_zero, List.set_cons_succ]
            refine wpAnyH_ready (rs := [11]) (by kernel_rfl) (by simp) ?_
            refine AllReadyH.cons rfl (fun K hK => ?_) AllReadyH.nil
            go_simp
            go_at_call 22
            refine (CSX.out _ (HSL.out _ hHeld)).mono ?_
            rintro e x2 ⟨rfl, hbx2⟩
            have Bx2 : Hid (Below W7.heap.size W7 x2) := hHeld.trans (hbx2.mono hHeld.size); clear hbx2
            refine hK.out _ _ ?_ (fun hHeld2 => ?_)
            · exact Bx2.out
            clear hK K hHeld
            have hHeld := hHeld2
            clear hHeld2
            refine wpAnyH_ready (rs := [14]) (by kernel_rfl) (by simp) ?_
            refine AllReadyH.cons rfl (fun K hK => ?_) AllReadyH.nil
            go_simp
            go_at_call 22
            refine (CS1.out _ (HSL.out _ hHeld)).mono ?_
            rintro e x3 ⟨rfl, hbx3⟩
            have Bx3 : Hid (Below W7.heap.size W7 x3) := hHeld.trans (hbx3.mono hHeld.size); clear hbx3
            refine hK.out _ _ ?_ (fun hHeld2 => ?_)
            · exact Bx3.out
            clear hK K hHeld
            have hHeld := hHeld2
            clear hHeld2
            refine wpAnyH_take (i := 15) (v := ?_) rfl (by kernel_rfl) (by kernel_rfl) (by kernel_rfl) (fun _ _ _ h => h) (Or.inl ⟨by rfl, ?_⟩) hHeld ?_
            rotate_left
            · intro u hSu
              (go_simp) <;> (with_reducible rfl)
            change wpAnyH _ _ _ _ _ _ _ (Act.put _ (some 94) _) _
            simp only [Act.put, List.setIfInBounds_toArray, List.set_cons_zero, List.set_cons_succ]
            refine wpAnyH_take (i := 16) (v := ?_) rfl (by kernel_rfl) (by kernel_rfl) (by kernel_rfl) (fun _ _ _ h => h) (Or.inl ⟨by rfl, ?_⟩) hHeld ?_
            rotate_left
            · intro u hSu
              (go_simp) <;> (with_reducible rfl)
            change wpAnyH _ _ _ _ _ _ _ (Act.put _ (some 95) _) _
            simp only [Act.put, List.setIfInBounds_toArray, List.set_cons_zero, List.set_cons_succ]
            refine wpAnyH_take (i := 17) (v := ?_) rfl (by kernel_rfl) (by kernel_rfl) (by kernel_rfl) (fun _ _ _ h => h) (Or.inl ⟨by rfl, ?_⟩) hHeld ?_
            rotate_left
            · intro u hSu
              (go_simp) <;> (with_reducible rfl)
            change wpAnyH _ _ _ _ _ _ _ (Act.put _ (some 96) _) _
            simp only [Act.put, List.setIfInBounds_toArray, List.set_cons_zero, List.set_cons_succ]
            refine wpAnyH_done (by kernel_rfl) ?_ _
            refine NoPanic.normal ?_
            have HX : Hid (∀ u, Below x3.heap.size x3 u → Below W7.heap.size W7 u) := fun u hu => Bx3.out.trans (hu.mono Bx3.out.size)
            go_wp2
            cases bt with
            | true =>
              have hs := HS12.out.1 rfl
              have ds : decide ((s2 : Int) < (s1 : Int)) = true := decide_eq_true (by omega)
              clear HS12 HAB2
              refine wp_region_noPanic ?_
              refine wp_region_held_drew (S := fun u => Below x3.heap.size x3 u) (by kernel_rfl) ?_ (fun hHeld => ?_)
              · exact (Below.refl _ _).drew
              refine wpAnyH_take (i := 0) (v := ?_) rfl (by kernel_rfl) (by kernel_rfl) (by kernel_rfl) (fun _ _ _ h => h) (Or.inl ⟨by rfl, ?_⟩) hHeld ?_
              rotate_left
              · intro u hSu
                (go_simp) <;> (with_reducible rfl)
              change wpAnyH _ _ _ _ _ _ _ (Act.put _ (some 97) _) _
              simp only [Act.put, List.setIfInBounds_toArray, List.set_cons_zero, List.set_cons_succ]
              refine wpAnyH_take (i := 1) (v := ?_) rfl (by kernel_rfl) (by kernel_rfl) (by kernel_rfl) (fun _ _ _ h => h) (Or.inl ⟨by rfl, ?_⟩) hHeld ?_
              rotate_left
              · intro u hSu
                (go_simp) <;> (with_reducible rfl)
              change wpAnyH _ _ _ _ _ _ _ (Act.put _ (some 98) _) _
              simp only [Act.put, List.setIfInBounds_toArray, List.set_cons_zero, List.set_cons_succ]
              refine wpAnyH_take (i := 2) (v := ?_) rfl (by kernel_rfl) (by kernel_rfl) (by kernel_rfl) (fun _ _ _ h => h) (Or.inl ⟨by rfl, ?_⟩) hHeld ?_
              rotate_left
              · intro u hSu
                obtain ⟨z0, z1, z2, z3⟩ := FZ.out u (HX.out _ hSu)
                (go_simp) <;> (with_reducible rfl)
              change wpAnyH _ _ _ _ _ _ _ (Act.put _ (some 99) _) _
              simp only [Act.put, List.setIfInBounds_toArray, List.set_cons_zero, List.set_cons_succ]
              refine wpAnyH_take (i := 4) (v := ?_) rfl (by kernel_rfl) (by kernel_rfl) (by kernel_rfl) (fun _ _ _ h => h) (Or.inl ⟨by rfl, ?_⟩) hHeld ?_
              rotate_left
              · intro u hSu
                (go_simp) <;> (with_reducible rfl)
              change wpAnyH _ _ _ _ _ _ _ (Act.put _ (some 101) _) _
              simp only [Act.put, List.setIfInBounds_toArray, List.set_cons_zero, List.set_cons_succ]
              refine wpAnyH_take (i := 5) (v := ?_) rfl (by kernel_rfl) (by kernel_rfl) (by kernel_rfl) (fun _ _ _ h => h) (Or.inl ⟨by rfl, ?_⟩) hHeld ?_
              rotate_left
              · intro u hSu
                obtain ⟨z0, z1, z2, z3⟩ := FZ.out u (HX.out _ hSu)
                (go_simp) <;> (with_reducible rfl)
              change wpAnyH _ _ _ _ _ _ _ (Act.put _ (some 102) _) _
              simp only [Act.put, List.setIfInBounds_toArray, List.set_cons_zero, List.set_cons_succ]
              refine wpAnyH_ready (rs := [3]) (by kernel_rfl) (by simp) ?_
              refine AllReadyH.cons rfl (fun K hK => ?_) AllReadyH.nil
              go_simp
              go_at_call 22
              refine (CS1.out _ (HSL.out _ (HX.out _ hHeld))).mono ?_
              rintro e y1 ⟨rfl, hby1⟩
              have By1 : Hid (Below x3.heap.size x3 y1) := hHeld.trans (hby1.mono hHeld.size); clear hby1
              refine hK.out _ _ ?_ (fun hHeld2 => ?_)
              · exact By1.out
              clear hK K hHeld
              have hHeld := hHeld2
              clear hHeld2
              refine wpAnyH_ready (rs := [6]) (by kernel_rfl) (by simp) ?_
              refine AllReadyH.cons rfl (fun K hK => ?_) AllReadyH.nil
              go_simp
              go_at_call 22
              refine (CS2.out _ (HSL.out _ (HX.out _ hHeld))).mono ?_
              rintro e y2 ⟨rfl, hby2⟩
              have By2 : Hid (Below x3.heap.size x3 y2) := hHeld.trans (hby2.mono hHeld.size); clear hby2
              refine hK.out _ _ ?_ (fun hHeld2 => ?_)
              · exact By2.out
              clear hK K hHeld
              have hHeld := hHeld2
              clear hHeld2
              refine wpAnyH_take (i := 7) (v := ?_) rfl (by kernel_rfl) (by kernel_rfl) (by kernel_rfl) (fun _ _ _ h => h) (Or.inl ⟨by rfl, ?_⟩) hHeld ?_
              rotate_left
              · intro u hSu
                (go_simp) <;> (with_reducible rfl)
              change wpAnyH _ _ _ _ _ _ _ (Act.put _ (some 104) _) _
              simp only [Act.put, List.setIfInBounds_toArray, List.set_cons_zero, List.set_cons_succ]
              refine wpAnyH_take (i := 8) (v := ?_) rfl (by kernel_rfl) (by kernel_rfl) (by kernel_rfl) (fun _ _ _ h => h) (Or.inl ⟨by rfl, ?_⟩) hHeld ?_
              rotate_left
              · intro u hSu
                (go_simp) <;> (with_reducible rfl)
              change wpAnyH _ _ _ _ _ _ _ (Act.put _ (some 105) _) _
              simp only [Act.put, List.setIfInBounds_toArray, List.set_cons_zero, List.set_cons_succ]
              refine wpAnyH_take (i := 9) (v := ?_) rfl (by kernel_rfl) (by kernel_rfl) (by kernel_rfl) (fun _ _ _ h => h) (Or.inl ⟨by rfl, ?_⟩) hHeld ?_
              rotate_left
              · intro u hSu
                (go_simp) <;> (with_reducible rfl)
              change wpAnyH _ _ _ _ _ _ _ (Act.put _ (some 106) _) _
              simp only [Act.put, List.setIfInBounds_toArray, List.set_cons_zero, List.set_cons_succ]
              refine wpAnyH_take (i := 10) (v := ?_) rfl (by kernel_rfl) (by kernel_rfl) (by kernel_rfl) (fun _ _ _ h => h) (Or.inl ⟨by rfl, ?_⟩) hHeld ?_
              rotate_left
              · intro u hSu
                (go_simp) <;> (with_reducible rfl)
              change wpAnyH _ _ _ _ _ _ _ (Act.put _ (some 107) _) _
              simp only [Act.put, List.setIfInBounds_toArray, List.set_cons_zero, List.set_cons_succ]
              refine wpAnyH_take (i := 11) (v := ?_) rfl (by kernel_rfl) (by kernel_rfl) (by kernel_rfl) (fun _ _ _ h => h) (Or.inl ⟨by rfl, ?_⟩) hHeld ?_
              rotate_left
              · intro u hSu
                (go_simp) <;> (with_reducible rfl)
              change wpAnyH _ _ _ _ _ _ _ (Act.put _ (some 108) _) _
              simp only [Act.put, List.setIfInBounds_toArray, List.set_cons_zero, List.set_cons_succ]
              refine wpAnyH_take (i := 12) (v := undef) rfl (by kernel_rfl) (by kernel_rfl) (by kernel_rfl) (fun _ _ _ h => h) (Or.inr ⟨by rfl, rfl⟩) hHeld ?_
              change wpAnyH _ _ _ _ _ _ _ (Act.put _ (some 109) _) _
              simp only [Act.put, List.setIfInBounds_toArray, List.set_cons_zero, List.set_cons_succ]
              refine wpAnyH_take (i := 13) (v := undef) rfl (by kernel_rfl) (by kernel_rfl) (by kernel_rfl) (fun _ _ _ h => h) (Or.inr ⟨by rfl, rfl⟩) hHeld ?_
              change wpAnyH _ _ _ _ _ _ _ (Act.put _ (some 110) _) _
              simp only [Act.put, List.setIfInBounds_toArray, List.set_cons_zero, List.set_cons_succ]
              refine wpAnyH_take (i := 14) (v := undef) rfl (by kernel_rfl) (by kernel_rfl) (by kernel_rfl) (fun _ _ _ h => h) (Or.inr ⟨by rfl, rfl⟩) hHeld ?_
              change wpAnyH _ _ _ _ _ _ _ (Act.put _ (some 111) _) _
              simp only [Act.put, List.setIfInBounds_toArray, List.set_cons_zero, List.set_cons_succ]
              refine wpAnyH_take (i := 15) (v := undef) rfl (by kernel_rfl) (by kernel_rfl) (by kernel_rfl) (fun _ _ _ h => h) (Or.inr ⟨by rfl, rfl⟩) hHeld ?_
              change wpAnyH _ _ _ _ _ _ _ (Act.put _ (some 112) _) _
              simp only [Act.put, List.setIfInBounds_toArray, List.set_cons_zero, List.set_cons_succ]
              refine wpAnyH_take (i := 16) (v := undef) rfl (by kernel_rfl) (by kernel_rfl) (by kernel_rfl) (fun _ _ _ h => h) (Or.inr ⟨by rfl, rfl⟩) hHeld ?_
              change wpAnyH _ _ _ _ _ _ _ (Act.put _ (some 113) _) _
              simp only [Act.put, List.setIfInBounds_toArray, List.set_cons_zero, List.set_cons_succ]
              refine wpAnyH_take (i := 17) (v := undef) rfl (by kernel_rfl) (by kernel_rfl) (by kernel_rfl) (fun _ _ _ h => h) (Or.inr ⟨by rfl, rfl⟩) hHeld ?_
              change wpAnyH _ _ _ _ _ _ _ (Act.put _ (some 114) _) _
              simp only [Act.put, List.setIfInBounds_toArray, List.set_cons_zero, List.set_cons_succ]
              refine wpAnyH_take (i := 18) (v := undef) rfl (by kernel_rfl) (by kernel_rfl) (by kernel_rfl) (fun _ _ _ h => h) (Or.inr ⟨by rfl, rfl⟩) hHeld ?_
              change wpAnyH _ _ _ _ _ _ _ (Act.put _ (some 115) _) _
              simp only [Act.put, List.setIfInBounds_toArray, List.set_cons_zero, List.set_cons_succ]
              refine wpAnyH_take (i := 19) (v := undef) rfl (by kernel_rfl) (by kernel_rfl) (by kernel_rfl) (fun _ _ _ h => h) (Or.inr ⟨by rfl, rfl⟩) hHeld ?_
              change wpAnyH _ _ _ _ _ _ _ (Act.put _ (some 116) _) _
              simp only [Act.put, List.setIfInBounds_toArray, List.set_cons_zero, List.set_cons_succ]
              refine wpAnyH_take (i := 20) (v := ?_) rfl (by kernel_rfl) (by kernel_rfl) (by kernel_rfl) (fun _ _ _ h => h) (Or.inl ⟨by rfl, ?_⟩) hHeld ?_
              rotate_left
              · intro u hSu
                (go_simp) <;> (with_reducible rfl)
              change wpAnyH _ _ _ _ _ _ _ (Act.put _ (some 117) _) _
              simp only [Act.put, List.setIfInBounds_toArray, List.set_cons_zero, List.set_cons_succ]
              refine wpAnyH_take (i := 21) (v := ?_) rfl (by kernel_rfl) (by kernel_rfl) (by kernel_rfl) (fun _ _ _ h => h) (Or.inl ⟨by rfl, ?_⟩) hHeld ?_
              rotate_left
              · intro u hSu
                (go_simp) <;> (with_reducible rfl)
              change wpAnyH _ _ _ _ _ _ _ (Act.put _ (some 118) _) _
              simp only [Act.put, List.setIfInBounds_toArray, List.set_cons_zero, List.set_cons_succ]
              refine wpAnyH_take (i := 22) (v := ?_) rfl (by kernel_rfl) (by kernel_rfl) (by kernel_rfl) (fun _ _ _ h => h) (Or.inl ⟨by rfl, ?_⟩) hHeld ?_
              rotate_left
              · intro u hSu
                (go_simp) <;> (with_reducible rfl)
              change wpAnyH _ _ _ _ _ _ _ (Act.put _ (some 119) _) _
              simp only [Act.put, List.setIfInBounds_toArray, List.set_cons_zero, List.set_cons_succ]
              refine wpAnyH_take (i := 23) (v := ?_) rfl (by kernel_rfl) (by kernel_rfl) (by kernel_rfl) (fun _ _ _ h => h) (Or.inl ⟨by rfl, ?_⟩) hHeld ?_
              rotate_left
              · intro u hSu
                (go_simp) <;> (with_reducible rfl)
              change wpAnyH _ _ _ _ _ _ _ (Act.put _ (some 120) _) _
              simp only [Act.put, List.setIfInBounds_toArray, List.set_cons_zero, List.set_cons_succ]
              refine wpAnyH_take (i := 24) (v := ?_) rfl (by kernel_rfl) (by kernel_rfl) (by kernel_rfl) (fun _ _ _ h => h) (Or.inl ⟨by rfl, ?_⟩) hHeld ?_
              rotate_left
              · intro u hSu
                (go_simp) <;> (with_reducible rfl)
              change wpAnyH _ _ _ _ _ _ _ (Act.put _ (some 121) _) _
              simp only [Act.put, List.setIfInBounds_toArray, List.set_cons_zero, List.set_cons_succ]
              refine wpAnyH_take (i := 25) (v := ?_) rfl (by kernel_rfl) (by kernel_rfl) (by kernel_rfl) (fun _ _ _ h => h) (Or.inl ⟨by rfl, ?_⟩) hHeld ?_
              rotate_left
              · intro u hSu
                (go_simp) <;> (with_reducible rfl)
              change wpAnyH _ _ _ _ _ _ _ (Act.put _ (some 122) _) _
              simp only [Act.put, List.setIfInBounds_toArray, List.set_cons_zero, List.set_cons_succ]
              refine wpAnyH_take (i := 26) (v := ?_) rfl (by kernel_rfl) (by kernel_rfl) (by kernel_rfl) (fun _ _ _ h => h) (Or.inl ⟨by rfl, ?_⟩) hHeld ?_
              rotate_left
              · intro u hSu
                (go_simp) <;> (with_reducible rfl)
              change wpAnyH _ _ _ _ _ _ _ (Act.put _ (some 123) _) _
              simp only [Act.put, List.setIfInBounds_toArray, List.set_cons_zero, List.set_cons_succ]
              refine wpAnyH_take (i := 27) (v := ?_) rfl (by kernel_rfl) (by kernel_rfl) (by kernel_rfl) (fun _ _ _ h => h) (Or.inl ⟨by rfl, ?_⟩) hHeld ?_
              rotate_left
              · intro u hSu
                (go_simp) <;> (with_reducible rfl)
              change wpAnyH _ _ _ _ _ _ _ (Act.put _ (some 124) _) _
              simp only [Act.put, List.setIfInBounds_toArray, List.set_cons_zero, List.set_cons_succ]
              refine wpAnyH_take (i := 28) (v := ?_) rfl (by kernel_rfl) (by kernel_rfl) (by kernel_rfl) (fun _ _ _ h => h) (Or.inl ⟨by rfl, ?_⟩) hHeld ?_
              rotate_left
              · intro u hSu
                (go_simp) <;> (with_reducible rfl)
              change wpAnyH _ _ _ _ _ _ _ (Act.put _ (some 125) _) _
              simp only [Act.put, List.setIfInBounds_toArray, List.set_cons_zero, List.set_cons_succ]
              refine wpAnyH_take (i := 29) (v := ?_) rfl (by kernel_rfl) (by kernel_rfl) (by kernel_rfl) (fun _ _ _ h => h) (Or.inl ⟨by rfl, ?_⟩) hHeld ?_
              rotate_left
              · intro u hSu
                (go_simp) <;> (with_reducible rfl)
              change wpAnyH _ _ _ _ _ _ _ (Act.put _ (some 6) _) _
              simp only [Act.put, List.setIfInBounds_toArray, List.set_cons_zero, List.set_cons_succ]
              refine wpAnyH_done (by kernel_rfl) ?_ _
              refine NoPanic.normal ?_
              go_wp2
              go_ret
              exact ⟨by first | rfl | simp, HBW0.out _ (H7.out.below.trans ((HX.out _ By2.out).mono H7.out.below.size))⟩
            | false =>
              have hs : ¬ s2 < s1 := fun h => by cases HS12.out.2 h
              have ds : decide ((s2 : Int) < (s1 : Int)) = false := decide_eq_false (by omega)
              obtain ⟨⟨e1, e2, e3, e4⟩, e5⟩ := HAB2.out rfl
              subst e1; subst e2; subst e3; subst e4
              clear e5
              clear HS12 HAB2
              refine wp_region_noPanic ?_
              refine wp_region_held_drew (S := fun u => Below x3.heap.size x3 u) (by kernel_rfl) ?_ (fun hHeld => ?_)
              · exact (Below.refl _ _).drew
              refine wpAnyH_take (i := 0) (v := ?_) rfl (by kernel_rfl) (by kernel_rfl) (by kernel_rfl) (fun _ _ _ h => h) (Or.inl ⟨by rfl, ?_⟩) hHeld ?_
              rotate_left
              · intro u hSu
                (go_simp) <;> (with_reducible rfl)
              change wpAnyH _ _ _ _ _ _ _ (Act.put _ (some 97) _) _
              simp only [Act.put, List.setIfInBounds_toArray, List.set_cons_zero, List.set_cons_succ]
              refine wpAnyH_take (i := 1) (v := ?_) rfl (by kernel_rfl) (by kernel_rfl) (by kernel_rfl) (fun _ _ _ h => h) (Or.inl ⟨by rfl, ?_⟩) hHeld ?_
              rotate_left
              · intro u hSu
                (go_simp) <;> (with_reducible rfl)
              change wpAnyH _ _ _ _ _ _ _ (Act.put _ (some 98) _) _
              simp only [Act.put, List.setIfInBounds_toArray, List.set_cons_zero, List.set_cons_succ]
              refine wpAnyH_take (i := 2) (v := ?_) rfl (by kernel_rfl) (by kernel_rfl) (by kernel_rfl) (fun _ _ _ h => h) (Or.inl ⟨by rfl, ?_⟩) hHeld ?_
              rotate_left
              · intro u hSu
                obtain ⟨z0, z1, z2, z3⟩ := FZ.out u (HX.out _ hSu)
                (go_simp) <;> (with_reducible rfl)
              change wpAnyH _ _ _ _ _ _ _ (Act.put _ (some 99) _) _
              simp only [Act.put, List.setIfInBounds_toArray, List.set_cons_zero, List.set_cons_succ]
              refine wpAnyH_take (i := 4) (v := ?_) rfl (by kernel_rfl) (by kernel_rfl) (by kernel_rfl) (fun _ _ _ h => h) (Or.inl ⟨by rfl, ?_⟩) hHeld ?_
              rotate_left
              · intro u hSu
                (go_simp) <;> (with_reducible rfl)
              change wpAnyH _ _ _ _ _ _ _ (Act.put _ (some 101) _) _
              simp only [Act.put, List.setIfInBounds_toArray, List.set_cons_zero, List.set_cons_succ]
              refine wpAnyH_take (i := 5) (v := ?_) rfl (by kernel_rfl) (by kernel_rfl) (by kernel_rfl) (fun _ _ _ h => h) (Or.inl ⟨by rfl, ?_⟩) hHeld ?_
              rotate_left
              · intro u hSu
                obtain ⟨z0, z1, z2, z3⟩ := FZ.out u (HX.out _ hSu)
                (go_simp) <;> (with_reducible rfl)
              change wpAnyH _ _ _ _ _ _ _ (Act.put _ (some 102) _) _
              simp only [Act.put, List.setIfInBounds_toArray, List.set_cons_zero, List.set_cons_succ]
              refine wpAnyH_ready (rs := [3]) (by kernel_rfl) (by simp) ?_
              refine AllReadyH.cons rfl (fun K hK => ?_) AllReadyH.nil
              go_simp
              go_at_call 22
              refine (CS1.out _ (HSL.out _ (HX.out _ hHeld))).mono ?_
              rintro e y1 ⟨rfl, hby1⟩
              have By1 : Hid (Below x3.heap.size x3 y1) := hHeld.trans (hby1.mono hHeld.size); clear hby1
              refine hK.out _ _ ?_ (fun hHeld2 => ?_)
              · exact By1.out
              clear hK K hHeld
              have hHeld := hHeld2
              clear hHeld2
              refine wpAnyH_ready (rs := [6]) (by kernel_rfl) (by simp) ?_
              refine AllReadyH.cons rfl (fun K hK => ?_) AllReadyH.nil
              go_simp
              go_at_call 22
              refine (CS2.out _ (HSL.out _ (HX.out _ hHeld))).mono ?_
              rintro e y2 ⟨rfl, hby2⟩
              have By2 : Hid (Below x3.heap.size x3 y2) := hHeld.trans (hby2.mono hHeld.size); clear hby2
              refine hK.out _ _ ?_ (fun hHeld2 => ?_)
              · exact By2.out
              clear hK K hHeld
              have hHeld := hHeld2
              clear hHeld2
              refine wpAnyH_take (i := 7) (v := ?_) rfl (by kernel_rfl) (by kernel_rfl) (by kernel_rfl) (fun _ _ _ h => h) (Or.inl ⟨by rfl, ?_⟩) hHeld ?_
              rotate_left
              · intro u hSu
                (go_simp) <;> (with_reducible rfl)
              change wpAnyH _ _ _ _ _ _ _ (Act.put _ (some 104) _) _
              simp only [Act.put, List.setIfInBounds_toArray, List.set_cons_zero, List.set_cons_succ]
              refine wpAnyH_take (i := 8) (v := ?_) rfl (by kernel_rfl) (by kernel_rfl) (by kernel_rfl) (fun _ _ _ h => h) (Or.inl ⟨by rfl, ?_⟩) hHeld ?_
              rotate_left
              · intro u hSu
                (go_simp) <;> (with_reducible rfl)
              change wpAnyH _ _ _ _ _ _ _ (Act.put _ (some 105) _) _
              simp only [Act.put, List.setIfInBounds_toArray, List.set_cons_zero, List.set_cons_succ]
              refine wpAnyH_take (i := 9) (v := ?_) rfl (by kernel_rfl) (by kernel_rfl) (by kernel_rfl) (fun _ _ _ h => h) (Or.inl ⟨by rfl, ?_⟩) hHeld ?_
              rotate_left
              · intro u hSu
                (go_simp) <;> (with_reducible rfl)
              change wpAnyH _ _ _ _ _ _ _ (Act.put _ (some 106) _) _
              simp only [Act.put, List.setIfInBounds_toArray, List.set_cons_zero, List.set_cons_succ]
              refine wpAnyH_take (i := 10) (v := ?_) rfl (by kernel_rfl) (by kernel_rfl) (by kernel_rfl) (fun _ _ _ h => h) (Or.inl ⟨by rfl, ?_⟩) hHeld ?_
              rotate_left
              · intro u hSu
                (go_simp) <;> (with_reducible rfl)
              change wpAnyH _ _ _ _ _ _ _ (Act.put _ (some 107) _) _
              simp only [Act.put, List.setIfInBounds_toArray, List.set_cons_zero, List.set_cons_succ]
              refine wpAnyH_take (i := 11) (v := ?_) rfl (by kernel_rfl) (by kernel_rfl) (by kernel_rfl) (fun _ _ _ h => h) (Or.inl ⟨by rfl, ?_⟩) hHeld ?_
              rotate_left
              · intro u hSu
                (go_simp) <;> (with_reducible rfl)
              change wpAnyH _ _ _ _ _ _ _ (Act.put _ (some 108) _) _
              simp only [Act.put, List.setIfInBounds_toArray, List.set_cons_zero, List.set_cons_succ]
              refine wpAnyH_take (i := 12) (v := ?_) rfl (by kernel_rfl) (by kernel_rfl) (by kernel_rfl) (fun _ _ _ h => h) (Or.inl ⟨by rfl, ?_⟩) hHeld ?_
              rotate_left
              · intro u hSu
                (go_simp) <;> (with_reducible rfl)
              change wpAnyH _ _ _ _ _ _ _ (Act.put _ (some 109) _) _
              simp only [Act.put, List.setIfInBounds_toArray, List.set_cons_zero, List.set_cons_succ]
              refine wpAnyH_take (i := 13) (v := ?_) rfl (by kernel_rfl) (by kernel_rfl) (by kernel_rfl) (fun _ _ _ h => h) (Or.inl ⟨by rfl, ?_⟩) hHeld ?_
              rotate_left
              · intro u hSu
                (go_simp) <;> (with_reducible rfl)
              change wpAnyH _ _ _ _ _ _ _ (Act.put _ (some 110) _) _
              simp only [Act.put, List.setIfInBounds_toArray, List.set_cons_zero, List.set_cons_succ]
              refine wpAnyH_take (i := 14) (v := ?_) rfl (by kernel_rfl) (by kernel_rfl) (by kernel_rfl) (fun _ _ _ h => h) (Or.inl ⟨by rfl, ?_⟩) hHeld ?_
              rotate_left
              · intro u hSu
                (go_simp) <;> (with_reducible rfl)
              change wpAnyH _ _ _ _ _ _ _ (Act.put _ (some 111) _) _
              simp only [Act.put, List.setIfInBounds_toArray, List.set_cons_zero, List.set_cons_succ]
              refine wpAnyH_take (i := 15) (v := ?_) rfl (by kernel_rfl) (by kernel_rfl) (by kernel_rfl) (fun _ _ _ h => h) (Or.inl ⟨by rfl, ?_⟩) hHeld ?_
              rotate_left
              · intro u hSu
                (go_simp) <;> (with_reducible rfl)
              change wpAnyH _ _ _ _ _ _ _ (Act.put _ (some 112) _) _
              simp only [Act.put, List.setIfInBounds_toArray, List.set_cons_zero, List.set_cons_succ]
              refine wpAnyH_take (i := 16) (v := ?_) rfl (by kernel_rfl) (by kernel_rfl) (by kernel_rfl) (fun _ _ _ h => h) (Or.inl ⟨by rfl, ?_⟩) hHeld ?_
              rotate_left
              · intro u hSu
                obtain ⟨e0, e1, e2, e3⟩ := (E7.out.past (HX.out _ hSu))
                (go_simp) <;> (with_reducible rfl)
              change wpAnyH _ _ _ _ _ _ _ (Act.put _ (some 113) _) _
              simp only [Act.put, List.setIfInBounds_toArray, List.set_cons_zero, List.set_cons_succ]
              refine wpAnyH_take (i := 17) (v := ?_) rfl (by kernel_rfl) (by kernel_rfl) (by kernel_rfl) (fun _ _ _ h => h) (Or.inl ⟨by rfl, ?_⟩) hHeld ?_
              rotate_left
              · intro u hSu
                obtain ⟨e0, e1, e2, e3⟩ := (F7.out.past (HX.out _ hSu))
                (go_simp) <;> (with_reducible rfl)
              change wpAnyH _ _ _ _ _ _ _ (Act.put _ (some 114) _) _
              simp only [Act.put, List.setIfInBounds_toArray, List.set_cons_zero, List.set_cons_succ]
              refine wpAnyH_take (i := 18) (v := ?_) rfl (by kernel_rfl) (by kernel_rfl) (by kernel_rfl) (fun _ _ _ h => h) (Or.inl ⟨by rfl, ?_⟩) hHeld ?_
              rotate_left
              · intro u hSu
                (go_simp) <;> (with_reducible rfl)
              change wpAnyH _ _ _ _ _ _ _ (Act.put _ (some 115) _) _
              simp only [Act.put, List.setIfInBounds_toArray, List.set_cons_zero, List.set_cons_succ]
              refine wpAnyH_take (i := 19) (v := ?_) rfl (by kernel_rfl) (by kernel_rfl) (by kernel_rfl) (fun _ _ _ h => h) (Or.inl ⟨by rfl, ?_⟩) hHeld ?_
              rotate_left
              · intro u hSu
                (go_simp) <;> (with_reducible rfl)
              change wpAnyH _ _ _ _ _ _ _ (Act.put _ (some 116) _) _
              simp only [Act.put, List.setIfInBounds_toArray, List.set_cons_zero, List.set_cons_succ]
              refine wpAnyH_take (i := 20) (v := ?_) rfl (by kernel_rfl) (by kernel_rfl) (by kernel_rfl) (fun _ _ _ h => h) (Or.inl ⟨by rfl, ?_⟩) hHeld ?_
              rotate_left
              · intro u hSu
                (go_simp) <;> (with_reducible rfl)
              change wpAnyH _ _ _ _ _ _ _ (Act.put _ (some 117) _) _
              simp only [Act.put, List.setIfInBounds_toArray, List.set_cons_zero, List.set_cons_succ]
              refine wpAnyH_take (i := 21) (v := ?_) rfl (by kernel_rfl) (by kernel_rfl) (by kernel_rfl) (fun _ _ _ h => h) (Or.inl ⟨by rfl, ?_⟩) hHeld ?_
              rotate_left
              · intro u hSu
                (go_simp) <;> (with_reducible rfl)
              change wpAnyH _ _ _ _ _ _ _ (Act.put _ (some 118) _) _
              simp only [Act.put, List.setIfInBounds_toArray, List.set_cons_zero, List.set_cons_succ]
              refine wpAnyH_take (i := 22) (v := ?_) rfl (by kernel_rfl) (by kernel_rfl) (by kernel_rfl) (fun _ _ _ h => h) (Or.inl ⟨by rfl, ?_⟩) hHeld ?_
              rotate_left
              · intro u hSu
                (go_simp) <;> (with_reducible rfl)
              change wpAnyH _ _ _ _ _ _ _ (Act.put _ (some 119) _) _
              simp only [Act.put, List.setIfInBounds_toArray, List.set_cons_zero, List.set_cons_succ]
              refine wpAnyH_take (i := 23) (v := ?_) rfl (by kernel_rfl) (by kernel_rfl) (by kernel_rfl) (fun _ _ _ h => h) (Or.inl ⟨by rfl, ?_⟩) hHeld ?_
              rotate_left
              · intro u hSu
                (go_simp) <;> (with_reducible rfl)
              change wpAnyH _ _ _ _ _ _ _ (Act.put _ (some 120) _) _
              simp only [Act.put, List.setIfInBounds_toArray, List.set_cons_zero, List.set_cons_succ]
              refine wpAnyH_take (i := 24) (v := ?_) rfl (by kernel_rfl) (by kernel_rfl) (by kernel_rfl) (fun _ _ _ h => h) (Or.inl ⟨by rfl, ?_⟩) hHeld ?_
              rotate_left
              · intro u hSu
                (go_simp) <;> (with_reducible rfl)
              change wpAnyH _ _ _ _ _ _ _ (Act.put _ (some 121) _) _
              simp only [Act.put, List.setIfInBounds_toArray, List.set_cons_zero, List.set_cons_succ]
              refine wpAnyH_take (i := 25) (v := ?_) rfl (by kernel_rfl) (by kernel_rfl) (by kernel_rfl) (fun _ _ _ h => h) (Or.inl ⟨by rfl, ?_⟩) hHeld ?_
              rotate_left
              · intro u hSu
                (go_simp) <;> (with_reducible rfl)
              change wpAnyH _ _ _ _ _ _ _ (Act.put _ (some 122) _) _
              simp only [Act.put, List.setIfInBounds_toArray, List.set_cons_zero, List.set_cons_succ]
              refine wpAnyH_take (i := 26) (v := ?_) rfl (by kernel_rfl) (by kernel_rfl) (by kernel_rfl) (fun _ _ _ h => h) (Or.inl ⟨by rfl, ?_⟩) hHeld ?_
              rotate_left
              · intro u hSu
                (go_simp) <;> (with_reducible rfl)
              change wpAnyH _ _ _ _ _ _ _ (Act.put _ (some 123) _) _
              simp only [Act.put, List.setIfInBounds_toArray, List.set_cons_zero, List.set_cons_succ]
              refine wpAnyH_take (i := 27) (v := ?_) rfl (by kernel_rfl) (by kernel_rfl) (by kernel_rfl) (fun _ _ _ h => h) (Or.inl ⟨by rfl, ?_⟩) hHeld ?_
              rotate_left
              · intro u hSu
                (go_simp) <;> (with_reducible rfl)
              change wpAnyH _ _ _ _ _ _ _ (Act.put _ (some 124) _) _
              simp only [Act.put, List.setIfInBounds_toArray, List.set_cons_zero, List.set_cons_succ]
              refine wpAnyH_take (i := 28) (v := ?_) rfl (by kernel_rfl) (by kernel_rfl) (by kernel_rfl) (fun _ _ _ h => h) (Or.inl ⟨by rfl, ?_⟩) hHeld ?_
              rotate_left
              · intro u hSu
                (go_simp) <;> (with_reducible rfl)
              change wpAnyH _ _ _ _ _ _ _ (Act.put _ (some 125) _) _
              simp only [Act.put, List.setIfInBounds_toArray, List.set_cons_zero, List.set_cons_succ]
              refine wpAnyH_take (i := 29) (v := ?_) rfl (by kernel_rfl) (by kernel_rfl) (by kernel_rfl) (fun _ _ _ h => h) (Or.inl ⟨by rfl, ?_⟩) hHeld ?_
              rotate_left
              · intro u hSu
                (go_simp) <;> (with_reducible rfl)
              change wpAnyH _ _ _ _ _ _ _ (Act.put _ (some 6) _) _
              simp only [Act.put, List.setIfInBounds_toArray, List.set_cons_zero, List.set_cons_succ]
              refine wpAnyH_done (by kernel_rfl) ?_ _
              refine NoPanic.normal ?_
              go_wp2
              go_ret
              exact ⟨by first | rfl | simp, HBW0.out _ (H7.out.below.trans ((HX.out _ By2.out).mono H7.out.below.size))⟩
          | false =>
            refine wp_region_noPanic ?_
            refine wp_region_held_drew (S := fun u => Below W7.heap.size W7 u) (by kernel_rfl) ?_ (fun hHeld => ?_)
            · exact (Below.refl _ _).drew
            refine wpAnyH_take (i := 0) (v := ?_) rfl (by kernel_rfl) (by kernel_rfl) (by kernel_rfl) (fun _ _ _ h => h) (Or.inl ⟨by rfl, ?_⟩) hHeld ?_
            rotate_left
            · intro u hSu
              (go_simp) <;> (with_reducible rfl)
            change wpAnyH _ _ _ _ _ _ _ (Act.put _ (some 79) _) _
            simp only [Act.put, List.setIfInBounds_toArray, List.set_cons_zero, List.set_cons_succ]
            refine wpAnyH_take (i := 1) (v := ?_) rfl (by kernel_rfl) (by kernel_rfl) (by kernel_rfl) (fun _ _ _ h => h) (Or.inl ⟨by rfl, ?_⟩) hHeld ?_
            rotate_left
            · intro u hSu
              (go_simp) <;> (with_reducible rfl)
            change wpAnyH _ _ _ _ _ _ _ (Act.put _ (some 80) _) _
            simp only [Act.put, List.setIfInBounds_toArray, List.set_cons_zero, List.set_cons_succ]
            refine wpAnyH_take (i := 2) (v := undef) rfl (by kernel_rfl) (by kernel_rfl) (by kernel_rfl) (fun _ _ _ h => h) (Or.inr ⟨by rfl, rfl⟩) hHeld ?_
            change wpAnyH _ _ _ _ _ _ _ (Act.put _ (some 81) _) _
            simp only [Act.put, List.setIfInBounds_toArray, List.set_cons_zero, List.set_cons_succ]
            refine wpAnyH_take (i := 3) (v := undef) rfl (by kernel_rfl) (by kernel_rfl) (by kernel_rfl) (fun _ _ _ h => h) (Or.inr ⟨by rfl, rfl⟩) hHeld ?_
            change wpAnyH _ _ _ _ _ _ _ (Act.put _ (some 82) _) _
            simp only [Act.put, List.setIfInBounds_toArray, List.set_cons_zero, List.set_cons_succ]
            refine wpAnyH_take (i := 4) (v := undef) rfl (by kernel_rfl) (by kernel_rfl) (by kernel_rfl) (fun _ _ _ h => h) (Or.inr ⟨by rfl, rfl⟩) hHeld ?_
            change wpAnyH _ _ _ _ _ _ _ (Act.put _ (some 83) _) _
            simp only [Act.put, List.setIfInBounds_toArray, List.set_cons_zero, List.set_cons_succ]
            refine wpAnyH_take (i := 5) (v := undef) rfl (by kernel_rfl) (by kernel_rfl) (by kernel_rfl) (fun _ _ _ h => h) (Or.inr ⟨by rfl, rfl⟩) hHeld ?_
            change wpAnyH _ _ _ _ _ _ _ (Act.put _ (some 84) _) _
            simp only [Act.put, List.setIfInBounds_toArray, List.set_cons_zero, List.set_cons_succ]
            refine wpAnyH_take (i := 6) (v := undef) rfl (by kernel_rfl) (by kernel_rfl) (by kernel_rfl) (fun _ _ _ h => h) (Or.inr ⟨by rfl, rfl⟩) hHeld ?_
            change wpAnyH _ _ _ _ _ _ _ (Act.put _ (some 85) _) _
            simp only [Act.put, List.setIfInBounds_toArray, List.set_cons_zero, List.set_cons_succ]
            refine wpAnyH_take (i := 7) (v := undef) rfl (by kernel_rfl) (by kernel_rfl) (by kernel_rfl) (fun _ _ _ h => h) (Or.inr ⟨by rfl, rfl⟩) hHeld ?_
            change wpAnyH _ _ _ _ _ _ _ (Act.put _ (some 86) _) _
            simp only [Act.put, List.setIfInBounds_toArray, List.set_cons_zero, List.set_cons_succ]
            refine wpAnyH_take (i := 8) (v := undef) rfl (by kernel_rfl) (by kernel_rfl) (by kernel_rfl) (fun _ _ _ h => h) (Or.inr ⟨by rfl, rfl⟩) hHeld ?_
            change wpAnyH _ _ _ _ _ _ _ (Act.put _ (some 87) _) _
            simp only [Act.put, List.setIfInBounds_toArray, List.set_cons_zero, List.set_cons_succ]
            refine wpAnyH_take (i := 9) (v := undef) rfl (by kernel_rfl) (by kernel_rfl) (by kernel_rfl) (fun _ _ _ h => h) (Or.inr ⟨by rfl, rfl⟩) hHeld ?_
            change wpAnyH _ _ _ _ _ _ _ (Act.put _ (some 88) _) _
            simp only [Act.put, List.setIfInBounds_toArray, List.set_cons_zero, List.set_cons_succ]
            refine wpAnyH_take (i := 10) (v := undef) rfl (by kernel_rfl) (by kernel_rfl) (by kernel_rfl) (fun _ _ _ h => h) (Or.inr ⟨by rfl, rfl⟩) hHeld ?_
            change wpAnyH _ _ _ _ _ _ _ (Act.put _ (some 89) _) _
            simp only [Act.put, List.setIfInBounds_toArray, List.set_cons_zero, List.set_cons_succ]
            refine wpAnyH_take (i := 11) (v := undef) rfl (by kernel_rfl) (by kernel_rfl) (by kernel_rfl) (fun _ _ _ h => h) (Or.inr ⟨by rfl, rfl⟩) hHeld ?_
            change wpAnyH _ _ _ _ _ _ _ (Act.put _ (some 90) _) _
            simp only [Act.put, List.setIfInBounds_toArray, List.set_cons_zero, List.set_cons_succ]
            refine wpAnyH_take (i := 12) (v := undef) rfl (by kernel_rfl) (by kernel_rfl) (by kernel_rfl) (fun _ _ _ h => h) (Or.inr ⟨by rfl, rfl⟩) hHeld ?_
            change wpAnyH _ _ _ _ _ _ _ (Act.put _ (some 91) _) _
            simp only [Act.put, List.setIfInBounds_toArray, List.set_cons_zero, List.set_cons_succ]
            refine wpAnyH_take (i := 13) (v := undef) rfl (by kernel_rfl) (by kernel_rfl) (by kernel_rfl) (fun _ _ _ h => h) (Or.inr ⟨by rfl, rfl⟩) hHeld ?_
            change wpAnyH _ _ _ _ _ _ _ (Act.put _ (some 92) _) _
            simp only [Act.put, List.setIfInBounds_toArray, List.set_cons_zero, List.set_cons_succ]
            refine wpAnyH_take (i := 14) (v := undef) rfl (by kernel_rfl) (by kernel_rfl) (by kernel_rfl) (fun _ _ _ h => h) (Or.inr ⟨by rfl, rfl⟩) hHeld ?_
            change wpAnyH _ _ _ _ _ _ _ (Act.put _ (some 93) _) _
            simp only [Act.put, List.setIfInBounds_toArray, List.set_cons_zero, List.set_cons_succ]
            refine wpAnyH_take (i := 15) (v := undef) rfl (by kernel_rfl) (by kernel_rfl) (by kernel_rfl) (fun _ _ _ h => h) (Or.inr ⟨by rfl, rfl⟩) hHeld ?_
            change wpAnyH _ _ _ _ _ _ _ (Act.put _ (some 94) _) _
            simp only [Act.put, List.setIfInBounds_toArray, List.set_cons_zero, List.set_cons_succ]
            refine wpAnyH_take (i := 16) (v := undef) rfl (by kernel_rfl) (by kernel_rfl) (by kernel_rfl) (fun _ _ _ h => h) (Or.inr ⟨by rfl, rfl⟩) hHeld ?_
            change wpAnyH _ _ _ _ _ _ _ (Act.put _ (some 95) _) _
            simp only [Act.put, List.setIfInBounds_toArray, List.set_cons_zero, List.set_cons_succ]
            refine wpAnyH_take (i := 17) (v := ?_) rfl (by kernel_rfl) (by kernel_rfl) (by kernel_rfl) (fun _ _ _ h => h) (Or.inl ⟨by rfl, ?_⟩) hHeld ?_
            rotate_left
            · intro u hSu
              (go_simp) <;> (with_reducible rfl)
            change wpAnyH _ _ _ _ _ _ _ (Act.put _ (some 96) _) _
            simp only [Act.put, List.setIfInBounds_toArray, List.set_cons_zero, List.set_cons_succ]
            refine wpAnyH_done (by kernel_rfl) ?_ _
            refine NoPanic.normal ?_
            obtain ⟨W8, hW8⟩ : ∃ W8, W8 = W7.drew := ⟨_, rfl⟩
            have HX : Hid (∀ u, Below W8.heap.size W8 u → Below W7.heap.size W7 u) := fun u hu => by rw [hW8] at hu; exact (Below.refl _ _).drew.trans hu
            have HW8 : Hid (W7.drew = W8) := hW8.symm
            clear hW8
            go_wp2
            rw [HW8.out]
            cases bt with
            | true =>
              have hs := HS12.out.1 rfl
              have ds : decide ((s2 : Int) < (s1 : Int)) = true := decide_eq_true (by omega)
              clear HS12 HAB2
              refine wp_region_noPanic ?_
              refine wp_region_held_drew (S := fun u => Below W8.heap.size W8 u) (by kernel_rfl) ?_ (fun hHeld => ?_)
              · exact (Below.refl _ _).drew
              refine wpAnyH_take (i := 0) (v := ?_) rfl (by kernel_rfl) (by kernel_rfl) (by kernel_rfl) (fun _ _ _ h => h) (Or.inl ⟨by rfl, ?_⟩) hHeld ?_
              rotate_left
              · intro u hSu
                (go_simp) <;> (with_reducible rfl)
              change wpAnyH _ _ _ _ _ _ _ (Act.put _ (some 97) _) _
              simp only [Act.put, List.setIfInBounds_toArray, List.set_cons_zero, List.set_cons_succ]
              refine wpAnyH_take (i := 1) (v := ?_) rfl (by kernel_rfl) (by kernel_rfl) (by kernel_rfl) (fun _ _ _ h => h) (Or.inl ⟨by rfl, ?_⟩) hHeld ?_
              rotate_left
              · intro u hSu
                (go_simp) <;> (with_reducible rfl)
              change wpAnyH _ _ _ _ _ _ _ (Act.put _ (some 98) _) _
              simp only [Act.put, List.setIfInBounds_toArray, List.set_cons_zero, List.set_cons_succ]
              refine wpAnyH_take (i := 2) (v := ?_) rfl (by kernel_rfl) (by kernel_rfl) (by kernel_rfl) (fun _ _ _ h => h) (Or.inl ⟨by rfl, ?_⟩) hHeld ?_
              rotate_left
              · intro u hSu
                obtain ⟨z0, z1, z2, z3⟩ := FZ.out u (HX.out _ hSu)
                (go_simp) <;> (with_reducible rfl)
              change wpAnyH _ _ _ _ _ _ _ (Act.put _ (some 99) _) _
              simp only [Act.put, List.setIfInBounds_toArray, List.set_cons_zero, List.set_cons_succ]
              refine wpAnyH_take (i := 4) (v := ?_) rfl (by kernel_rfl) (by kernel_rfl) (by kernel_rfl) (fun _ _ _ h => h) (Or.inl ⟨by rfl, ?_⟩) hHeld ?_
              rotate_left
              · intro u hSu
                (go_simp) <;> (with_reducible rfl)
              change wpAnyH _ _ _ _ _ _ _ (Act.put _ (some 101) _) _
              simp only [Act.put, List.setIfInBounds_toArray, List.set_cons_zero, List.set_cons_succ]
              refine wpAnyH_take (i := 5) (v := ?_) rfl (by kernel_rfl) (by kernel_rfl) (by kernel_rfl) (fun _ _ _ h => h) (Or.inl ⟨by rfl, ?_⟩) hHeld ?_
              rotate_left
              · intro u hSu
                obtain ⟨z0, z1, z2, z3⟩ := FZ.out u (HX.out _ hSu)
                (go_simp) <;> (with_reducible rfl)
              change wpAnyH _ _ _ _ _ _ _ (Act.put _ (some 102) _) _
              simp only [Act.put, List.setIfInBounds_toArray, List.set_cons_zero, List.set_cons_succ]
              refine wpAnyH_ready (rs := [3]) (by kernel_rfl) (by simp) ?_
              refine AllReadyH.cons rfl (fun K hK => ?_) AllReadyH.nil
              go_simp
              go_at_call 22
              refine (CS1.out _ (HSL.out _ (HX.out _ hHeld))).mono ?_
              rintro e y1 ⟨rfl, hby1⟩
              have By1 : Hid (Below W8.heap.size W8 y1) := hHeld.trans (hby1.mono hHeld.size); clear hby1
              refine hK.out _ _ ?_ (fun hHeld2 => ?_)
              · exact By1.out
              clear hK K hHeld
              have hHeld := hHeld2
              clear hHeld2
              refine wpAnyH_ready (rs := [6]) (by kernel_rfl) (by simp) ?_
              refine AllReadyH.cons rfl (fun K hK => ?_) AllReadyH.nil
              go_simp
              go_at_call 22
              refine (CS2.out _ (HSL.out _ (HX.out _ hHeld))).mono ?_
              rintro e y2 ⟨rfl, hby2⟩
              have By2 : Hid (Below W8.heap.size W8 y2) := hHeld.trans (hby2.mono hHeld.size); clear hby2
              refine hK.out _ _ ?_ (fun hHeld2 => ?_)
              · exact By2.out
              clear hK K hHeld
              have hHeld := hHeld2
              clear hHeld2
              refine wpAnyH_take (i := 7) (v := ?_) rfl (by kernel_rfl) (by kernel_rfl) (by kernel_rfl) (fun _ _ _ h => h) (Or.inl ⟨by rfl, ?_⟩) hHeld ?_
              rotate_left
              · intro u hSu
                (go_simp) <;> (with_reducible rfl)
              change wpAnyH _ _ _ _ _ _ _ (Act.put _ (some 104) _) _
              simp only [Act.put, List.setIfInBounds_toArray, List.set_cons_zero, List.set_cons_succ]
              refine wpAnyH_take (i := 8) (v := ?_) rfl (by kernel_rfl) (by kernel_rfl) (by kernel_rfl) (fun _ _ _ h => h) (Or.inl ⟨by rfl, ?_⟩) hHeld ?_
              rotate_left
              · intro u hSu
                (go_simp) <;> (with_reducible rfl)
              change wpAnyH _ _ _ _ _ _ _ (Act.put _ (some 105) _) _
              simp only [Act.put, List.setIfInBounds_toArray, List.set_cons_zero, List.set_cons_succ]
              refine wpAnyH_take (i := 9) (v := ?_) rfl (by kernel_rfl) (by kernel_rfl) (by kernel_rfl) (fun _ _ _ h => h) (Or.inl ⟨by rfl, ?_⟩) hHeld ?_
              rotate_left
              · intro u hSu
                (go_simp) <;> (with_reducible rfl)
              change wpAnyH _ _ _ _ _ _ _ (Act.put _ (some 106) _) _
              simp only [Act.put, List.setIfInBounds_toArray, List.set_cons_zero, List.set_cons_succ]
              refine wpAnyH_take (i := 10) (v := ?_) rfl (by kernel_rfl) (by kernel_rfl) (by kernel_rfl) (fun _ _ _ h => h) (Or.inl ⟨by rfl, ?_⟩) hHeld ?_
              rotate_left
              · intro u hSu
                (go_simp) <;> (with_reducible rfl)
              change wpAnyH _ _ _ _ _ _ _ (Act.put _ (some 107) _) _
              simp only [Act.put, List.setIfInBounds_toArray, List.set_cons_zero, List.set_cons_succ]
              refine wpAnyH_take (i := 11) (v := ?_) rfl (by kernel_rfl) (by kernel_rfl) (by kernel_rfl) (fun _ _ _ h => h) (Or.inl ⟨by rfl, ?_⟩) hHeld ?_
              rotate_left
              · intro u hSu
                (go_simp) <;> (with_reducible rfl)
              change wpAnyH _ _ _ _ _ _ _ (Act.put _ (some 108) _) _
              simp only [Act.put, List.setIfInBounds_toArray, List.set_cons_zero, List.set_cons_succ]
              refine wpAnyH_take (i := 12) (v := undef) rfl (by kernel_rfl) (by kernel_rfl) (by kernel_rfl) (fun _ _ _ h => h) (Or.inr ⟨by rfl, rfl⟩) hHeld ?_
              change wpAnyH _ _ _ _ _ _ _ (Act.put _ (some 109) _) _
              simp only [Act.put, List.setIfInBounds_toArray, List.set_cons_zero, List.set_cons_succ]
              refine wpAnyH_take (i := 13) (v := undef) rfl (by kernel_rfl) (by kernel_rfl) (by kernel_rfl) (fun _ _ _ h => h) (Or.inr ⟨by rfl, rfl⟩) hHeld ?_
              change wpAnyH _ _ _ _ _ _ _ (Act.put _ (some 110) _) _
              simp only [Act.put, List.setIfInBounds_toArray, List.set_cons_zero, List.set_cons_succ]
              refine wpAnyH_take (i := 14) (v := undef) rfl (by kernel_rfl) (by kernel_rfl) (by kernel_rfl) (fun _ _ _ h => h) (Or.inr ⟨by rfl, rfl⟩) hHeld ?_
              change wpAnyH _ _ _ _ _ _ _ (Act.put _ (some 111) _) _
              simp only [Act.put, List.setIfInBounds_toArray, List.set_cons_zero, List.set_cons_succ]
              refine wpAnyH_take (i := 15) (v := undef) rfl (by kernel_rfl) (by kernel_rfl) (by kernel_rfl) (fun _ _ _ h => h) (Or.inr ⟨by rfl, rfl⟩) hHeld ?_
              change wpAnyH _ _ _ _ _ _ _ (Act.put _ (some 112) _) _
              simp only [Act.put, List.setIfInBounds_toArray, List.set_cons_zero, List.set_cons_succ]
              refine wpAnyH_take (i := 16) (v := undef) rfl (by kernel_rfl) (by kernel_rfl) (by kernel_rfl) (fun _ _ _ h => h) (Or.inr ⟨by rfl, rfl⟩) hHeld ?_
              change wpAnyH _ _ _ _ _ _ _ (Act.put _ (some 113) _) _
              simp only [Act.put, List.setIfInBounds_toArray, List.set_cons_zero, List.set_cons_succ]
              refine wpAnyH_take (i := 17) (v := undef) rfl (by kernel_rfl) (by kernel_rfl) (by kernel_rfl) (fun _ _ _ h => h) (Or.inr ⟨by rfl, rfl⟩) hHeld ?_
              change wpAnyH _ _ _ _ _ _ _ (Act.put _ (some 114) _) _
              simp only [Act.put, List.setIfInBounds_toArray, List.set_cons_zero, List.set_cons_succ]
              refine wpAnyH_take (i := 18) (v := undef) rfl (by kernel_rfl) (by kernel_rfl) (by kernel_rfl) (fun _ _ _ h => h) (Or.inr ⟨by rfl, rfl⟩) hHeld ?_
              change wpAnyH _ _ _ _ _ _ _ (Act.put _ (some 115) _) _
              simp only [Act.put, List.setIfInBounds_toArray, List.set_cons_zero, List.set_cons_succ]
              refine wpAnyH_take (i := 19) (v := undef) rfl (by kernel_rfl) (by kernel_rfl) (by kernel_rfl) (fun _ _ _ h => h) (Or.inr ⟨by rfl, rfl⟩) hHeld ?_
              change wpAnyH _ _ _ _ _ _ _ (Act.put _ (some 116) _) _
              simp only [Act.put, List.setIfInBounds_toArray, List.set_cons_zero, List.set_cons_succ]
              refine wpAnyH_take (i := 20) (v := ?_) rfl (by kernel_rfl) (by kernel_rfl) (by kernel_rfl) (fun _ _ _ h => h) (Or.inl ⟨by rfl, ?_⟩) hHeld ?_
              rotate_left
              · intro u hSu
                (go_simp) <;> (with_reducible rfl)
              change wpAnyH _ _ _ _ _ _ _ (Act.put _ (some 117) _) _
              simp only [Act.put, List.setIfInBounds_toArray, List.set_cons_zero, List.set_cons_succ]
              refine wpAnyH_take (i := 21) (v := ?_) rfl (by kernel_rfl) (by kernel_rfl) (by kernel_rfl) (fun _ _ _ h => h) (Or.inl ⟨by rfl, ?_⟩) hHeld ?_
              rotate_left
              · intro u hSu
                (go_simp) <;> (with_reducible rfl)
              change wpAnyH _ _ _ _ _ _ _ (Act.put _ (some 118) _) _
              simp only [Act.put, List.setIfInBounds_toArray, List.set_cons_zero, List.set_cons_succ]
              refine wpAnyH_take (i := 22) (v := ?_) rfl (by kernel_rfl) (by kernel_rfl) (by kernel_rfl) (fun _ _ _ h => h) (Or.inl ⟨by rfl, ?_⟩) hHeld ?_
              rotate_left
              · intro u hSu
                (go_simp) <;> (with_reducible rfl)
              change wpAnyH _ _ _ _ _ _ _ (Act.put _ (some 119) _) _
              simp only [Act.put, List.setIfInBounds_toArray, List.set_cons_zero, List.set_cons_succ]
              refine wpAnyH_take (i := 23) (v := ?_) rfl (by kernel_rfl) (by kernel_rfl) (by kernel_rfl) (fun _ _ _ h => h) (Or.inl ⟨by rfl, ?_⟩) hHeld ?_
              rotate_left
              · intro u hSu
                (go_simp) <;> (with_reducible rfl)
              change wpAnyH _ _ _ _ _ _ _ (Act.put _ (some 120) _) _
              simp only [Act.put, List.setIfInBounds_toArray, List.set_cons_zero, List.set_cons_succ]
              refine wpAnyH_take (i := 24) (v := ?_) rfl (by kernel_rfl) (by kernel_rfl) (by kernel_rfl) (fun _ _ _ h => h) (Or.inl ⟨by rfl, ?_⟩) hHeld ?_
              rotate_left
              · intro u hSu
                (go_simp) <;> (with_reducible rfl)
              change wpAnyH _ _ _ _ _ _ _ (Act.put _ (some 121) _) _
              simp only [Act.put, List.setIfInBounds_toArray, List.set_cons_zero, List.set_cons_succ]
              refine wpAnyH_take (i := 25) (v := ?_) rfl (by kernel_rfl) (by kernel_rfl) (by kernel_rfl) (fun _ _ _ h => h) (Or.inl ⟨by rfl, ?_⟩) hHeld ?_
              rotate_left
              · intro u hSu
                (go_simp) <;> (with_reducible rfl)
              change wpAnyH _ _ _ _ _ _ _ (Act.put _ (some 122) _) _
              simp only [Act.put, List.setIfInBounds_toArray, List.set_cons_zero, List.set_cons_succ]
              refine wpAnyH_take (i := 26) (v := undef) rfl (by kernel_rfl) (by kernel_rfl) (by kernel_rfl) (fun _ _ _ h => h) (Or.inr ⟨by rfl, rfl⟩) hHeld ?_
              change wpAnyH _ _ _ _ _ _ _ (Act.put _ (some 123) _) _
              simp only [Act.put, List.setIfInBounds_toArray, List.set_cons_zero, List.set_cons_succ]
              refine wpAnyH_take (i := 27) (v := ?_) rfl (by kernel_rfl) (by kernel_rfl) (by kernel_rfl) (fun _ _ _ h => h) (Or.inl ⟨by rfl, ?_⟩) hHeld ?_
              rotate_left
              · intro u hSu
                (go_simp) <;> (with_reducible rfl)
              change wpAnyH _ _ _ _ _ _ _ (Act.put _ (some 124) _) _
              simp only [Act.put, List.setIfInBounds_toArray, List.set_cons_zero, List.set_cons_succ]
              refine wpAnyH_take (i := 28) (v := ?_) rfl (by kernel_rfl) (by kernel_rfl) (by kernel_rfl) (fun _ _ _ h => h) (Or.inl ⟨by rfl, ?_⟩) hHeld ?_
              rotate_left
              · intro u hSu
                (go_simp) <;> (with_reducible rfl)
              change wpAnyH _ _ _ _ _ _ _ (Act.put _ (some 125) _) _
              simp only [Act.put, List.setIfInBounds_toArray, List.set_cons_zero, List.set_cons_succ]
              refine wpAnyH_take (i := 29) (v := ?_) rfl (by kernel_rfl) (by kernel_rfl) (by kernel_rfl) (fun _ _ _ h => h) (Or.inl ⟨by rfl, ?_⟩) hHeld ?_
              rotate_left
              · intro u hSu
                (go_simp) <;> (with_reducible rfl)
              change wpAnyH _ _ _ _ _ _ _ (Act.put _ (some 6) _) _
              simp only [Act.put, List.setIfInBounds_toArray, List.set_cons_zero, List.set_cons_succ]
              refine wpAnyH_done (by kernel_rfl) ?_ _
              refine NoPanic.normal ?_
              go_wp2
              go_ret
              exact ⟨by first | rfl | simp, HBW0.out _ (H7.out.below.trans ((HX.out _ By2.out).mono H7.out.below.size))⟩
            | false =>
              have hs : ¬ s2 < s1 := fun h => by cases HS12.out.2 h
              have ds : decide ((s2 : Int) < (s1 : Int)) = false := decide_eq_false (by omega)
              obtain ⟨⟨e1, e2, e3, e4⟩, e5⟩ := HAB2.out rfl
              subst e1; subst e2; subst e3; subst e4; subst e5
              clear HS12 HAB2
              refine wp_region_noPanic ?_
              refine wp_region_held_drew (S := fun u => Below W8.heap.size W8 u) (by kernel_rfl) ?_ (fun hHeld => ?_)
              · exact (Below.refl _ _).drew
              refine wpAnyH_take (i := 0) (v := ?_) rfl (by kernel_rfl) (by kernel_rfl) (by kernel_rfl) (fun _ _ _ h => h) (Or.inl ⟨by rfl, ?_⟩) hHeld ?_
              rotate_left
              · intro u hSu
                (go_simp) <;> (with_reducible rfl)
              change wpAnyH _ _ _ _ _ _ _ (Act.put _ (some 97) _) _
              simp only [Act.put, List.setIfInBounds_toArray, List.set_cons_zero, List.set_cons_succ]
              refine wpAnyH_take (i := 1) (v := ?_) rfl (by kernel_rfl) (by kernel_rfl) (by kernel_rfl) (fun _ _ _ h => h) (Or.inl ⟨by rfl, ?_⟩) hHeld ?_
              rotate_left
              · intro u hSu
                (go_simp) <;> (with_reducible rfl)
              change wpAnyH _ _ _ _ _ _ _ (Act.put _ (some 98) _) _
              simp only [Act.put, List.setIfInBounds_toArray, List.set_cons_zero, List.set_cons_succ]
              refine wpAnyH_take (i := 2) (v := ?_) rfl (by kernel_rfl) (by kernel_rfl) (by kernel_rfl) (fun _ _ _ h => h) (Or.inl ⟨by rfl, ?_⟩) hHeld ?_
              rotate_left
              · intro u hSu
                obtain ⟨z0, z1, z2, z3⟩ := FZ.out u (HX.out _ hSu)
                (go_simp) <;> (with_reducible rfl)
              change wpAnyH _ _ _ _ _ _ _ (Act.put _ (some 99) _) _
              simp only [Act.put, List.setIfInBounds_toArray, List.set_cons_zero, List.set_cons_succ]
              refine wpAnyH_take (i := 4) (v := ?_) rfl (by kernel_rfl) (by kernel_rfl) (by kernel_rfl) (fun _ _ _ h => h) (Or.inl ⟨by rfl, ?_⟩) hHeld ?_
              rotate_left
              · intro u hSu
                (go_simp) <;> (with_reducible rfl)
              change wpAnyH _ _ _ _ _ _ _ (Act.put _ (some 101) _) _
              simp only [Act.put, List.setIfInBounds_toArray, List.set_cons_zero, List.set_cons_succ]
              refine wpAnyH_take (i := 5) (v := ?_) rfl (by kernel_rfl) (by kernel_rfl) (by kernel_rfl) (fun _ _ _ h => h) (Or.inl ⟨by rfl, ?_⟩) hHeld ?_
              rotate_left
              · intro u hSu
                obtain ⟨z0, z1, z2, z3⟩ := FZ.out u (HX.out _ hSu)
                (go_simp) <;> (with_reducible rfl)
              change wpAnyH _ _ _ _ _ _ _ (Act.put _ (some 102) _) _
              simp only [Act.put, List.setIfInBounds_toArray, List.set_cons_zero, List.set_cons_succ]
              refine wpAnyH_ready (rs := [3]) (by kernel_rfl) (by simp) ?_
              refine AllReadyH.cons rfl (fun K hK => ?_) AllReadyH.nil
              go_simp
              go_at_call 22
              refine (CS1.out _ (HSL.out _ (HX.out _ hHeld))).mono ?_
              rintro e y1 ⟨rfl, hby1⟩
              have By1 : Hid (Below W8.heap.size W8 y1) := hHeld.trans (hby1.mono hHeld.size); clear hby1
              refine hK.out _ _ ?_ (fun hHeld2 => ?_)
              · exact By1.out
              clear hK K hHeld
              have hHeld := hHeld2
              clear hHeld2
              refine wpAnyH_ready (rs := [6]) (by kernel_rfl) (by simp) ?_
              refine AllReadyH.cons rfl (fun K hK => ?_) AllReadyH.nil
              go_simp
              go_at_call 22
              refine (CS2.out _ (HSL.out _ (HX.out _ hHeld))).mono ?_
              rintro e y2 ⟨rfl, hby2⟩
              have By2 : Hid (Below W8.heap.size W8 y2) := hHeld.trans (hby2.mono hHeld.size); clear hby2
              refine hK.out _ _ ?_ (fun hHeld2 => ?_)
              · exact By2.out
              clear hK K hHeld
              have hHeld := hHeld2
              clear hHeld2
              refine wpAnyH_take (i := 7) (v := ?_) rfl (by kernel_rfl) (by kernel_rfl) (by kernel_rfl) (fun _ _ _ h => h) (Or.inl ⟨by rfl, ?_⟩) hHeld ?_
              rotate_left
              · intro u hSu
                (go_simp) <;> (with_reducible rfl)
              change wpAnyH _ _ _ _ _ _ _ (Act.put _ (some 104) _) _
              simp only [Act.put, List.setIfInBounds_toArray, List.set_cons_zero, List.set_cons_succ]
              refine wpAnyH_take (i := 8) (v := ?_) rfl (by kernel_rfl) (by kernel_rfl) (by kernel_rfl) (fun _ _ _ h => h) (Or.inl ⟨by rfl, ?_⟩) hHeld ?_
              rotate_left
              · intro u hSu
                (go_simp) <;> (with_reducible rfl)
              change wpAnyH _ _ _ _ _ _ _ (Act.put _ (some 105) _) _
              simp only [Act.put, List.setIfInBounds_toArray, List.set_cons_zero, List.set_cons_succ]
              refine wpAnyH_take (i := 9) (v := ?_) rfl (by kernel_rfl) (by kernel_rfl) (by kernel_rfl) (fun _ _ _ h => h) (Or.inl ⟨by rfl, ?_⟩) hHeld ?_
              rotate_left
              · intro u hSu
                (go_simp) <;> (with_reducible rfl)
              change wpAnyH _ _ _ _ _ _ _ (Act.put _ (some 106) _) _
              simp only [Act.put, List.setIfInBounds_toArray, List.set_cons_zero, List.set_cons_succ]
              refine wpAnyH_take (i := 10) (v := ?_) rfl (by kernel_rfl) (by kernel_rfl) (by kernel_rfl) (fun _ _ _ h => h) (Or.inl ⟨by rfl, ?_⟩) hHeld ?_
              rotate_left
              · intro u hSu
                (go_simp) <;> (with_reducible rfl)
              change wpAnyH _ _ _ _ _ _ _ (Act.put _ (some 107) _) _
              simp only [Act.put, List.setIfInBounds_toArray, List.set_cons_zero, List.set_cons_succ]
              refine wpAnyH_take (i := 11) (v := ?_) rfl (by kernel_rfl) (by kernel_rfl) (by kernel_rfl) (fun _ _ _ h => h) (Or.inl ⟨by rfl, ?_⟩) hHeld ?_
              rotate_left
              · intro u hSu
                (go_simp) <;> (with_reducible rfl)
              change wpAnyH _ _ _ _ _ _ _ (Act.put _ (some 108) _) _
              simp only [Act.put, List.setIfInBounds_toArray, List.set_cons_zero, List.set_cons_succ]
              refine wpAnyH_take (i := 12) (v := ?_) rfl (by kernel_rfl) (by kernel_rfl) (by kernel_rfl) (fun _ _ _ h => h) (Or.inl ⟨by rfl, ?_⟩) hHeld ?_
              rotate_left
              · intro u hSu
                (go_simp) <;> (with_reducible rfl)
              change wpAnyH _ _ _ _ _ _ _ (Act.put _ (some 109) _) _
              simp only [Act.put, List.setIfInBounds_toArray, List.set_cons_zero, List.set_cons_succ]
              refine wpAnyH_take (i := 13) (v := ?_) rfl (by kernel_rfl) (by kernel_rfl) (by kernel_rfl) (fun _ _ _ h => h) (Or.inl ⟨by rfl, ?_⟩) hHeld ?_
              rotate_left
              · intro u hSu
                (go_simp) <;> (with_reducible rfl)
              change wpAnyH _ _ _ _ _ _ _ (Act.put _ (some 110) _) _
              simp only [Act.put, List.setIfInBounds_toArray, List.set_cons_zero, List.set_cons_succ]
              refine wpAnyH_take (i := 14) (v := ?_) rfl (by kernel_rfl) (by kernel_rfl) (by kernel_rfl) (fun _ _ _ h => h) (Or.inl ⟨by rfl, ?_⟩) hHeld ?_
              rotate_left
              · intro u hSu
                (go_simp) <;> (with_reducible rfl)
              change wpAnyH _ _ _ _ _ _ _ (Act.put _ (some 111) _) _
              simp only [Act.put, List.setIfInBounds_toArray, List.set_cons_zero, List.set_cons_succ]
              refine wpAnyH_take (i := 15) (v := ?_) rfl (by kernel_rfl) (by kernel_rfl) (by kernel_rfl) (fun _ _ _ h => h) (Or.inl ⟨by rfl, ?_⟩) hHeld ?_
              rotate_left
              · intro u hSu
                (go_simp) <;> (with_reducible rfl)
              change wpAnyH _ _ _ _ _ _ _ (Act.put _ (some 112) _) _
              simp only [Act.put, List.setIfInBounds_toArray, List.set_cons_zero, List.set_cons_succ]
              refine wpAnyH_take (i := 16) (v := ?_) rfl (by kernel_rfl) (by kernel_rfl) (by kernel_rfl) (fun _ _ _ h => h) (Or.inl ⟨by rfl, ?_⟩) hHeld ?_
              rotate_left
              · intro u hSu
                obtain ⟨e0, e1, e2, e3⟩ := (E7.out.past (HX.out _ hSu))
                (go_simp) <;> (with_reducible rfl)
              change wpAnyH _ _ _ _ _ _ _ (Act.put _ (some 113) _) _
              simp only [Act.put, List.setIfInBounds_toArray, List.set_cons_zero, List.set_cons_succ]
              refine wpAnyH_take (i := 17) (v := ?_) rfl (by kernel_rfl) (by kernel_rfl) (by kernel_rfl) (fun _ _ _ h => h) (Or.inl ⟨by rfl, ?_⟩) hHeld ?_
              rotate_left
              · intro u hSu
                obtain ⟨e0, e1, e2, e3⟩ := (F7.out.past (HX.out _ hSu))
                (go_simp) <;> (with_reducible rfl)
              change wpAnyH _ _ _ _ _ _ _ (Act.put _ (some 114) _) _
              simp only [Act.put, List.setIfInBounds_toArray, List.set_cons_zero, List.set_cons_succ]
              refine wpAnyH_take (i := 18) (v := ?_) rfl (by kernel_rfl) (by kernel_rfl) (by kernel_rfl) (fun _ _ _ h => h) (Or.inl ⟨by rfl, ?_⟩) hHeld ?_
              rotate_left
              · intro u hSu
                (go_simp) <;> (with_reducible rfl)
              change wpAnyH _ _ _ _ _ _ _ (Act.put _ (some 115) _) _
              simp only [Act.put, List.setIfInBounds_toArray, List.set_cons_zero, List.set_cons_succ]
              refine wpAnyH_take (i := 19) (v := ?_) rfl (by kernel_rfl) (by kernel_rfl) (by kernel_rfl) (fun _ _ _ h => h) (Or.inl ⟨by rfl, ?_⟩) hHeld ?_
              rotate_left
              · intro u hSu
                (go_simp) <;> (with_reducible rfl)
              change wpAnyH _ _ _ _ _ _ _ (Act.put _ (some 116) _) _
              simp only [Act.put, List.setIfInBounds_toArray, List.set_cons_zero, List.set_cons_succ]
              refine wpAnyH_take (i := 20) (v := ?_) rfl (by kernel_rfl) (by kernel_rfl) (by kernel_rfl) (fun _ _ _ h => h) (Or.inl ⟨by rfl, ?_⟩) hHeld ?_
              rotate_left
              · intro u hSu
                (go_simp) <;> (with_reducible rfl)
              change wpAnyH _ _ _ _ _ _ _ (Act.put _ (some 117) _) _
              simp only [Act.put, List.setIfInBounds_toArray, List.set_cons_zero, List.set_cons_succ]
              refine wpAnyH_take (i := 21) (v := ?_) rfl (by kernel_rfl) (by kernel_rfl) (by kernel_rfl) (fun _ _ _ h => h) (Or.inl ⟨by rfl, ?_⟩) hHeld ?_
              rotate_left
              · intro u hSu
                (go_simp) <;> (with_reducible rfl)
              change wpAnyH _ _ _ _ _ _ _ (Act.put _ (some 118) _) _
              simp only [Act.put, List.setIfInBounds_toArray, List.set_cons_zero, List.set_cons_succ]
              refine wpAnyH_take (i := 22) (v := ?_) rfl (by kernel_rfl) (by kernel_rfl) (by kernel_rfl) (fun _ _ _ h => h) (Or.inl ⟨by rfl, ?_⟩) hHeld ?_
              rotate_left
              · intro u hSu
                (go_simp) <;> (with_reducible rfl)
              change wpAnyH _ _ _ _ _ _ _ (Act.put _ (some 119) _) _
              simp only [Act.put, List.setIfInBounds_toArray, List.set_cons_zero, List.set_cons_succ]
              refine wpAnyH_take (i := 23) (v := ?_) rfl (by kernel_rfl) (by kernel_rfl) (by kernel_rfl) (fun _ _ _ h => h) (Or.inl ⟨by rfl, ?_⟩) hHeld ?_
              rotate_left
              · intro u hSu
                (go_simp) <;> (with_reducible rfl)
              change wpAnyH _ _ _ _ _ _ _ (Act.put _ (some 120) _) _
              simp only [Act.put, List.setIfInBounds_toArray, List.set_cons_zero, List.set_cons_succ]
              refine wpAnyH_take (i := 24) (v := ?_) rfl (by kernel_rfl) (by kernel_rfl) (by kernel_rfl) (fun _ _ _ h => h) (Or.inl ⟨by rfl, ?_⟩) hHeld ?_
              rotate_left
              · intro u hSu
                (go_simp) <;> (with_reducible rfl)
              change wpAnyH _ _ _ _ _ _ _ (Act.put _ (some 121) _) _
              simp only [Act.put, List.setIfInBounds_toArray, List.set_cons_zero, List.set_cons_succ]
              refine wpAnyH_take (i := 25) (v := ?_) rfl (by kernel_rfl) (by kernel_rfl) (by kernel_rfl) (fun _ _ _ h => h) (Or.inl ⟨by rfl, ?_⟩) hHeld ?_
              rotate_left
              · intro u hSu
                (go_simp) <;> (with_reducible rfl)
              change wpAnyH _ _ _ _ _ _ _ (Act.put _ (some 122) _) _
              simp only [Act.put, List.setIfInBounds_toArray, List.set_cons_zero, List.set_cons_succ]
              refine wpAnyH_take (i := 26) (v := undef) rfl (by kernel_rfl) (by kernel_rfl) (by kernel_rfl) (fun _ _ _ h => h) (Or.inr ⟨by rfl, rfl⟩) hHeld ?_
              change wpAnyH _ _ _ _ _ _ _ (Act.put _ (some 123) _) _
              simp only [Act.put, List.setIfInBounds_toArray, List.set_cons_zero, List.set_cons_succ]
              refine wpAnyH_take (i := 27) (v := ?_) rfl (by kernel_rfl) (by kernel_rfl) (by kernel_rfl) (fun _ _ _ h => h) (Or.inl ⟨by rfl, ?_⟩) hHeld ?_
              rotate_left
              · intro u hSu
                (go_simp) <;> (with_reducible rfl)
              change wpAnyH _ _ _ _ _ _ _ (Act.put _ (some 124) _) _
              simp only [Act.put, List.setIfInBounds_toArray, List.set_cons_zero, List.set_cons_succ]
              refine wpAnyH_take (i := 28) (v := ?_) rfl (by kernel_rfl) (by kernel_rfl) (by kernel_rfl) (fun _ _ _ h => h) (Or.inl ⟨by rfl, ?_⟩) hHeld ?_
              rotate_left
              · intro u hSu
                (go_simp) <;> (with_reducible rfl)
              change wpAnyH _ _ _ _ _ _ _ (Act.put _ (some 125) _) _
              simp only [Act.put, List.setIfInBounds_toArray, List.set_cons_zero, List.set_cons_succ]
              refine wpAnyH_take (i := 29) (v := ?_) rfl (by kernel_rfl) (by kernel_rfl) (by kernel_rfl) (fun _ _ _ h => h) (Or.inl ⟨by rfl, ?_⟩) hHeld ?_
              rotate_left
              · intro u hSu
                (go_simp) <;> (with_reducible rfl)
              change wpAnyH _ _ _ _ _ _ _ (Act.put _ (some 6) _) _
              simp only [Act.put, List.setIfInBounds_toArray, List.set_cons_zero, List.set_cons_succ]
              refine wpAnyH_done (by kernel_rfl) ?_ _
              refine NoPanic.normal ?_
              go_wp2
              go_ret
              exact ⟨by first | rfl | simp, HBW0.out _ (H7.out.below.trans ((HX.out _ By2.out).mono H7.out.below.size))⟩

set_option maxRecDepth 100000 in
theorem lifted (os : Os) (started : os.Started) (H : Type) (enc : TypeId × Value → H) :
    ReturnsInHanded {} Try.checked os 7 .any (Rows.chainSeesSpec.pre6 enc Try.prog Try.f7 Rows.chainSeesRow.domain false) (Rows.chainSeesSpec.post enc Try.prog Try.f7 false true false false) := by
  refine returnsInHanded_of_change (C := Try.checked) own started (by kernel_rfl) Try.func7
    (ChangeSpec.witness6 (enc := enc) (C := Try.checked) false ⟨#[], #[.slice none 0 0, .agg #[.int .i64 0, .int .u8 0], .agg #[.int .i64 0, .int .u8 0]], []⟩ 8 (by kernel_rfl) (by kernel_rfl) (by kernel_rfl) (by kernel_rfl)) ?_
  intro W base args ds gs before hval0 hW hcnd _
  have hval : ∀ (j : Nat) t v, Try.f7.params[j]? = some t → args[j]? = some v → Value.okWide Try.prog W .any base t v := hval0
  have hW' := hW
  obtain ⟨p, q, hA0, hV, rfl, hfz, hnd⟩ := hW
  have hA : DataW.TrodAll enc Try.prog W 0 (fun _ => true) true Try.f7.params.toList args.toList ds p := hA0
  rw [Try.params7] at hA hval
  obtain ⟨v0, vs0, d0, ds0, p0, q0, hargs, rfl, rfl, h0, r0⟩ := trodAll_cons hA
  obtain ⟨v1, vs1, d1, ds1, p1, q1, rfl, rfl, rfl, h1, r1⟩ := trodAll_cons r0
  obtain ⟨v2, vs2, d2, ds2, p2, q2, rfl, rfl, rfl, h2, r2⟩ := trodAll_cons r1
  obtain ⟨rfl, rfl, rfl⟩ := trodAll_nil r2
  obtain rfl : args = #[v0, v1, v2] := by cases args; simp_all
  obtain ⟨rfl, rfl⟩ := trodVars_none hV
  obtain ⟨a0, len0, cap0, rfl⟩ := okWide_slice Try.underlying34 (hval 0 34 v0 rfl rfl)
  have k0 := h0
  have lt0 : ∀ x ∈ p0, x.block < W.heap.size := by obtain ⟨m, hm⟩ := k0; exact DataW.trod_lt m _ _ _ hm
  obtain ⟨z0, l0, w0⟩ : ∃ xs : List Ver, xs.length = len0 ∧ CVersOf W a0 cap0 xs := by
    obtain ⟨fuel, hf⟩ := h0
    exact vers_open Try.underlying34 Try.underlying31 Try.underlying28 Try.underlying2 Try.underlying5 Try.underlying9 Try.underlying4 rfl rfl rfl rfl rfl (by kernel_rfl) (by kernel_rfl) (by kernel_rfl) (by kernel_rfl) (by kernel_rfl) (by kernel_rfl) hf
  have k1 := h1
  have lt1 : ∀ x ∈ p1, x.block < W.heap.size := by obtain ⟨m, hm⟩ := k1; exact DataW.trod_lt m _ _ _ hm
  obtain ⟨a1, b1, rfl, w1, x1⟩ := struct2_open Try.underlying28 Try.underlying2 Try.underlying5 rfl rfl (by kernel_rfl) (by kernel_rfl) (by kernel_rfl) (hval 1 28 v1 rfl rfl) h1
  have k2 := h2
  have lt2 : ∀ x ∈ p2, x.block < W.heap.size := by obtain ⟨m, hm⟩ := k2; exact DataW.trod_lt m _ _ _ hm
  obtain ⟨a2, b2, rfl, w2, x2⟩ := struct2_open Try.underlying28 Try.underlying2 Try.underlying5 rfl rfl (by kernel_rfl) (by kernel_rfl) (by kernel_rfl) (hval 2 28 v2 rfl rfl) h2
  clear hA0 hval0
  refine (walk a0 len0 cap0 z0 a1 b1 a2 b2 W l0 w0 w1 x1 w2 x2).mono fun e W' ⟨he, bel⟩ => ?_
  subst he
  exact ⟨_, rfl, _, _, _, [], _, [], hW', trodAll_mk1 (shut_bool Try.underlying4 _), (trodAll_cons_mk (Below.trod laidOut (by kernel_rfl) (of_decide_eq_true (by kernel_rfl)) k0 bel lt0) (trodAll_cons_mk (Below.trod laidOut (by kernel_rfl) (of_decide_eq_true (by kernel_rfl)) k1 bel lt1) (trodAll_cons_mk (Below.trod laidOut (by kernel_rfl) (of_decide_eq_true (by kernel_rfl)) k2 bel lt2) trodAll_mk0))), rfl, bel.frame _, fun h => by cases h⟩

theorem over : Rows.chainSeesRow.holds Try.pinned (OpenSpec.ofChange Rows.chainSeesSpec) :=
  OpenClaim.holds_of_wide 7 Try.f7 rfl rfl rfl rfl rfl rfl rfl ⟨rfl, rfl, rfl, rfl, rfl⟩ rfl rfl rfl rfl rfl (by kernel_rfl) Try.func7 (by kernel_rfl)
    (of_decide_eq_true (by kernel_rfl)) (by unfold Func.isWrapper; first | (rw [if_pos (by decide +kernel)]; kernel_rfl) | (rw [if_neg (by decide +kernel)]; exact ⟨rfl, rfl⟩))
    (fun os started H enc _ => lifted os started H enc)
theorem proved : Rows.ChainSeesSaid := over
#print axioms proved
end Go.Proofs.Ytimiciellbdphaa.chainSees
namespace Go.Proofs.Ytimiciellbdphaa
/-- ChainSees, as given. -/
theorem chainSees_holds : Rows.ChainSeesSaid := chainSees.proved
end Go.Proofs.Ytimiciellbdphaa
