/-
  StoreAll: writes are applied all or none, what is refused changes nothing, for every list of acts, every stamp, every list of writes (of more than 20 acts, of more than 20 writes in one, of values of more than 250 bytes the statement asks nothing).
-/
import Derived.Test.YtfaojmognbgnfaaRows
import Derived.Test.YtfaojmognbgnfaaStoL5
import Derived.Test.YtfaojmognbgnfaaSActs
import Derived.Test.YtfaojmognbgnfaaPairOpen
import Derived.WalkKit
import Derived.ProofKit
import Derived.OpenShut
import Derived.ShutString
import Derived.ChangeOld
import Derived.Below
import Derived.Carry
namespace Go.Proofs.Ytfaojmognbgnfaa.storeAll
open Go.ChangeShapes Go.WideShapes Go.ChangeAt Go.RowKit
open Go.ChangeMaps (open_string shut_string)
set_option linter.unusedVariables false

theorem own : ownKnob Try.prog.godebug = none := by kernel_rfl
theorem laidOut : laidOutB Try.prog = true := by kernel_rfl
/-- A slice of integers that came in: nil, or a row of 'cap' cells, of which the first 'len' are its elements. -/
def IsRow (k : IntKind) (w : World) (a : Option Addr) (len cap : Nat) (zs : List Int) : Prop :=
  (a = none ∧ len = 0 ∧ cap = 0 ∧ zs = []) ∨
  ∃ x, a = some x ∧ len ≤ cap ∧ cap ≤ maxLen ∧ zs.length = cap ∧ (∀ i, i < zs.length → w.cell? (x.add i) = some (.int k (zs.getD i 0))) ∧ ∀ n ∈ zs, (Lit.int k n).wf = true

set_option maxRecDepth 20000 in
set_option maxHeartbeats 16000000 in
theorem walk (a0 : Option Addr) (len0 cap0 : Nat) (z0 : List SAct) (a1 b1 : Int) (a2 : Option Addr) (len2 cap2 : Nat) (z2 : List Wrt) (w : World) (l0 : z0.length = len0) (w0 : SActsOf w a0 cap0 z0) (w1 : (Lit.int .i64 a1).wf = true) (x1 : (Lit.int .u8 b1).wf = true) (l2 : z2.length = len2) (w2 : WrtsOf w a2 cap2 z2) :
    Calls Try.prog 4 #[.slice a0 len0 cap0, .agg #[.int .i64 a1, .int .u8 b1], .slice a2 len2 cap2] w fun e w' => e = .returned (.bool true) ∧ Below w.heap.size w w' := by
  have by1 := bounds_i64 w1
  have by1n := bounds_u8 x1
  have AW : Hid (∀ u, Calls Try.prog 8 #[] u fun e w' => e = .returned (.bool true) ∧ Below u.heap.size u w') := fun u => lawake_any u
  have HL : Hid (z0.length = len0) := l0
  have HA : Hid (SActsOf w a0 cap0 z0) := w0
  have HL2 : Hid (z2.length = len2) := l2
  have HA2 : Hid (WrtsAt w a2 z2) := w2.at_
  have hcap : len0 ≤ cap0 := by rw [← l0]; exact w0.room
  have hcap2 : len2 ≤ cap2 := by rw [← l2]; exact w2.room
  have hfew2 : len2 ≤ 9223372036854775807 := by rw [← l2]; exact w2.few
  obtain ⟨W0, hW0⟩ : ∃ W0, W0 = w.alloc (.cells #[.int .i64 a1, .int .u8 b1] 28) := ⟨_, rfl⟩
  have HW0 : Hid (w.alloc (.cells #[.int .i64 a1, .int .u8 b1] 28) = W0) := hW0.symm
  have HB0 : Hid (Below w.heap.size w W0) := by rw [hW0]; exact (Below.refl _ _).alloc (Nat.le_refl _) _
  have HBU0 : Hid (∀ u, Below W0.heap.size W0 u → Below w.heap.size w u) := fun u hb => HB0.out.trans (hb.mono HB0.out.size)
  have HBX : Hid (W0.cell? ⟨w.heap.size, 0, none⟩ = some (.int .i64 a1) ∧ W0.cell? ⟨w.heap.size, 1, none⟩ = some (.int .u8 b1)) := by
    have f0 := range_made w [.int .i64 a1, .int .u8 b1] 28 0 _ rfl
    have f1 := range_made w [.int .i64 a1, .int .u8 b1] 28 1 _ rfl
    rw [hW0]
    exact ⟨f0, f1⟩
  have CLB0 : Hid (∀ u, Below w.heap.size w u → Calls Try.prog 18 #[.slice a2 len2 cap2] u fun e w' => e = .returned (.bool (longW z2)) ∧ w' = u) := fun u hb => llong_any a2 len2 cap2 z2 u l2 hcap2 hfew2 (w2.at_.past hb)
  have CN : Hid (∀ u, Below W0.heap.size W0 u → Calls Try.prog 9 #[] u fun e w' => ∃ p, e = .returned (.pointer (some ⟨p, 0, none⟩)) ∧ StX W0 w' p []) := fun u hb => (xnew_any u).mono fun e w' ⟨p, h1, h2⟩ => ⟨p, h1, h2.to hb⟩
  obtain ⟨lb, hlb⟩ : ∃ b, b = longW z2 := ⟨_, rfl⟩
  have CLB : Hid (∀ u, Below w.heap.size w u → Calls Try.prog 18 #[.slice a2 len2 cap2] u fun e w' => e = .returned (.bool lb) ∧ w' = u) := by rw [hlb]; exact CLB0
  have HLB : Hid (lb = false → len2 ≤ 20) := fun h => by
    rw [hlb] at h
    unfold longW at h
    simp only [Bool.or_eq_false_iff, decide_eq_false_iff_not, HL2.out] at h
    omega
  clear w0 w1 w2 x1 l0 l2 hW0 CLB0 hlb
  by_cases ha : 20 < len0
  · have ba : (20 : Int) < (len0 : Int) := by omega
    go_enter Try.func4, Try.ntmps4
    go_wp2_with (first | (go_at_call 8; refine (AW.out _).mono ?_; rintro e v1 ⟨rfl, hb1⟩; rw [HW0.out] at hb1; have B1 : Hid (Below w.heap.size w v1) := HB0.out.trans (hb1.mono HB0.out.size); clear hb1))
    go_ret
    exact ⟨rfl, B1.out⟩
  · have ba : ¬ (20 : Int) < (len0 : Int) := by omega
    by_cases hlg : lb = true
    · subst hlg
      go_enter Try.func4, Try.ntmps4
      go_wp2_with (first | (go_at_call 8; refine (AW.out _).mono ?_; rintro e v1 ⟨rfl, hb1⟩; rw [HW0.out] at hb1; have B1 : Hid (Below w.heap.size w v1) := HB0.out.trans (hb1.mono HB0.out.size); clear hb1) | (have hgo := B1.out; clear hgo; go_at_call 18; refine (CLB.out _ (B1.out)).mono ?_; rintro e v1b ⟨rfl, rfl⟩))
      go_ret
      exact ⟨rfl, B1.out⟩
    · obtain rfl : lb = false := by simpa using hlg
      go_enter Try.func4, Try.ntmps4
      go_wp2_with (first | (go_at_call 8; refine (AW.out _).mono ?_; rintro e v1 ⟨rfl, hb1⟩; rw [HW0.out] at hb1; have B1 : Hid (Below W0.heap.size W0 v1) := hb1; clear hb1) | (have hgo := B1.out; clear hgo; go_at_call 18; refine (CLB.out _ (HBU0.out _ B1.out)).mono ?_; rintro e v1b ⟨rfl, rfl⟩) | (have hgo := B1.out; clear hgo; go_at_call 9; refine (CN.out _ B1.out).mono ?_; rintro e v2 ⟨p, rfl, h2⟩; have H2 : Hid (StX W0 v2 p []) := h2; clear h2 B1))
      clear CN AW
      go_loopw [8] (fun iv wr => ∃ i : Nat, iv = .int .i64 i ∧ i ≤ len0 ∧ Hid (StX W0 wr p (appsV (z0.take i)))) (fun iv _ => len0 - (intOf iv).toNat)
      case atStart => exact ⟨0, rfl, Nat.zero_le _, by rw [List.take_zero]; exact H2⟩
      case round =>
        obtain ⟨i, rfl, hi, HC⟩ := hrel
        have h0 : (0 : Int) ≤ (i : Int) := by omega
        have HBW : Hid (Below w.heap.size w wr) := HB0.out.trans (HC.out.below.mono HB0.out.size)
        by_cases hlt : i < len0
        · have h1 : (i : Int) < (len0 : Int) := by omega
          obtain ⟨x, hx⟩ : ∃ x, z0[i]? = some x := ⟨_, List.getElem?_eq_getElem (by rw [HL.out]; exact hlt)⟩
          obtain ⟨b, off, rfl, hax, hok⟩ := HA.out.act hx
          obtain ⟨q0, q1, q2, q3⟩ := hax.past HBW.out
          have HAX : Hid (SActAt wr b (off + i * 4) x) := hax.past HBW.out
          obtain ⟨N, hN⟩ : ∃ N, N = x.l.length := ⟨_, rfl⟩
          obtain ⟨t, ht⟩ : ∃ t, t = x.t := ⟨_, rfl⟩
          obtain ⟨n, hn⟩ : ∃ t, t = x.n := ⟨_, rfl⟩
          obtain ⟨xa, hxa⟩ : ∃ t, t = x.a := ⟨_, rfl⟩
          obtain ⟨xc, hxc⟩ : ∃ t, t = x.cap := ⟨_, rfl⟩
          rw [← ht] at q1
          rw [← hn] at q2
          rw [← hN, ← hxa, ← hxc] at q3
          have CLG : Hid (Calls Try.prog 18 #[.slice xa N xc] wr fun e w' => e = .returned (.bool (longW x.l)) ∧ w' = wr) := by rw [hxa, hN, hxc]; exact llong_any x.a x.l.length x.cap x.l wr rfl hok.wr.room hok.wr.few (hok.wr.at_.past HBW.out)
          obtain ⟨lg, hlg⟩ : ∃ g, g = longW x.l := ⟨_, rfl⟩
          rw [← hlg] at CLG
          cases lg with
          | true =>
            clear hok hax HAX ht hn hN hxa hxc hlg hx
            go_wp2_with (go_at_call 18; refine CLG.out.mono ?_; rintro e v3 ⟨rfl, rfl⟩)
            go_ret
            exact ⟨rfl, HBW.out⟩
          | false =>
            have hN20 : N ≤ 20 := by
              have h9 : longW x.l = false := hlg.symm
              unfold longW at h9
              simp only [Bool.or_eq_false_iff, decide_eq_false_iff_not] at h9
              omega
            have HQ : Hid (∀ u, Below wr.heap.size wr u → u.cell? ⟨b, off + i * 4 + 1, none⟩ = some (.int .i64 t) ∧ u.cell? ⟨b, off + i * 4 + 2, none⟩ = some (.int .u8 n) ∧ u.cell? ⟨b, off + i * 4 + 3, none⟩ = some (.slice xa N xc)) := fun u hb => by
              obtain ⟨_, r1, r2, r3⟩ := HAX.out.past hb
              rw [ht, hn, hN, hxa, hxc]
              exact ⟨r1, r2, r3⟩
            have HT : Hid (appsV (z0.take (i + 1)) = (applyV (appsV (z0.take i)) x.t x.n x.l).2) := apps_next hx
            have PU : Hid (∀ u, Below wr.heap.size wr u → Calls Try.prog 10 #[.pointer (some ⟨p, 0, none⟩), .agg #[.int .i64 t, .int .u8 n], .slice xa N xc] u fun e w' => ∃ r, e = .returned (.int .i64 r) ∧ StX W0 w' p (appsV (z0.take (i + 1)))) := fun u hb => by
              rw [HT.out, ht, hn, hxa, hN, hxc]
              exact (xapply_in (HC.out.past hb) x.t x.n hok.n x.a x.l.length x.cap x.l rfl hok.wr.room (by rw [← hN]; omega) (hok.wr.at_.past HB0.out)).mono fun e w' ⟨h1, h2⟩ => ⟨_, h1, h2⟩
            clear HT hok hax HAX ht hn hN hxa hxc hlg hx
            go_wp2_with (go_at_call 18; refine CLG.out.mono ?_; rintro e v3 ⟨rfl, rfl⟩; clear CLG)
            refine wp_region_noPanic ?_
            refine region_till 11 (fun u => Below v3.heap.size v3 u) (by kernel_rfl) ?_ (fun hHeld => ?_)
            · exact (Below.refl _ _).drew
            refine till_take (i := 0) (v := ?_) 0 (by kernel_rfl) (Or.inl rfl) (by kernel_rfl) rfl (by kernel_rfl) (by kernel_rfl) (by kernel_rfl) (fun _ _ _ h => h) (Or.inl ⟨by rfl, ?_⟩) hHeld ?_
            rotate_left
            · intro u hSu
              (go_simp) <;> (with_reducible rfl)
            change wpTill _ _ _ _ _ _ _ _ (Act.put _ (some 36) _) _
            simp only [Act.put, List.setIfInBounds_toArray, List.set_cons_zero, List.set_cons_succ]
            refine till_takeP (i := 1) (v := ?_) [5, 4, 3] (by kernel_rfl) (by kernel_rfl) rfl (by kernel_rfl) (by kernel_rfl) (by kernel_rfl) (fun _ _ _ h => h) (Or.inl ⟨by rfl, ?_⟩) hHeld ?_
            rotate_left
            · intro u hSu
              (go_simp) <;> (with_reducible rfl)
            change wpTill _ _ _ _ _ _ _ _ (Act.put _ (some 37) _) _
            simp only [Act.put, List.setIfInBounds_toArray, List.set_cons_zero, List.set_cons_succ]
            refine till_takeP (i := 2) (v := ?_) [5, 4, 3] (by kernel_rfl) (by kernel_rfl) rfl (by kernel_rfl) (by kernel_rfl) (by kernel_rfl) (fun _ _ _ h => h) (Or.inl ⟨by rfl, ?_⟩) hHeld ?_
            rotate_left
            · intro u hSu
              (go_simp) <;> (with_reducible rfl)
            change wpTill _ _ _ _ _ _ _ _ (Act.put _ (some 38) _) _
            simp only [Act.put, List.setIfInBounds_toArray, List.set_cons_zero, List.set_cons_succ]
            refine till_takeP (i := 3) (v := ?_) [5, 4] (by kernel_rfl) (by kernel_rfl) rfl (by kernel_rfl) (by kernel_rfl) (by kernel_rfl) (fun _ _ _ h => h) (Or.inl ⟨by rfl, ?_⟩) hHeld ?_
            rotate_left
            · intro u hSu
              (go_simp) <;> (with_reducible rfl)
            change wpTill _ _ _ _ _ _ _ _ (Act.put _ (some 39) _) _
            simp only [Act.put, List.setIfInBounds_toArray, List.set_cons_zero, List.set_cons_succ]
            refine till_takeP (i := 4) (v := ?_) [5] (by kernel_rfl) (by kernel_rfl) rfl (by kernel_rfl) (by kernel_rfl) (by kernel_rfl) (fun _ _ _ h => h) (Or.inl ⟨by rfl, ?_⟩) hHeld ?_
            rotate_left
            · intro u hSu
              (go_simp) <;> (with_reducible rfl)
            change wpTill _ _ _ _ _ _ _ _ (Act.put _ (some 40) _) _
            simp only [Act.put, List.setIfInBounds_toArray, List.set_cons_zero, List.set_cons_succ]
            refine till_take (i := 5) (v := ?_) 5 (by kernel_rfl) (Or.inl rfl) (by kernel_rfl) rfl (by kernel_rfl) (by kernel_rfl) (by kernel_rfl) (fun _ _ _ h => h) (Or.inl ⟨by rfl, ?_⟩) hHeld ?_
            rotate_left
            · intro u hSu
              obtain ⟨r1, r2, r3⟩ := HQ.out u hSu
              (go_simp) <;> (with_reducible rfl)
            change wpTill _ _ _ _ _ _ _ _ (Act.put _ (some 41) _) _
            simp only [Act.put, List.setIfInBounds_toArray, List.set_cons_zero, List.set_cons_succ]
            refine till_takeP (i := 6) (v := ?_) [10, 9, 8] (by kernel_rfl) (by kernel_rfl) rfl (by kernel_rfl) (by kernel_rfl) (by kernel_rfl) (fun _ _ _ h => h) (Or.inl ⟨by rfl, ?_⟩) hHeld ?_
            rotate_left
            · intro u hSu
              (go_simp) <;> (with_reducible rfl)
            change wpTill _ _ _ _ _ _ _ _ (Act.put _ (some 42) _) _
            simp only [Act.put, List.setIfInBounds_toArray, List.set_cons_zero, List.set_cons_succ]
            refine till_takeP (i := 7) (v := ?_) [10, 9, 8] (by kernel_rfl) (by kernel_rfl) rfl (by kernel_rfl) (by kernel_rfl) (by kernel_rfl) (fun _ _ _ h => h) (Or.inl ⟨by rfl, ?_⟩) hHeld ?_
            rotate_left
            · intro u hSu
              (go_simp) <;> (with_reducible rfl)
            change wpTill _ _ _ _ _ _ _ _ (Act.put _ (some 43) _) _
            simp only [Act.put, List.setIfInBounds_toArray, List.set_cons_zero, List.set_cons_succ]
            refine till_takeP (i := 8) (v := ?_) [10, 9] (by kernel_rfl) (by kernel_rfl) rfl (by kernel_rfl) (by kernel_rfl) (by kernel_rfl) (fun _ _ _ h => h) (Or.inl ⟨by rfl, ?_⟩) hHeld ?_
            rotate_left
            · intro u hSu
              (go_simp) <;> (with_reducible rfl)
            change wpTill _ _ _ _ _ _ _ _ (Act.put _ (some 44) _) _
            simp only [Act.put, List.setIfInBounds_toArray, List.set_cons_zero, List.set_cons_succ]
            refine till_takeP (i := 9) (v := ?_) [10] (by kernel_rfl) (by kernel_rfl) rfl (by kernel_rfl) (by kernel_rfl) (by kernel_rfl) (fun _ _ _ h => h) (Or.inl ⟨by rfl, ?_⟩) hHeld ?_
            rotate_left
            · intro u hSu
              (go_simp) <;> (with_reducible rfl)
            change wpTill _ _ _ _ _ _ _ _ (Act.put _ (some 45) _) _
            simp only [Act.put, List.setIfInBounds_toArray, List.set_cons_zero, List.set_cons_succ]
            refine till_take (i := 10) (v := ?_) 10 (by kernel_rfl) (Or.inl rfl) (by kernel_rfl) rfl (by kernel_rfl) (by kernel_rfl) (by kernel_rfl) (fun _ _ _ h => h) (Or.inl ⟨by rfl, ?_⟩) hHeld ?_
            rotate_left
            · intro u hSu
              obtain ⟨r1, r2, r3⟩ := HQ.out u hSu
              (go_simp) <;> (with_reducible rfl)
            change wpTill _ _ _ _ _ _ _ _ (Act.put _ (some 46) _) _
            simp only [Act.put, List.setIfInBounds_toArray, List.set_cons_zero, List.set_cons_succ]
            refine till_last (by kernel_rfl) (by kernel_rfl) rfl (fun K hK => ?_)
            go_simp; go_at_call 10; refine (PU.out _ hHeld).mono ?_; rintro e v4 ⟨r, rfl, h4⟩; have H4 : Hid (StX W0 v4 p (appsV (z0.take (i + 1)))) := h4; clear PU h4; refine hK.out _ _ ?_; refine NoPanic.normal ?_; clear hK K hHeld
            go_wp2
            go_roundw
            case rel => exact ⟨i + 1, by go_num, by omega, H4⟩
            case measure => simp [intOf]; omega
        · obtain rfl : i = len0 := by omega
          have HTK : Hid (z0.take i = z0) := List.take_of_length_le (by rw [HL.out]; exact Nat.le_refl _)
          rw [HTK.out] at HC
          obtain ⟨L, hL⟩ : ∃ L, L = appsV z0 := ⟨_, rfl⟩
          rw [← hL] at HC
          clear hL HTK
          have HG : Hid (StoG L) := HC.out.sto
          have HBU : Hid (∀ u, Below W0.heap.size W0 u → Below w.heap.size w u) := fun u hb => HB0.out.trans (hb.mono HB0.out.size)
          clear HA HL H2 HW0
          have hl20 : len2 ≤ 20 := HLB.out (by simp)
          have TB : Hid (∀ u, Below W0.heap.size W0 u → u.cell? ⟨w.heap.size, 0, none⟩ = some (.int .i64 a1) ∧ u.cell? ⟨w.heap.size, 1, none⟩ = some (.int .u8 b1)) := fun u hb => ⟨(hb.cell (p := ⟨w.heap.size, 0, none⟩) (cell_lt HBX.out.1)).trans HBX.out.1, (hb.cell (p := ⟨w.heap.size, 1, none⟩) (cell_lt HBX.out.1)).trans HBX.out.2⟩
          have H0 : Hid (StX W0 wr p L) := HC
          obtain ⟨r, hr⟩ : ∃ r, r = (applyV L a1 b1 z2).1 := ⟨_, rfl⟩
          obtain ⟨M, hM⟩ : ∃ M, M = (applyV L a1 b1 z2).2 := ⟨_, rfl⟩
          have CS : Hid (Calls Try.prog 19 #[.pointer (some ⟨p, 0, none⟩)] wr fun e w' => ∃ q, e = .returned (.pointer (some ⟨q, 0, none⟩)) ∧ StoreR w' wr.heap.size q L ∧ Below wr.heap.size wr w') := xsto_any HC.out
          have CA : Hid (∀ u, Below wr.heap.size wr u → Calls Try.prog 10 #[.pointer (some ⟨p, 0, none⟩), .agg #[.int .i64 a1, .int .u8 b1], .slice a2 len2 cap2] u fun e w' => e = .returned (.int .i64 r) ∧ StX W0 w' p M ∧ u.heap.size ≤ w'.heap.size ∧ ∀ k, wr.heap.size ≤ k → k < u.heap.size → w'.heap[k]? = u.heap[k]?) := fun u hb => by
            rw [hr, hM]
            exact xapply_kept HC.out hb a1 b1 by1n a2 len2 cap2 z2 HL2.out hcap2 (by omega) (HA2.out.past HB0.out)
          have HRM : Hid (r ≠ 0 → M = L) := fun h => by rw [hM]; exact apply_bad (by rw [← hr]; exact h)
          have HGET : Hid (r = 0 → ∀ W ∈ z2, getV M W.k a1 b1 = (if W.g = true then none else some W.v) ∧ (W.g = true → W.v = [])) := fun h W hW => by rw [hM]; exact get_here HG.out.sto.ord (by rw [← hr]; exact h) hW
          have HLEN : Hid (r = 0 → M.length = L.length + len2) := fun h => by rw [hM, ← HL2.out]; exact len_all (by rw [← hr]; exact h)
          have hL5 : L.length ≤ 10000 := HG.out.len
          clear HC hr hM HBX HG
          by_cases hr0 : r = 0
          · subst hr0
            go_wp2_with (first | (have hgo := H0.out; clear hgo; go_at_call 19; refine CS.out.mono ?_; rintro e v5 ⟨q, rfl, h5, hb5⟩; have H5 : Hid (Below wr.heap.size wr v5) := hb5; obtain ⟨c0, c1⟩ := TB.out _ (H0.out.past hb5).below; have R5 : Hid (StoreR v5 wr.heap.size q L) := h5; clear h5 hb5 H0 CS) | (have hgo := H5.out; clear hgo; go_at_call 10; refine (CA.out _ H5.out).mono ?_; rintro e v6 ⟨rfl, h6, hs6, hk6⟩; have H6 : Hid (StX W0 v6 p M) := h6; have R6 : Hid (StoreL v6 q L) := (R5.out.keptB hs6 hk6).looks; clear h6 hs6 hk6 CA R5))
            clear HBW hi h0 hlt HRM
            have HBV : Hid (∀ u, Below v6.heap.size v6 u → Below w.heap.size w u) := fun u hb => HBU.out _ (H6.out.past hb).below
            go_loopw [11] (fun iv wr => ∃ i : Nat, iv = .int .i64 i ∧ i ≤ len2 ∧ Hid (Below v6.heap.size v6 wr)) (fun iv _ => len2 - (intOf iv).toNat)
            case atStart => exact ⟨0, rfl, Nat.zero_le _, Below.refl _ _⟩
            case round =>
              obtain ⟨i, rfl, hi, HM⟩ := hrel
              have h0 : (0 : Int) ≤ (i : Int) := by omega
              by_cases hlt : i < len2
              · have h1 : (i : Int) < (len2 : Int) := by omega
                obtain ⟨W, hW⟩ : ∃ W, z2[i]? = some W := ⟨_, List.getElem?_eq_getElem (by rw [HL2.out]; exact hlt)⟩
                obtain ⟨b, off, rfl, hat, hok⟩ := HA2.out.wrt hW
                obtain ⟨hg1, hg2⟩ := HGET.out (by simp) W (List.mem_of_getElem? hW)
                obtain ⟨K, hK⟩ : ∃ K, K = W.k := ⟨_, rfl⟩
                obtain ⟨S, hS⟩ : ∃ S, S = strOfNums W.v := ⟨_, rfl⟩
                have KY : Hid (Ky K) := by rw [hK]; exact hok.key
                have KAT : Hid (∀ u, Below wr.heap.size wr u → KeyAt u b (off + i * 18) K) := fun u hb => by rw [hK]; exact (hat.past (HBV.out _ (HM.out.trans (hb.mono HM.out.size)))).key hok.key
                have HCE : Hid (∀ u, Below wr.heap.size wr u → u.cell? ⟨b, off + i * 18 + 16, none⟩ = some (.string S) ∧ u.cell? ⟨b, off + i * 18 + 17, none⟩ = some (.bool W.g)) := fun u hb => by rw [hS]; exact (hat.past (HBV.out _ (HM.out.trans (hb.mono HM.out.size)))).cells hok.key
                have HCS : Hid (∀ u, Below wr.heap.size wr u → u.cell? ⟨w.heap.size, 0, none⟩ = some (.int .i64 a1) ∧ u.cell? ⟨w.heap.size, 1, none⟩ = some (.int .u8 b1)) := fun u hb => TB.out u (H6.out.past (HM.out.trans (hb.mono HM.out.size))).below
                have CG : Hid (∀ u, Below wr.heap.size wr u → Calls Try.prog 21 #[.pointer (some ⟨p, 0, none⟩), kv K, .agg #[.int .i64 a1, .int .u8 b1]] u fun e w' => e = .returned (.tuple #[.string S, .bool (!W.g)]) ∧ Below u.heap.size u w') := fun u hb => by
                  have h9 := H6.out.past (HM.out.trans (hb.mono HM.out.size))
                  obtain ⟨X, h10, _⟩ := h9
                  rw [hK, hS]
                  have h11 := sget_any p M X W.k hok.key a1 b1 u h10
                  rw [hg1] at h11
                  cases hgg : W.g with
                  | true => rw [hgg] at h11; rw [hg2 hgg]; exact h11
                  | false => rw [hgg] at h11; exact h11
                obtain ⟨g, hg⟩ : ∃ g, g = W.g := ⟨_, rfl⟩
                rw [← hg] at CG HCE
                clear hg1 hg2 hW hat hok hK hS
                cases g with
                | true =>
                  clear hg
                  go_wp2
                  refine wp_region_noPanic ?_
                  refine wp_region_held_drew (S := fun u => Below wr.heap.size wr u) (by kernel_rfl) ?_ (fun hHeld => ?_)
                  · exact (Below.refl _ _).drew
                  refine wpAnyH_take (i := 0) (v := ?_) rfl (by kernel_rfl) (by kernel_rfl) (by kernel_rfl) (fun _ _ _ h => h) (Or.inl ⟨by rfl, ?_⟩) hHeld ?_
                  rotate_left
                  · intro u hSu
                    (go_simp) <;> (with_reducible rfl)
                  change wpAnyH _ _ _ _ _ _ _ (Act.put _ (some 67) _) _
                  simp only [Act.put, List.setIfInBounds_toArray, List.set_cons_zero, List.set_cons_succ]
                  refine wpAnyH_take (i := 1) (v := ?_) rfl (by kernel_rfl) (by kernel_rfl) (by kernel_rfl) (fun _ _ _ h => h) (Or.inl ⟨by rfl, ?_⟩) hHeld ?_
                  rotate_left
                  · intro u hSu
                    (go_simp) <;> (with_reducible rfl)
                  change wpAnyH _ _ _ _ _ _ _ (Act.put _ (some 68) _) _
                  simp only [Act.put, List.setIfInBounds_toArray, List.set_cons_zero, List.set_cons_succ]
                  refine wpAnyH_take (i := 2) (v := ?_) rfl (by kernel_rfl) (by kernel_rfl) (by kernel_rfl) (fun _ _ _ h => h) (Or.inl ⟨by rfl, ?_⟩) hHeld ?_
                  rotate_left
                  · intro u hSu
                    (go_simp) <;> (with_reducible rfl)
                  change wpAnyH _ _ _ _ _ _ _ (Act.put _ (some 69) _) _
                  simp only [Act.put, List.setIfInBounds_toArray, List.set_cons_zero, List.set_cons_succ]
                  refine wpAnyH_take (i := 3) (v := ?_) rfl (by kernel_rfl) (by kernel_rfl) (by kernel_rfl) (fun _ _ _ h => h) (Or.inl ⟨by rfl, ?_⟩) hHeld ?_
                  rotate_left
                  · intro u hSu
                    (go_simp) <;> (with_reducible rfl)
                  change wpAnyH _ _ _ _ _ _ _ (Act.put _ (some 70) _) _
                  simp only [Act.put, List.setIfInBounds_toArray, List.set_cons_zero, List.set_cons_succ]
                  refine wpAnyH_take (i := 4) (v := ?_) rfl (by kernel_rfl) (by kernel_rfl) (by kernel_rfl) (fun _ _ _ h => h) (Or.inl ⟨by rfl, ?_⟩) hHeld ?_
                  rotate_left
                  · intro u hSu
                    (go_simp) <;> (with_reducible rfl)
                  change wpAnyH _ _ _ _ _ _ _ (Act.put _ (some 71) _) _
                  simp only [Act.put, List.setIfInBounds_toArray, List.set_cons_zero, List.set_cons_succ]
                  refine wpAnyH_take (i := 5) (v := kv K) rfl (by kernel_rfl) (by kernel_rfl) (by kernel_rfl) (fun _ _ _ h => h) (yieldsIf_load_mid (by rfl) _ _ rfl _ _ rfl (K.map (Value.int .u8)) _ (fun u hu => (KAT.out u hu).range KY.out) Try.underlying31 rfl (info_keyl K KY.out)) hHeld ?_
                  change wpAnyH _ _ _ _ _ _ _ (Act.put _ (some 72) _) _
                  simp only [Act.put, List.setIfInBounds_toArray, List.set_cons_zero, List.set_cons_succ]
                  refine wpAnyH_take (i := 6) (v := ?_) rfl (by kernel_rfl) (by kernel_rfl) (by kernel_rfl) (fun _ _ _ h => h) (Or.inl ⟨by rfl, ?_⟩) hHeld ?_
                  rotate_left
                  · intro u hSu
                    obtain ⟨r1, r2⟩ := HCS.out u hSu
                    (go_simp) <;> (with_reducible rfl)
                  change wpAnyH _ _ _ _ _ _ _ (Act.put _ (some 73) _) _
                  simp only [Act.put, List.setIfInBounds_toArray, List.set_cons_zero, List.set_cons_succ]
                  refine wpAnyH_ready (rs := [7]) (by kernel_rfl) (by simp) ?_
                  refine AllReadyH.cons rfl (fun K hK => ?_) AllReadyH.nil
                  go_simp
                  go_at_call 21
                  refine (CG.out _ hHeld).mono ?_
                  rintro e v8 ⟨rfl, hb8⟩
                  have B8 : Hid (Below wr.heap.size wr v8) := hHeld.trans (hb8.mono hHeld.size)
                  refine hK.out _ _ ?_ (fun hHeld2 => ?_)
                  · exact B8.out
                  clear hK K hHeld
                  have hHeld := hHeld2
                  clear hHeld2
                  refine wpAnyH_take (i := 8) (v := ?_) rfl (by kernel_rfl) (by kernel_rfl) (by kernel_rfl) (fun _ _ _ h => h) (Or.inl ⟨by rfl, ?_⟩) hHeld ?_
                  rotate_left
                  · intro u hSu
                    (go_simp) <;> (with_reducible rfl)
                  change wpAnyH _ _ _ _ _ _ _ (Act.put _ (some 66) _) _
                  simp only [Act.put, List.setIfInBounds_toArray, List.set_cons_zero, List.set_cons_succ]
                  refine wpAnyH_take (i := 9) (v := ?_) rfl (by kernel_rfl) (by kernel_rfl) (by kernel_rfl) (fun _ _ _ h => h) (Or.inl ⟨by rfl, ?_⟩) hHeld ?_
                  rotate_left
                  · intro u hSu
                    (go_simp) <;> (with_reducible rfl)
                  change wpAnyH _ _ _ _ _ _ _ (Act.put _ (some 75) _) _
                  simp only [Act.put, List.setIfInBounds_toArray, List.set_cons_zero, List.set_cons_succ]
                  refine wpAnyH_take (i := 10) (v := ?_) rfl (by kernel_rfl) (by kernel_rfl) (by kernel_rfl) (fun _ _ _ h => h) (Or.inl ⟨by rfl, ?_⟩) hHeld ?_
                  rotate_left
                  · intro u hSu
                    (go_simp) <;> (with_reducible rfl)
                  change wpAnyH _ _ _ _ _ _ _ (Act.put _ (some 76) _) _
                  simp only [Act.put, List.setIfInBounds_toArray, List.set_cons_zero, List.set_cons_succ]
                  refine wpAnyH_take (i := 11) (v := ?_) rfl (by kernel_rfl) (by kernel_rfl) (by kernel_rfl) (fun _ _ _ h => h) (Or.inl ⟨by rfl, ?_⟩) hHeld ?_
                  rotate_left
                  · intro u hSu
                    (go_simp) <;> (with_reducible rfl)
                  change wpAnyH _ _ _ _ _ _ _ (Act.put _ (some 12) _) _
                  simp only [Act.put, List.setIfInBounds_toArray, List.set_cons_zero, List.set_cons_succ]
                  refine wpAnyH_take (i := 12) (v := ?_) rfl (by kernel_rfl) (by kernel_rfl) (by kernel_rfl) (fun _ _ _ h => h) (Or.inl ⟨by rfl, ?_⟩) hHeld ?_
                  rotate_left
                  · intro u hSu
                    (go_simp) <;> (with_reducible rfl)
                  change wpAnyH _ _ _ _ _ _ _ (Act.put _ (some 13) _) _
                  simp only [Act.put, List.setIfInBounds_toArray, List.set_cons_zero, List.set_cons_succ]
                  refine wpAnyH_done (by kernel_rfl) ?_ _
                  refine NoPanic.normal ?_
                  obtain ⟨y1, y2⟩ := HCE.out _ B8.out
                  go_wp2
                  go_roundw
                  case rel => exact ⟨i + 1, by go_num, by omega, HM.out.trans (B8.out.mono HM.out.size)⟩
                  case measure => simp [intOf]; omega
                | false =>
                  clear hg
                  go_wp2
                  refine wp_region_noPanic ?_
                  refine wp_region_held_drew (S := fun u => Below wr.heap.size wr u) (by kernel_rfl) ?_ (fun hHeld => ?_)
                  · exact (Below.refl _ _).drew
                  refine wpAnyH_take (i := 0) (v := ?_) rfl (by kernel_rfl) (by kernel_rfl) (by kernel_rfl) (fun _ _ _ h => h) (Or.inl ⟨by rfl, ?_⟩) hHeld ?_
                  rotate_left
                  · intro u hSu
                    (go_simp) <;> (with_reducible rfl)
                  change wpAnyH _ _ _ _ _ _ _ (Act.put _ (some 67) _) _
                  simp only [Act.put, List.setIfInBounds_toArray, List.set_cons_zero, List.set_cons_succ]
                  refine wpAnyH_take (i := 1) (v := ?_) rfl (by kernel_rfl) (by kernel_rfl) (by kernel_rfl) (fun _ _ _ h => h) (Or.inl ⟨by rfl, ?_⟩) hHeld ?_
                  rotate_left
                  · intro u hSu
                    (go_simp) <;> (with_reducible rfl)
                  change wpAnyH _ _ _ _ _ _ _ (Act.put _ (some 68) _) _
                  simp only [Act.put, List.setIfInBounds_toArray, List.set_cons_zero, List.set_cons_succ]
                  refine wpAnyH_take (i := 2) (v := ?_) rfl (by kernel_rfl) (by kernel_rfl) (by kernel_rfl) (fun _ _ _ h => h) (Or.inl ⟨by rfl, ?_⟩) hHeld ?_
                  rotate_left
                  · intro u hSu
                    (go_simp) <;> (with_reducible rfl)
                  change wpAnyH _ _ _ _ _ _ _ (Act.put _ (some 69) _) _
                  simp only [Act.put, List.setIfInBounds_toArray, List.set_cons_zero, List.set_cons_succ]
                  refine wpAnyH_take (i := 3) (v := ?_) rfl (by kernel_rfl) (by kernel_rfl) (by kernel_rfl) (fun _ _ _ h => h) (Or.inl ⟨by rfl, ?_⟩) hHeld ?_
                  rotate_left
                  · intro u hSu
                    (go_simp) <;> (with_reducible rfl)
                  change wpAnyH _ _ _ _ _ _ _ (Act.put _ (some 70) _) _
                  simp only [Act.put, List.setIfInBounds_toArray, List.set_cons_zero, List.set_cons_succ]
                  refine wpAnyH_take (i := 4) (v := ?_) rfl (by kernel_rfl) (by kernel_rfl) (by kernel_rfl) (fun _ _ _ h => h) (Or.inl ⟨by rfl, ?_⟩) hHeld ?_
                  rotate_left
                  · intro u hSu
                    (go_simp) <;> (with_reducible rfl)
                  change wpAnyH _ _ _ _ _ _ _ (Act.put _ (some 71) _) _
                  simp only [Act.put, List.setIfInBounds_toArray, List.set_cons_zero, List.set_cons_succ]
                  refine wpAnyH_take (i := 5) (v := kv K) rfl (by kernel_rfl) (by kernel_rfl) (by kernel_rfl) (fun _ _ _ h => h) (yieldsIf_load_mid (by rfl) _ _ rfl _ _ rfl (K.map (Value.int .u8)) _ (fun u hu => (KAT.out u hu).range KY.out) Try.underlying31 rfl (info_keyl K KY.out)) hHeld ?_
                  change wpAnyH _ _ _ _ _ _ _ (Act.put _ (some 72) _) _
                  simp only [Act.put, List.setIfInBounds_toArray, List.set_cons_zero, List.set_cons_succ]
                  refine wpAnyH_take (i := 6) (v := ?_) rfl (by kernel_rfl) (by kernel_rfl) (by kernel_rfl) (fun _ _ _ h => h) (Or.inl ⟨by rfl, ?_⟩) hHeld ?_
                  rotate_left
                  · intro u hSu
                    obtain ⟨r1, r2⟩ := HCS.out u hSu
                    (go_simp) <;> (with_reducible rfl)
                  change wpAnyH _ _ _ _ _ _ _ (Act.put _ (some 73) _) _
                  simp only [Act.put, List.setIfInBounds_toArray, List.set_cons_zero, List.set_cons_succ]
                  refine wpAnyH_ready (rs := [7]) (by kernel_rfl) (by simp) ?_
                  refine AllReadyH.cons rfl (fun K hK => ?_) AllReadyH.nil
                  go_simp
                  go_at_call 21
                  refine (CG.out _ hHeld).mono ?_
                  rintro e v8 ⟨rfl, hb8⟩
                  have B8 : Hid (Below wr.heap.size wr v8) := hHeld.trans (hb8.mono hHeld.size)
                  refine hK.out _ _ ?_ (fun hHeld2 => ?_)
                  · exact B8.out
                  clear hK K hHeld
                  have hHeld := hHeld2
                  clear hHeld2
                  refine wpAnyH_take (i := 8) (v := ?_) rfl (by kernel_rfl) (by kernel_rfl) (by kernel_rfl) (fun _ _ _ h => h) (Or.inl ⟨by rfl, ?_⟩) hHeld ?_
                  rotate_left
                  · intro u hSu
                    (go_simp) <;> (with_reducible rfl)
                  change wpAnyH _ _ _ _ _ _ _ (Act.put _ (some 66) _) _
                  simp only [Act.put, List.setIfInBounds_toArray, List.set_cons_zero, List.set_cons_succ]
                  refine wpAnyH_take (i := 9) (v := ?_) rfl (by kernel_rfl) (by kernel_rfl) (by kernel_rfl) (fun _ _ _ h => h) (Or.inl ⟨by rfl, ?_⟩) hHeld ?_
                  rotate_left
                  · intro u hSu
                    (go_simp) <;> (with_reducible rfl)
                  change wpAnyH _ _ _ _ _ _ _ (Act.put _ (some 75) _) _
                  simp only [Act.put, List.setIfInBounds_toArray, List.set_cons_zero, List.set_cons_succ]
                  refine wpAnyH_take (i := 10) (v := ?_) rfl (by kernel_rfl) (by kernel_rfl) (by kernel_rfl) (fun _ _ _ h => h) (Or.inl ⟨by rfl, ?_⟩) hHeld ?_
                  rotate_left
                  · intro u hSu
                    (go_simp) <;> (with_reducible rfl)
                  change wpAnyH _ _ _ _ _ _ _ (Act.put _ (some 76) _) _
                  simp only [Act.put, List.setIfInBounds_toArray, List.set_cons_zero, List.set_cons_succ]
                  refine wpAnyH_take (i := 11) (v := ?_) rfl (by kernel_rfl) (by kernel_rfl) (by kernel_rfl) (fun _ _ _ h => h) (Or.inl ⟨by rfl, ?_⟩) hHeld ?_
                  rotate_left
                  · intro u hSu
                    (go_simp) <;> (with_reducible rfl)
                  change wpAnyH _ _ _ _ _ _ _ (Act.put _ (some 12) _) _
                  simp only [Act.put, List.setIfInBounds_toArray, List.set_cons_zero, List.set_cons_succ]
                  refine wpAnyH_take (i := 12) (v := ?_) rfl (by kernel_rfl) (by kernel_rfl) (by kernel_rfl) (fun _ _ _ h => h) (Or.inl ⟨by rfl, ?_⟩) hHeld ?_
                  rotate_left
                  · intro u hSu
                    (go_simp) <;> (with_reducible rfl)
                  change wpAnyH _ _ _ _ _ _ _ (Act.put _ (some 13) _) _
                  simp only [Act.put, List.setIfInBounds_toArray, List.set_cons_zero, List.set_cons_succ]
                  refine wpAnyH_done (by kernel_rfl) ?_ _
                  refine NoPanic.normal ?_
                  obtain ⟨y1, y2⟩ := HCE.out _ B8.out
                  go_wp2
                  go_roundw
                  case rel => exact ⟨i + 1, by go_num, by omega, HM.out.trans (B8.out.mono HM.out.size)⟩
                  case measure => simp [intOf]; omega
              · obtain rfl : i = len2 := by omega
                have H7 : Hid (StX W0 wr p M) := H6.out.past HM.out
                have R7 : Hid (StoreL wr q L) := R6.out.past HM.out
                obtain ⟨qa, qc, hqc, hq1, _⟩ := R7.out.cell
                have HQ1 : Hid (∀ v, Below wr.heap.size wr v → v.cell? ⟨q, 0, none⟩ = some (.slice qa L.length qc)) := hq1
                have CS2 : Hid (∀ u, Below wr.heap.size wr u → Calls Try.prog 19 #[.pointer (some ⟨p, 0, none⟩)] u fun e w' => ∃ q, e = .returned (.pointer (some ⟨q, 0, none⟩)) ∧ StoreR w' u.heap.size q M ∧ Below u.heap.size u w') := fun u hb => xsto_any (H7.out.past hb)
                obtain ⟨N, hN⟩ : ∃ N, N = L.length := ⟨_, rfl⟩
                obtain ⟨N2, hN2⟩ : ∃ N, N = M.length := ⟨_, rfl⟩
                have hNN : N2 = N + i := by rw [hN2, hN]; exact HLEN.out (by simp)
                have CS3 : Hid (∀ u, Below wr.heap.size wr u → Calls Try.prog 19 #[.pointer (some ⟨p, 0, none⟩)] u fun e w' => ∃ q a c, e = .returned (.pointer (some ⟨q, 0, none⟩)) ∧ w'.cell? ⟨q, 0, none⟩ = some (.slice a N2 c) ∧ Below u.heap.size u w') := fun u hb => (CS2.out u hb).mono fun e w' ⟨q, h1, h2, h3⟩ => by
                  obtain ⟨a, c, _, h4, _⟩ := h2.looks.cell
                  rw [hN2]
                  exact ⟨q, a, c, h1, h4 w' (Below.refl _ _), h3⟩
                rw [← hN] at HQ1 hL5
                clear hN hN2 hqc hq1 HLEN HGET CS2 HA2 HL2
                have hwr : IntKind.i64.wrap ((N : Int) + (i : Int)) = (N : Int) + (i : Int) := by rw [IntKind.wrap_i64]; omega
                go_wp2
                refine wp_region_noPanic ?_
                refine region_till 15 (fun u => Below wr.heap.size wr u) (by kernel_rfl) ?_ (fun hHeld => ?_)
                · exact (Below.refl _ _).drew
                refine till_takeP (i := 0) (v := ?_) [14, 5, 4, 3, 2, 1] (by kernel_rfl) (by kernel_rfl) rfl (by kernel_rfl) (by kernel_rfl) (by kernel_rfl) (fun _ _ _ h => h) (Or.inl ⟨by rfl, ?_⟩) hHeld ?_
                rotate_left
                · intro u hSu
                  (go_simp) <;> (with_reducible rfl)
                change wpTill _ _ _ _ _ _ _ _ (Act.put _ (some 93) _) _
                simp only [Act.put, List.setIfInBounds_toArray, List.set_cons_zero, List.set_cons_succ]
                refine till_takeP (i := 6) (v := ?_) [14, 13, 10, 9, 8, 7] (by kernel_rfl) (by kernel_rfl) rfl (by kernel_rfl) (by kernel_rfl) (by kernel_rfl) (fun _ _ _ h => h) (Or.inl ⟨by rfl, ?_⟩) hHeld ?_
                rotate_left
                · intro u hSu
                  (go_simp) <;> (with_reducible rfl)
                change wpTill _ _ _ _ _ _ _ _ (Act.put _ (some 99) _) _
                simp only [Act.put, List.setIfInBounds_toArray, List.set_cons_zero, List.set_cons_succ]
                refine till_takeP (i := 7) (v := ?_) [14, 13, 10, 9, 8] (by kernel_rfl) (by kernel_rfl) rfl (by kernel_rfl) (by kernel_rfl) (by kernel_rfl) (fun _ _ _ h => h) (Or.inl ⟨by rfl, ?_⟩) hHeld ?_
                rotate_left
                · intro u hSu
                  (go_simp) <;> (with_reducible rfl)
                change wpTill _ _ _ _ _ _ _ _ (Act.put _ (some 100) _) _
                simp only [Act.put, List.setIfInBounds_toArray, List.set_cons_zero, List.set_cons_succ]
                refine till_takeP (i := 8) (v := ?_) [14, 13, 10, 9] (by kernel_rfl) (by kernel_rfl) rfl (by kernel_rfl) (by kernel_rfl) (by kernel_rfl) (fun _ _ _ h => h) (Or.inl ⟨by rfl, ?_⟩) hHeld ?_
                rotate_left
                · intro u hSu
                  (go_simp) <;> (with_reducible rfl)
                change wpTill _ _ _ _ _ _ _ _ (Act.put _ (some 101) _) _
                simp only [Act.put, List.setIfInBounds_toArray, List.set_cons_zero, List.set_cons_succ]
                refine till_takeP (i := 9) (v := ?_) [14, 13, 10] (by kernel_rfl) (by kernel_rfl) rfl (by kernel_rfl) (by kernel_rfl) (by kernel_rfl) (fun _ _ _ h => h) (Or.inl ⟨by rfl, ?_⟩) hHeld ?_
                rotate_left
                · intro u hSu
                  have r1 := HQ1.out u hSu
                  (go_simp) <;> (with_reducible rfl)
                change wpTill _ _ _ _ _ _ _ _ (Act.put _ (some 102) _) _
                simp only [Act.put, List.setIfInBounds_toArray, List.set_cons_zero, List.set_cons_succ]
                refine till_takeP (i := 10) (v := ?_) [14, 13] (by kernel_rfl) (by kernel_rfl) rfl (by kernel_rfl) (by kernel_rfl) (by kernel_rfl) (fun _ _ _ h => h) (Or.inl ⟨by rfl, ?_⟩) hHeld ?_
                rotate_left
                · intro u hSu
                  (go_simp) <;> (with_reducible rfl)
                change wpTill _ _ _ _ _ _ _ _ (Act.put _ (some 103) _) _
                simp only [Act.put, List.setIfInBounds_toArray, List.set_cons_zero, List.set_cons_succ]
                refine till_takeP (i := 11) (v := ?_) [14, 13, 12] (by kernel_rfl) (by kernel_rfl) rfl (by kernel_rfl) (by kernel_rfl) (by kernel_rfl) (fun _ _ _ h => h) (Or.inl ⟨by rfl, ?_⟩) hHeld ?_
                rotate_left
                · intro u hSu
                  (go_simp) <;> (with_reducible rfl)
                change wpTill _ _ _ _ _ _ _ _ (Act.put _ (some 104) _) _
                simp only [Act.put, List.setIfInBounds_toArray, List.set_cons_zero, List.set_cons_succ]
                refine till_takeP (i := 12) (v := ?_) [14, 13] (by kernel_rfl) (by kernel_rfl) rfl (by kernel_rfl) (by kernel_rfl) (by kernel_rfl) (fun _ _ _ h => h) (Or.inl ⟨by rfl, ?_⟩) hHeld ?_
                rotate_left
                · intro u hSu
                  (go_simp) <;> (with_reducible rfl)
                change wpTill _ _ _ _ _ _ _ _ (Act.put _ (some 105) _) _
                simp only [Act.put, List.setIfInBounds_toArray, List.set_cons_zero, List.set_cons_succ]
                refine till_takeP (i := 13) (v := ?_) [14] (by kernel_rfl) (by kernel_rfl) rfl (by kernel_rfl) (by kernel_rfl) (by kernel_rfl) (fun _ _ _ h => h) (Or.inl ⟨by rfl, ?_⟩) hHeld ?_
                rotate_left
                · intro u hSu
                  (go_simp) <;> (with_reducible rfl)
                change wpTill _ _ _ _ _ _ _ _ (Act.put _ (some 106) _) _
                simp only [Act.put, List.setIfInBounds_toArray, List.set_cons_zero, List.set_cons_succ]
                refine till_ready (rs := [1]) (by kernel_rfl) (by simp) ?_
                refine AllTill.cons rfl (fun K hK => ?_) AllTill.nil
                go_simp
                go_at_call 19
                refine (CS3.out _ hHeld).mono ?_
                rintro e v8 ⟨q2, qa2, qc2, rfl, y1, hb8⟩
                have B8 : Hid (Below wr.heap.size wr v8) := hHeld.trans (hb8.mono hHeld.size)
                refine hK.out _ _ ?_ (fun hHeld2 => ?_)
                · exact B8.out
                clear hK K hHeld
                have hHeld := hHeld2
                clear hHeld2
                refine till_ready (rs := [2]) (by kernel_rfl) (by simp) ?_
                refine AllTill.cons rfl (fun K hK => ?_) AllTill.nil
                go_simp
                refine hK.out _ _ ?_ (fun hHeld2 => ?_)
                · exact hHeld
                clear hK K hHeld
                have hHeld := hHeld2
                clear hHeld2
                refine till_ready (rs := [3]) (by kernel_rfl) (by simp) ?_
                refine AllTill.cons rfl (fun K hK => ?_) AllTill.nil
                go_simp
                refine hK.out _ _ ?_ (fun hHeld2 => ?_)
                · exact hHeld
                clear hK K hHeld
                have hHeld := hHeld2
                clear hHeld2
                refine till_ready (rs := [4]) (by kernel_rfl) (by simp) ?_
                refine AllTill.cons rfl (fun K hK => ?_) AllTill.nil
                go_simp
                refine hK.out _ _ ?_ (fun hHeld2 => ?_)
                · exact hHeld
                clear hK K hHeld
                have hHeld := hHeld2
                clear hHeld2
                refine till_ready (rs := [5]) (by kernel_rfl) (by simp) ?_
                refine AllTill.cons rfl (fun K hK => ?_) AllTill.nil
                go_simp
                refine hK.out _ _ ?_ (fun hHeld2 => ?_)
                · exact hHeld
                clear hK K hHeld
                have hHeld := hHeld2
                clear hHeld2
                refine till_ready (rs := [14]) (by kernel_rfl) (by simp) ?_
                refine AllTill.cons rfl (fun K hK => ?_) AllTill.nil
                go_simp
                refine hK.out _ _ ?_ (fun hHeld2 => ?_)
                · exact hHeld
                clear hK K hHeld
                have hHeld := hHeld2
                clear hHeld2
                refine till_last (by kernel_rfl) (by kernel_rfl) rfl (fun K hK => ?_)
                go_simp; refine hK.out _ _ ?_; refine NoPanic.normal ?_; clear hK K hHeld
                go_wp2
                go_ret
                exact ⟨by first | rfl | simp [hNN], HBV.out _ (HM.out.trans (B8.out.mono HM.out.size))⟩
          · have HML : Hid (M = L) := HRM.out hr0
            rw [HML.out] at CA
            have CS2 : Hid (∀ u, StX W0 u p L → Calls Try.prog 19 #[.pointer (some ⟨p, 0, none⟩)] u fun e w' => ∃ q, e = .returned (.pointer (some ⟨q, 0, none⟩)) ∧ StoreR w' u.heap.size q L ∧ Below u.heap.size u w') := fun u h => xsto_any h
            have CM : Hid (∀ u q q2, StoreL u q L → StoreL u q2 L → Calls Try.prog 20 #[.pointer (some ⟨q, 0, none⟩), .pointer (some ⟨q2, 0, none⟩)] u fun e w' => e = .returned (.bool true) ∧ Below u.heap.size u w') := fun u q q2 h1 h2 => rsame_is q q2 L L u h1 h2 rfl
            clear HML HRM HGET HLEN
            go_wp2_with (first | (have hgo := H0.out; clear hgo; go_at_call 19; refine CS.out.mono ?_; rintro e v5 ⟨q, rfl, h5, hb5⟩; have H5 : Hid (Below wr.heap.size wr v5) := hb5; obtain ⟨c0, c1⟩ := TB.out _ (H0.out.past hb5).below; have R5 : Hid (StoreR v5 wr.heap.size q L) := h5; clear h5 hb5 H0 CS) | (have hgo := H5.out; clear hgo; go_at_call 10; refine (CA.out _ H5.out).mono ?_; rintro e v6 ⟨rfl, h6, hs6, hk6⟩; have H6 : Hid (StX W0 v6 p L) := h6; have R6 : Hid (StoreL v6 q L) := (R5.out.keptB hs6 hk6).looks; clear h6 hs6 hk6 CA R5 H5) | (have hgo := H6.out; clear hgo; go_at_call 19; refine (CS2.out _ H6.out).mono ?_; rintro e v8 ⟨q2, rfl, h8, hb8⟩; have R8 : Hid (StoreL v8 q2 L) := h8.looks; have R9 : Hid (StoreL v8 q L) := R6.out.past hb8; have H8 : Hid (StX W0 v8 p L) := H6.out.past hb8; clear h8 hb8 H6 CS2) | (have hgo := H8.out; clear hgo; go_at_call 20; refine (CM.out _ _ _ R8.out R9.out).mono ?_; rintro e v10 ⟨rfl, hb10⟩; have H10 : Hid (Below w.heap.size w v10) := HBU.out _ (H8.out.past hb10).below; clear hb10 H8 CM))
            go_ret
            exact ⟨rfl, H10.out⟩

set_option maxRecDepth 100000 in
theorem lifted (os : Os) (started : os.Started) (H : Type) (enc : TypeId × Value → H) :
    ReturnsInHanded {} Try.checked os 4 .any (Rows.storeAllSpec.pre6 enc Try.prog Try.f4 Rows.storeAllRow.domain false) (Rows.storeAllSpec.post enc Try.prog Try.f4 false true false false) := by
  refine returnsInHanded_of_change (C := Try.checked) own started (by kernel_rfl) Try.func4
    (ChangeSpec.witness6 (enc := enc) (C := Try.checked) false ⟨#[], #[.slice none 0 0, .agg #[.int .i64 0, .int .u8 0], .slice none 0 0], []⟩ 8 (by kernel_rfl) (by kernel_rfl) (by kernel_rfl) (by kernel_rfl)) ?_
  intro W base args ds gs before hval0 hW hcnd _
  have hval : ∀ (j : Nat) t v, Try.f4.params[j]? = some t → args[j]? = some v → Value.okWide Try.prog W .any base t v := hval0
  have hW' := hW
  obtain ⟨p, q, hA0, hV, rfl, hfz, hnd⟩ := hW
  have hA : DataW.TrodAll enc Try.prog W 0 (fun _ => true) true Try.f4.params.toList args.toList ds p := hA0
  rw [Try.params4] at hA hval
  obtain ⟨v0, vs0, d0, ds0, p0, q0, hargs, rfl, rfl, h0, r0⟩ := trodAll_cons hA
  obtain ⟨v1, vs1, d1, ds1, p1, q1, rfl, rfl, rfl, h1, r1⟩ := trodAll_cons r0
  obtain ⟨v2, vs2, d2, ds2, p2, q2, rfl, rfl, rfl, h2, r2⟩ := trodAll_cons r1
  obtain ⟨rfl, rfl, rfl⟩ := trodAll_nil r2
  obtain rfl : args = #[v0, v1, v2] := by cases args; simp_all
  obtain ⟨rfl, rfl⟩ := trodVars_none hV
  obtain ⟨a0, len0, cap0, rfl⟩ := okWide_slice Try.underlying45 (hval 0 45 v0 rfl rfl)
  have k0 := h0
  have lt0 : ∀ x ∈ p0, x.block < W.heap.size := by obtain ⟨m, hm⟩ := k0; exact DataW.trod_lt m _ _ _ hm
  obtain ⟨z0, l0, w0⟩ : ∃ xs : List SAct, xs.length = len0 ∧ SActsOf W a0 cap0 xs := by
    obtain ⟨fuel, hf⟩ := h0
    exact sacts_open Try.underlying45 Try.underlying49 Try.underlying3 Try.underlying28 Try.underlying2 Try.underlying5 Try.underlying46 Try.underlying34 Try.underlying31 Try.underlying5 Try.underlying9 Try.underlying4 rfl rfl rfl rfl rfl rfl rfl rfl (by kernel_rfl) (by kernel_rfl) (by kernel_rfl) (by kernel_rfl) (by kernel_rfl) (by kernel_rfl) (by kernel_rfl) (by kernel_rfl) (by kernel_rfl) (by kernel_rfl) (by kernel_rfl) hf
  have k1 := h1
  have lt1 : ∀ x ∈ p1, x.block < W.heap.size := by obtain ⟨m, hm⟩ := k1; exact DataW.trod_lt m _ _ _ hm
  obtain ⟨a1, b1, rfl, w1, x1⟩ := struct2_open Try.underlying28 Try.underlying2 Try.underlying5 rfl rfl (by kernel_rfl) (by kernel_rfl) (by kernel_rfl) (hval 1 28 v1 rfl rfl) h1
  obtain ⟨a2, len2, cap2, rfl⟩ := okWide_slice Try.underlying46 (hval 2 46 v2 rfl rfl)
  have k2 := h2
  have lt2 : ∀ x ∈ p2, x.block < W.heap.size := by obtain ⟨m, hm⟩ := k2; exact DataW.trod_lt m _ _ _ hm
  obtain ⟨z2, l2, w2⟩ : ∃ xs : List Wrt, xs.length = len2 ∧ WrtsOf W a2 cap2 xs := by
    obtain ⟨fuel, hf⟩ := h2
    exact wrts_open Try.underlying46 Try.underlying34 Try.underlying31 Try.underlying5 Try.underlying9 Try.underlying4 rfl rfl rfl (by kernel_rfl) (by kernel_rfl) (by kernel_rfl) (by kernel_rfl) (by kernel_rfl) hf
  clear hA0 hval0
  refine (walk a0 len0 cap0 z0 a1 b1 a2 len2 cap2 z2 W l0 w0 w1 x1 l2 w2).mono fun e W' ⟨he, bel⟩ => ?_
  subst he
  exact ⟨_, rfl, _, _, _, [], _, [], hW', trodAll_mk1 (shut_bool Try.underlying4 _), (trodAll_cons_mk (Below.trod laidOut (by kernel_rfl) (of_decide_eq_true (by kernel_rfl)) k0 bel lt0) (trodAll_cons_mk (Below.trod laidOut (by kernel_rfl) (of_decide_eq_true (by kernel_rfl)) k1 bel lt1) (trodAll_cons_mk (Below.trod laidOut (by kernel_rfl) (of_decide_eq_true (by kernel_rfl)) k2 bel lt2) trodAll_mk0))), rfl, bel.frame _, fun h => by cases h⟩

theorem over : Rows.storeAllRow.holds Try.pinned (OpenSpec.ofChange Rows.storeAllSpec) :=
  OpenClaim.holds_of_wide 4 Try.f4 rfl rfl rfl rfl rfl rfl rfl ⟨rfl, rfl, rfl, rfl, rfl⟩ rfl rfl rfl rfl rfl (by kernel_rfl) Try.func4 (by kernel_rfl)
    (of_decide_eq_true (by kernel_rfl)) (by unfold Func.isWrapper; first | (rw [if_pos (by decide +kernel)]; kernel_rfl) | (rw [if_neg (by decide +kernel)]; exact ⟨rfl, rfl⟩))
    (fun os started H enc _ => lifted os started H enc)
theorem proved : Rows.StoreAllSaid := over
#print axioms proved
end Go.Proofs.Ytfaojmognbgnfaa.storeAll
namespace Go.Proofs.Ytfaojmognbgnfaa
/-- StoreAll, as given. -/
theorem storeAll_holds : Rows.StoreAllSaid := storeAll.proved
end Go.Proofs.Ytfaojmognbgnfaa
