/-
  StoreCopies: a copy goes its own way, for every two lists of acts (of more than 20 acts, of more than 20 writes in one, of values of more than 250 bytes the statement asks nothing).
-/
import Derived.Test.YtfaojmognbgnfaaRows
import Derived.Test.YtfaojmognbgnfaaStoL5
import Derived.Test.YtfaojmognbgnfaaSActs
import Derived.WalkKit
import Derived.ProofKit
import Derived.OpenShut
import Derived.ShutString
import Derived.ChangeOld
import Derived.Below
import Derived.Carry
namespace Go.Proofs.Ytfaojmognbgnfaa.storeCopies
open Go.ChangeShapes Go.WideShapes Go.ChangeAt Go.RowKit
open Go.ChangeMaps (open_string shut_string)
set_option linter.unusedVariables false

theorem own : ownKnob Try.prog.godebug = none := by kernel_rfl
theorem laidOut : laidOutB Try.prog = true := by kernel_rfl
/-- A slice of integers that came in: nil, or a row of 'cap' cells, of which the first 'len' are its elements. -/
def IsRow (k : IntKind) (w : World) (a : Option Addr) (len cap : Nat) (zs : List Int) : Prop :=
  (a = none ∧ len = 0 ∧ cap = 0 ∧ zs = []) ∨
  ∃ x, a = some x ∧ len ≤ cap ∧ cap ≤ maxLen ∧ zs.length = cap ∧ (∀ i, i < zs.length → w.cell? (x.add i) = some (.int k (zs.getD i 0))) ∧ ∀ n ∈ zs, (Lit.int k n).wf = true

set_option maxRecDepth 20000 in
set_option maxHeartbeats 16000000 in
theorem walk (a0 : Option Addr) (len0 cap0 : Nat) (z0 : List SAct) (a1 : Option Addr) (len1 cap1 : Nat) (z1 : List SAct) (w : World) (l0 : z0.length = len0) (w0 : SActsOf w a0 cap0 z0) (l1 : z1.length = len1) (w1 : SActsOf w a1 cap1 z1) :
    Calls Try.prog 7 #[.slice a0 len0 cap0, .slice a1 len1 cap1] w fun e w' => e = .returned (.bool true) ∧ Below w.heap.size w w' := by
  have AW : Hid (∀ u, Calls Try.prog 8 #[] u fun e w' => e = .returned (.bool true) ∧ Below u.heap.size u w') := fun u => lawake_any u
  have HL : Hid (z0.length = len0) := l0
  have HA : Hid (SActsOf w a0 cap0 z0) := w0
  have HL1 : Hid (z1.length = len1) := l1
  have HA1 : Hid (SActsOf w a1 cap1 z1) := w1
  have hcap : len0 ≤ cap0 := by rw [← l0]; exact w0.room
  have hcap1 : len1 ≤ cap1 := by rw [← l1]; exact w1.room
  obtain ⟨W0, hW0⟩ : ∃ W0, W0 = w := ⟨_, rfl⟩
  have HW0 : Hid (w = W0) := hW0.symm
  have HB0 : Hid (Below w.heap.size w W0) := by rw [hW0]; exact Below.refl _ _
  have CN : Hid (∀ u, Below W0.heap.size W0 u → Calls Try.prog 9 #[] u fun e w' => ∃ p, e = .returned (.pointer (some ⟨p, 0, none⟩)) ∧ StX W0 w' p []) := fun u hb => (xnew_any u).mono fun e w' ⟨p, h1, h2⟩ => ⟨p, h1, h2.to hb⟩
  clear w0 w1 l0 l1 hW0
  by_cases ha : 20 < len0
  · have ba : (20 : Int) < (len0 : Int) := by omega
    go_enter Try.func7, Try.ntmps7
    go_wp2_with (first | (go_at_call 8; refine (AW.out _).mono ?_; rintro e v1 ⟨rfl, hb1⟩; rw [HW0.out] at hb1; have B1 : Hid (Below w.heap.size w v1) := HB0.out.trans (hb1.mono HB0.out.size); clear hb1))
    go_ret
    exact ⟨rfl, B1.out⟩
  · have ba : ¬ (20 : Int) < (len0 : Int) := by omega
    by_cases hb : 20 < len1
    · have bb : (20 : Int) < (len1 : Int) := by omega
      go_enter Try.func7, Try.ntmps7
      go_wp2_with (first | (go_at_call 8; refine (AW.out _).mono ?_; rintro e v1 ⟨rfl, hb1⟩; rw [HW0.out] at hb1; have B1 : Hid (Below w.heap.size w v1) := HB0.out.trans (hb1.mono HB0.out.size); clear hb1))
      go_ret
      exact ⟨rfl, B1.out⟩
    · have bb : ¬ (20 : Int) < (len1 : Int) := by omega
      go_enter Try.func7, Try.ntmps7
      go_wp2_with (first | (go_at_call 8; refine (AW.out _).mono ?_; rintro e v1 ⟨rfl, hb1⟩; rw [HW0.out] at hb1; have B1 : Hid (Below W0.heap.size W0 v1) := hb1; clear hb1) | (have hgo := B1.out; clear hgo; go_at_call 9; refine (CN.out _ B1.out).mono ?_; rintro e v2 ⟨p, rfl, h2⟩; have H2 : Hid (StX W0 v2 p []) := h2; clear h2 B1))
      clear CN AW
      go_loopw [6] (fun iv wr => ∃ i : Nat, iv = .int .i64 i ∧ i ≤ len0 ∧ Hid (StX W0 wr p (appsV (z0.take i)))) (fun iv _ => len0 - (intOf iv).toNat)
      case atStart => exact ⟨0, rfl, Nat.zero_le _, by rw [List.take_zero]; exact H2⟩
      case round =>
        obtain ⟨i, rfl, hi, HC⟩ := hrel
        have h0 : (0 : Int) ≤ (i : Int) := by omega
        have HBW : Hid (Below w.heap.size w wr) := HB0.out.trans (HC.out.below.mono HB0.out.size)
        by_cases hlt : i < len0
        · have h1 : (i : Int) < (len0 : Int) := by omega
          obtain ⟨x, hx⟩ : ∃ x, z0[i]? = some x := ⟨_, List.getElem?_eq_getElem (by rw [HL.out]; exact hlt)⟩
          obtain ⟨b, off, rfl, hax, hok⟩ := HA.out.act hx
          obtain ⟨q0, q1, q2, q3⟩ := hax.past HBW.out
          have HAX : Hid (SActAt wr b (off + i * 4) x) := hax.past HBW.out
          obtain ⟨N, hN⟩ : ∃ N, N = x.l.length := ⟨_, rfl⟩
          obtain ⟨t, ht⟩ : ∃ t, t = x.t := ⟨_, rfl⟩
          obtain ⟨n, hn⟩ : ∃ t, t = x.n := ⟨_, rfl⟩
          obtain ⟨xa, hxa⟩ : ∃ t, t = x.a := ⟨_, rfl⟩
          obtain ⟨xc, hxc⟩ : ∃ t, t = x.cap := ⟨_, rfl⟩
          rw [← ht] at q1
          rw [← hn] at q2
          rw [← hN, ← hxa, ← hxc] at q3
          have CLG : Hid (Calls Try.prog 18 #[.slice xa N xc] wr fun e w' => e = .returned (.bool (longW x.l)) ∧ w' = wr) := by rw [hxa, hN, hxc]; exact llong_any x.a x.l.length x.cap x.l wr rfl hok.wr.room hok.wr.few (hok.wr.at_.past HBW.out)
          obtain ⟨lg, hlg⟩ : ∃ g, g = longW x.l := ⟨_, rfl⟩
          rw [← hlg] at CLG
          cases lg with
          | true =>
            clear hok hax HAX ht hn hN hxa hxc hlg hx
            go_wp2_with (go_at_call 18; refine CLG.out.mono ?_; rintro e v3 ⟨rfl, rfl⟩)
            go_ret
            exact ⟨rfl, HBW.out⟩
          | false =>
            have hN20 : N ≤ 20 := by
              have h9 : longW x.l = false := hlg.symm
              unfold longW at h9
              simp only [Bool.or_eq_false_iff, decide_eq_false_iff_not] at h9
              omega
            have HQ : Hid (∀ u, Below wr.heap.size wr u → u.cell? ⟨b, off + i * 4 + 1, none⟩ = some (.int .i64 t) ∧ u.cell? ⟨b, off + i * 4 + 2, none⟩ = some (.int .u8 n) ∧ u.cell? ⟨b, off + i * 4 + 3, none⟩ = some (.slice xa N xc)) := fun u hb => by
              obtain ⟨_, r1, r2, r3⟩ := HAX.out.past hb
              rw [ht, hn, hN, hxa, hxc]
              exact ⟨r1, r2, r3⟩
            have HT : Hid (appsV (z0.take (i + 1)) = (applyV (appsV (z0.take i)) x.t x.n x.l).2) := apps_next hx
            have PU : Hid (∀ u, Below wr.heap.size wr u → Calls Try.prog 10 #[.pointer (some ⟨p, 0, none⟩), .agg #[.int .i64 t, .int .u8 n], .slice xa N xc] u fun e w' => ∃ r, e = .returned (.int .i64 r) ∧ StX W0 w' p (appsV (z0.take (i + 1)))) := fun u hb => by
              rw [HT.out, ht, hn, hxa, hN, hxc]
              exact (xapply_in (HC.out.past hb) x.t x.n hok.n x.a x.l.length x.cap x.l rfl hok.wr.room (by rw [← hN]; omega) (hok.wr.at_.past HB0.out)).mono fun e w' ⟨h1, h2⟩ => ⟨_, h1, h2⟩
            clear HT hok hax HAX ht hn hN hxa hxc hlg hx
            go_wp2_with (go_at_call 18; refine CLG.out.mono ?_; rintro e v3 ⟨rfl, rfl⟩; clear CLG)
            refine wp_region_noPanic ?_
            refine region_till 11 (fun u => Below v3.heap.size v3 u) (by kernel_rfl) ?_ (fun hHeld => ?_)
            · exact (Below.refl _ _).drew
            refine till_take (i := 0) (v := ?_) 0 (by kernel_rfl) (Or.inl rfl) (by kernel_rfl) rfl (by kernel_rfl) (by kernel_rfl) (by kernel_rfl) (fun _ _ _ h => h) (Or.inl ⟨by rfl, ?_⟩) hHeld ?_
            rotate_left
            · intro u hSu
              (go_simp) <;> (with_reducible rfl)
            change wpTill _ _ _ _ _ _ _ _ (Act.put _ (some 33) _) _
            simp only [Act.put, List.setIfInBounds_toArray, List.set_cons_zero, List.set_cons_succ]
            refine till_takeP (i := 1) (v := ?_) [5, 4, 3] (by kernel_rfl) (by kernel_rfl) rfl (by kernel_rfl) (by kernel_rfl) (by kernel_rfl) (fun _ _ _ h => h) (Or.inl ⟨by rfl, ?_⟩) hHeld ?_
            rotate_left
            · intro u hSu
              (go_simp) <;> (with_reducible rfl)
            change wpTill _ _ _ _ _ _ _ _ (Act.put _ (some 34) _) _
            simp only [Act.put, List.setIfInBounds_toArray, List.set_cons_zero, List.set_cons_succ]
            refine till_takeP (i := 2) (v := ?_) [5, 4, 3] (by kernel_rfl) (by kernel_rfl) rfl (by kernel_rfl) (by kernel_rfl) (by kernel_rfl) (fun _ _ _ h => h) (Or.inl ⟨by rfl, ?_⟩) hHeld ?_
            rotate_left
            · intro u hSu
              (go_simp) <;> (with_reducible rfl)
            change wpTill _ _ _ _ _ _ _ _ (Act.put _ (some 35) _) _
            simp only [Act.put, List.setIfInBounds_toArray, List.set_cons_zero, List.set_cons_succ]
            refine till_takeP (i := 3) (v := ?_) [5, 4] (by kernel_rfl) (by kernel_rfl) rfl (by kernel_rfl) (by kernel_rfl) (by kernel_rfl) (fun _ _ _ h => h) (Or.inl ⟨by rfl, ?_⟩) hHeld ?_
            rotate_left
            · intro u hSu
              (go_simp) <;> (with_reducible rfl)
            change wpTill _ _ _ _ _ _ _ _ (Act.put _ (some 36) _) _
            simp only [Act.put, List.setIfInBounds_toArray, List.set_cons_zero, List.set_cons_succ]
            refine till_takeP (i := 4) (v := ?_) [5] (by kernel_rfl) (by kernel_rfl) rfl (by kernel_rfl) (by kernel_rfl) (by kernel_rfl) (fun _ _ _ h => h) (Or.inl ⟨by rfl, ?_⟩) hHeld ?_
            rotate_left
            · intro u hSu
              (go_simp) <;> (with_reducible rfl)
            change wpTill _ _ _ _ _ _ _ _ (Act.put _ (some 37) _) _
            simp only [Act.put, List.setIfInBounds_toArray, List.set_cons_zero, List.set_cons_succ]
            refine till_take (i := 5) (v := ?_) 5 (by kernel_rfl) (Or.inl rfl) (by kernel_rfl) rfl (by kernel_rfl) (by kernel_rfl) (by kernel_rfl) (fun _ _ _ h => h) (Or.inl ⟨by rfl, ?_⟩) hHeld ?_
            rotate_left
            · intro u hSu
              obtain ⟨r1, r2, r3⟩ := HQ.out u hSu
              (go_simp) <;> (with_reducible rfl)
            change wpTill _ _ _ _ _ _ _ _ (Act.put _ (some 38) _) _
            simp only [Act.put, List.setIfInBounds_toArray, List.set_cons_zero, List.set_cons_succ]
            refine till_takeP (i := 6) (v := ?_) [10, 9, 8] (by kernel_rfl) (by kernel_rfl) rfl (by kernel_rfl) (by kernel_rfl) (by kernel_rfl) (fun _ _ _ h => h) (Or.inl ⟨by rfl, ?_⟩) hHeld ?_
            rotate_left
            · intro u hSu
              (go_simp) <;> (with_reducible rfl)
            change wpTill _ _ _ _ _ _ _ _ (Act.put _ (some 39) _) _
            simp only [Act.put, List.setIfInBounds_toArray, List.set_cons_zero, List.set_cons_succ]
            refine till_takeP (i := 7) (v := ?_) [10, 9, 8] (by kernel_rfl) (by kernel_rfl) rfl (by kernel_rfl) (by kernel_rfl) (by kernel_rfl) (fun _ _ _ h => h) (Or.inl ⟨by rfl, ?_⟩) hHeld ?_
            rotate_left
            · intro u hSu
              (go_simp) <;> (with_reducible rfl)
            change wpTill _ _ _ _ _ _ _ _ (Act.put _ (some 40) _) _
            simp only [Act.put, List.setIfInBounds_toArray, List.set_cons_zero, List.set_cons_succ]
            refine till_takeP (i := 8) (v := ?_) [10, 9] (by kernel_rfl) (by kernel_rfl) rfl (by kernel_rfl) (by kernel_rfl) (by kernel_rfl) (fun _ _ _ h => h) (Or.inl ⟨by rfl, ?_⟩) hHeld ?_
            rotate_left
            · intro u hSu
              (go_simp) <;> (with_reducible rfl)
            change wpTill _ _ _ _ _ _ _ _ (Act.put _ (some 41) _) _
            simp only [Act.put, List.setIfInBounds_toArray, List.set_cons_zero, List.set_cons_succ]
            refine till_takeP (i := 9) (v := ?_) [10] (by kernel_rfl) (by kernel_rfl) rfl (by kernel_rfl) (by kernel_rfl) (by kernel_rfl) (fun _ _ _ h => h) (Or.inl ⟨by rfl, ?_⟩) hHeld ?_
            rotate_left
            · intro u hSu
              (go_simp) <;> (with_reducible rfl)
            change wpTill _ _ _ _ _ _ _ _ (Act.put _ (some 42) _) _
            simp only [Act.put, List.setIfInBounds_toArray, List.set_cons_zero, List.set_cons_succ]
            refine till_take (i := 10) (v := ?_) 10 (by kernel_rfl) (Or.inl rfl) (by kernel_rfl) rfl (by kernel_rfl) (by kernel_rfl) (by kernel_rfl) (fun _ _ _ h => h) (Or.inl ⟨by rfl, ?_⟩) hHeld ?_
            rotate_left
            · intro u hSu
              obtain ⟨r1, r2, r3⟩ := HQ.out u hSu
              (go_simp) <;> (with_reducible rfl)
            change wpTill _ _ _ _ _ _ _ _ (Act.put _ (some 43) _) _
            simp only [Act.put, List.setIfInBounds_toArray, List.set_cons_zero, List.set_cons_succ]
            refine till_last (by kernel_rfl) (by kernel_rfl) rfl (fun K hK => ?_)
            go_simp; go_at_call 10; refine (PU.out _ hHeld).mono ?_; rintro e v4 ⟨r, rfl, h4⟩; have H4 : Hid (StX W0 v4 p (appsV (z0.take (i + 1)))) := h4; clear PU h4; refine hK.out _ _ ?_; refine NoPanic.normal ?_; clear hK K hHeld
            go_wp2
            go_roundw
            case rel => exact ⟨i + 1, by go_num, by omega, H4⟩
            case measure => simp [intOf]; omega
        · obtain rfl : i = len0 := by omega
          have HTK : Hid (z0.take i = z0) := List.take_of_length_le (by rw [HL.out]; exact Nat.le_refl _)
          rw [HTK.out] at HC
          obtain ⟨L, hL⟩ : ∃ L, L = appsV z0 := ⟨_, rfl⟩
          rw [← hL] at HC
          clear hL HTK
          have HG : Hid (StoG L) := HC.out.sto
          have HBU : Hid (∀ u, Below W0.heap.size W0 u → Below w.heap.size w u) := fun u hb => HB0.out.trans (hb.mono HB0.out.size)
          clear HA HL H2 HW0
          have H0 : Hid (StX W0 wr p L) := HC
          have CS : Hid (Calls Try.prog 19 #[.pointer (some ⟨p, 0, none⟩)] wr fun e w' => ∃ q, e = .returned (.pointer (some ⟨q, 0, none⟩)) ∧ StoreR w' wr.heap.size q L ∧ Below wr.heap.size wr w') := xsto_any HC.out
          have CC : Hid (∀ u, StX W0 u p L → Calls Try.prog 26 #[.pointer (some ⟨p, 0, none⟩)] u fun e w' => ∃ q, e = .returned (.pointer (some ⟨q, 0, none⟩)) ∧ StX u w' q L) := fun u h => xcopy_any h
          have CS2 : Hid (∀ u, StX W0 u p L → Calls Try.prog 19 #[.pointer (some ⟨p, 0, none⟩)] u fun e w' => ∃ q, e = .returned (.pointer (some ⟨q, 0, none⟩)) ∧ StoreR w' u.heap.size q L ∧ Below u.heap.size u w') := fun u h => xsto_any h
          have CM : Hid (∀ u q q2, StoreL u q L → StoreL u q2 L → Calls Try.prog 20 #[.pointer (some ⟨q, 0, none⟩), .pointer (some ⟨q2, 0, none⟩)] u fun e w' => e = .returned (.bool true) ∧ Below u.heap.size u w') := fun u q q2 h1 h2 => rsame_is q q2 L L u h1 h2 rfl
          clear HC HG
          go_wp2_with (first | (have hgo := H0.out; clear hgo; go_at_call 19; refine CS.out.mono ?_; rintro e v5 ⟨q, rfl, h5, hb5⟩; have H5 : Hid (StX W0 v5 p L) := H0.out.past hb5; have R5 : Hid (StoreL v5 q L) := h5.looks; clear h5 hb5 H0 CS) | (have hgo := H5.out; clear hgo; go_at_call 26; refine (CC.out _ H5.out).mono ?_; rintro e v6 ⟨c, rfl, h6⟩; have H6 : Hid (StX v5 v6 c L) := h6; clear h6 CC))
          clear HBW hi h0 hlt
          have HBV : Hid (∀ u, Below v5.heap.size v5 u → Below w.heap.size w u) := fun u hb => HBU.out _ (H5.out.past hb).below
          go_loopw [9] (fun iv wr => ∃ i : Nat, iv = .int .i64 i ∧ i ≤ len1 ∧ Hid (∃ M, StX v5 wr c M)) (fun iv _ => len1 - (intOf iv).toNat)
          case atStart => exact ⟨0, rfl, Nat.zero_le _, ⟨L, H6.out⟩⟩
          case round =>
            obtain ⟨i, rfl, hi, HC⟩ := hrel
            obtain ⟨M, hM⟩ := HC.out
            have HM : Hid (StX v5 wr c M) := hM
            clear hM HC
            have h0 : (0 : Int) ≤ (i : Int) := by omega
            have HBW : Hid (Below w.heap.size w wr) := HBV.out _ HM.out.below
            by_cases hlt : i < len1
            · have h1 : (i : Int) < (len1 : Int) := by omega
              obtain ⟨x, hx⟩ : ∃ x, z1[i]? = some x := ⟨_, List.getElem?_eq_getElem (by rw [HL1.out]; exact hlt)⟩
              obtain ⟨b, off, rfl, hax, hok⟩ := HA1.out.act hx
              obtain ⟨q0, q1, q2, q3⟩ := hax.past HBW.out
              have HAX : Hid (SActAt wr b (off + i * 4) x) := hax.past HBW.out
              obtain ⟨N, hN⟩ : ∃ N, N = x.l.length := ⟨_, rfl⟩
              obtain ⟨t, ht⟩ : ∃ t, t = x.t := ⟨_, rfl⟩
              obtain ⟨n, hn⟩ : ∃ t, t = x.n := ⟨_, rfl⟩
              obtain ⟨xa, hxa⟩ : ∃ t, t = x.a := ⟨_, rfl⟩
              obtain ⟨xc, hxc⟩ : ∃ t, t = x.cap := ⟨_, rfl⟩
              rw [← ht] at q1
              rw [← hn] at q2
              rw [← hN, ← hxa, ← hxc] at q3
              have CLG : Hid (Calls Try.prog 18 #[.slice xa N xc] wr fun e w' => e = .returned (.bool (longW x.l)) ∧ w' = wr) := by rw [hxa, hN, hxc]; exact llong_any x.a x.l.length x.cap x.l wr rfl hok.wr.room hok.wr.few (hok.wr.at_.past HBW.out)
              obtain ⟨lg, hlg⟩ : ∃ g, g = longW x.l := ⟨_, rfl⟩
              rw [← hlg] at CLG
              cases lg with
              | true =>
                clear hok hax HAX ht hn hN hxa hxc hlg hx
                go_wp2_with (go_at_call 18; refine CLG.out.mono ?_; rintro e v3 ⟨rfl, rfl⟩)
                go_ret
                exact ⟨rfl, HBW.out⟩
              | false =>
                have hN20 : N ≤ 20 := by
                  have h9 : longW x.l = false := hlg.symm
                  unfold longW at h9
                  simp only [Bool.or_eq_false_iff, decide_eq_false_iff_not] at h9
                  omega
                have HQ : Hid (∀ u, Below wr.heap.size wr u → u.cell? ⟨b, off + i * 4 + 1, none⟩ = some (.int .i64 t) ∧ u.cell? ⟨b, off + i * 4 + 2, none⟩ = some (.int .u8 n) ∧ u.cell? ⟨b, off + i * 4 + 3, none⟩ = some (.slice xa N xc)) := fun u hb => by
                  obtain ⟨_, r1, r2, r3⟩ := HAX.out.past hb
                  rw [ht, hn, hN, hxa, hxc]
                  exact ⟨r1, r2, r3⟩
                have PU : Hid (∀ u, Below wr.heap.size wr u → Calls Try.prog 10 #[.pointer (some ⟨c, 0, none⟩), .agg #[.int .i64 t, .int .u8 n], .slice xa N xc] u fun e w' => ∃ r, e = .returned (.int .i64 r) ∧ ∃ M, StX v5 w' c M) := fun u hb => by
                  rw [ht, hn, hxa, hN, hxc]
                  exact (xapply_in (HM.out.past hb) x.t x.n hok.n x.a x.l.length x.cap x.l rfl hok.wr.room (by rw [← hN]; omega) (hok.wr.at_.past (HBV.out _ (Below.refl _ _)))).mono fun e w' ⟨h1, h2⟩ => ⟨_, h1, _, h2⟩
                have CT : Hid (∀ u, (∃ M, StX v5 u c M) → Calls Try.prog 15 #[.pointer (some ⟨c, 0, none⟩), .agg #[.int .i64 t, .int .u8 n]] u fun e w' => ∃ r, e = .returned (.int .i64 r) ∧ ∃ M, StX v5 w' c M) := fun u ⟨M, h⟩ => (xtrim_s h t n).mono fun e w' ⟨h1, h2⟩ => ⟨_, h1, _, h2⟩
                have HQW : Hid (∀ u, (∃ M, StX v5 u c M) → u.cell? ⟨b, off + i * 4 + 1, none⟩ = some (.int .i64 t) ∧ u.cell? ⟨b, off + i * 4 + 2, none⟩ = some (.int .u8 n)) := fun u ⟨M, h⟩ => by
                  obtain ⟨_, r1, r2, r3⟩ := hax.past (HBV.out _ h.below)
                  rw [ht, hn]
                  exact ⟨r1, r2⟩
                clear hok hax HAX ht hn hN hxa hxc hlg hx
                go_wp2_with (go_at_call 18; refine CLG.out.mono ?_; rintro e v7 ⟨rfl, rfl⟩; clear CLG)
                refine wp_region_noPanic ?_
                refine region_till 11 (fun u => Below v7.heap.size v7 u) (by kernel_rfl) ?_ (fun hHeld => ?_)
                · exact (Below.refl _ _).drew
                refine till_take (i := 0) (v := ?_) 0 (by kernel_rfl) (Or.inl rfl) (by kernel_rfl) rfl (by kernel_rfl) (by kernel_rfl) (by kernel_rfl) (fun _ _ _ h => h) (Or.inl ⟨by rfl, ?_⟩) hHeld ?_
                rotate_left
                · intro u hSu
                  (go_simp) <;> (with_reducible rfl)
                change wpTill _ _ _ _ _ _ _ _ (Act.put _ (some 61) _) _
                simp only [Act.put, List.setIfInBounds_toArray, List.set_cons_zero, List.set_cons_succ]
                refine till_takeP (i := 1) (v := ?_) [5, 4, 3] (by kernel_rfl) (by kernel_rfl) rfl (by kernel_rfl) (by kernel_rfl) (by kernel_rfl) (fun _ _ _ h => h) (Or.inl ⟨by rfl, ?_⟩) hHeld ?_
                rotate_left
                · intro u hSu
                  (go_simp) <;> (with_reducible rfl)
                change wpTill _ _ _ _ _ _ _ _ (Act.put _ (some 62) _) _
                simp only [Act.put, List.setIfInBounds_toArray, List.set_cons_zero, List.set_cons_succ]
                refine till_takeP (i := 2) (v := ?_) [5, 4, 3] (by kernel_rfl) (by kernel_rfl) rfl (by kernel_rfl) (by kernel_rfl) (by kernel_rfl) (fun _ _ _ h => h) (Or.inl ⟨by rfl, ?_⟩) hHeld ?_
                rotate_left
                · intro u hSu
                  (go_simp) <;> (with_reducible rfl)
                change wpTill _ _ _ _ _ _ _ _ (Act.put _ (some 63) _) _
                simp only [Act.put, List.setIfInBounds_toArray, List.set_cons_zero, List.set_cons_succ]
                refine till_takeP (i := 3) (v := ?_) [5, 4] (by kernel_rfl) (by kernel_rfl) rfl (by kernel_rfl) (by kernel_rfl) (by kernel_rfl) (fun _ _ _ h => h) (Or.inl ⟨by rfl, ?_⟩) hHeld ?_
                rotate_left
                · intro u hSu
                  (go_simp) <;> (with_reducible rfl)
                change wpTill _ _ _ _ _ _ _ _ (Act.put _ (some 64) _) _
                simp only [Act.put, List.setIfInBounds_toArray, List.set_cons_zero, List.set_cons_succ]
                refine till_takeP (i := 4) (v := ?_) [5] (by kernel_rfl) (by kernel_rfl) rfl (by kernel_rfl) (by kernel_rfl) (by kernel_rfl) (fun _ _ _ h => h) (Or.inl ⟨by rfl, ?_⟩) hHeld ?_
                rotate_left
                · intro u hSu
                  (go_simp) <;> (with_reducible rfl)
                change wpTill _ _ _ _ _ _ _ _ (Act.put _ (some 65) _) _
                simp only [Act.put, List.setIfInBounds_toArray, List.set_cons_zero, List.set_cons_succ]
                refine till_take (i := 5) (v := ?_) 5 (by kernel_rfl) (Or.inl rfl) (by kernel_rfl) rfl (by kernel_rfl) (by kernel_rfl) (by kernel_rfl) (fun _ _ _ h => h) (Or.inl ⟨by rfl, ?_⟩) hHeld ?_
                rotate_left
                · intro u hSu
                  obtain ⟨r1, r2, r3⟩ := HQ.out u hSu
                  (go_simp) <;> (with_reducible rfl)
                change wpTill _ _ _ _ _ _ _ _ (Act.put _ (some 66) _) _
                simp only [Act.put, List.setIfInBounds_toArray, List.set_cons_zero, List.set_cons_succ]
                refine till_takeP (i := 6) (v := ?_) [10, 9, 8] (by kernel_rfl) (by kernel_rfl) rfl (by kernel_rfl) (by kernel_rfl) (by kernel_rfl) (fun _ _ _ h => h) (Or.inl ⟨by rfl, ?_⟩) hHeld ?_
                rotate_left
                · intro u hSu
                  (go_simp) <;> (with_reducible rfl)
                change wpTill _ _ _ _ _ _ _ _ (Act.put _ (some 67) _) _
                simp only [Act.put, List.setIfInBounds_toArray, List.set_cons_zero, List.set_cons_succ]
                refine till_takeP (i := 7) (v := ?_) [10, 9, 8] (by kernel_rfl) (by kernel_rfl) rfl (by kernel_rfl) (by kernel_rfl) (by kernel_rfl) (fun _ _ _ h => h) (Or.inl ⟨by rfl, ?_⟩) hHeld ?_
                rotate_left
                · intro u hSu
                  (go_simp) <;> (with_reducible rfl)
                change wpTill _ _ _ _ _ _ _ _ (Act.put _ (some 68) _) _
                simp only [Act.put, List.setIfInBounds_toArray, List.set_cons_zero, List.set_cons_succ]
                refine till_takeP (i := 8) (v := ?_) [10, 9] (by kernel_rfl) (by kernel_rfl) rfl (by kernel_rfl) (by kernel_rfl) (by kernel_rfl) (fun _ _ _ h => h) (Or.inl ⟨by rfl, ?_⟩) hHeld ?_
                rotate_left
                · intro u hSu
                  (go_simp) <;> (with_reducible rfl)
                change wpTill _ _ _ _ _ _ _ _ (Act.put _ (some 69) _) _
                simp only [Act.put, List.setIfInBounds_toArray, List.set_cons_zero, List.set_cons_succ]
                refine till_takeP (i := 9) (v := ?_) [10] (by kernel_rfl) (by kernel_rfl) rfl (by kernel_rfl) (by kernel_rfl) (by kernel_rfl) (fun _ _ _ h => h) (Or.inl ⟨by rfl, ?_⟩) hHeld ?_
                rotate_left
                · intro u hSu
                  (go_simp) <;> (with_reducible rfl)
                change wpTill _ _ _ _ _ _ _ _ (Act.put _ (some 70) _) _
                simp only [Act.put, List.setIfInBounds_toArray, List.set_cons_zero, List.set_cons_succ]
                refine till_take (i := 10) (v := ?_) 10 (by kernel_rfl) (Or.inl rfl) (by kernel_rfl) rfl (by kernel_rfl) (by kernel_rfl) (by kernel_rfl) (fun _ _ _ h => h) (Or.inl ⟨by rfl, ?_⟩) hHeld ?_
                rotate_left
                · intro u hSu
                  obtain ⟨r1, r2, r3⟩ := HQ.out u hSu
                  (go_simp) <;> (with_reducible rfl)
                change wpTill _ _ _ _ _ _ _ _ (Act.put _ (some 71) _) _
                simp only [Act.put, List.setIfInBounds_toArray, List.set_cons_zero, List.set_cons_succ]
                refine till_last (by kernel_rfl) (by kernel_rfl) rfl (fun K hK => ?_)
                go_simp; go_at_call 10; refine (PU.out _ hHeld).mono ?_; rintro e v8 ⟨r, rfl, h8⟩; have H8 : Hid (∃ M, StX v5 v8 c M) := h8; obtain ⟨r1, r2⟩ := HQW.out _ h8; clear PU h8 HQ q0 q1 q2 q3; refine hK.out _ _ ?_; refine NoPanic.normal ?_; clear hK K hHeld
                go_wp2_with (go_at_call 15; refine (CT.out _ H8.out).mono ?_; rintro e v9 ⟨r9, rfl, h9⟩; have H9 : Hid (∃ M, StX v5 v9 c M) := h9; clear h9 H8 CT)
                go_roundw
                case rel => exact ⟨i + 1, by go_num, by omega, H9⟩
                case measure => simp [intOf]; omega
            · obtain rfl : i = len1 := by omega
              have H7 : Hid (StX W0 wr p L) := H5.out.past HM.out.below
              have R7 : Hid (StoreL wr q L) := R5.out.past HM.out.below
              go_wp2_with (first | (have hgo := H7.out; clear hgo; go_at_call 19; refine (CS2.out _ H7.out).mono ?_; rintro e v8 ⟨q2, rfl, h8, hb8⟩; have R8 : Hid (StoreL v8 q2 L) := h8.looks; have R9 : Hid (StoreL v8 q L) := R7.out.past hb8; have H8 : Hid (StX W0 v8 p L) := H7.out.past hb8; clear h8 hb8 H7 CS2) | (have hgo := H8.out; clear hgo; go_at_call 20; refine (CM.out _ _ _ R8.out R9.out).mono ?_; rintro e v10 ⟨rfl, hb10⟩; have H10 : Hid (Below w.heap.size w v10) := HBU.out _ (H8.out.past hb10).below; clear hb10 H8 CM))
              go_ret
              exact ⟨rfl, H10.out⟩

set_option maxRecDepth 100000 in
theorem lifted (os : Os) (started : os.Started) (H : Type) (enc : TypeId × Value → H) :
    ReturnsInHanded {} Try.checked os 7 .any (Rows.storeCopiesSpec.pre6 enc Try.prog Try.f7 Rows.storeCopiesRow.domain false) (Rows.storeCopiesSpec.post enc Try.prog Try.f7 false true false false) := by
  refine returnsInHanded_of_change (C := Try.checked) own started (by kernel_rfl) Try.func7
    (ChangeSpec.witness6 (enc := enc) (C := Try.checked) false ⟨#[], #[.slice none 0 0, .slice none 0 0], []⟩ 8 (by kernel_rfl) (by kernel_rfl) (by kernel_rfl) (by kernel_rfl)) ?_
  intro W base args ds gs before hval0 hW hcnd _
  have hval : ∀ (j : Nat) t v, Try.f7.params[j]? = some t → args[j]? = some v → Value.okWide Try.prog W .any base t v := hval0
  have hW' := hW
  obtain ⟨p, q, hA0, hV, rfl, hfz, hnd⟩ := hW
  have hA : DataW.TrodAll enc Try.prog W 0 (fun _ => true) true Try.f7.params.toList args.toList ds p := hA0
  rw [Try.params7] at hA hval
  obtain ⟨v0, vs0, d0, ds0, p0, q0, hargs, rfl, rfl, h0, r0⟩ := trodAll_cons hA
  obtain ⟨v1, vs1, d1, ds1, p1, q1, rfl, rfl, rfl, h1, r1⟩ := trodAll_cons r0
  obtain ⟨rfl, rfl, rfl⟩ := trodAll_nil r1
  obtain rfl : args = #[v0, v1] := by cases args; simp_all
  obtain ⟨rfl, rfl⟩ := trodVars_none hV
  obtain ⟨a0, len0, cap0, rfl⟩ := okWide_slice Try.underlying45 (hval 0 45 v0 rfl rfl)
  have k0 := h0
  have lt0 : ∀ x ∈ p0, x.block < W.heap.size := by obtain ⟨m, hm⟩ := k0; exact DataW.trod_lt m _ _ _ hm
  obtain ⟨z0, l0, w0⟩ : ∃ xs : List SAct, xs.length = len0 ∧ SActsOf W a0 cap0 xs := by
    obtain ⟨fuel, hf⟩ := h0
    exact sacts_open Try.underlying45 Try.underlying49 Try.underlying3 Try.underlying28 Try.underlying2 Try.underlying5 Try.underlying46 Try.underlying34 Try.underlying31 Try.underlying5 Try.underlying9 Try.underlying4 rfl rfl rfl rfl rfl rfl rfl rfl (by kernel_rfl) (by kernel_rfl) (by kernel_rfl) (by kernel_rfl) (by kernel_rfl) (by kernel_rfl) (by kernel_rfl) (by kernel_rfl) (by kernel_rfl) (by kernel_rfl) (by kernel_rfl) hf
  obtain ⟨a1, len1, cap1, rfl⟩ := okWide_slice Try.underlying45 (hval 1 45 v1 rfl rfl)
  have k1 := h1
  have lt1 : ∀ x ∈ p1, x.block < W.heap.size := by obtain ⟨m, hm⟩ := k1; exact DataW.trod_lt m _ _ _ hm
  obtain ⟨z1, l1, w1⟩ : ∃ xs : List SAct, xs.length = len1 ∧ SActsOf W a1 cap1 xs := by
    obtain ⟨fuel, hf⟩ := h1
    exact sacts_open Try.underlying45 Try.underlying49 Try.underlying3 Try.underlying28 Try.underlying2 Try.underlying5 Try.underlying46 Try.underlying34 Try.underlying31 Try.underlying5 Try.underlying9 Try.underlying4 rfl rfl rfl rfl rfl rfl rfl rfl (by kernel_rfl) (by kernel_rfl) (by kernel_rfl) (by kernel_rfl) (by kernel_rfl) (by kernel_rfl) (by kernel_rfl) (by kernel_rfl) (by kernel_rfl) (by kernel_rfl) (by kernel_rfl) hf
  clear hA0 hval0
  refine (walk a0 len0 cap0 z0 a1 len1 cap1 z1 W l0 w0 l1 w1).mono fun e W' ⟨he, bel⟩ => ?_
  subst he
  exact ⟨_, rfl, _, _, _, [], _, [], hW', trodAll_mk1 (shut_bool Try.underlying4 _), (trodAll_cons_mk (Below.trod laidOut (by kernel_rfl) (of_decide_eq_true (by kernel_rfl)) k0 bel lt0) (trodAll_cons_mk (Below.trod laidOut (by kernel_rfl) (of_decide_eq_true (by kernel_rfl)) k1 bel lt1) trodAll_mk0)), rfl, bel.frame _, fun h => by cases h⟩

theorem over : Rows.storeCopiesRow.holds Try.pinned (OpenSpec.ofChange Rows.storeCopiesSpec) :=
  OpenClaim.holds_of_wide 7 Try.f7 rfl rfl rfl rfl rfl rfl rfl ⟨rfl, rfl, rfl, rfl, rfl⟩ rfl rfl rfl rfl rfl (by kernel_rfl) Try.func7 (by kernel_rfl)
    (of_decide_eq_true (by kernel_rfl)) (by unfold Func.isWrapper; first | (rw [if_pos (by decide +kernel)]; kernel_rfl) | (rw [if_neg (by decide +kernel)]; exact ⟨rfl, rfl⟩))
    (fun os started H enc _ => lifted os started H enc)
theorem proved : Rows.StoreCopiesSaid := over
#print axioms proved
end Go.Proofs.Ytfaojmognbgnfaa.storeCopies
namespace Go.Proofs.Ytfaojmognbgnfaa
/-- StoreCopies, as given. -/
theorem storeCopies_holds : Rows.StoreCopiesSaid := storeCopies.proved
end Go.Proofs.Ytfaojmognbgnfaa
