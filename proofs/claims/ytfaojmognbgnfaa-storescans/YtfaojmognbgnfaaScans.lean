/-
  StoreScans: a stretch has just the keys between its ends that are told one by one, in their order; two stretches side by side are one; for every list of acts, every three keys, every stamp (of more than 20 acts, of more than 20 writes in one, of values of more than 250 bytes the statement asks nothing).
-/
import Derived.Test.YtfaojmognbgnfaaRows
import Derived.Test.YtfaojmognbgnfaaStoL6
import Derived.Test.YtfaojmognbgnfaaBase
import Derived.Test.YtfaojmognbgnfaaSActs
import Derived.Test.YtfaojmognbgnfaaPairOpen
import Derived.WalkKit
import Derived.ProofKit
import Derived.OpenShut
import Derived.ShutString
import Derived.ChangeOld
import Derived.Below
import Derived.Carry
namespace Go.Proofs.Ytfaojmognbgnfaa.storeScans
open Go.ChangeShapes Go.WideShapes Go.ChangeAt Go.RowKit
open Go.ChangeMaps (open_string shut_string)
set_option linter.unusedVariables false

theorem own : ownKnob Try.prog.godebug = none := by kernel_rfl
theorem laidOut : laidOutB Try.prog = true := by kernel_rfl
/-- A slice of integers that came in: nil, or a row of 'cap' cells, of which the first 'len' are its elements. -/
def IsRow (k : IntKind) (w : World) (a : Option Addr) (len cap : Nat) (zs : List Int) : Prop :=
  (a = none ∧ len = 0 ∧ cap = 0 ∧ zs = []) ∨
  ∃ x, a = some x ∧ len ≤ cap ∧ cap ≤ maxLen ∧ zs.length = cap ∧ (∀ i, i < zs.length → w.cell? (x.add i) = some (.int k (zs.getD i 0))) ∧ ∀ n ∈ zs, (Lit.int k n).wf = true

set_option maxRecDepth 20000 in
set_option maxHeartbeats 16000000 in
theorem walk (a0 : Option Addr) (len0 cap0 : Nat) (z0 : List SAct) (z1 : List Int) (z2 : List Int) (z3 : List Int) (a4 b4 : Int) (w : World) (l0 : z0.length = len0) (w0 : SActsOf w a0 cap0 z0) (w1 : IsArr .u8 16 z1) (w2 : IsArr .u8 16 z2) (w3 : IsArr .u8 16 z3) (w4 : (Lit.int .i64 a4).wf = true) (x4 : (Lit.int .u8 b4).wf = true) :
    Calls Try.prog 6 #[.slice a0 len0 cap0, .agg (z1.map (Value.int .u8)).toArray, .agg (z2.map (Value.int .u8)).toArray, .agg (z3.map (Value.int .u8)).toArray, .agg #[.int .i64 a4, .int .u8 b4]] w fun e w' => e = .returned (.bool true) ∧ Below w.heap.size w w' := by
  have by4 := bounds_i64 w4
  have by4n := bounds_u8 x4
  have KY1 : Hid (Ky z1) := w1.ky
  have KY2 : Hid (Ky z2) := w2.ky
  have KY3 : Hid (Ky z3) := w3.ky
  have AW : Hid (∀ u, Calls Try.prog 8 #[] u fun e w' => e = .returned (.bool true) ∧ Below u.heap.size u w') := fun u => lawake_any u
  have HL : Hid (z0.length = len0) := l0
  have HA : Hid (SActsOf w a0 cap0 z0) := w0
  have hcap : len0 ≤ cap0 := by rw [← l0]; exact w0.room
  obtain ⟨W0, hW0⟩ : ∃ W0, W0 = (((w.alloc (.cells (kcs z1) 31)).alloc (.cells (kcs z2) 31)).alloc (.cells (kcs z3) 31)).alloc (.cells #[.int .i64 a4, .int .u8 b4] 28) := ⟨_, rfl⟩
  have HW0 : Hid ((((w.alloc (.cells (kcs z1) 31)).alloc (.cells (kcs z2) 31)).alloc (.cells (kcs z3) 31)).alloc (.cells #[.int .i64 a4, .int .u8 b4] 28) = W0) := hW0.symm
  have HB0 : Hid (Below w.heap.size w W0) := by rw [hW0]; exact ((((Below.refl _ _).alloc (Nat.le_refl _) _).alloc (by simp) _).alloc (by simp; omega) _).alloc (by simp; omega) _
  have HBX : Hid (KsB w W0 z1 z2 z3 a4 b4) := by rw [hW0]; exact KsB.made w KY1.out KY2.out KY3.out a4 b4 31 28
  have CN : Hid (∀ u, Below W0.heap.size W0 u → Calls Try.prog 9 #[] u fun e w' => ∃ p, e = .returned (.pointer (some ⟨p, 0, none⟩)) ∧ StX W0 w' p []) := fun u hb => (xnew_any u).mono fun e w' ⟨p, h1, h2⟩ => ⟨p, h1, h2.to hb⟩
  clear w0 w1 w2 w3 w4 x4 l0 hW0
  by_cases ha : 20 < len0
  · have ba : (20 : Int) < (len0 : Int) := by omega
    go_enter Try.func6, Try.ntmps6
    go_wp2_with (first | (go_at_call 8; refine (AW.out _).mono ?_; rintro e v1 ⟨rfl, hb1⟩; rw [HW0.out] at hb1; have B1 : Hid (Below w.heap.size w v1) := HB0.out.trans (hb1.mono HB0.out.size); clear hb1))
    go_ret
    exact ⟨rfl, B1.out⟩
  · have ba : ¬ (20 : Int) < (len0 : Int) := by omega
    go_enter Try.func6, Try.ntmps6
    go_wp2_with (first | (go_at_call 8; refine (AW.out _).mono ?_; rintro e v1 ⟨rfl, hb1⟩; rw [HW0.out] at hb1; have B1 : Hid (Below W0.heap.size W0 v1) := hb1; clear hb1) | (have hgo := B1.out; clear hgo; go_at_call 9; refine (CN.out _ B1.out).mono ?_; rintro e v2 ⟨p, rfl, h2⟩; have H2 : Hid (StX W0 v2 p []) := h2; clear h2 B1))
    clear CN AW
    go_loopw [12] (fun iv wr => ∃ i : Nat, iv = .int .i64 i ∧ i ≤ len0 ∧ Hid (StX W0 wr p (appsV (z0.take i)))) (fun iv _ => len0 - (intOf iv).toNat)
    case atStart => exact ⟨0, rfl, Nat.zero_le _, by rw [List.take_zero]; exact H2⟩
    case round =>
      obtain ⟨i, rfl, hi, HC⟩ := hrel
      have h0 : (0 : Int) ≤ (i : Int) := by omega
      have HBW : Hid (Below w.heap.size w wr) := HB0.out.trans (HC.out.below.mono HB0.out.size)
      by_cases hlt : i < len0
      · have h1 : (i : Int) < (len0 : Int) := by omega
        obtain ⟨x, hx⟩ : ∃ x, z0[i]? = some x := ⟨_, List.getElem?_eq_getElem (by rw [HL.out]; exact hlt)⟩
        obtain ⟨b, off, rfl, hax, hok⟩ := HA.out.act hx
        obtain ⟨q0, q1, q2, q3⟩ := hax.past HBW.out
        have HAX : Hid (SActAt wr b (off + i * 4) x) := hax.past HBW.out
        obtain ⟨N, hN⟩ : ∃ N, N = x.l.length := ⟨_, rfl⟩
        obtain ⟨t, ht⟩ : ∃ t, t = x.t := ⟨_, rfl⟩
        obtain ⟨n, hn⟩ : ∃ t, t = x.n := ⟨_, rfl⟩
        obtain ⟨xa, hxa⟩ : ∃ t, t = x.a := ⟨_, rfl⟩
        obtain ⟨xc, hxc⟩ : ∃ t, t = x.cap := ⟨_, rfl⟩
        rw [← ht] at q1
        rw [← hn] at q2
        rw [← hN, ← hxa, ← hxc] at q3
        have CLG : Hid (Calls Try.prog 18 #[.slice xa N xc] wr fun e w' => e = .returned (.bool (longW x.l)) ∧ w' = wr) := by rw [hxa, hN, hxc]; exact llong_any x.a x.l.length x.cap x.l wr rfl hok.wr.room hok.wr.few (hok.wr.at_.past HBW.out)
        obtain ⟨lg, hlg⟩ : ∃ g, g = longW x.l := ⟨_, rfl⟩
        rw [← hlg] at CLG
        cases lg with
        | true =>
          clear hok hax HAX ht hn hN hxa hxc hlg hx
          go_wp2_with (go_at_call 18; refine CLG.out.mono ?_; rintro e v3 ⟨rfl, rfl⟩)
          go_ret
          exact ⟨rfl, HBW.out⟩
        | false =>
          have hN20 : N ≤ 20 := by
            have h9 : longW x.l = false := hlg.symm
            unfold longW at h9
            simp only [Bool.or_eq_false_iff, decide_eq_false_iff_not] at h9
            omega
          have HQ : Hid (∀ u, Below wr.heap.size wr u → u.cell? ⟨b, off + i * 4 + 1, none⟩ = some (.int .i64 t) ∧ u.cell? ⟨b, off + i * 4 + 2, none⟩ = some (.int .u8 n) ∧ u.cell? ⟨b, off + i * 4 + 3, none⟩ = some (.slice xa N xc)) := fun u hb => by
            obtain ⟨_, r1, r2, r3⟩ := HAX.out.past hb
            rw [ht, hn, hN, hxa, hxc]
            exact ⟨r1, r2, r3⟩
          have HT : Hid (appsV (z0.take (i + 1)) = (applyV (appsV (z0.take i)) x.t x.n x.l).2) := apps_next hx
          have PU : Hid (∀ u, Below wr.heap.size wr u → Calls Try.prog 10 #[.pointer (some ⟨p, 0, none⟩), .agg #[.int .i64 t, .int .u8 n], .slice xa N xc] u fun e w' => ∃ r, e = .returned (.int .i64 r) ∧ StX W0 w' p (appsV (z0.take (i + 1)))) := fun u hb => by
            rw [HT.out, ht, hn, hxa, hN, hxc]
            exact (xapply_in (HC.out.past hb) x.t x.n hok.n x.a x.l.length x.cap x.l rfl hok.wr.room (by rw [← hN]; omega) (hok.wr.at_.past HB0.out)).mono fun e w' ⟨h1, h2⟩ => ⟨_, h1, h2⟩
          clear HT hok hax HAX ht hn hN hxa hxc hlg hx
          go_wp2_with (go_at_call 18; refine CLG.out.mono ?_; rintro e v3 ⟨rfl, rfl⟩; clear CLG)
          refine wp_region_noPanic ?_
          refine region_till 11 (fun u => Below v3.heap.size v3 u) (by kernel_rfl) ?_ (fun hHeld => ?_)
          · exact (Below.refl _ _).drew
          refine till_take (i := 0) (v := ?_) 0 (by kernel_rfl) (Or.inl rfl) (by kernel_rfl) rfl (by kernel_rfl) (by kernel_rfl) (by kernel_rfl) (fun _ _ _ h => h) (Or.inl ⟨by rfl, ?_⟩) hHeld ?_
          rotate_left
          · intro u hSu
            (go_simp) <;> (with_reducible rfl)
          change wpTill _ _ _ _ _ _ _ _ (Act.put _ (some 36) _) _
          simp only [Act.put, List.setIfInBounds_toArray, List.set_cons_zero, List.set_cons_succ]
          refine till_takeP (i := 1) (v := ?_) [5, 4, 3] (by kernel_rfl) (by kernel_rfl) rfl (by kernel_rfl) (by kernel_rfl) (by kernel_rfl) (fun _ _ _ h => h) (Or.inl ⟨by rfl, ?_⟩) hHeld ?_
          rotate_left
          · intro u hSu
            (go_simp) <;> (with_reducible rfl)
          change wpTill _ _ _ _ _ _ _ _ (Act.put _ (some 37) _) _
          simp only [Act.put, List.setIfInBounds_toArray, List.set_cons_zero, List.set_cons_succ]
          refine till_takeP (i := 2) (v := ?_) [5, 4, 3] (by kernel_rfl) (by kernel_rfl) rfl (by kernel_rfl) (by kernel_rfl) (by kernel_rfl) (fun _ _ _ h => h) (Or.inl ⟨by rfl, ?_⟩) hHeld ?_
          rotate_left
          · intro u hSu
            (go_simp) <;> (with_reducible rfl)
          change wpTill _ _ _ _ _ _ _ _ (Act.put _ (some 38) _) _
          simp only [Act.put, List.setIfInBounds_toArray, List.set_cons_zero, List.set_cons_succ]
          refine till_takeP (i := 3) (v := ?_) [5, 4] (by kernel_rfl) (by kernel_rfl) rfl (by kernel_rfl) (by kernel_rfl) (by kernel_rfl) (fun _ _ _ h => h) (Or.inl ⟨by rfl, ?_⟩) hHeld ?_
          rotate_left
          · intro u hSu
            (go_simp) <;> (with_reducible rfl)
          change wpTill _ _ _ _ _ _ _ _ (Act.put _ (some 39) _) _
          simp only [Act.put, List.setIfInBounds_toArray, List.set_cons_zero, List.set_cons_succ]
          refine till_takeP (i := 4) (v := ?_) [5] (by kernel_rfl) (by kernel_rfl) rfl (by kernel_rfl) (by kernel_rfl) (by kernel_rfl) (fun _ _ _ h => h) (Or.inl ⟨by rfl, ?_⟩) hHeld ?_
          rotate_left
          · intro u hSu
            (go_simp) <;> (with_reducible rfl)
          change wpTill _ _ _ _ _ _ _ _ (Act.put _ (some 40) _) _
          simp only [Act.put, List.setIfInBounds_toArray, List.set_cons_zero, List.set_cons_succ]
          refine till_take (i := 5) (v := ?_) 5 (by kernel_rfl) (Or.inl rfl) (by kernel_rfl) rfl (by kernel_rfl) (by kernel_rfl) (by kernel_rfl) (fun _ _ _ h => h) (Or.inl ⟨by rfl, ?_⟩) hHeld ?_
          rotate_left
          · intro u hSu
            obtain ⟨r1, r2, r3⟩ := HQ.out u hSu
            (go_simp) <;> (with_reducible rfl)
          change wpTill _ _ _ _ _ _ _ _ (Act.put _ (some 41) _) _
          simp only [Act.put, List.setIfInBounds_toArray, List.set_cons_zero, List.set_cons_succ]
          refine till_takeP (i := 6) (v := ?_) [10, 9, 8] (by kernel_rfl) (by kernel_rfl) rfl (by kernel_rfl) (by kernel_rfl) (by kernel_rfl) (fun _ _ _ h => h) (Or.inl ⟨by rfl, ?_⟩) hHeld ?_
          rotate_left
          · intro u hSu
            (go_simp) <;> (with_reducible rfl)
          change wpTill _ _ _ _ _ _ _ _ (Act.put _ (some 42) _) _
          simp only [Act.put, List.setIfInBounds_toArray, List.set_cons_zero, List.set_cons_succ]
          refine till_takeP (i := 7) (v := ?_) [10, 9, 8] (by kernel_rfl) (by kernel_rfl) rfl (by kernel_rfl) (by kernel_rfl) (by kernel_rfl) (fun _ _ _ h => h) (Or.inl ⟨by rfl, ?_⟩) hHeld ?_
          rotate_left
          · intro u hSu
            (go_simp) <;> (with_reducible rfl)
          change wpTill _ _ _ _ _ _ _ _ (Act.put _ (some 43) _) _
          simp only [Act.put, List.setIfInBounds_toArray, List.set_cons_zero, List.set_cons_succ]
          refine till_takeP (i := 8) (v := ?_) [10, 9] (by kernel_rfl) (by kernel_rfl) rfl (by kernel_rfl) (by kernel_rfl) (by kernel_rfl) (fun _ _ _ h => h) (Or.inl ⟨by rfl, ?_⟩) hHeld ?_
          rotate_left
          · intro u hSu
            (go_simp) <;> (with_reducible rfl)
          change wpTill _ _ _ _ _ _ _ _ (Act.put _ (some 44) _) _
          simp only [Act.put, List.setIfInBounds_toArray, List.set_cons_zero, List.set_cons_succ]
          refine till_takeP (i := 9) (v := ?_) [10] (by kernel_rfl) (by kernel_rfl) rfl (by kernel_rfl) (by kernel_rfl) (by kernel_rfl) (fun _ _ _ h => h) (Or.inl ⟨by rfl, ?_⟩) hHeld ?_
          rotate_left
          · intro u hSu
            (go_simp) <;> (with_reducible rfl)
          change wpTill _ _ _ _ _ _ _ _ (Act.put _ (some 45) _) _
          simp only [Act.put, List.setIfInBounds_toArray, List.set_cons_zero, List.set_cons_succ]
          refine till_take (i := 10) (v := ?_) 10 (by kernel_rfl) (Or.inl rfl) (by kernel_rfl) rfl (by kernel_rfl) (by kernel_rfl) (by kernel_rfl) (fun _ _ _ h => h) (Or.inl ⟨by rfl, ?_⟩) hHeld ?_
          rotate_left
          · intro u hSu
            obtain ⟨r1, r2, r3⟩ := HQ.out u hSu
            (go_simp) <;> (with_reducible rfl)
          change wpTill _ _ _ _ _ _ _ _ (Act.put _ (some 46) _) _
          simp only [Act.put, List.setIfInBounds_toArray, List.set_cons_zero, List.set_cons_succ]
          refine till_last (by kernel_rfl) (by kernel_rfl) rfl (fun K hK => ?_)
          go_simp; go_at_call 10; refine (PU.out _ hHeld).mono ?_; rintro e v4 ⟨r, rfl, h4⟩; have H4 : Hid (StX W0 v4 p (appsV (z0.take (i + 1)))) := h4; clear PU h4; refine hK.out _ _ ?_; refine NoPanic.normal ?_; clear hK K hHeld
          go_wp2
          go_roundw
          case rel => exact ⟨i + 1, by go_num, by omega, H4⟩
          case measure => simp [intOf]; omega
      · obtain rfl : i = len0 := by omega
        have HTK : Hid (z0.take i = z0) := List.take_of_length_le (by rw [HL.out]; exact Nat.le_refl _)
        rw [HTK.out] at HC
        obtain ⟨L, hL⟩ : ∃ L, L = appsV z0 := ⟨_, rfl⟩
        rw [← hL] at HC
        clear hL HTK
        have HG : Hid (StoG L) := HC.out.sto
        have HBU : Hid (∀ u, Below W0.heap.size W0 u → Below w.heap.size w u) := fun u hb => HB0.out.trans (hb.mono HB0.out.size)
        clear HA HL H2 HW0
        obtain ⟨R, hR⟩ : ∃ R, R = scanV L z1 z3 a4 b4 := ⟨_, rfl⟩
        obtain ⟨N, hN⟩ : ∃ N, R.length = N := ⟨_, rfl⟩
        have hN200 : N ≤ 200 := by rw [← hN, hR]; exact Nat.le_trans (List.length_filterMap_le _ _) HG.out.few
        have HN : Hid (R.length = N) := hN
        have HMEM : Hid (∀ x ∈ R, getV L x.1 a4 b4 = some x.2 ∧ withinK x.1 z1 z3 = true) := fun x hx => by rw [hR] at hx; exact scan_mem.1 hx
        have HUP : Hid (R.Pairwise (fun x y => lexC x.1 y.1 = -1)) := by rw [hR]; exact scan_up HG.out.sto.ord z1 z3 a4 b4
        have TB : Hid (∀ u, Below W0.heap.size W0 u → KsB w u z1 z2 z3 a4 b4) := fun u hb => HBX.out.past hb
        obtain ⟨_, _, _, c0, c1⟩ := TB.out wr HC.out.below
        have CS : Hid (Calls Try.prog 13 #[.pointer (some ⟨p, 0, none⟩), kv z1, kv z3, .agg #[.int .i64 a4, .int .u8 b4], .int .i64 300] wr fun e w' => ∃ a' c', e = .returned (.slice a' N c') ∧ ScA wr w' a' N c' R ∧ Below wr.heap.size wr w') := xscan_own HC.out (Below.refl _ _) z1 z3 KY1.out KY3.out a4 b4 R hR N hN
        obtain ⟨R1, hR1⟩ : ∃ R, R = scanV L z1 z2 a4 b4 := ⟨_, rfl⟩
        obtain ⟨N1, hN1⟩ : ∃ N, R1.length = N := ⟨_, rfl⟩
        have hN1x : N1 ≤ 200 := by rw [← hN1, hR1]; exact Nat.le_trans (List.length_filterMap_le _ _) HG.out.few
        obtain ⟨R2, hR2⟩ : ∃ R, R = scanV L z2 z3 a4 b4 := ⟨_, rfl⟩
        obtain ⟨N2, hN2⟩ : ∃ N, R2.length = N := ⟨_, rfl⟩
        have hN2x : N2 ≤ 200 := by rw [← hN2, hR2]; exact Nat.le_trans (List.length_filterMap_le _ _) HG.out.few
        have HSPLIT : Hid (0 ≤ lexC z2 z1 → z2 ≠ zeroK → (z3 = zeroK ∨ lexC z2 z3 ≤ 0) → z2 ≠ z3 → R = R1 ++ R2) := fun h1 h2 h3 h4 => by rw [hR, hR1, hR2]; exact scan_split HG.out.sto.ord h1 h2 h3 h4
        have CS1 : Hid (∀ U u, StX W0 u p L → Below U.heap.size U u → Calls Try.prog 13 #[.pointer (some ⟨p, 0, none⟩), kv z1, kv z2, .agg #[.int .i64 a4, .int .u8 b4], .int .i64 300] u fun e w' => ∃ a' c', e = .returned (.slice a' N1 c') ∧ ScA U w' a' N1 c' R1 ∧ Below u.heap.size u w') := fun U u h hU => xscan_own h hU z1 z2 KY1.out KY2.out a4 b4 R1 hR1 N1 hN1
        have CS2 : Hid (∀ U u, StX W0 u p L → Below U.heap.size U u → Calls Try.prog 13 #[.pointer (some ⟨p, 0, none⟩), kv z2, kv z3, .agg #[.int .i64 a4, .int .u8 b4], .int .i64 300] u fun e w' => ∃ a' c', e = .returned (.slice a' N2 c') ∧ ScA U w' a' N2 c' R2 ∧ Below u.heap.size u w') := fun U u h hU => xscan_own h hU z2 z3 KY2.out KY3.out a4 b4 R2 hR2 N2 hN2
        have H0 : Hid (StX W0 wr p L) := HC
        clear HC hR hN hR1 hN1 hR2 hN2 HBX HG
        go_wp2_with (first | (have hgo := H0.out; clear hgo; refine wpList_load_keyD 49 (by rfl) (by rfl) _ (by rfl) w.heap.size 0 (by rfl) z1 KY1.out (TB.out _ H0.out.below).a ?_) | (have hgo := H0.out; clear hgo; refine wpList_load_keyD 50 (by rfl) (by rfl) _ (by rfl) (w.heap.size + 1 + 1) 0 (by rfl) z3 KY3.out (TB.out _ H0.out.below).b ?_) | (have hgo := H0.out; clear hgo; go_at_call 13; refine CS.out.mono ?_; rintro e v5 ⟨xa, xc, rfl, h5, hb5⟩; have H5 : Hid (StX W0 v5 p L) := H0.out.past hb5; have HXI : Hid (ItmsAt v5 xa R) := h5.itms.1; have hxc : N ≤ xc := h5.itms.2; clear h5 hb5 H0 CS))
        clear HBW hi h0 hlt
        have HBV : Hid (∀ u, Below v5.heap.size v5 u → Below w.heap.size w u) := fun u hb => HBU.out _ (H5.out.past hb).below
        have TV : Hid (∀ u, Below v5.heap.size v5 u → KsB w u z1 z2 z3 a4 b4) := fun u hb => TB.out u (H5.out.past hb).below
        clear TB
        go_loopw [14] (fun iv wr => ∃ i : Nat, iv = .int .i64 i ∧ i ≤ N ∧ Hid (Below v5.heap.size v5 wr)) (fun iv _ => N - (intOf iv).toNat)
        case atStart => exact ⟨0, rfl, Nat.zero_le _, Below.refl _ _⟩
        case round =>
          obtain ⟨i, rfl, hi, HM⟩ := hrel
          have h0 : (0 : Int) ≤ (i : Int) := by omega
          by_cases hlt : i < N
          · have h1 : (i : Int) < (N : Int) := by omega
            obtain ⟨I, hI⟩ : ∃ I, R[i]? = some I := ⟨_, List.getElem?_eq_getElem (by rw [HN.out]; exact hlt)⟩
            obtain ⟨b, off, rfl, hat, hok⟩ := HXI.out.itm hI
            obtain ⟨hg1, hg2⟩ := HMEM.out I (List.mem_of_getElem? hI)
            obtain ⟨K, hK⟩ : ∃ K, K = I.1 := ⟨_, rfl⟩
            obtain ⟨S, hS⟩ : ∃ S, S = strOfNums I.2 := ⟨_, rfl⟩
            have KYK : Hid (Ky K) := by rw [hK]; exact hok.key
            have KAT : Hid (∀ u, Below v5.heap.size v5 u → KeyAt u b (off + i * 17) K) := fun u hb => by rw [hK]; exact (hat.past hb).key hok.key
            have HCE : Hid (∀ u, Below v5.heap.size v5 u → u.cell? ⟨b, off + i * 17 + 16, none⟩ = some (.string S)) := fun u hb => by rw [hS]; exact (hat.past hb).cell hok.key
            have CG : Hid (∀ u, Below v5.heap.size v5 u → Calls Try.prog 21 #[.pointer (some ⟨p, 0, none⟩), kv K, .agg #[.int .i64 a4, .int .u8 b4]] u fun e w' => e = .returned (.tuple #[.string S, .bool true]) ∧ Below u.heap.size u w') := fun u hb => by
              have h9 := H5.out.past hb
              obtain ⟨X, h10, _⟩ := h9
              have h11 := sget_any p L X I.1 hok.key a4 b4 u h10
              rw [hg1] at h11
              rw [hK, hS]
              exact h11
            have CW : Hid (∀ u, Calls Try.prog 24 #[kv K, kv z1, kv z3] u fun e w' => e = .returned (.bool true) ∧ Below u.heap.size u w') := fun u => by
              have h9 := rwithin_any I.1 z1 z3 hok.key KY1.out KY3.out u
              rw [hg2] at h9
              rw [hK]
              exact h9
            have KW : Hid (∀ u, Below wr.heap.size wr u → KeyAt u b (off + i * 17) K) := fun u hb => KAT.out u (HM.out.trans (hb.mono HM.out.size))
            have SW : Hid (∀ u, Below wr.heap.size wr u → u.cell? ⟨w.heap.size + 1 + 1 + 1, 0, none⟩ = some (.int .i64 a4) ∧ u.cell? ⟨w.heap.size + 1 + 1 + 1, 1, none⟩ = some (.int .u8 b4)) := fun u hb => ⟨(TV.out u (HM.out.trans (hb.mono HM.out.size))).c0, (TV.out u (HM.out.trans (hb.mono HM.out.size))).c1⟩
            have CGW : Hid (∀ u, Below wr.heap.size wr u → Calls Try.prog 21 #[.pointer (some ⟨p, 0, none⟩), kv K, .agg #[.int .i64 a4, .int .u8 b4]] u fun e w' => e = .returned (.tuple #[.string S, .bool true]) ∧ Below u.heap.size u w') := fun u hb => CG.out u (HM.out.trans (hb.mono HM.out.size))
            have HPREV : Hid (∀ j, i = j + 1 → ∃ K0, Ky K0 ∧ (∀ u, Below v5.heap.size v5 u → KeyAt u b (off + j * 17) K0) ∧ lexC K0 K = -1) := fun j hj => by
              subst hj
              have hjl : j < R.length := by rw [HN.out]; omega
              obtain ⟨b', off', e', hat', hok'⟩ := HXI.out.itm (List.getElem?_eq_getElem hjl)
              cases e'
              refine ⟨R[j].1, hok'.key, fun u hb => (hat'.past hb).key hok'.key, ?_⟩
              have hjl2 : j + 1 < R.length := by rw [HN.out]; exact hlt
              have := List.pairwise_iff_getElem.1 HUP.out j (j + 1) hjl hjl2 (by omega)
              rw [List.getElem?_eq_getElem hjl2] at hI
              rw [hK, ← Option.some.inj hI]
              exact this
            clear hg1 hg2 hI hat hok hK hS CG HMEM HUP
            go_wp2
            refine wp_region_noPanic ?_
            refine wp_region_held_drew (S := fun u => Below wr.heap.size wr u) (by kernel_rfl) ?_ (fun hHeld => ?_)
            · exact (Below.refl _ _).drew
            refine wpAnyH_take (i := 0) (v := ?_) rfl (by kernel_rfl) (by kernel_rfl) (by kernel_rfl) (fun _ _ _ h => h) (Or.inl ⟨by rfl, ?_⟩) hHeld ?_
            rotate_left
            · intro u hSu
              (go_simp) <;> (with_reducible rfl)
            change wpAnyH _ _ _ _ _ _ _ (Act.put _ (some 60) _) _
            simp only [Act.put, List.setIfInBounds_toArray, List.set_cons_zero, List.set_cons_succ]
            refine wpAnyH_take (i := 1) (v := ?_) rfl (by kernel_rfl) (by kernel_rfl) (by kernel_rfl) (fun _ _ _ h => h) (Or.inl ⟨by rfl, ?_⟩) hHeld ?_
            rotate_left
            · intro u hSu
              (go_simp) <;> (with_reducible rfl)
            change wpAnyH _ _ _ _ _ _ _ (Act.put _ (some 61) _) _
            simp only [Act.put, List.setIfInBounds_toArray, List.set_cons_zero, List.set_cons_succ]
            refine wpAnyH_take (i := 2) (v := ?_) rfl (by kernel_rfl) (by kernel_rfl) (by kernel_rfl) (fun _ _ _ h => h) (Or.inl ⟨by rfl, ?_⟩) hHeld ?_
            rotate_left
            · intro u hSu
              (go_simp) <;> (with_reducible rfl)
            change wpAnyH _ _ _ _ _ _ _ (Act.put _ (some 62) _) _
            simp only [Act.put, List.setIfInBounds_toArray, List.set_cons_zero, List.set_cons_succ]
            refine wpAnyH_take (i := 3) (v := ?_) rfl (by kernel_rfl) (by kernel_rfl) (by kernel_rfl) (fun _ _ _ h => h) (Or.inl ⟨by rfl, ?_⟩) hHeld ?_
            rotate_left
            · intro u hSu
              (go_simp) <;> (with_reducible rfl)
            change wpAnyH _ _ _ _ _ _ _ (Act.put _ (some 63) _) _
            simp only [Act.put, List.setIfInBounds_toArray, List.set_cons_zero, List.set_cons_succ]
            refine wpAnyH_take (i := 4) (v := ?_) rfl (by kernel_rfl) (by kernel_rfl) (by kernel_rfl) (fun _ _ _ h => h) (Or.inl ⟨by rfl, ?_⟩) hHeld ?_
            rotate_left
            · intro u hSu
              (go_simp) <;> (with_reducible rfl)
            change wpAnyH _ _ _ _ _ _ _ (Act.put _ (some 64) _) _
            simp only [Act.put, List.setIfInBounds_toArray, List.set_cons_zero, List.set_cons_succ]
            refine wpAnyH_take (i := 5) (v := kv K) rfl (by kernel_rfl) (by kernel_rfl) (by kernel_rfl) (fun _ _ _ h => h) (yieldsIf_load_mid (by rfl) _ _ rfl _ _ rfl (K.map (Value.int .u8)) _ (fun u hu => (KW.out u hu).range KYK.out) Try.underlying31 rfl (info_keyl K KYK.out)) hHeld ?_
            change wpAnyH _ _ _ _ _ _ _ (Act.put _ (some 65) _) _
            simp only [Act.put, List.setIfInBounds_toArray, List.set_cons_zero, List.set_cons_succ]
            refine wpAnyH_take (i := 6) (v := ?_) rfl (by kernel_rfl) (by kernel_rfl) (by kernel_rfl) (fun _ _ _ h => h) (Or.inl ⟨by rfl, ?_⟩) hHeld ?_
            rotate_left
            · intro u hSu
              obtain ⟨r1, r2⟩ := SW.out u hSu
              (go_simp) <;> (with_reducible rfl)
            change wpAnyH _ _ _ _ _ _ _ (Act.put _ (some 66) _) _
            simp only [Act.put, List.setIfInBounds_toArray, List.set_cons_zero, List.set_cons_succ]
            refine wpAnyH_ready (rs := [7]) (by kernel_rfl) (by simp) ?_
            refine AllReadyH.cons rfl (fun K hK => ?_) AllReadyH.nil
            go_simp
            go_at_call 21
            refine (CGW.out _ hHeld).mono ?_
            rintro e v8 ⟨rfl, hb8⟩
            have B8 : Hid (Below wr.heap.size wr v8) := hHeld.trans (hb8.mono hHeld.size)
            refine hK.out _ _ ?_ (fun hHeld2 => ?_)
            · exact B8.out
            clear hK K hHeld
            have hHeld := hHeld2
            clear hHeld2
            refine wpAnyH_take (i := 8) (v := ?_) rfl (by kernel_rfl) (by kernel_rfl) (by kernel_rfl) (fun _ _ _ h => h) (Or.inl ⟨by rfl, ?_⟩) hHeld ?_
            rotate_left
            · intro u hSu
              (go_simp) <;> (with_reducible rfl)
            change wpAnyH _ _ _ _ _ _ _ (Act.put _ (some 59) _) _
            simp only [Act.put, List.setIfInBounds_toArray, List.set_cons_zero, List.set_cons_succ]
            refine wpAnyH_take (i := 9) (v := ?_) rfl (by kernel_rfl) (by kernel_rfl) (by kernel_rfl) (fun _ _ _ h => h) (Or.inl ⟨by rfl, ?_⟩) hHeld ?_
            rotate_left
            · intro u hSu
              (go_simp) <;> (with_reducible rfl)
            change wpAnyH _ _ _ _ _ _ _ (Act.put _ (some 68) _) _
            simp only [Act.put, List.setIfInBounds_toArray, List.set_cons_zero, List.set_cons_succ]
            refine wpAnyH_take (i := 10) (v := ?_) rfl (by kernel_rfl) (by kernel_rfl) (by kernel_rfl) (fun _ _ _ h => h) (Or.inl ⟨by rfl, ?_⟩) hHeld ?_
            rotate_left
            · intro u hSu
              (go_simp) <;> (with_reducible rfl)
            change wpAnyH _ _ _ _ _ _ _ (Act.put _ (some 69) _) _
            simp only [Act.put, List.setIfInBounds_toArray, List.set_cons_zero, List.set_cons_succ]
            refine wpAnyH_take (i := 11) (v := ?_) rfl (by kernel_rfl) (by kernel_rfl) (by kernel_rfl) (fun _ _ _ h => h) (Or.inl ⟨by rfl, ?_⟩) hHeld ?_
            rotate_left
            · intro u hSu
              (go_simp) <;> (with_reducible rfl)
            change wpAnyH _ _ _ _ _ _ _ (Act.put _ (some 15) _) _
            simp only [Act.put, List.setIfInBounds_toArray, List.set_cons_zero, List.set_cons_succ]
            refine wpAnyH_take (i := 12) (v := ?_) rfl (by kernel_rfl) (by kernel_rfl) (by kernel_rfl) (fun _ _ _ h => h) (Or.inl ⟨by rfl, ?_⟩) hHeld ?_
            rotate_left
            · intro u hSu
              (go_simp) <;> (with_reducible rfl)
            change wpAnyH _ _ _ _ _ _ _ (Act.put _ (some 16) _) _
            simp only [Act.put, List.setIfInBounds_toArray, List.set_cons_zero, List.set_cons_succ]
            refine wpAnyH_done (by kernel_rfl) ?_ _
            refine NoPanic.normal ?_
            have HM8 : Hid (Below v5.heap.size v5 v8) := HM.out.trans (B8.out.mono HM.out.size)
            have K8 : Hid (∀ u, Below v8.heap.size v8 u → KeyAt u b (off + i * 17) K) := fun u hb => KAT.out u (HM8.out.trans (hb.mono HM8.out.size))
            have C8 : Hid (∀ u, Below v8.heap.size v8 u → u.cell? ⟨b, off + i * 17 + 16, none⟩ = some (.string S)) := fun u hb => HCE.out u (HM8.out.trans (hb.mono HM8.out.size))
            have F8 : Hid (∀ u, Below v8.heap.size v8 u → KeyAt u w.heap.size 0 z1) := fun u hb => (TV.out u (HM8.out.trans (hb.mono HM8.out.size))).a
            have T8 : Hid (∀ u, Below v8.heap.size v8 u → KeyAt u (w.heap.size + 1 + 1) 0 z3) := fun u hb => (TV.out u (HM8.out.trans (hb.mono HM8.out.size))).b
            clear B8 CGW SW KW KAT HCE
            by_cases hi0 : i = 0
            · subst hi0
              clear HPREV
              go_wp2
              refine wp_region_noPanic ?_
              refine wp_region_held_drew (S := fun u => Below v8.heap.size v8 u) (by kernel_rfl) ?_ (fun hHeld => ?_)
              · exact (Below.refl _ _).drew
              refine wpAnyH_take (i := 0) (v := ?_) rfl (by kernel_rfl) (by kernel_rfl) (by kernel_rfl) (fun _ _ _ h => h) (Or.inl ⟨by rfl, ?_⟩) hHeld ?_
              rotate_left
              · intro u hSu
                (go_simp) <;> (with_reducible rfl)
              change wpAnyH _ _ _ _ _ _ _ (Act.put _ (some 70) _) _
              simp only [Act.put, List.setIfInBounds_toArray, List.set_cons_zero, List.set_cons_succ]
              refine wpAnyH_take (i := 1) (v := ?_) rfl (by kernel_rfl) (by kernel_rfl) (by kernel_rfl) (fun _ _ _ h => h) (Or.inl ⟨by rfl, ?_⟩) hHeld ?_
              rotate_left
              · intro u hSu
                (go_simp) <;> (with_reducible rfl)
              change wpAnyH _ _ _ _ _ _ _ (Act.put _ (some 71) _) _
              simp only [Act.put, List.setIfInBounds_toArray, List.set_cons_zero, List.set_cons_succ]
              refine wpAnyH_take (i := 2) (v := ?_) rfl (by kernel_rfl) (by kernel_rfl) (by kernel_rfl) (fun _ _ _ h => h) (Or.inl ⟨by rfl, ?_⟩) hHeld ?_
              rotate_left
              · intro u hSu
                (go_simp) <;> (with_reducible rfl)
              change wpAnyH _ _ _ _ _ _ _ (Act.put _ (some 72) _) _
              simp only [Act.put, List.setIfInBounds_toArray, List.set_cons_zero, List.set_cons_succ]
              refine wpAnyH_take (i := 3) (v := ?_) rfl (by kernel_rfl) (by kernel_rfl) (by kernel_rfl) (fun _ _ _ h => h) (Or.inl ⟨by rfl, ?_⟩) hHeld ?_
              rotate_left
              · intro u hSu
                (go_simp) <;> (with_reducible rfl)
              change wpAnyH _ _ _ _ _ _ _ (Act.put _ (some 73) _) _
              simp only [Act.put, List.setIfInBounds_toArray, List.set_cons_zero, List.set_cons_succ]
              refine wpAnyH_take (i := 4) (v := ?_) rfl (by kernel_rfl) (by kernel_rfl) (by kernel_rfl) (fun _ _ _ h => h) (Or.inl ⟨by rfl, ?_⟩) hHeld ?_
              rotate_left
              · intro u hSu
                (go_simp) <;> (with_reducible rfl)
              change wpAnyH _ _ _ _ _ _ _ (Act.put _ (some 74) _) _
              simp only [Act.put, List.setIfInBounds_toArray, List.set_cons_zero, List.set_cons_succ]
              refine wpAnyH_take (i := 5) (v := ?_) rfl (by kernel_rfl) (by kernel_rfl) (by kernel_rfl) (fun _ _ _ h => h) (Or.inl ⟨by rfl, ?_⟩) hHeld ?_
              rotate_left
              · intro u hSu
                (go_simp) <;> (with_reducible rfl)
              change wpAnyH _ _ _ _ _ _ _ (Act.put _ (some 75) _) _
              simp only [Act.put, List.setIfInBounds_toArray, List.set_cons_zero, List.set_cons_succ]
              refine wpAnyH_take (i := 6) (v := ?_) rfl (by kernel_rfl) (by kernel_rfl) (by kernel_rfl) (fun _ _ _ h => h) (Or.inl ⟨by rfl, ?_⟩) hHeld ?_
              rotate_left
              · intro u hSu
                (go_simp) <;> (with_reducible rfl)
              change wpAnyH _ _ _ _ _ _ _ (Act.put _ (some 76) _) _
              simp only [Act.put, List.setIfInBounds_toArray, List.set_cons_zero, List.set_cons_succ]
              refine wpAnyH_take (i := 7) (v := ?_) rfl (by kernel_rfl) (by kernel_rfl) (by kernel_rfl) (fun _ _ _ h => h) (Or.inl ⟨by rfl, ?_⟩) hHeld ?_
              rotate_left
              · intro u hSu
                (go_simp) <;> (with_reducible rfl)
              change wpAnyH _ _ _ _ _ _ _ (Act.put _ (some 77) _) _
              simp only [Act.put, List.setIfInBounds_toArray, List.set_cons_zero, List.set_cons_succ]
              refine wpAnyH_take (i := 8) (v := ?_) rfl (by kernel_rfl) (by kernel_rfl) (by kernel_rfl) (fun _ _ _ h => h) (Or.inl ⟨by rfl, ?_⟩) hHeld ?_
              rotate_left
              · intro u hSu
                have r1 := C8.out u hSu
                (go_simp) <;> (with_reducible rfl)
              change wpAnyH _ _ _ _ _ _ _ (Act.put _ (some 78) _) _
              simp only [Act.put, List.setIfInBounds_toArray, List.set_cons_zero, List.set_cons_succ]
              refine wpAnyH_take (i := 9) (v := ?_) rfl (by kernel_rfl) (by kernel_rfl) (by kernel_rfl) (fun _ _ _ h => h) (Or.inl ⟨by rfl, ?_⟩) hHeld ?_
              rotate_left
              · intro u hSu
                (go_simp) <;> (with_reducible rfl)
              change wpAnyH _ _ _ _ _ _ _ (Act.put _ (some 79) _) _
              simp only [Act.put, List.setIfInBounds_toArray, List.set_cons_zero, List.set_cons_succ]
              refine wpAnyH_take (i := 10) (v := ?_) rfl (by kernel_rfl) (by kernel_rfl) (by kernel_rfl) (fun _ _ _ h => h) (Or.inl ⟨by rfl, ?_⟩) hHeld ?_
              rotate_left
              · intro u hSu
                (go_simp) <;> (with_reducible rfl)
              change wpAnyH _ _ _ _ _ _ _ (Act.put _ (some 80) _) _
              simp only [Act.put, List.setIfInBounds_toArray, List.set_cons_zero, List.set_cons_succ]
              refine wpAnyH_take (i := 11) (v := ?_) rfl (by kernel_rfl) (by kernel_rfl) (by kernel_rfl) (fun _ _ _ h => h) (Or.inl ⟨by rfl, ?_⟩) hHeld ?_
              rotate_left
              · intro u hSu
                (go_simp) <;> (with_reducible rfl)
              change wpAnyH _ _ _ _ _ _ _ (Act.put _ (some 81) _) _
              simp only [Act.put, List.setIfInBounds_toArray, List.set_cons_zero, List.set_cons_succ]
              refine wpAnyH_take (i := 12) (v := ?_) rfl (by kernel_rfl) (by kernel_rfl) (by kernel_rfl) (fun _ _ _ h => h) (Or.inl ⟨by rfl, ?_⟩) hHeld ?_
              rotate_left
              · intro u hSu
                (go_simp) <;> (with_reducible rfl)
              change wpAnyH _ _ _ _ _ _ _ (Act.put _ (some 82) _) _
              simp only [Act.put, List.setIfInBounds_toArray, List.set_cons_zero, List.set_cons_succ]
              refine wpAnyH_take (i := 13) (v := ?_) rfl (by kernel_rfl) (by kernel_rfl) (by kernel_rfl) (fun _ _ _ h => h) (Or.inl ⟨by rfl, ?_⟩) hHeld ?_
              rotate_left
              · intro u hSu
                (go_simp) <;> (with_reducible rfl)
              change wpAnyH _ _ _ _ _ _ _ (Act.put _ (some 83) _) _
              simp only [Act.put, List.setIfInBounds_toArray, List.set_cons_zero, List.set_cons_succ]
              refine wpAnyH_take (i := 14) (v := ?_) rfl (by kernel_rfl) (by kernel_rfl) (by kernel_rfl) (fun _ _ _ h => h) (Or.inl ⟨by rfl, ?_⟩) hHeld ?_
              rotate_left
              · intro u hSu
                (go_simp) <;> (with_reducible rfl)
              change wpAnyH _ _ _ _ _ _ _ (Act.put _ (some 84) _) _
              simp only [Act.put, List.setIfInBounds_toArray, List.set_cons_zero, List.set_cons_succ]
              refine wpAnyH_take (i := 15) (v := ?_) rfl (by kernel_rfl) (by kernel_rfl) (by kernel_rfl) (fun _ _ _ h => h) (Or.inl ⟨by rfl, ?_⟩) hHeld ?_
              rotate_left
              · intro u hSu
                (go_simp) <;> (with_reducible rfl)
              change wpAnyH _ _ _ _ _ _ _ (Act.put _ (some 85) _) _
              simp only [Act.put, List.setIfInBounds_toArray, List.set_cons_zero, List.set_cons_succ]
              refine wpAnyH_take (i := 16) (v := kv K) rfl (by kernel_rfl) (by kernel_rfl) (by kernel_rfl) (fun _ _ _ h => h) (yieldsIf_load_mid (by rfl) _ _ rfl _ _ rfl (K.map (Value.int .u8)) _ (fun u hu => (K8.out u hu).range KYK.out) Try.underlying31 rfl (info_keyl K KYK.out)) hHeld ?_
              change wpAnyH _ _ _ _ _ _ _ (Act.put _ (some 86) _) _
              simp only [Act.put, List.setIfInBounds_toArray, List.set_cons_zero, List.set_cons_succ]
              refine wpAnyH_take (i := 17) (v := kv z1) rfl (by kernel_rfl) (by kernel_rfl) (by kernel_rfl) (fun _ _ _ h => h) (yieldsIf_load_mid (by rfl) _ _ rfl _ _ rfl (z1.map (Value.int .u8)) _ (fun u hu => (F8.out u hu).range KY1.out) Try.underlying31 rfl (info_keyl z1 KY1.out)) hHeld ?_
              change wpAnyH _ _ _ _ _ _ _ (Act.put _ (some 87) _) _
              simp only [Act.put, List.setIfInBounds_toArray, List.set_cons_zero, List.set_cons_succ]
              refine wpAnyH_take (i := 18) (v := kv z3) rfl (by kernel_rfl) (by kernel_rfl) (by kernel_rfl) (fun _ _ _ h => h) (yieldsIf_load_mid (by rfl) _ _ rfl _ _ rfl (z3.map (Value.int .u8)) _ (fun u hu => (T8.out u hu).range KY3.out) Try.underlying31 rfl (info_keyl z3 KY3.out)) hHeld ?_
              change wpAnyH _ _ _ _ _ _ _ (Act.put _ (some 88) _) _
              simp only [Act.put, List.setIfInBounds_toArray, List.set_cons_zero, List.set_cons_succ]
              refine wpAnyH_ready (rs := [19]) (by kernel_rfl) (by simp) ?_
              refine AllReadyH.cons rfl (fun K hK => ?_) AllReadyH.nil
              go_simp
              go_at_call 24
              refine (CW.out _).mono ?_
              rintro e v9 ⟨rfl, hbv9⟩
              have B9 : Hid (Below v8.heap.size v8 v9) := hHeld.trans (hbv9.mono hHeld.size)
              clear hbv9
              refine hK.out _ _ ?_ (fun hHeld2 => ?_)
              · exact B9.out
              clear hK K hHeld
              have hHeld := hHeld2
              clear hHeld2
              refine wpAnyH_take (i := 20) (v := ?_) rfl (by kernel_rfl) (by kernel_rfl) (by kernel_rfl) (fun _ _ _ h => h) (Or.inl ⟨by rfl, ?_⟩) hHeld ?_
              rotate_left
              · intro u hSu
                (go_simp) <;> (with_reducible rfl)
              change wpAnyH _ _ _ _ _ _ _ (Act.put _ (some 90) _) _
              simp only [Act.put, List.setIfInBounds_toArray, List.set_cons_zero, List.set_cons_succ]
              refine wpAnyH_take (i := 21) (v := ?_) rfl (by kernel_rfl) (by kernel_rfl) (by kernel_rfl) (fun _ _ _ h => h) (Or.inl ⟨by rfl, ?_⟩) hHeld ?_
              rotate_left
              · intro u hSu
                (go_simp) <;> (with_reducible rfl)
              change wpAnyH _ _ _ _ _ _ _ (Act.put _ (some 91) _) _
              simp only [Act.put, List.setIfInBounds_toArray, List.set_cons_zero, List.set_cons_succ]
              refine wpAnyH_take (i := 22) (v := ?_) rfl (by kernel_rfl) (by kernel_rfl) (by kernel_rfl) (fun _ _ _ h => h) (Or.inl ⟨by rfl, ?_⟩) hHeld ?_
              rotate_left
              · intro u hSu
                (go_simp) <;> (with_reducible rfl)
              change wpAnyH _ _ _ _ _ _ _ (Act.put _ (some 92) _) _
              simp only [Act.put, List.setIfInBounds_toArray, List.set_cons_zero, List.set_cons_succ]
              refine wpAnyH_take (i := 23) (v := ?_) rfl (by kernel_rfl) (by kernel_rfl) (by kernel_rfl) (fun _ _ _ h => h) (Or.inl ⟨by rfl, ?_⟩) hHeld ?_
              rotate_left
              · intro u hSu
                (go_simp) <;> (with_reducible rfl)
              change wpAnyH _ _ _ _ _ _ _ (Act.put _ (some 93) _) _
              simp only [Act.put, List.setIfInBounds_toArray, List.set_cons_zero, List.set_cons_succ]
              refine wpAnyH_take (i := 24) (v := ?_) rfl (by kernel_rfl) (by kernel_rfl) (by kernel_rfl) (fun _ _ _ h => h) (Or.inl ⟨by rfl, ?_⟩) hHeld ?_
              rotate_left
              · intro u hSu
                (go_simp) <;> (with_reducible rfl)
              change wpAnyH _ _ _ _ _ _ _ (Act.put _ (some 94) _) _
              simp only [Act.put, List.setIfInBounds_toArray, List.set_cons_zero, List.set_cons_succ]
              refine wpAnyH_take (i := 25) (v := ?_) rfl (by kernel_rfl) (by kernel_rfl) (by kernel_rfl) (fun _ _ _ h => h) (Or.inl ⟨by rfl, ?_⟩) hHeld ?_
              rotate_left
              · intro u hSu
                (go_simp) <;> (with_reducible rfl)
              change wpAnyH _ _ _ _ _ _ _ (Act.put _ (some 95) _) _
              simp only [Act.put, List.setIfInBounds_toArray, List.set_cons_zero, List.set_cons_succ]
              refine wpAnyH_take (i := 26) (v := undef) rfl (by kernel_rfl) (by kernel_rfl) (by kernel_rfl) (fun _ _ _ h => h) (Or.inr ⟨by rfl, rfl⟩) hHeld ?_
              change wpAnyH _ _ _ _ _ _ _ (Act.put _ (some 96) _) _
              simp only [Act.put, List.setIfInBounds_toArray, List.set_cons_zero, List.set_cons_succ]
              refine wpAnyH_take (i := 27) (v := undef) rfl (by kernel_rfl) (by kernel_rfl) (by kernel_rfl) (fun _ _ _ h => h) (Or.inr ⟨by rfl, rfl⟩) hHeld ?_
              change wpAnyH _ _ _ _ _ _ _ (Act.put _ (some 97) _) _
              simp only [Act.put, List.setIfInBounds_toArray, List.set_cons_zero, List.set_cons_succ]
              refine wpAnyH_take (i := 28) (v := undef) rfl (by kernel_rfl) (by kernel_rfl) (by kernel_rfl) (fun _ _ _ h => h) (Or.inr ⟨by rfl, rfl⟩) hHeld ?_
              change wpAnyH _ _ _ _ _ _ _ (Act.put _ (some 98) _) _
              simp only [Act.put, List.setIfInBounds_toArray, List.set_cons_zero, List.set_cons_succ]
              refine wpAnyH_take (i := 29) (v := undef) rfl (by kernel_rfl) (by kernel_rfl) (by kernel_rfl) (fun _ _ _ h => h) (Or.inr ⟨by rfl, rfl⟩) hHeld ?_
              change wpAnyH _ _ _ _ _ _ _ (Act.put _ (some 99) _) _
              simp only [Act.put, List.setIfInBounds_toArray, List.set_cons_zero, List.set_cons_succ]
              refine wpAnyH_take (i := 30) (v := undef) rfl (by kernel_rfl) (by kernel_rfl) (by kernel_rfl) (fun _ _ _ h => h) (Or.inr ⟨by rfl, rfl⟩) hHeld ?_
              change wpAnyH _ _ _ _ _ _ _ (Act.put _ (some 100) _) _
              simp only [Act.put, List.setIfInBounds_toArray, List.set_cons_zero, List.set_cons_succ]
              refine wpAnyH_take (i := 31) (v := undef) rfl (by kernel_rfl) (by kernel_rfl) (by kernel_rfl) (fun _ _ _ h => h) (Or.inr ⟨by rfl, rfl⟩) hHeld ?_
              change wpAnyH _ _ _ _ _ _ _ (Act.put _ (some 101) _) _
              simp only [Act.put, List.setIfInBounds_toArray, List.set_cons_zero, List.set_cons_succ]
              refine wpAnyH_take (i := 32) (v := undef) rfl (by kernel_rfl) (by kernel_rfl) (by kernel_rfl) (fun _ _ _ h => h) (Or.inr ⟨by rfl, rfl⟩) hHeld ?_
              change wpAnyH _ _ _ _ _ _ _ (Act.put _ (some 102) _) _
              simp only [Act.put, List.setIfInBounds_toArray, List.set_cons_zero, List.set_cons_succ]
              refine wpAnyH_take (i := 33) (v := undef) rfl (by kernel_rfl) (by kernel_rfl) (by kernel_rfl) (fun _ _ _ h => h) (Or.inr ⟨by rfl, rfl⟩) hHeld ?_
              change wpAnyH _ _ _ _ _ _ _ (Act.put _ (some 103) _) _
              simp only [Act.put, List.setIfInBounds_toArray, List.set_cons_zero, List.set_cons_succ]
              refine wpAnyH_take (i := 34) (v := undef) rfl (by kernel_rfl) (by kernel_rfl) (by kernel_rfl) (fun _ _ _ h => h) (Or.inr ⟨by rfl, rfl⟩) hHeld ?_
              change wpAnyH _ _ _ _ _ _ _ (Act.put _ (some 104) _) _
              simp only [Act.put, List.setIfInBounds_toArray, List.set_cons_zero, List.set_cons_succ]
              refine wpAnyH_take (i := 35) (v := undef) rfl (by kernel_rfl) (by kernel_rfl) (by kernel_rfl) (fun _ _ _ h => h) (Or.inr ⟨by rfl, rfl⟩) hHeld ?_
              change wpAnyH _ _ _ _ _ _ _ (Act.put _ (some 105) _) _
              simp only [Act.put, List.setIfInBounds_toArray, List.set_cons_zero, List.set_cons_succ]
              refine wpAnyH_take (i := 36) (v := undef) rfl (by kernel_rfl) (by kernel_rfl) (by kernel_rfl) (fun _ _ _ h => h) (Or.inr ⟨by rfl, rfl⟩) hHeld ?_
              change wpAnyH _ _ _ _ _ _ _ (Act.put _ (some 106) _) _
              simp only [Act.put, List.setIfInBounds_toArray, List.set_cons_zero, List.set_cons_succ]
              refine wpAnyH_take (i := 37) (v := undef) rfl (by kernel_rfl) (by kernel_rfl) (by kernel_rfl) (fun _ _ _ h => h) (Or.inr ⟨by rfl, rfl⟩) hHeld ?_
              change wpAnyH _ _ _ _ _ _ _ (Act.put _ (some 107) _) _
              simp only [Act.put, List.setIfInBounds_toArray, List.set_cons_zero, List.set_cons_succ]
              refine wpAnyH_take (i := 38) (v := undef) rfl (by kernel_rfl) (by kernel_rfl) (by kernel_rfl) (fun _ _ _ h => h) (Or.inr ⟨by rfl, rfl⟩) hHeld ?_
              change wpAnyH _ _ _ _ _ _ _ (Act.put _ (some 108) _) _
              simp only [Act.put, List.setIfInBounds_toArray, List.set_cons_zero, List.set_cons_succ]
              refine wpAnyH_take (i := 39) (v := ?_) rfl (by kernel_rfl) (by kernel_rfl) (by kernel_rfl) (fun _ _ _ h => h) (Or.inl ⟨by rfl, ?_⟩) hHeld ?_
              rotate_left
              · intro u hSu
                (go_simp) <;> (with_reducible rfl)
              change wpAnyH _ _ _ _ _ _ _ (Act.put _ (some 109) _) _
              simp only [Act.put, List.setIfInBounds_toArray, List.set_cons_zero, List.set_cons_succ]
              refine wpAnyH_take (i := 40) (v := ?_) rfl (by kernel_rfl) (by kernel_rfl) (by kernel_rfl) (fun _ _ _ h => h) (Or.inl ⟨by rfl, ?_⟩) hHeld ?_
              rotate_left
              · intro u hSu
                (go_simp) <;> (with_reducible rfl)
              change wpAnyH _ _ _ _ _ _ _ (Act.put _ (some 110) _) _
              simp only [Act.put, List.setIfInBounds_toArray, List.set_cons_zero, List.set_cons_succ]
              refine wpAnyH_done (by kernel_rfl) ?_ _
              refine NoPanic.normal ?_
              go_wp2
              go_roundw
              case rel => exact ⟨0 + 1, by go_num, by omega, HM8.out.trans (B9.out.mono HM8.out.size)⟩
              case measure => simp [intOf]; omega
            · obtain ⟨j, rfl⟩ : ∃ j, i = j + 1 := ⟨i - 1, by omega⟩
              obtain ⟨K0, hk0, hka0, hlx⟩ := HPREV.out j rfl
              have KY0 : Hid (Ky K0) := hk0
              have P8 : Hid (∀ u, Below v8.heap.size v8 u → KeyAt u b (off + j * 17) K0) := fun u hb => hka0 u (HM8.out.trans (hb.mono HM8.out.size))
              have CC : Hid (∀ u, Calls Try.prog 25 #[kv K0, kv K] u fun e w' => e = .returned (.int .i64 (-1)) ∧ Below u.heap.size u w') := fun u => by
                have h9 := rcmp_any K0 K hk0 KYK.out u
                rw [hlx] at h9
                exact h9
              have hp0 : (0 : Int) < (j : Int) + 1 := by omega
              have hwj : IntKind.i64.wrap (j : Int) = (j : Int) := by rw [IntKind.wrap_i64]; omega
              have hjN : (j : Int) < (N : Int) := by omega
              have hj0 : (0 : Int) ≤ (j : Int) := by omega
              have hj1 : (0 : Int) ≤ (j : Int) + 1 := by omega
              have hj2 : (j : Int) + 1 < (N : Int) := by omega
              clear HPREV hk0 hka0 hlx
              go_wp2
              refine wp_region_noPanic ?_
              refine wp_region_held_drew (S := fun u => Below v8.heap.size v8 u) (by kernel_rfl) ?_ (fun hHeld => ?_)
              · exact (Below.refl _ _).drew
              refine wpAnyH_take (i := 0) (v := ?_) rfl (by kernel_rfl) (by kernel_rfl) (by kernel_rfl) (fun _ _ _ h => h) (Or.inl ⟨by rfl, ?_⟩) hHeld ?_
              rotate_left
              · intro u hSu
                (go_simp) <;> (with_reducible rfl)
              change wpAnyH _ _ _ _ _ _ _ (Act.put _ (some 70) _) _
              simp only [Act.put, List.setIfInBounds_toArray, List.set_cons_zero, List.set_cons_succ]
              refine wpAnyH_take (i := 1) (v := ?_) rfl (by kernel_rfl) (by kernel_rfl) (by kernel_rfl) (fun _ _ _ h => h) (Or.inl ⟨by rfl, ?_⟩) hHeld ?_
              rotate_left
              · intro u hSu
                (go_simp) <;> (with_reducible rfl)
              change wpAnyH _ _ _ _ _ _ _ (Act.put _ (some 71) _) _
              simp only [Act.put, List.setIfInBounds_toArray, List.set_cons_zero, List.set_cons_succ]
              refine wpAnyH_take (i := 2) (v := ?_) rfl (by kernel_rfl) (by kernel_rfl) (by kernel_rfl) (fun _ _ _ h => h) (Or.inl ⟨by rfl, ?_⟩) hHeld ?_
              rotate_left
              · intro u hSu
                (go_simp) <;> (with_reducible rfl)
              change wpAnyH _ _ _ _ _ _ _ (Act.put _ (some 72) _) _
              simp only [Act.put, List.setIfInBounds_toArray, List.set_cons_zero, List.set_cons_succ]
              refine wpAnyH_take (i := 3) (v := ?_) rfl (by kernel_rfl) (by kernel_rfl) (by kernel_rfl) (fun _ _ _ h => h) (Or.inl ⟨by rfl, ?_⟩) hHeld ?_
              rotate_left
              · intro u hSu
                (go_simp) <;> (with_reducible rfl)
              change wpAnyH _ _ _ _ _ _ _ (Act.put _ (some 73) _) _
              simp only [Act.put, List.setIfInBounds_toArray, List.set_cons_zero, List.set_cons_succ]
              refine wpAnyH_take (i := 4) (v := ?_) rfl (by kernel_rfl) (by kernel_rfl) (by kernel_rfl) (fun _ _ _ h => h) (Or.inl ⟨by rfl, ?_⟩) hHeld ?_
              rotate_left
              · intro u hSu
                (go_simp) <;> (with_reducible rfl)
              change wpAnyH _ _ _ _ _ _ _ (Act.put _ (some 74) _) _
              simp only [Act.put, List.setIfInBounds_toArray, List.set_cons_zero, List.set_cons_succ]
              refine wpAnyH_take (i := 5) (v := ?_) rfl (by kernel_rfl) (by kernel_rfl) (by kernel_rfl) (fun _ _ _ h => h) (Or.inl ⟨by rfl, ?_⟩) hHeld ?_
              rotate_left
              · intro u hSu
                (go_simp) <;> (with_reducible rfl)
              change wpAnyH _ _ _ _ _ _ _ (Act.put _ (some 75) _) _
              simp only [Act.put, List.setIfInBounds_toArray, List.set_cons_zero, List.set_cons_succ]
              refine wpAnyH_take (i := 6) (v := ?_) rfl (by kernel_rfl) (by kernel_rfl) (by kernel_rfl) (fun _ _ _ h => h) (Or.inl ⟨by rfl, ?_⟩) hHeld ?_
              rotate_left
              · intro u hSu
                (go_simp) <;> (with_reducible rfl)
              change wpAnyH _ _ _ _ _ _ _ (Act.put _ (some 76) _) _
              simp only [Act.put, List.setIfInBounds_toArray, List.set_cons_zero, List.set_cons_succ]
              refine wpAnyH_take (i := 7) (v := ?_) rfl (by kernel_rfl) (by kernel_rfl) (by kernel_rfl) (fun _ _ _ h => h) (Or.inl ⟨by rfl, ?_⟩) hHeld ?_
              rotate_left
              · intro u hSu
                (go_simp) <;> (with_reducible rfl)
              change wpAnyH _ _ _ _ _ _ _ (Act.put _ (some 77) _) _
              simp only [Act.put, List.setIfInBounds_toArray, List.set_cons_zero, List.set_cons_succ]
              refine wpAnyH_take (i := 8) (v := ?_) rfl (by kernel_rfl) (by kernel_rfl) (by kernel_rfl) (fun _ _ _ h => h) (Or.inl ⟨by rfl, ?_⟩) hHeld ?_
              rotate_left
              · intro u hSu
                have r1 := C8.out u hSu
                (go_simp) <;> (with_reducible rfl)
              change wpAnyH _ _ _ _ _ _ _ (Act.put _ (some 78) _) _
              simp only [Act.put, List.setIfInBounds_toArray, List.set_cons_zero, List.set_cons_succ]
              refine wpAnyH_take (i := 9) (v := ?_) rfl (by kernel_rfl) (by kernel_rfl) (by kernel_rfl) (fun _ _ _ h => h) (Or.inl ⟨by rfl, ?_⟩) hHeld ?_
              rotate_left
              · intro u hSu
                (go_simp) <;> (with_reducible rfl)
              change wpAnyH _ _ _ _ _ _ _ (Act.put _ (some 79) _) _
              simp only [Act.put, List.setIfInBounds_toArray, List.set_cons_zero, List.set_cons_succ]
              refine wpAnyH_take (i := 10) (v := ?_) rfl (by kernel_rfl) (by kernel_rfl) (by kernel_rfl) (fun _ _ _ h => h) (Or.inl ⟨by rfl, ?_⟩) hHeld ?_
              rotate_left
              · intro u hSu
                (go_simp) <;> (with_reducible rfl)
              change wpAnyH _ _ _ _ _ _ _ (Act.put _ (some 80) _) _
              simp only [Act.put, List.setIfInBounds_toArray, List.set_cons_zero, List.set_cons_succ]
              refine wpAnyH_take (i := 11) (v := ?_) rfl (by kernel_rfl) (by kernel_rfl) (by kernel_rfl) (fun _ _ _ h => h) (Or.inl ⟨by rfl, ?_⟩) hHeld ?_
              rotate_left
              · intro u hSu
                (go_simp) <;> (with_reducible rfl)
              change wpAnyH _ _ _ _ _ _ _ (Act.put _ (some 81) _) _
              simp only [Act.put, List.setIfInBounds_toArray, List.set_cons_zero, List.set_cons_succ]
              refine wpAnyH_take (i := 12) (v := ?_) rfl (by kernel_rfl) (by kernel_rfl) (by kernel_rfl) (fun _ _ _ h => h) (Or.inl ⟨by rfl, ?_⟩) hHeld ?_
              rotate_left
              · intro u hSu
                (go_simp) <;> (with_reducible rfl)
              change wpAnyH _ _ _ _ _ _ _ (Act.put _ (some 82) _) _
              simp only [Act.put, List.setIfInBounds_toArray, List.set_cons_zero, List.set_cons_succ]
              refine wpAnyH_take (i := 13) (v := ?_) rfl (by kernel_rfl) (by kernel_rfl) (by kernel_rfl) (fun _ _ _ h => h) (Or.inl ⟨by rfl, ?_⟩) hHeld ?_
              rotate_left
              · intro u hSu
                (go_simp) <;> (with_reducible rfl)
              change wpAnyH _ _ _ _ _ _ _ (Act.put _ (some 83) _) _
              simp only [Act.put, List.setIfInBounds_toArray, List.set_cons_zero, List.set_cons_succ]
              refine wpAnyH_take (i := 14) (v := ?_) rfl (by kernel_rfl) (by kernel_rfl) (by kernel_rfl) (fun _ _ _ h => h) (Or.inl ⟨by rfl, ?_⟩) hHeld ?_
              rotate_left
              · intro u hSu
                (go_simp) <;> (with_reducible rfl)
              change wpAnyH _ _ _ _ _ _ _ (Act.put _ (some 84) _) _
              simp only [Act.put, List.setIfInBounds_toArray, List.set_cons_zero, List.set_cons_succ]
              refine wpAnyH_take (i := 15) (v := ?_) rfl (by kernel_rfl) (by kernel_rfl) (by kernel_rfl) (fun _ _ _ h => h) (Or.inl ⟨by rfl, ?_⟩) hHeld ?_
              rotate_left
              · intro u hSu
                (go_simp) <;> (with_reducible rfl)
              change wpAnyH _ _ _ _ _ _ _ (Act.put _ (some 85) _) _
              simp only [Act.put, List.setIfInBounds_toArray, List.set_cons_zero, List.set_cons_succ]
              refine wpAnyH_take (i := 16) (v := kv K) rfl (by kernel_rfl) (by kernel_rfl) (by kernel_rfl) (fun _ _ _ h => h) (yieldsIf_load_mid (by rfl) _ _ rfl _ _ rfl (K.map (Value.int .u8)) _ (fun u hu => (K8.out u hu).range KYK.out) Try.underlying31 rfl (info_keyl K KYK.out)) hHeld ?_
              change wpAnyH _ _ _ _ _ _ _ (Act.put _ (some 86) _) _
              simp only [Act.put, List.setIfInBounds_toArray, List.set_cons_zero, List.set_cons_succ]
              refine wpAnyH_take (i := 17) (v := kv z1) rfl (by kernel_rfl) (by kernel_rfl) (by kernel_rfl) (fun _ _ _ h => h) (yieldsIf_load_mid (by rfl) _ _ rfl _ _ rfl (z1.map (Value.int .u8)) _ (fun u hu => (F8.out u hu).range KY1.out) Try.underlying31 rfl (info_keyl z1 KY1.out)) hHeld ?_
              change wpAnyH _ _ _ _ _ _ _ (Act.put _ (some 87) _) _
              simp only [Act.put, List.setIfInBounds_toArray, List.set_cons_zero, List.set_cons_succ]
              refine wpAnyH_take (i := 18) (v := kv z3) rfl (by kernel_rfl) (by kernel_rfl) (by kernel_rfl) (fun _ _ _ h => h) (yieldsIf_load_mid (by rfl) _ _ rfl _ _ rfl (z3.map (Value.int .u8)) _ (fun u hu => (T8.out u hu).range KY3.out) Try.underlying31 rfl (info_keyl z3 KY3.out)) hHeld ?_
              change wpAnyH _ _ _ _ _ _ _ (Act.put _ (some 88) _) _
              simp only [Act.put, List.setIfInBounds_toArray, List.set_cons_zero, List.set_cons_succ]
              refine wpAnyH_ready (rs := [19]) (by kernel_rfl) (by simp) ?_
              refine AllReadyH.cons rfl (fun K hK => ?_) AllReadyH.nil
              go_simp
              go_at_call 24
              refine (CW.out _).mono ?_
              rintro e v9 ⟨rfl, hbv9⟩
              have B9 : Hid (Below v8.heap.size v8 v9) := hHeld.trans (hbv9.mono hHeld.size)
              clear hbv9
              refine hK.out _ _ ?_ (fun hHeld2 => ?_)
              · exact B9.out
              clear hK K hHeld
              have hHeld := hHeld2
              clear hHeld2
              refine wpAnyH_take (i := 20) (v := ?_) rfl (by kernel_rfl) (by kernel_rfl) (by kernel_rfl) (fun _ _ _ h => h) (Or.inl ⟨by rfl, ?_⟩) hHeld ?_
              rotate_left
              · intro u hSu
                (go_simp) <;> (with_reducible rfl)
              change wpAnyH _ _ _ _ _ _ _ (Act.put _ (some 90) _) _
              simp only [Act.put, List.setIfInBounds_toArray, List.set_cons_zero, List.set_cons_succ]
              refine wpAnyH_take (i := 21) (v := ?_) rfl (by kernel_rfl) (by kernel_rfl) (by kernel_rfl) (fun _ _ _ h => h) (Or.inl ⟨by rfl, ?_⟩) hHeld ?_
              rotate_left
              · intro u hSu
                (go_simp) <;> (with_reducible rfl)
              change wpAnyH _ _ _ _ _ _ _ (Act.put _ (some 91) _) _
              simp only [Act.put, List.setIfInBounds_toArray, List.set_cons_zero, List.set_cons_succ]
              refine wpAnyH_take (i := 22) (v := ?_) rfl (by kernel_rfl) (by kernel_rfl) (by kernel_rfl) (fun _ _ _ h => h) (Or.inl ⟨by rfl, ?_⟩) hHeld ?_
              rotate_left
              · intro u hSu
                (go_simp) <;> (with_reducible rfl)
              change wpAnyH _ _ _ _ _ _ _ (Act.put _ (some 92) _) _
              simp only [Act.put, List.setIfInBounds_toArray, List.set_cons_zero, List.set_cons_succ]
              refine wpAnyH_take (i := 23) (v := ?_) rfl (by kernel_rfl) (by kernel_rfl) (by kernel_rfl) (fun _ _ _ h => h) (Or.inl ⟨by rfl, ?_⟩) hHeld ?_
              rotate_left
              · intro u hSu
                (go_simp) <;> (with_reducible rfl)
              change wpAnyH _ _ _ _ _ _ _ (Act.put _ (some 93) _) _
              simp only [Act.put, List.setIfInBounds_toArray, List.set_cons_zero, List.set_cons_succ]
              refine wpAnyH_take (i := 24) (v := ?_) rfl (by kernel_rfl) (by kernel_rfl) (by kernel_rfl) (fun _ _ _ h => h) (Or.inl ⟨by rfl, ?_⟩) hHeld ?_
              rotate_left
              · intro u hSu
                (go_simp) <;> (with_reducible rfl)
              change wpAnyH _ _ _ _ _ _ _ (Act.put _ (some 94) _) _
              simp only [Act.put, List.setIfInBounds_toArray, List.set_cons_zero, List.set_cons_succ]
              refine wpAnyH_take (i := 25) (v := ?_) rfl (by kernel_rfl) (by kernel_rfl) (by kernel_rfl) (fun _ _ _ h => h) (Or.inl ⟨by rfl, ?_⟩) hHeld ?_
              rotate_left
              · intro u hSu
                (go_simp) <;> (with_reducible rfl)
              change wpAnyH _ _ _ _ _ _ _ (Act.put _ (some 95) _) _
              simp only [Act.put, List.setIfInBounds_toArray, List.set_cons_zero, List.set_cons_succ]
              refine wpAnyH_take (i := 26) (v := ?_) rfl (by kernel_rfl) (by kernel_rfl) (by kernel_rfl) (fun _ _ _ h => h) (Or.inl ⟨by rfl, ?_⟩) hHeld ?_
              rotate_left
              · intro u hSu
                (go_simp) <;> (with_reducible rfl)
              change wpAnyH _ _ _ _ _ _ _ (Act.put _ (some 96) _) _
              simp only [Act.put, List.setIfInBounds_toArray, List.set_cons_zero, List.set_cons_succ]
              refine wpAnyH_take (i := 27) (v := ?_) rfl (by kernel_rfl) (by kernel_rfl) (by kernel_rfl) (fun _ _ _ h => h) (Or.inl ⟨by rfl, ?_⟩) hHeld ?_
              rotate_left
              · intro u hSu
                (go_simp) <;> (with_reducible rfl)
              change wpAnyH _ _ _ _ _ _ _ (Act.put _ (some 97) _) _
              simp only [Act.put, List.setIfInBounds_toArray, List.set_cons_zero, List.set_cons_succ]
              refine wpAnyH_take (i := 28) (v := ?_) rfl (by kernel_rfl) (by kernel_rfl) (by kernel_rfl) (fun _ _ _ h => h) (Or.inl ⟨by rfl, ?_⟩) hHeld ?_
              rotate_left
              · intro u hSu
                (go_simp) <;> (with_reducible rfl)
              change wpAnyH _ _ _ _ _ _ _ (Act.put _ (some 98) _) _
              simp only [Act.put, List.setIfInBounds_toArray, List.set_cons_zero, List.set_cons_succ]
              refine wpAnyH_take (i := 29) (v := ?_) rfl (by kernel_rfl) (by kernel_rfl) (by kernel_rfl) (fun _ _ _ h => h) (Or.inl ⟨by rfl, ?_⟩) hHeld ?_
              rotate_left
              · intro u hSu
                (go_simp) <;> (with_reducible rfl)
              change wpAnyH _ _ _ _ _ _ _ (Act.put _ (some 99) _) _
              simp only [Act.put, List.setIfInBounds_toArray, List.set_cons_zero, List.set_cons_succ]
              refine wpAnyH_take (i := 30) (v := ?_) rfl (by kernel_rfl) (by kernel_rfl) (by kernel_rfl) (fun _ _ _ h => h) (Or.inl ⟨by rfl, ?_⟩) hHeld ?_
              rotate_left
              · intro u hSu
                (go_simp) <;> (with_reducible rfl)
              change wpAnyH _ _ _ _ _ _ _ (Act.put _ (some 100) _) _
              simp only [Act.put, List.setIfInBounds_toArray, List.set_cons_zero, List.set_cons_succ]
              refine wpAnyH_take (i := 31) (v := kv K0) rfl (by kernel_rfl) (by kernel_rfl) (by kernel_rfl) (fun _ _ _ h => h) (yieldsIf_load_mid (by rfl) _ _ rfl _ _ rfl (K0.map (Value.int .u8)) _ (fun u hu => (P8.out u hu).range KY0.out) Try.underlying31 rfl (info_keyl K0 KY0.out)) hHeld ?_
              change wpAnyH _ _ _ _ _ _ _ (Act.put _ (some 101) _) _
              simp only [Act.put, List.setIfInBounds_toArray, List.set_cons_zero, List.set_cons_succ]
              refine wpAnyH_take (i := 32) (v := ?_) rfl (by kernel_rfl) (by kernel_rfl) (by kernel_rfl) (fun _ _ _ h => h) (Or.inl ⟨by rfl, ?_⟩) hHeld ?_
              rotate_left
              · intro u hSu
                (go_simp) <;> (with_reducible rfl)
              change wpAnyH _ _ _ _ _ _ _ (Act.put _ (some 102) _) _
              simp only [Act.put, List.setIfInBounds_toArray, List.set_cons_zero, List.set_cons_succ]
              refine wpAnyH_take (i := 33) (v := ?_) rfl (by kernel_rfl) (by kernel_rfl) (by kernel_rfl) (fun _ _ _ h => h) (Or.inl ⟨by rfl, ?_⟩) hHeld ?_
              rotate_left
              · intro u hSu
                (go_simp) <;> (with_reducible rfl)
              change wpAnyH _ _ _ _ _ _ _ (Act.put _ (some 103) _) _
              simp only [Act.put, List.setIfInBounds_toArray, List.set_cons_zero, List.set_cons_succ]
              refine wpAnyH_take (i := 34) (v := ?_) rfl (by kernel_rfl) (by kernel_rfl) (by kernel_rfl) (fun _ _ _ h => h) (Or.inl ⟨by rfl, ?_⟩) hHeld ?_
              rotate_left
              · intro u hSu
                (go_simp) <;> (with_reducible rfl)
              change wpAnyH _ _ _ _ _ _ _ (Act.put _ (some 104) _) _
              simp only [Act.put, List.setIfInBounds_toArray, List.set_cons_zero, List.set_cons_succ]
              refine wpAnyH_take (i := 35) (v := ?_) rfl (by kernel_rfl) (by kernel_rfl) (by kernel_rfl) (fun _ _ _ h => h) (Or.inl ⟨by rfl, ?_⟩) hHeld ?_
              rotate_left
              · intro u hSu
                (go_simp) <;> (with_reducible rfl)
              change wpAnyH _ _ _ _ _ _ _ (Act.put _ (some 105) _) _
              simp only [Act.put, List.setIfInBounds_toArray, List.set_cons_zero, List.set_cons_succ]
              refine wpAnyH_take (i := 36) (v := kv K) rfl (by kernel_rfl) (by kernel_rfl) (by kernel_rfl) (fun _ _ _ h => h) (yieldsIf_load_mid (by rfl) _ _ rfl _ _ rfl (K.map (Value.int .u8)) _ (fun u hu => (K8.out u hu).range KYK.out) Try.underlying31 rfl (info_keyl K KYK.out)) hHeld ?_
              change wpAnyH _ _ _ _ _ _ _ (Act.put _ (some 106) _) _
              simp only [Act.put, List.setIfInBounds_toArray, List.set_cons_zero, List.set_cons_succ]
              refine wpAnyH_ready (rs := [37]) (by kernel_rfl) (by simp) ?_
              refine AllReadyH.cons rfl (fun K hK => ?_) AllReadyH.nil
              go_simp
              go_at_call 25
              refine (CC.out _).mono ?_
              rintro e v10 ⟨rfl, hbv10⟩
              have B10 : Hid (Below v8.heap.size v8 v10) := hHeld.trans (hbv10.mono hHeld.size)
              clear hbv10
              refine hK.out _ _ ?_ (fun hHeld2 => ?_)
              · exact B10.out
              clear hK K hHeld
              have hHeld := hHeld2
              clear hHeld2
              refine wpAnyH_take (i := 38) (v := ?_) rfl (by kernel_rfl) (by kernel_rfl) (by kernel_rfl) (fun _ _ _ h => h) (Or.inl ⟨by rfl, ?_⟩) hHeld ?_
              rotate_left
              · intro u hSu
                (go_simp) <;> (with_reducible rfl)
              change wpAnyH _ _ _ _ _ _ _ (Act.put _ (some 108) _) _
              simp only [Act.put, List.setIfInBounds_toArray, List.set_cons_zero, List.set_cons_succ]
              refine wpAnyH_take (i := 39) (v := ?_) rfl (by kernel_rfl) (by kernel_rfl) (by kernel_rfl) (fun _ _ _ h => h) (Or.inl ⟨by rfl, ?_⟩) hHeld ?_
              rotate_left
              · intro u hSu
                (go_simp) <;> (with_reducible rfl)
              change wpAnyH _ _ _ _ _ _ _ (Act.put _ (some 109) _) _
              simp only [Act.put, List.setIfInBounds_toArray, List.set_cons_zero, List.set_cons_succ]
              refine wpAnyH_take (i := 40) (v := ?_) rfl (by kernel_rfl) (by kernel_rfl) (by kernel_rfl) (fun _ _ _ h => h) (Or.inl ⟨by rfl, ?_⟩) hHeld ?_
              rotate_left
              · intro u hSu
                (go_simp) <;> (with_reducible rfl)
              change wpAnyH _ _ _ _ _ _ _ (Act.put _ (some 110) _) _
              simp only [Act.put, List.setIfInBounds_toArray, List.set_cons_zero, List.set_cons_succ]
              refine wpAnyH_done (by kernel_rfl) ?_ _
              refine NoPanic.normal ?_
              go_wp2
              go_roundw
              case rel => exact ⟨j + 1 + 1, by go_num, by omega, HM8.out.trans (B10.out.mono HM8.out.size)⟩
              case measure => simp [intOf]; omega
          · obtain rfl : i = N := by omega
            have HNI : Hid (R.length = i) := HN
            obtain ⟨X, hX⟩ : ∃ X, X = lexC z2 z1 := ⟨_, rfl⟩
            obtain ⟨Y, hY⟩ : ∃ Y, Y = lexC z2 z3 := ⟨_, rfl⟩
            have C1 : Hid (∀ u, Calls Try.prog 25 #[kv z2, kv z1] u fun e w' => e = .returned (.int .i64 X) ∧ Below u.heap.size u w') := fun u => by rw [hX]; exact rcmp_any z2 z1 KY2.out KY1.out u
            have C2 : Hid (∀ u, Calls Try.prog 25 #[kv z2, kv z3] u fun e w' => e = .returned (.int .i64 Y) ∧ Below u.heap.size u w') := fun u => by rw [hY]; exact rcmp_any z2 z3 KY2.out KY3.out u
            have HSP : Hid (¬ X < 0 → z2 ≠ zeroK → (z3 = zeroK ∨ ¬ 0 < Y) → z2 ≠ z3 → R = R1 ++ R2) := fun h1 h2 h3 h4 => HSPLIT.out (by rw [← hX]; omega) h2 (h3.imp id (fun h => by rw [← hY]; omega)) h4
            have hq1 : ∀ u, (Op.equalIn 10000 31 (kv z3) (kv zeroK)).run Try.prog u = .ok (decide (z3 = zeroK)) u := fun u => eq_key u z3 zeroK KY3.out zeroK_ky
            have hq2 : ∀ u, (Op.equalIn 10000 31 (kv z2) (kv zeroK)).run Try.prog u = .ok (decide (z2 = zeroK)) u := fun u => eq_key u z2 zeroK KY2.out zeroK_ky
            have hq3 : ∀ u, (Op.equalIn 10000 31 (kv z2) (kv z3)).run Try.prog u = .ok (decide (z2 = z3)) u := fun u => eq_key u z2 z3 KY2.out KY3.out
            have HC : Hid (Below v5.heap.size v5 wr) := HM
            have CI : Hid (R = R1 ++ R2 → ∀ u ya yc, ItmsAt u xa R → ItmsAt u ya (R1 ++ R2) → N1 + N2 ≤ yc → (R1 ++ R2).length = N1 + N2 → Calls Try.prog 23 #[.slice xa i xc, .slice ya ((N1 + N2 : Nat)) yc] u fun e w' => e = .returned (.bool true) ∧ Below u.heap.size u w') := fun he u ya yc h1 h2 h3 h4 => by
              have h9 := ritems_any xa ya i (N1 + N2) xc yc R (R1 ++ R2) u HNI.out h4 hxc h3 (by omega) (by omega) h1 h2
              rw [show decide (R = R1 ++ R2) = true from by simpa using he] at h9
              exact h9
            clear hX hY HSPLIT HM HN HMEM HUP
            by_cases hA : X < 0
            · have bA : decide (X < 0) = true := decide_eq_true hA
              have hea := HC.out
              clear hea HSP CI CS1 CS2
              go_wp2_with (first | ((with_reducible show wpList _ _ _ (Oper.mk (some 111) _ _ _ _ _ :: _) _ _); refine wpList_load_keyD 111 (by rfl) (by rfl) _ (by rfl) (w.heap.size + 1) 0 (by rfl) z2 KY2.out (TV.out _ HC.out).m ?_) | ((with_reducible show wpList _ _ _ (Oper.mk (some 112) _ _ _ _ _ :: _) _ _); refine wpList_load_keyD 112 (by rfl) (by rfl) _ (by rfl) (w.heap.size) 0 (by rfl) z1 KY1.out (TV.out _ HC.out).a ?_) | (have hgo := C1.out; clear hgo; go_at_call 25; refine (C1.out _).mono ?_; rintro e v8 ⟨rfl, hb8⟩; have HC' : Hid (Below v5.heap.size v5 v8) := HC.out.trans (hb8.mono HC.out.size); clear hb8 HC C1; have HC := HC'; clear HC'))
              go_ret
              exact ⟨rfl, HBV.out _ HC.out⟩
            · have bA : decide (X < 0) = false := decide_eq_false hA
              by_cases hB : z3 = zeroK
              · rw [decide_eq_true hB] at hq1
                by_cases hD : z2 = zeroK
                · rw [decide_eq_true hD] at hq2
                  clear hB hD
                  have hea := HC.out
                  clear hea HSP CI CS1 CS2
                  go_wp2_with (first | ((with_reducible show wpList _ _ _ (Oper.mk (some 111) _ _ _ _ _ :: _) _ _); refine wpList_load_keyD 111 (by rfl) (by rfl) _ (by rfl) (w.heap.size + 1) 0 (by rfl) z2 KY2.out (TV.out _ HC.out).m ?_) | ((with_reducible show wpList _ _ _ (Oper.mk (some 112) _ _ _ _ _ :: _) _ _); refine wpList_load_keyD 112 (by rfl) (by rfl) _ (by rfl) (w.heap.size) 0 (by rfl) z1 KY1.out (TV.out _ HC.out).a ?_) | (have hgo := C1.out; clear hgo; go_at_call 25; refine (C1.out _).mono ?_; rintro e v8 ⟨rfl, hb8⟩; have HC' : Hid (Below v5.heap.size v5 v8) := HC.out.trans (hb8.mono HC.out.size); clear hb8 HC C1; have HC := HC'; clear HC') | ((with_reducible show wpList _ _ _ (Oper.mk (some 116) _ _ _ _ _ :: _) _ _); refine wpList_load_keyD 116 (by rfl) (by rfl) _ (by rfl) (w.heap.size + 1 + 1) 0 (by rfl) z3 KY3.out (TV.out _ HC.out).b ?_) | ((with_reducible show wpList _ _ _ (Oper.mk (some 117) _ _ _ _ _ :: _) _ _); refine wpList_build_k0 _ (by rfl) (by rfl) (by rfl) ?_) | ((with_reducible show wpList _ _ _ (Oper.mk (some 127) _ _ _ _ _ :: _) _ _); refine wpList_load_keyD 127 (by rfl) (by rfl) _ (by rfl) (w.heap.size + 1) 0 (by rfl) z2 KY2.out (TV.out _ HC.out).m ?_) | ((with_reducible show wpList _ _ _ (Oper.mk (some 128) _ _ _ _ _ :: _) _ _); refine wpList_build_k0 _ (by rfl) (by rfl) (by rfl) ?_))
                  go_ret
                  exact ⟨rfl, HBV.out _ HC.out⟩
                · rw [decide_eq_false hD] at hq2
                  have HE : Hid (z2 ≠ z3 → R = R1 ++ R2) := HSP.out hA hD (.inl hB)
                  clear hB hD
                  clear HSP
                  go_wp2_with (first | ((with_reducible show wpList _ _ _ (Oper.mk (some 111) _ _ _ _ _ :: _) _ _); refine wpList_load_keyD 111 (by rfl) (by rfl) _ (by rfl) (w.heap.size + 1) 0 (by rfl) z2 KY2.out (TV.out _ HC.out).m ?_) | ((with_reducible show wpList _ _ _ (Oper.mk (some 112) _ _ _ _ _ :: _) _ _); refine wpList_load_keyD 112 (by rfl) (by rfl) _ (by rfl) (w.heap.size) 0 (by rfl) z1 KY1.out (TV.out _ HC.out).a ?_) | (have hgo := C1.out; clear hgo; go_at_call 25; refine (C1.out _).mono ?_; rintro e v8 ⟨rfl, hb8⟩; have HC' : Hid (Below v5.heap.size v5 v8) := HC.out.trans (hb8.mono HC.out.size); clear hb8 HC C1; have HC := HC'; clear HC') | ((with_reducible show wpList _ _ _ (Oper.mk (some 116) _ _ _ _ _ :: _) _ _); refine wpList_load_keyD 116 (by rfl) (by rfl) _ (by rfl) (w.heap.size + 1 + 1) 0 (by rfl) z3 KY3.out (TV.out _ HC.out).b ?_) | ((with_reducible show wpList _ _ _ (Oper.mk (some 117) _ _ _ _ _ :: _) _ _); refine wpList_build_k0 _ (by rfl) (by rfl) (by rfl) ?_) | ((with_reducible show wpList _ _ _ (Oper.mk (some 127) _ _ _ _ _ :: _) _ _); refine wpList_load_keyD 127 (by rfl) (by rfl) _ (by rfl) (w.heap.size + 1) 0 (by rfl) z2 KY2.out (TV.out _ HC.out).m ?_) | ((with_reducible show wpList _ _ _ (Oper.mk (some 128) _ _ _ _ _ :: _) _ _); refine wpList_build_k0 _ (by rfl) (by rfl) (by rfl) ?_))
                  have KA1 : Hid (∀ u, Below v8.heap.size v8 u → KeyAt u w.heap.size 0 z1) := fun u hb => (TV.out u (HC.out.trans (hb.mono HC.out.size))).a
                  have KA2 : Hid (∀ u, Below v8.heap.size v8 u → KeyAt u (w.heap.size + 1) 0 z2) := fun u hb => (TV.out u (HC.out.trans (hb.mono HC.out.size))).m
                  have KA3 : Hid (∀ u, Below v8.heap.size v8 u → KeyAt u (w.heap.size + 1 + 1) 0 z3) := fun u hb => (TV.out u (HC.out.trans (hb.mono HC.out.size))).b
                  have SW : Hid (∀ u, Below v8.heap.size v8 u → u.cell? ⟨w.heap.size + 1 + 1 + 1, 0, none⟩ = some (.int .i64 a4) ∧ u.cell? ⟨w.heap.size + 1 + 1 + 1, 1, none⟩ = some (.int .u8 b4)) := fun u hb => ⟨(TV.out u (HC.out.trans (hb.mono HC.out.size))).c0, (TV.out u (HC.out.trans (hb.mono HC.out.size))).c1⟩
                  have CSA : Hid (∀ u, Below v8.heap.size v8 u → Calls Try.prog 13 #[.pointer (some ⟨p, 0, none⟩), kv z1, kv z2, .agg #[.int .i64 a4, .int .u8 b4], .int .i64 300] u fun e w' => ∃ a' c', e = .returned (.slice a' N1 c') ∧ ScA v8 w' a' N1 c' R1 ∧ Below u.heap.size u w') := fun u hb => CS1.out v8 u (H5.out.past (HC.out.trans (hb.mono HC.out.size))) hb
                  have CSB : Hid (∀ u, Below v8.heap.size v8 u → Calls Try.prog 13 #[.pointer (some ⟨p, 0, none⟩), kv z2, kv z3, .agg #[.int .i64 a4, .int .u8 b4], .int .i64 300] u fun e w' => ∃ a' c', e = .returned (.slice a' N2 c') ∧ ScA v8 w' a' N2 c' R2 ∧ Below u.heap.size u w') := fun u hb => CS2.out v8 u (H5.out.past (HC.out.trans (hb.mono HC.out.size))) hb
                  clear CS1 CS2
                  refine wp_region_noPanic ?_
                  refine region_till 11 (fun u => Below v8.heap.size v8 u) (by kernel_rfl) ?_ (fun hHeld => ?_)
                  · exact (Below.refl _ _).drew
                  refine till_takeP (i := 0) (v := ?_) [10, 4] (by kernel_rfl) (by kernel_rfl) rfl (by kernel_rfl) (by kernel_rfl) (by kernel_rfl) (fun _ _ _ h => h) (Or.inl ⟨by rfl, ?_⟩) hHeld ?_
                  rotate_left
                  · intro u hSu
                    (go_simp) <;> (with_reducible rfl)
                  change wpTill _ _ _ _ _ _ _ _ (Act.put _ (some 131) _) _
                  simp only [Act.put, List.setIfInBounds_toArray, List.set_cons_zero, List.set_cons_succ]
                  refine till_takeP (i := 1) (v := kv z1) [10, 4] (by kernel_rfl) (by kernel_rfl) rfl (by kernel_rfl) (by kernel_rfl) (by kernel_rfl) (fun _ _ _ h => h) (yieldsIf_load_mid (by rfl) _ _ rfl _ _ rfl (z1.map (Value.int .u8)) _ (fun u hu => (KA1.out u hu).range KY1.out) Try.underlying31 rfl (info_keyl z1 KY1.out)) hHeld ?_
                  change wpTill _ _ _ _ _ _ _ _ (Act.put _ (some 132) _) _
                  simp only [Act.put, List.setIfInBounds_toArray, List.set_cons_zero, List.set_cons_succ]
                  refine till_takeP (i := 2) (v := kv z2) [10, 4] (by kernel_rfl) (by kernel_rfl) rfl (by kernel_rfl) (by kernel_rfl) (by kernel_rfl) (fun _ _ _ h => h) (yieldsIf_load_mid (by rfl) _ _ rfl _ _ rfl (z2.map (Value.int .u8)) _ (fun u hu => (KA2.out u hu).range KY2.out) Try.underlying31 rfl (info_keyl z2 KY2.out)) hHeld ?_
                  change wpTill _ _ _ _ _ _ _ _ (Act.put _ (some 133) _) _
                  simp only [Act.put, List.setIfInBounds_toArray, List.set_cons_zero, List.set_cons_succ]
                  refine till_takeP (i := 3) (v := ?_) [10, 4] (by kernel_rfl) (by kernel_rfl) rfl (by kernel_rfl) (by kernel_rfl) (by kernel_rfl) (fun _ _ _ h => h) (Or.inl ⟨by rfl, ?_⟩) hHeld ?_
                  rotate_left
                  · intro u hSu
                    obtain ⟨r1, r2⟩ := SW.out u hSu
                    (go_simp) <;> (with_reducible rfl)
                  change wpTill _ _ _ _ _ _ _ _ (Act.put _ (some 134) _) _
                  simp only [Act.put, List.setIfInBounds_toArray, List.set_cons_zero, List.set_cons_succ]
                  refine till_takeP (i := 5) (v := ?_) [10, 9] (by kernel_rfl) (by kernel_rfl) rfl (by kernel_rfl) (by kernel_rfl) (by kernel_rfl) (fun _ _ _ h => h) (Or.inl ⟨by rfl, ?_⟩) hHeld ?_
                  rotate_left
                  · intro u hSu
                    (go_simp) <;> (with_reducible rfl)
                  change wpTill _ _ _ _ _ _ _ _ (Act.put _ (some 136) _) _
                  simp only [Act.put, List.setIfInBounds_toArray, List.set_cons_zero, List.set_cons_succ]
                  refine till_takeP (i := 6) (v := kv z2) [10, 9] (by kernel_rfl) (by kernel_rfl) rfl (by kernel_rfl) (by kernel_rfl) (by kernel_rfl) (fun _ _ _ h => h) (yieldsIf_load_mid (by rfl) _ _ rfl _ _ rfl (z2.map (Value.int .u8)) _ (fun u hu => (KA2.out u hu).range KY2.out) Try.underlying31 rfl (info_keyl z2 KY2.out)) hHeld ?_
                  change wpTill _ _ _ _ _ _ _ _ (Act.put _ (some 137) _) _
                  simp only [Act.put, List.setIfInBounds_toArray, List.set_cons_zero, List.set_cons_succ]
                  refine till_takeP (i := 7) (v := kv z3) [10, 9] (by kernel_rfl) (by kernel_rfl) rfl (by kernel_rfl) (by kernel_rfl) (by kernel_rfl) (fun _ _ _ h => h) (yieldsIf_load_mid (by rfl) _ _ rfl _ _ rfl (z3.map (Value.int .u8)) _ (fun u hu => (KA3.out u hu).range KY3.out) Try.underlying31 rfl (info_keyl z3 KY3.out)) hHeld ?_
                  change wpTill _ _ _ _ _ _ _ _ (Act.put _ (some 138) _) _
                  simp only [Act.put, List.setIfInBounds_toArray, List.set_cons_zero, List.set_cons_succ]
                  refine till_takeP (i := 8) (v := ?_) [10, 9] (by kernel_rfl) (by kernel_rfl) rfl (by kernel_rfl) (by kernel_rfl) (by kernel_rfl) (fun _ _ _ h => h) (Or.inl ⟨by rfl, ?_⟩) hHeld ?_
                  rotate_left
                  · intro u hSu
                    obtain ⟨r1, r2⟩ := SW.out u hSu
                    (go_simp) <;> (with_reducible rfl)
                  change wpTill _ _ _ _ _ _ _ _ (Act.put _ (some 139) _) _
                  simp only [Act.put, List.setIfInBounds_toArray, List.set_cons_zero, List.set_cons_succ]
                  refine till_ready (rs := [4]) (by kernel_rfl) (by simp) ?_
                  refine AllTill.cons rfl (fun K hK => ?_) AllTill.nil
                  go_simp
                  go_at_call 13
                  refine (CSA.out _ hHeld).mono ?_
                  rintro e v9 ⟨ya, yc, rfl, s1, hb9⟩
                  have S1 : Hid (ScA v8 v9 ya N1 yc R1) := s1
                  have Bv9 : Hid (Below v8.heap.size v8 v9) := hHeld.trans (hb9.mono hHeld.size)
                  clear s1 hb9
                  refine hK.out _ _ ?_ (fun hHeld2 => ?_)
                  · exact Bv9.out
                  clear hK K hHeld
                  have hHeld := hHeld2
                  clear hHeld2
                  refine till_ready (rs := [9]) (by kernel_rfl) (by simp) ?_
                  refine AllTill.cons rfl (fun K hK => ?_) AllTill.nil
                  go_simp
                  go_at_call 13
                  refine (CSB.out _ hHeld).mono ?_
                  rintro e v10 ⟨za, zc, rfl, s1, hb9⟩
                  have S2 : Hid (ScA v8 v10 za N2 zc R2) := s1
                  have S1' : Hid (ScA v8 v10 ya N1 yc R1) := S1.out.past hb9
                  clear S1
                  have S1 := S1'
                  clear S1'
                  have Bv10 : Hid (Below v8.heap.size v8 v10) := hHeld.trans (hb9.mono hHeld.size)
                  clear s1 hb9
                  refine hK.out _ _ ?_ (fun hHeld2 => ?_)
                  · exact Bv10.out
                  clear hK K hHeld
                  have hHeld := hHeld2
                  clear hHeld2
                  refine till_ready (rs := [10]) (by kernel_rfl) (by simp) ?_
                  refine AllTill.cons rfl (fun K hK => ?_) AllTill.nil
                  refine step_side rfl (.tmp 135) (.tmp 140) rfl S1.out S2.out rfl rfl (N1 + N2) rfl (by omega) (R1 ++ R2) rfl ?_
                  intro ra rc v11 s4
                  have S4 : Hid (ScA v8 v11 ra (N1 + N2) rc (R1 ++ R2)) := s4
                  clear s4
                  refine hK.out _ _ ?_ (fun hHeld2 => ?_)
                  · exact S4.out.own.below
                  clear hK K hHeld
                  have hHeld := hHeld2
                  clear hHeld2
                  refine till_last (by kernel_rfl) (by kernel_rfl) rfl (fun K hK => ?_)
                  go_simp
                  refine hK.out _ _ ?_
                  refine NoPanic.normal ?_
                  clear hK K hHeld
                  have HC2 : Hid (Below v5.heap.size v5 v11) := HC.out.trans (S4.out.own.below.mono HC.out.size)
                  by_cases hF : z2 = z3
                  · rw [decide_eq_true hF] at hq3
                    clear hF HE
                    go_wp2_with (first | ((with_reducible show wpList _ _ _ (Oper.mk (some 142) _ _ _ _ _ :: _) _ _); refine wpList_load_keyD 142 (by rfl) (by rfl) _ (by rfl) (w.heap.size + 1) 0 (by rfl) z2 KY2.out (TV.out _ HC2.out).m ?_) | ((with_reducible show wpList _ _ _ (Oper.mk (some 143) _ _ _ _ _ :: _) _ _); refine wpList_load_keyD 143 (by rfl) (by rfl) _ (by rfl) (w.heap.size + 1 + 1) 0 (by rfl) z3 KY3.out (TV.out _ HC2.out).b ?_))
                    go_ret
                    exact ⟨rfl, HBV.out _ HC2.out⟩
                  · rw [decide_eq_false hF] at hq3
                    have HEQ : Hid (R = R1 ++ R2) := HE.out hF
                    have XI : Hid (ItmsAt v11 xa R) := HXI.out.past HC2.out
                    clear hF HE
                    go_wp2_with (first | ((with_reducible show wpList _ _ _ (Oper.mk (some 142) _ _ _ _ _ :: _) _ _); refine wpList_load_keyD 142 (by rfl) (by rfl) _ (by rfl) (w.heap.size + 1) 0 (by rfl) z2 KY2.out (TV.out _ HC2.out).m ?_) | ((with_reducible show wpList _ _ _ (Oper.mk (some 143) _ _ _ _ _ :: _) _ _); refine wpList_load_keyD 143 (by rfl) (by rfl) _ (by rfl) (w.heap.size + 1 + 1) 0 (by rfl) z3 KY3.out (TV.out _ HC2.out).b ?_) | (go_at_call 23; refine (CI.out HEQ.out _ _ _ XI.out S4.out.itms.1 S4.out.itms.2 S4.out.len).mono ?_; rintro e v12 ⟨rfl, hb12⟩; have B12 : Hid (Below v5.heap.size v5 v12) := HC2.out.trans (hb12.mono HC2.out.size); clear hb12))
                    go_ret
                    exact ⟨rfl, HBV.out _ B12.out⟩
              · rw [decide_eq_false hB] at hq1
                by_cases hY0 : 0 < Y
                · have bY : decide (0 < Y) = true := decide_eq_true hY0
                  clear hB
                  have hea := HC.out
                  clear hea HSP CI CS1 CS2
                  go_wp2_with (first | ((with_reducible show wpList _ _ _ (Oper.mk (some 111) _ _ _ _ _ :: _) _ _); refine wpList_load_keyD 111 (by rfl) (by rfl) _ (by rfl) (w.heap.size + 1) 0 (by rfl) z2 KY2.out (TV.out _ HC.out).m ?_) | ((with_reducible show wpList _ _ _ (Oper.mk (some 112) _ _ _ _ _ :: _) _ _); refine wpList_load_keyD 112 (by rfl) (by rfl) _ (by rfl) (w.heap.size) 0 (by rfl) z1 KY1.out (TV.out _ HC.out).a ?_) | (have hgo := C1.out; clear hgo; go_at_call 25; refine (C1.out _).mono ?_; rintro e v8 ⟨rfl, hb8⟩; have HC' : Hid (Below v5.heap.size v5 v8) := HC.out.trans (hb8.mono HC.out.size); clear hb8 HC C1; have HC := HC'; clear HC') | ((with_reducible show wpList _ _ _ (Oper.mk (some 116) _ _ _ _ _ :: _) _ _); refine wpList_load_keyD 116 (by rfl) (by rfl) _ (by rfl) (w.heap.size + 1 + 1) 0 (by rfl) z3 KY3.out (TV.out _ HC.out).b ?_) | ((with_reducible show wpList _ _ _ (Oper.mk (some 117) _ _ _ _ _ :: _) _ _); refine wpList_build_k0 _ (by rfl) (by rfl) (by rfl) ?_) | ((with_reducible show wpList _ _ _ (Oper.mk (some 120) _ _ _ _ _ :: _) _ _); refine wpList_load_keyD 120 (by rfl) (by rfl) _ (by rfl) (w.heap.size + 1) 0 (by rfl) z2 KY2.out (TV.out _ HC.out).m ?_) | ((with_reducible show wpList _ _ _ (Oper.mk (some 121) _ _ _ _ _ :: _) _ _); refine wpList_load_keyD 121 (by rfl) (by rfl) _ (by rfl) (w.heap.size + 1 + 1) 0 (by rfl) z3 KY3.out (TV.out _ HC.out).b ?_) | (have hgo := C2.out; clear hgo; go_at_call 25; refine (C2.out _).mono ?_; rintro e v8 ⟨rfl, hb8⟩; have HC' : Hid (Below v5.heap.size v5 v8) := HC.out.trans (hb8.mono HC.out.size); clear hb8 HC C2; have HC := HC'; clear HC'))
                  go_ret
                  exact ⟨rfl, HBV.out _ HC.out⟩
                · have bY : decide (0 < Y) = false := decide_eq_false hY0
                  by_cases hD : z2 = zeroK
                  · rw [decide_eq_true hD] at hq2
                    clear hB hD
                    have hea := HC.out
                    clear hea HSP CI CS1 CS2
                    go_wp2_with (first | ((with_reducible show wpList _ _ _ (Oper.mk (some 111) _ _ _ _ _ :: _) _ _); refine wpList_load_keyD 111 (by rfl) (by rfl) _ (by rfl) (w.heap.size + 1) 0 (by rfl) z2 KY2.out (TV.out _ HC.out).m ?_) | ((with_reducible show wpList _ _ _ (Oper.mk (some 112) _ _ _ _ _ :: _) _ _); refine wpList_load_keyD 112 (by rfl) (by rfl) _ (by rfl) (w.heap.size) 0 (by rfl) z1 KY1.out (TV.out _ HC.out).a ?_) | (have hgo := C1.out; clear hgo; go_at_call 25; refine (C1.out _).mono ?_; rintro e v8 ⟨rfl, hb8⟩; have HC' : Hid (Below v5.heap.size v5 v8) := HC.out.trans (hb8.mono HC.out.size); clear hb8 HC C1; have HC := HC'; clear HC') | ((with_reducible show wpList _ _ _ (Oper.mk (some 116) _ _ _ _ _ :: _) _ _); refine wpList_load_keyD 116 (by rfl) (by rfl) _ (by rfl) (w.heap.size + 1 + 1) 0 (by rfl) z3 KY3.out (TV.out _ HC.out).b ?_) | ((with_reducible show wpList _ _ _ (Oper.mk (some 117) _ _ _ _ _ :: _) _ _); refine wpList_build_k0 _ (by rfl) (by rfl) (by rfl) ?_) | ((with_reducible show wpList _ _ _ (Oper.mk (some 120) _ _ _ _ _ :: _) _ _); refine wpList_load_keyD 120 (by rfl) (by rfl) _ (by rfl) (w.heap.size + 1) 0 (by rfl) z2 KY2.out (TV.out _ HC.out).m ?_) | ((with_reducible show wpList _ _ _ (Oper.mk (some 121) _ _ _ _ _ :: _) _ _); refine wpList_load_keyD 121 (by rfl) (by rfl) _ (by rfl) (w.heap.size + 1 + 1) 0 (by rfl) z3 KY3.out (TV.out _ HC.out).b ?_) | (have hgo := C2.out; clear hgo; go_at_call 25; refine (C2.out _).mono ?_; rintro e v8 ⟨rfl, hb8⟩; have HC' : Hid (Below v5.heap.size v5 v8) := HC.out.trans (hb8.mono HC.out.size); clear hb8 HC C2; have HC := HC'; clear HC') | ((with_reducible show wpList _ _ _ (Oper.mk (some 127) _ _ _ _ _ :: _) _ _); refine wpList_load_keyD 127 (by rfl) (by rfl) _ (by rfl) (w.heap.size + 1) 0 (by rfl) z2 KY2.out (TV.out _ HC.out).m ?_) | ((with_reducible show wpList _ _ _ (Oper.mk (some 128) _ _ _ _ _ :: _) _ _); refine wpList_build_k0 _ (by rfl) (by rfl) (by rfl) ?_))
                    go_ret
                    exact ⟨rfl, HBV.out _ HC.out⟩
                  · rw [decide_eq_false hD] at hq2
                    have HE : Hid (z2 ≠ z3 → R = R1 ++ R2) := HSP.out hA hD (.inr hY0)
                    clear hB hD
                    clear HSP
                    go_wp2_with (first | ((with_reducible show wpList _ _ _ (Oper.mk (some 111) _ _ _ _ _ :: _) _ _); refine wpList_load_keyD 111 (by rfl) (by rfl) _ (by rfl) (w.heap.size + 1) 0 (by rfl) z2 KY2.out (TV.out _ HC.out).m ?_) | ((with_reducible show wpList _ _ _ (Oper.mk (some 112) _ _ _ _ _ :: _) _ _); refine wpList_load_keyD 112 (by rfl) (by rfl) _ (by rfl) (w.heap.size) 0 (by rfl) z1 KY1.out (TV.out _ HC.out).a ?_) | (have hgo := C1.out; clear hgo; go_at_call 25; refine (C1.out _).mono ?_; rintro e v8 ⟨rfl, hb8⟩; have HC' : Hid (Below v5.heap.size v5 v8) := HC.out.trans (hb8.mono HC.out.size); clear hb8 HC C1; have HC := HC'; clear HC') | ((with_reducible show wpList _ _ _ (Oper.mk (some 116) _ _ _ _ _ :: _) _ _); refine wpList_load_keyD 116 (by rfl) (by rfl) _ (by rfl) (w.heap.size + 1 + 1) 0 (by rfl) z3 KY3.out (TV.out _ HC.out).b ?_) | ((with_reducible show wpList _ _ _ (Oper.mk (some 117) _ _ _ _ _ :: _) _ _); refine wpList_build_k0 _ (by rfl) (by rfl) (by rfl) ?_) | ((with_reducible show wpList _ _ _ (Oper.mk (some 120) _ _ _ _ _ :: _) _ _); refine wpList_load_keyD 120 (by rfl) (by rfl) _ (by rfl) (w.heap.size + 1) 0 (by rfl) z2 KY2.out (TV.out _ HC.out).m ?_) | ((with_reducible show wpList _ _ _ (Oper.mk (some 121) _ _ _ _ _ :: _) _ _); refine wpList_load_keyD 121 (by rfl) (by rfl) _ (by rfl) (w.heap.size + 1 + 1) 0 (by rfl) z3 KY3.out (TV.out _ HC.out).b ?_) | (have hgo := C2.out; clear hgo; go_at_call 25; refine (C2.out _).mono ?_; rintro e v8 ⟨rfl, hb8⟩; have HC' : Hid (Below v5.heap.size v5 v8) := HC.out.trans (hb8.mono HC.out.size); clear hb8 HC C2; have HC := HC'; clear HC') | ((with_reducible show wpList _ _ _ (Oper.mk (some 127) _ _ _ _ _ :: _) _ _); refine wpList_load_keyD 127 (by rfl) (by rfl) _ (by rfl) (w.heap.size + 1) 0 (by rfl) z2 KY2.out (TV.out _ HC.out).m ?_) | ((with_reducible show wpList _ _ _ (Oper.mk (some 128) _ _ _ _ _ :: _) _ _); refine wpList_build_k0 _ (by rfl) (by rfl) (by rfl) ?_))
                    have KA1 : Hid (∀ u, Below v8.heap.size v8 u → KeyAt u w.heap.size 0 z1) := fun u hb => (TV.out u (HC.out.trans (hb.mono HC.out.size))).a
                    have KA2 : Hid (∀ u, Below v8.heap.size v8 u → KeyAt u (w.heap.size + 1) 0 z2) := fun u hb => (TV.out u (HC.out.trans (hb.mono HC.out.size))).m
                    have KA3 : Hid (∀ u, Below v8.heap.size v8 u → KeyAt u (w.heap.size + 1 + 1) 0 z3) := fun u hb => (TV.out u (HC.out.trans (hb.mono HC.out.size))).b
                    have SW : Hid (∀ u, Below v8.heap.size v8 u → u.cell? ⟨w.heap.size + 1 + 1 + 1, 0, none⟩ = some (.int .i64 a4) ∧ u.cell? ⟨w.heap.size + 1 + 1 + 1, 1, none⟩ = some (.int .u8 b4)) := fun u hb => ⟨(TV.out u (HC.out.trans (hb.mono HC.out.size))).c0, (TV.out u (HC.out.trans (hb.mono HC.out.size))).c1⟩
                    have CSA : Hid (∀ u, Below v8.heap.size v8 u → Calls Try.prog 13 #[.pointer (some ⟨p, 0, none⟩), kv z1, kv z2, .agg #[.int .i64 a4, .int .u8 b4], .int .i64 300] u fun e w' => ∃ a' c', e = .returned (.slice a' N1 c') ∧ ScA v8 w' a' N1 c' R1 ∧ Below u.heap.size u w') := fun u hb => CS1.out v8 u (H5.out.past (HC.out.trans (hb.mono HC.out.size))) hb
                    have CSB : Hid (∀ u, Below v8.heap.size v8 u → Calls Try.prog 13 #[.pointer (some ⟨p, 0, none⟩), kv z2, kv z3, .agg #[.int .i64 a4, .int .u8 b4], .int .i64 300] u fun e w' => ∃ a' c', e = .returned (.slice a' N2 c') ∧ ScA v8 w' a' N2 c' R2 ∧ Below u.heap.size u w') := fun u hb => CS2.out v8 u (H5.out.past (HC.out.trans (hb.mono HC.out.size))) hb
                    clear CS1 CS2
                    refine wp_region_noPanic ?_
                    refine region_till 11 (fun u => Below v8.heap.size v8 u) (by kernel_rfl) ?_ (fun hHeld => ?_)
                    · exact (Below.refl _ _).drew
                    refine till_takeP (i := 0) (v := ?_) [10, 4] (by kernel_rfl) (by kernel_rfl) rfl (by kernel_rfl) (by kernel_rfl) (by kernel_rfl) (fun _ _ _ h => h) (Or.inl ⟨by rfl, ?_⟩) hHeld ?_
                    rotate_left
                    · intro u hSu
                      (go_simp) <;> (with_reducible rfl)
                    change wpTill _ _ _ _ _ _ _ _ (Act.put _ (some 131) _) _
                    simp only [Act.put, List.setIfInBounds_toArray, List.set_cons_zero, List.set_cons_succ]
                    refine till_takeP (i := 1) (v := kv z1) [10, 4] (by kernel_rfl) (by kernel_rfl) rfl (by kernel_rfl) (by kernel_rfl) (by kernel_rfl) (fun _ _ _ h => h) (yieldsIf_load_mid (by rfl) _ _ rfl _ _ rfl (z1.map (Value.int .u8)) _ (fun u hu => (KA1.out u hu).range KY1.out) Try.underlying31 rfl (info_keyl z1 KY1.out)) hHeld ?_
                    change wpTill _ _ _ _ _ _ _ _ (Act.put _ (some 132) _) _
                    simp only [Act.put, List.setIfInBounds_toArray, List.set_cons_zero, List.set_cons_succ]
                    refine till_takeP (i := 2) (v := kv z2) [10, 4] (by kernel_rfl) (by kernel_rfl) rfl (by kernel_rfl) (by kernel_rfl) (by kernel_rfl) (fun _ _ _ h => h) (yieldsIf_load_mid (by rfl) _ _ rfl _ _ rfl (z2.map (Value.int .u8)) _ (fun u hu => (KA2.out u hu).range KY2.out) Try.underlying31 rfl (info_keyl z2 KY2.out)) hHeld ?_
                    change wpTill _ _ _ _ _ _ _ _ (Act.put _ (some 133) _) _
                    simp only [Act.put, List.setIfInBounds_toArray, List.set_cons_zero, List.set_cons_succ]
                    refine till_takeP (i := 3) (v := ?_) [10, 4] (by kernel_rfl) (by kernel_rfl) rfl (by kernel_rfl) (by kernel_rfl) (by kernel_rfl) (fun _ _ _ h => h) (Or.inl ⟨by rfl, ?_⟩) hHeld ?_
                    rotate_left
                    · intro u hSu
                      obtain ⟨r1, r2⟩ := SW.out u hSu
                      (go_simp) <;> (with_reducible rfl)
                    change wpTill _ _ _ _ _ _ _ _ (Act.put _ (some 134) _) _
                    simp only [Act.put, List.setIfInBounds_toArray, List.set_cons_zero, List.set_cons_succ]
                    refine till_takeP (i := 5) (v := ?_) [10, 9] (by kernel_rfl) (by kernel_rfl) rfl (by kernel_rfl) (by kernel_rfl) (by kernel_rfl) (fun _ _ _ h => h) (Or.inl ⟨by rfl, ?_⟩) hHeld ?_
                    rotate_left
                    · intro u hSu
                      (go_simp) <;> (with_reducible rfl)
                    change wpTill _ _ _ _ _ _ _ _ (Act.put _ (some 136) _) _
                    simp only [Act.put, List.setIfInBounds_toArray, List.set_cons_zero, List.set_cons_succ]
                    refine till_takeP (i := 6) (v := kv z2) [10, 9] (by kernel_rfl) (by kernel_rfl) rfl (by kernel_rfl) (by kernel_rfl) (by kernel_rfl) (fun _ _ _ h => h) (yieldsIf_load_mid (by rfl) _ _ rfl _ _ rfl (z2.map (Value.int .u8)) _ (fun u hu => (KA2.out u hu).range KY2.out) Try.underlying31 rfl (info_keyl z2 KY2.out)) hHeld ?_
                    change wpTill _ _ _ _ _ _ _ _ (Act.put _ (some 137) _) _
                    simp only [Act.put, List.setIfInBounds_toArray, List.set_cons_zero, List.set_cons_succ]
                    refine till_takeP (i := 7) (v := kv z3) [10, 9] (by kernel_rfl) (by kernel_rfl) rfl (by kernel_rfl) (by kernel_rfl) (by kernel_rfl) (fun _ _ _ h => h) (yieldsIf_load_mid (by rfl) _ _ rfl _ _ rfl (z3.map (Value.int .u8)) _ (fun u hu => (KA3.out u hu).range KY3.out) Try.underlying31 rfl (info_keyl z3 KY3.out)) hHeld ?_
                    change wpTill _ _ _ _ _ _ _ _ (Act.put _ (some 138) _) _
                    simp only [Act.put, List.setIfInBounds_toArray, List.set_cons_zero, List.set_cons_succ]
                    refine till_takeP (i := 8) (v := ?_) [10, 9] (by kernel_rfl) (by kernel_rfl) rfl (by kernel_rfl) (by kernel_rfl) (by kernel_rfl) (fun _ _ _ h => h) (Or.inl ⟨by rfl, ?_⟩) hHeld ?_
                    rotate_left
                    · intro u hSu
                      obtain ⟨r1, r2⟩ := SW.out u hSu
                      (go_simp) <;> (with_reducible rfl)
                    change wpTill _ _ _ _ _ _ _ _ (Act.put _ (some 139) _) _
                    simp only [Act.put, List.setIfInBounds_toArray, List.set_cons_zero, List.set_cons_succ]
                    refine till_ready (rs := [4]) (by kernel_rfl) (by simp) ?_
                    refine AllTill.cons rfl (fun K hK => ?_) AllTill.nil
                    go_simp
                    go_at_call 13
                    refine (CSA.out _ hHeld).mono ?_
                    rintro e v9 ⟨ya, yc, rfl, s1, hb9⟩
                    have S1 : Hid (ScA v8 v9 ya N1 yc R1) := s1
                    have Bv9 : Hid (Below v8.heap.size v8 v9) := hHeld.trans (hb9.mono hHeld.size)
                    clear s1 hb9
                    refine hK.out _ _ ?_ (fun hHeld2 => ?_)
                    · exact Bv9.out
                    clear hK K hHeld
                    have hHeld := hHeld2
                    clear hHeld2
                    refine till_ready (rs := [9]) (by kernel_rfl) (by simp) ?_
                    refine AllTill.cons rfl (fun K hK => ?_) AllTill.nil
                    go_simp
                    go_at_call 13
                    refine (CSB.out _ hHeld).mono ?_
                    rintro e v10 ⟨za, zc, rfl, s1, hb9⟩
                    have S2 : Hid (ScA v8 v10 za N2 zc R2) := s1
                    have S1' : Hid (ScA v8 v10 ya N1 yc R1) := S1.out.past hb9
                    clear S1
                    have S1 := S1'
                    clear S1'
                    have Bv10 : Hid (Below v8.heap.size v8 v10) := hHeld.trans (hb9.mono hHeld.size)
                    clear s1 hb9
                    refine hK.out _ _ ?_ (fun hHeld2 => ?_)
                    · exact Bv10.out
                    clear hK K hHeld
                    have hHeld := hHeld2
                    clear hHeld2
                    refine till_ready (rs := [10]) (by kernel_rfl) (by simp) ?_
                    refine AllTill.cons rfl (fun K hK => ?_) AllTill.nil
                    refine step_side rfl (.tmp 135) (.tmp 140) rfl S1.out S2.out rfl rfl (N1 + N2) rfl (by omega) (R1 ++ R2) rfl ?_
                    intro ra rc v11 s4
                    have S4 : Hid (ScA v8 v11 ra (N1 + N2) rc (R1 ++ R2)) := s4
                    clear s4
                    refine hK.out _ _ ?_ (fun hHeld2 => ?_)
                    · exact S4.out.own.below
                    clear hK K hHeld
                    have hHeld := hHeld2
                    clear hHeld2
                    refine till_last (by kernel_rfl) (by kernel_rfl) rfl (fun K hK => ?_)
                    go_simp
                    refine hK.out _ _ ?_
                    refine NoPanic.normal ?_
                    clear hK K hHeld
                    have HC2 : Hid (Below v5.heap.size v5 v11) := HC.out.trans (S4.out.own.below.mono HC.out.size)
                    by_cases hF : z2 = z3
                    · rw [decide_eq_true hF] at hq3
                      clear hF HE
                      go_wp2_with (first | ((with_reducible show wpList _ _ _ (Oper.mk (some 142) _ _ _ _ _ :: _) _ _); refine wpList_load_keyD 142 (by rfl) (by rfl) _ (by rfl) (w.heap.size + 1) 0 (by rfl) z2 KY2.out (TV.out _ HC2.out).m ?_) | ((with_reducible show wpList _ _ _ (Oper.mk (some 143) _ _ _ _ _ :: _) _ _); refine wpList_load_keyD 143 (by rfl) (by rfl) _ (by rfl) (w.heap.size + 1 + 1) 0 (by rfl) z3 KY3.out (TV.out _ HC2.out).b ?_))
                      go_ret
                      exact ⟨rfl, HBV.out _ HC2.out⟩
                    · rw [decide_eq_false hF] at hq3
                      have HEQ : Hid (R = R1 ++ R2) := HE.out hF
                      have XI : Hid (ItmsAt v11 xa R) := HXI.out.past HC2.out
                      clear hF HE
                      go_wp2_with (first | ((with_reducible show wpList _ _ _ (Oper.mk (some 142) _ _ _ _ _ :: _) _ _); refine wpList_load_keyD 142 (by rfl) (by rfl) _ (by rfl) (w.heap.size + 1) 0 (by rfl) z2 KY2.out (TV.out _ HC2.out).m ?_) | ((with_reducible show wpList _ _ _ (Oper.mk (some 143) _ _ _ _ _ :: _) _ _); refine wpList_load_keyD 143 (by rfl) (by rfl) _ (by rfl) (w.heap.size + 1 + 1) 0 (by rfl) z3 KY3.out (TV.out _ HC2.out).b ?_) | (go_at_call 23; refine (CI.out HEQ.out _ _ _ XI.out S4.out.itms.1 S4.out.itms.2 S4.out.len).mono ?_; rintro e v12 ⟨rfl, hb12⟩; have B12 : Hid (Below v5.heap.size v5 v12) := HC2.out.trans (hb12.mono HC2.out.size); clear hb12))
                      go_ret
                      exact ⟨rfl, HBV.out _ B12.out⟩

set_option maxRecDepth 100000 in
theorem lifted (os : Os) (started : os.Started) (H : Type) (enc : TypeId × Value → H) :
    ReturnsInHanded {} Try.checked os 6 .any (Rows.storeScansSpec.pre6 enc Try.prog Try.f6 Rows.storeScansRow.domain false) (Rows.storeScansSpec.post enc Try.prog Try.f6 false true false false) := by
  refine returnsInHanded_of_change (C := Try.checked) own started (by kernel_rfl) Try.func6
    (ChangeSpec.witness6 (enc := enc) (C := Try.checked) false ⟨#[], #[.slice none 0 0, .agg #[.int .u8 0, .int .u8 0, .int .u8 0, .int .u8 0, .int .u8 0, .int .u8 0, .int .u8 0, .int .u8 0, .int .u8 0, .int .u8 0, .int .u8 0, .int .u8 0, .int .u8 0, .int .u8 0, .int .u8 0, .int .u8 0], .agg #[.int .u8 0, .int .u8 0, .int .u8 0, .int .u8 0, .int .u8 0, .int .u8 0, .int .u8 0, .int .u8 0, .int .u8 0, .int .u8 0, .int .u8 0, .int .u8 0, .int .u8 0, .int .u8 0, .int .u8 0, .int .u8 0], .agg #[.int .u8 0, .int .u8 0, .int .u8 0, .int .u8 0, .int .u8 0, .int .u8 0, .int .u8 0, .int .u8 0, .int .u8 0, .int .u8 0, .int .u8 0, .int .u8 0, .int .u8 0, .int .u8 0, .int .u8 0, .int .u8 0], .agg #[.int .i64 0, .int .u8 0]], []⟩ 8 (by kernel_rfl) (by kernel_rfl) (by kernel_rfl) (by kernel_rfl)) ?_
  intro W base args ds gs before hval0 hW hcnd _
  have hval : ∀ (j : Nat) t v, Try.f6.params[j]? = some t → args[j]? = some v → Value.okWide Try.prog W .any base t v := hval0
  have hW' := hW
  obtain ⟨p, q, hA0, hV, rfl, hfz, hnd⟩ := hW
  have hA : DataW.TrodAll enc Try.prog W 0 (fun _ => true) true Try.f6.params.toList args.toList ds p := hA0
  rw [Try.params6] at hA hval
  obtain ⟨v0, vs0, d0, ds0, p0, q0, hargs, rfl, rfl, h0, r0⟩ := trodAll_cons hA
  obtain ⟨v1, vs1, d1, ds1, p1, q1, rfl, rfl, rfl, h1, r1⟩ := trodAll_cons r0
  obtain ⟨v2, vs2, d2, ds2, p2, q2, rfl, rfl, rfl, h2, r2⟩ := trodAll_cons r1
  obtain ⟨v3, vs3, d3, ds3, p3, q3, rfl, rfl, rfl, h3, r3⟩ := trodAll_cons r2
  obtain ⟨v4, vs4, d4, ds4, p4, q4, rfl, rfl, rfl, h4, r4⟩ := trodAll_cons r3
  obtain ⟨rfl, rfl, rfl⟩ := trodAll_nil r4
  obtain rfl : args = #[v0, v1, v2, v3, v4] := by cases args; simp_all
  obtain ⟨rfl, rfl⟩ := trodVars_none hV
  obtain ⟨a0, len0, cap0, rfl⟩ := okWide_slice Try.underlying45 (hval 0 45 v0 rfl rfl)
  have k0 := h0
  have lt0 : ∀ x ∈ p0, x.block < W.heap.size := by obtain ⟨m, hm⟩ := k0; exact DataW.trod_lt m _ _ _ hm
  obtain ⟨z0, l0, w0⟩ : ∃ xs : List SAct, xs.length = len0 ∧ SActsOf W a0 cap0 xs := by
    obtain ⟨fuel, hf⟩ := h0
    exact sacts_open Try.underlying45 Try.underlying49 Try.underlying3 Try.underlying28 Try.underlying2 Try.underlying5 Try.underlying46 Try.underlying34 Try.underlying31 Try.underlying5 Try.underlying9 Try.underlying4 rfl rfl rfl rfl rfl rfl rfl rfl (by kernel_rfl) (by kernel_rfl) (by kernel_rfl) (by kernel_rfl) (by kernel_rfl) (by kernel_rfl) (by kernel_rfl) (by kernel_rfl) (by kernel_rfl) (by kernel_rfl) (by kernel_rfl) hf
  have k1 := h1
  have lt1 : ∀ x ∈ p1, x.block < W.heap.size := by obtain ⟨m, hm⟩ := k1; exact DataW.trod_lt m _ _ _ hm
  obtain ⟨z1, rfl, w1⟩ := arr_open Try.underlying31 Try.underlying5 (by kernel_rfl) (by kernel_rfl) (hval 1 31 v1 rfl rfl) h1
  have k2 := h2
  have lt2 : ∀ x ∈ p2, x.block < W.heap.size := by obtain ⟨m, hm⟩ := k2; exact DataW.trod_lt m _ _ _ hm
  obtain ⟨z2, rfl, w2⟩ := arr_open Try.underlying31 Try.underlying5 (by kernel_rfl) (by kernel_rfl) (hval 2 31 v2 rfl rfl) h2
  have k3 := h3
  have lt3 : ∀ x ∈ p3, x.block < W.heap.size := by obtain ⟨m, hm⟩ := k3; exact DataW.trod_lt m _ _ _ hm
  obtain ⟨z3, rfl, w3⟩ := arr_open Try.underlying31 Try.underlying5 (by kernel_rfl) (by kernel_rfl) (hval 3 31 v3 rfl rfl) h3
  have k4 := h4
  have lt4 : ∀ x ∈ p4, x.block < W.heap.size := by obtain ⟨m, hm⟩ := k4; exact DataW.trod_lt m _ _ _ hm
  obtain ⟨a4, b4, rfl, w4, x4⟩ := struct2_open Try.underlying28 Try.underlying2 Try.underlying5 rfl rfl (by kernel_rfl) (by kernel_rfl) (by kernel_rfl) (hval 4 28 v4 rfl rfl) h4
  clear hA0 hval0
  refine (walk a0 len0 cap0 z0 z1 z2 z3 a4 b4 W l0 w0 w1 w2 w3 w4 x4).mono fun e W' ⟨he, bel⟩ => ?_
  subst he
  exact ⟨_, rfl, _, _, _, [], _, [], hW', trodAll_mk1 (shut_bool Try.underlying4 _), (trodAll_cons_mk (Below.trod laidOut (by kernel_rfl) (of_decide_eq_true (by kernel_rfl)) k0 bel lt0) (trodAll_cons_mk (Below.trod laidOut (by kernel_rfl) (of_decide_eq_true (by kernel_rfl)) k1 bel lt1) (trodAll_cons_mk (Below.trod laidOut (by kernel_rfl) (of_decide_eq_true (by kernel_rfl)) k2 bel lt2) (trodAll_cons_mk (Below.trod laidOut (by kernel_rfl) (of_decide_eq_true (by kernel_rfl)) k3 bel lt3) (trodAll_cons_mk (Below.trod laidOut (by kernel_rfl) (of_decide_eq_true (by kernel_rfl)) k4 bel lt4) trodAll_mk0))))), rfl, bel.frame _, fun h => by cases h⟩

theorem over : Rows.storeScansRow.holds Try.pinned (OpenSpec.ofChange Rows.storeScansSpec) :=
  OpenClaim.holds_of_wide 6 Try.f6 rfl rfl rfl rfl rfl rfl rfl ⟨rfl, rfl, rfl, rfl, rfl⟩ rfl rfl rfl rfl rfl (by kernel_rfl) Try.func6 (by kernel_rfl)
    (of_decide_eq_true (by kernel_rfl)) (by unfold Func.isWrapper; first | (rw [if_pos (by decide +kernel)]; kernel_rfl) | (rw [if_neg (by decide +kernel)]; exact ⟨rfl, rfl⟩))
    (fun os started H enc _ => lifted os started H enc)
theorem proved : Rows.StoreScansSaid := over
#print axioms proved
end Go.Proofs.Ytfaojmognbgnfaa.storeScans
namespace Go.Proofs.Ytfaojmognbgnfaa
/-- StoreScans, as given. -/
theorem storeScans_holds : Rows.StoreScansSaid := storeScans.proved
end Go.Proofs.Ytfaojmognbgnfaa
