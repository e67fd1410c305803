/-
  StoreStill: what is written later is not seen at an earlier time, for every two lists of acts, every stamp, every key (of more than 20 acts, of more than 20 writes in one, of values of more than 250 bytes the statement asks nothing).
-/
import Derived.Test.YtfaojmognbgnfaaRows
import Derived.Test.YtfaojmognbgnfaaStoL4
import Derived.Test.YtfaojmognbgnfaaBase
import Derived.Test.YtfaojmognbgnfaaSActs
import Derived.Test.YtfaojmognbgnfaaPairOpen
import Derived.WalkKit
import Derived.ProofKit
import Derived.OpenShut
import Derived.ShutString
import Derived.ChangeOld
import Derived.Below
import Derived.Carry
namespace Go.Proofs.Ytfaojmognbgnfaa.storeStill
open Go.ChangeShapes Go.WideShapes Go.ChangeAt Go.RowKit
open Go.ChangeMaps (open_string shut_string)
set_option linter.unusedVariables false

theorem own : ownKnob Try.prog.godebug = none := by kernel_rfl
theorem laidOut : laidOutB Try.prog = true := by kernel_rfl
/-- A slice of integers that came in: nil, or a row of 'cap' cells, of which the first 'len' are its elements. -/
def IsRow (k : IntKind) (w : World) (a : Option Addr) (len cap : Nat) (zs : List Int) : Prop :=
  (a = none ∧ len = 0 ∧ cap = 0 ∧ zs = []) ∨
  ∃ x, a = some x ∧ len ≤ cap ∧ cap ≤ maxLen ∧ zs.length = cap ∧ (∀ i, i < zs.length → w.cell? (x.add i) = some (.int k (zs.getD i 0))) ∧ ∀ n ∈ zs, (Lit.int k n).wf = true

set_option maxRecDepth 20000 in
set_option maxHeartbeats 16000000 in
theorem walk (a0 : Option Addr) (len0 cap0 : Nat) (z0 : List SAct) (a1 b1 : Int) (z2 : List Int) (a3 : Option Addr) (len3 cap3 : Nat) (z3 : List SAct) (w : World) (l0 : z0.length = len0) (w0 : SActsOf w a0 cap0 z0) (w1 : (Lit.int .i64 a1).wf = true) (x1 : (Lit.int .u8 b1).wf = true) (w2 : IsArr .u8 16 z2) (l3 : z3.length = len3) (w3 : SActsOf w a3 cap3 z3) :
    Calls Try.prog 5 #[.slice a0 len0 cap0, .agg #[.int .i64 a1, .int .u8 b1], .agg (z2.map (Value.int .u8)).toArray, .slice a3 len3 cap3] w fun e w' => e = .returned (.bool true) ∧ Below w.heap.size w w' := by
  have by1 := bounds_i64 w1
  have by1n := bounds_u8 x1
  have KY2 : Hid (Ky z2) := w2.ky
  have AW : Hid (∀ u, Calls Try.prog 8 #[] u fun e w' => e = .returned (.bool true) ∧ Below u.heap.size u w') := fun u => lawake_any u
  have HL : Hid (z0.length = len0) := l0
  have HA : Hid (SActsOf w a0 cap0 z0) := w0
  have HL3 : Hid (z3.length = len3) := l3
  have HA3 : Hid (SActsOf w a3 cap3 z3) := w3
  have hcap : len0 ≤ cap0 := by rw [← l0]; exact w0.room
  have hcap3 : len3 ≤ cap3 := by rw [← l3]; exact w3.room
  obtain ⟨W0, hW0⟩ : ∃ W0, W0 = (w.alloc (.cells #[.int .i64 a1, .int .u8 b1] 28)).alloc (.cells (kcs z2) 31) := ⟨_, rfl⟩
  have HW0 : Hid ((w.alloc (.cells #[.int .i64 a1, .int .u8 b1] 28)).alloc (.cells (kcs z2) 31) = W0) := hW0.symm
  have HB0 : Hid (Below w.heap.size w W0) := by rw [hW0]; exact ((Below.refl _ _).alloc (Nat.le_refl _) _).alloc (by simp) _
  have HBX : Hid (SkB w W0 a1 b1 z2) := by rw [hW0]; exact SkB.made w a1 b1 KY2.out 28 31
  have CN : Hid (∀ u, Below W0.heap.size W0 u → Calls Try.prog 9 #[] u fun e w' => ∃ p, e = .returned (.pointer (some ⟨p, 0, none⟩)) ∧ StX W0 w' p []) := fun u hb => (xnew_any u).mono fun e w' ⟨p, h1, h2⟩ => ⟨p, h1, h2.to hb⟩
  clear w0 w1 w2 w3 x1 l0 l3 hW0
  by_cases ha : 20 < len0
  · have ba : (20 : Int) < (len0 : Int) := by omega
    go_enter Try.func5, Try.ntmps5
    go_wp2_with (first | (go_at_call 8; refine (AW.out _).mono ?_; rintro e v1 ⟨rfl, hb1⟩; rw [HW0.out] at hb1; have B1 : Hid (Below w.heap.size w v1) := HB0.out.trans (hb1.mono HB0.out.size); clear hb1))
    go_ret
    exact ⟨rfl, B1.out⟩
  · have ba : ¬ (20 : Int) < (len0 : Int) := by omega
    by_cases hb : 20 < len3
    · have bb : (20 : Int) < (len3 : Int) := by omega
      go_enter Try.func5, Try.ntmps5
      go_wp2_with (first | (go_at_call 8; refine (AW.out _).mono ?_; rintro e v1 ⟨rfl, hb1⟩; rw [HW0.out] at hb1; have B1 : Hid (Below w.heap.size w v1) := HB0.out.trans (hb1.mono HB0.out.size); clear hb1))
      go_ret
      exact ⟨rfl, B1.out⟩
    · have bb : ¬ (20 : Int) < (len3 : Int) := by omega
      go_enter Try.func5, Try.ntmps5
      go_wp2_with (first | (go_at_call 8; refine (AW.out _).mono ?_; rintro e v1 ⟨rfl, hb1⟩; rw [HW0.out] at hb1; have B1 : Hid (Below W0.heap.size W0 v1) := hb1; clear hb1) | (have hgo := B1.out; clear hgo; go_at_call 9; refine (CN.out _ B1.out).mono ?_; rintro e v2 ⟨p, rfl, h2⟩; have H2 : Hid (StX W0 v2 p []) := h2; clear h2 B1))
      clear CN AW
      go_loopw [10] (fun iv wr => ∃ i : Nat, iv = .int .i64 i ∧ i ≤ len0 ∧ Hid (StX W0 wr p (appsV (z0.take i)))) (fun iv _ => len0 - (intOf iv).toNat)
      case atStart => exact ⟨0, rfl, Nat.zero_le _, by rw [List.take_zero]; exact H2⟩
      case round =>
        obtain ⟨i, rfl, hi, HC⟩ := hrel
        have h0 : (0 : Int) ≤ (i : Int) := by omega
        have HBW : Hid (Below w.heap.size w wr) := HB0.out.trans (HC.out.below.mono HB0.out.size)
        by_cases hlt : i < len0
        · have h1 : (i : Int) < (len0 : Int) := by omega
          obtain ⟨x, hx⟩ : ∃ x, z0[i]? = some x := ⟨_, List.getElem?_eq_getElem (by rw [HL.out]; exact hlt)⟩
          obtain ⟨b, off, rfl, hax, hok⟩ := HA.out.act hx
          obtain ⟨q0, q1, q2, q3⟩ := hax.past HBW.out
          have HAX : Hid (SActAt wr b (off + i * 4) x) := hax.past HBW.out
          obtain ⟨N, hN⟩ : ∃ N, N = x.l.length := ⟨_, rfl⟩
          obtain ⟨t, ht⟩ : ∃ t, t = x.t := ⟨_, rfl⟩
          obtain ⟨n, hn⟩ : ∃ t, t = x.n := ⟨_, rfl⟩
          obtain ⟨xa, hxa⟩ : ∃ t, t = x.a := ⟨_, rfl⟩
          obtain ⟨xc, hxc⟩ : ∃ t, t = x.cap := ⟨_, rfl⟩
          rw [← ht] at q1
          rw [← hn] at q2
          rw [← hN, ← hxa, ← hxc] at q3
          have CLG : Hid (Calls Try.prog 18 #[.slice xa N xc] wr fun e w' => e = .returned (.bool (longW x.l)) ∧ w' = wr) := by rw [hxa, hN, hxc]; exact llong_any x.a x.l.length x.cap x.l wr rfl hok.wr.room hok.wr.few (hok.wr.at_.past HBW.out)
          obtain ⟨lg, hlg⟩ : ∃ g, g = longW x.l := ⟨_, rfl⟩
          rw [← hlg] at CLG
          cases lg with
          | true =>
            clear hok hax HAX ht hn hN hxa hxc hlg hx
            go_wp2_with (go_at_call 18; refine CLG.out.mono ?_; rintro e v3 ⟨rfl, rfl⟩)
            go_ret
            exact ⟨rfl, HBW.out⟩
          | false =>
            have hN20 : N ≤ 20 := by
              have h9 : longW x.l = false := hlg.symm
              unfold longW at h9
              simp only [Bool.or_eq_false_iff, decide_eq_false_iff_not] at h9
              omega
            have HQ : Hid (∀ u, Below wr.heap.size wr u → u.cell? ⟨b, off + i * 4 + 1, none⟩ = some (.int .i64 t) ∧ u.cell? ⟨b, off + i * 4 + 2, none⟩ = some (.int .u8 n) ∧ u.cell? ⟨b, off + i * 4 + 3, none⟩ = some (.slice xa N xc)) := fun u hb => by
              obtain ⟨_, r1, r2, r3⟩ := HAX.out.past hb
              rw [ht, hn, hN, hxa, hxc]
              exact ⟨r1, r2, r3⟩
            have HT : Hid (appsV (z0.take (i + 1)) = (applyV (appsV (z0.take i)) x.t x.n x.l).2) := apps_next hx
            have PU : Hid (∀ u, Below wr.heap.size wr u → Calls Try.prog 10 #[.pointer (some ⟨p, 0, none⟩), .agg #[.int .i64 t, .int .u8 n], .slice xa N xc] u fun e w' => ∃ r, e = .returned (.int .i64 r) ∧ StX W0 w' p (appsV (z0.take (i + 1)))) := fun u hb => by
              rw [HT.out, ht, hn, hxa, hN, hxc]
              exact (xapply_in (HC.out.past hb) x.t x.n hok.n x.a x.l.length x.cap x.l rfl hok.wr.room (by rw [← hN]; omega) (hok.wr.at_.past HB0.out)).mono fun e w' ⟨h1, h2⟩ => ⟨_, h1, h2⟩
            clear HT hok hax HAX ht hn hN hxa hxc hlg hx
            go_wp2_with (go_at_call 18; refine CLG.out.mono ?_; rintro e v3 ⟨rfl, rfl⟩; clear CLG)
            refine wp_region_noPanic ?_
            refine region_till 11 (fun u => Below v3.heap.size v3 u) (by kernel_rfl) ?_ (fun hHeld => ?_)
            · exact (Below.refl _ _).drew
            refine till_take (i := 0) (v := ?_) 0 (by kernel_rfl) (Or.inl rfl) (by kernel_rfl) rfl (by kernel_rfl) (by kernel_rfl) (by kernel_rfl) (fun _ _ _ h => h) (Or.inl ⟨by rfl, ?_⟩) hHeld ?_
            rotate_left
            · intro u hSu
              (go_simp) <;> (with_reducible rfl)
            change wpTill _ _ _ _ _ _ _ _ (Act.put _ (some 40) _) _
            simp only [Act.put, List.setIfInBounds_toArray, List.set_cons_zero, List.set_cons_succ]
            refine till_takeP (i := 1) (v := ?_) [5, 4, 3] (by kernel_rfl) (by kernel_rfl) rfl (by kernel_rfl) (by kernel_rfl) (by kernel_rfl) (fun _ _ _ h => h) (Or.inl ⟨by rfl, ?_⟩) hHeld ?_
            rotate_left
            · intro u hSu
              (go_simp) <;> (with_reducible rfl)
            change wpTill _ _ _ _ _ _ _ _ (Act.put _ (some 41) _) _
            simp only [Act.put, List.setIfInBounds_toArray, List.set_cons_zero, List.set_cons_succ]
            refine till_takeP (i := 2) (v := ?_) [5, 4, 3] (by kernel_rfl) (by kernel_rfl) rfl (by kernel_rfl) (by kernel_rfl) (by kernel_rfl) (fun _ _ _ h => h) (Or.inl ⟨by rfl, ?_⟩) hHeld ?_
            rotate_left
            · intro u hSu
              (go_simp) <;> (with_reducible rfl)
            change wpTill _ _ _ _ _ _ _ _ (Act.put _ (some 42) _) _
            simp only [Act.put, List.setIfInBounds_toArray, List.set_cons_zero, List.set_cons_succ]
            refine till_takeP (i := 3) (v := ?_) [5, 4] (by kernel_rfl) (by kernel_rfl) rfl (by kernel_rfl) (by kernel_rfl) (by kernel_rfl) (fun _ _ _ h => h) (Or.inl ⟨by rfl, ?_⟩) hHeld ?_
            rotate_left
            · intro u hSu
              (go_simp) <;> (with_reducible rfl)
            change wpTill _ _ _ _ _ _ _ _ (Act.put _ (some 43) _) _
            simp only [Act.put, List.setIfInBounds_toArray, List.set_cons_zero, List.set_cons_succ]
            refine till_takeP (i := 4) (v := ?_) [5] (by kernel_rfl) (by kernel_rfl) rfl (by kernel_rfl) (by kernel_rfl) (by kernel_rfl) (fun _ _ _ h => h) (Or.inl ⟨by rfl, ?_⟩) hHeld ?_
            rotate_left
            · intro u hSu
              (go_simp) <;> (with_reducible rfl)
            change wpTill _ _ _ _ _ _ _ _ (Act.put _ (some 44) _) _
            simp only [Act.put, List.setIfInBounds_toArray, List.set_cons_zero, List.set_cons_succ]
            refine till_take (i := 5) (v := ?_) 5 (by kernel_rfl) (Or.inl rfl) (by kernel_rfl) rfl (by kernel_rfl) (by kernel_rfl) (by kernel_rfl) (fun _ _ _ h => h) (Or.inl ⟨by rfl, ?_⟩) hHeld ?_
            rotate_left
            · intro u hSu
              obtain ⟨r1, r2, r3⟩ := HQ.out u hSu
              (go_simp) <;> (with_reducible rfl)
            change wpTill _ _ _ _ _ _ _ _ (Act.put _ (some 45) _) _
            simp only [Act.put, List.setIfInBounds_toArray, List.set_cons_zero, List.set_cons_succ]
            refine till_takeP (i := 6) (v := ?_) [10, 9, 8] (by kernel_rfl) (by kernel_rfl) rfl (by kernel_rfl) (by kernel_rfl) (by kernel_rfl) (fun _ _ _ h => h) (Or.inl ⟨by rfl, ?_⟩) hHeld ?_
            rotate_left
            · intro u hSu
              (go_simp) <;> (with_reducible rfl)
            change wpTill _ _ _ _ _ _ _ _ (Act.put _ (some 46) _) _
            simp only [Act.put, List.setIfInBounds_toArray, List.set_cons_zero, List.set_cons_succ]
            refine till_takeP (i := 7) (v := ?_) [10, 9, 8] (by kernel_rfl) (by kernel_rfl) rfl (by kernel_rfl) (by kernel_rfl) (by kernel_rfl) (fun _ _ _ h => h) (Or.inl ⟨by rfl, ?_⟩) hHeld ?_
            rotate_left
            · intro u hSu
              (go_simp) <;> (with_reducible rfl)
            change wpTill _ _ _ _ _ _ _ _ (Act.put _ (some 47) _) _
            simp only [Act.put, List.setIfInBounds_toArray, List.set_cons_zero, List.set_cons_succ]
            refine till_takeP (i := 8) (v := ?_) [10, 9] (by kernel_rfl) (by kernel_rfl) rfl (by kernel_rfl) (by kernel_rfl) (by kernel_rfl) (fun _ _ _ h => h) (Or.inl ⟨by rfl, ?_⟩) hHeld ?_
            rotate_left
            · intro u hSu
              (go_simp) <;> (with_reducible rfl)
            change wpTill _ _ _ _ _ _ _ _ (Act.put _ (some 48) _) _
            simp only [Act.put, List.setIfInBounds_toArray, List.set_cons_zero, List.set_cons_succ]
            refine till_takeP (i := 9) (v := ?_) [10] (by kernel_rfl) (by kernel_rfl) rfl (by kernel_rfl) (by kernel_rfl) (by kernel_rfl) (fun _ _ _ h => h) (Or.inl ⟨by rfl, ?_⟩) hHeld ?_
            rotate_left
            · intro u hSu
              (go_simp) <;> (with_reducible rfl)
            change wpTill _ _ _ _ _ _ _ _ (Act.put _ (some 49) _) _
            simp only [Act.put, List.setIfInBounds_toArray, List.set_cons_zero, List.set_cons_succ]
            refine till_take (i := 10) (v := ?_) 10 (by kernel_rfl) (Or.inl rfl) (by kernel_rfl) rfl (by kernel_rfl) (by kernel_rfl) (by kernel_rfl) (fun _ _ _ h => h) (Or.inl ⟨by rfl, ?_⟩) hHeld ?_
            rotate_left
            · intro u hSu
              obtain ⟨r1, r2, r3⟩ := HQ.out u hSu
              (go_simp) <;> (with_reducible rfl)
            change wpTill _ _ _ _ _ _ _ _ (Act.put _ (some 50) _) _
            simp only [Act.put, List.setIfInBounds_toArray, List.set_cons_zero, List.set_cons_succ]
            refine till_last (by kernel_rfl) (by kernel_rfl) rfl (fun K hK => ?_)
            go_simp; go_at_call 10; refine (PU.out _ hHeld).mono ?_; rintro e v4 ⟨r, rfl, h4⟩; have H4 : Hid (StX W0 v4 p (appsV (z0.take (i + 1)))) := h4; clear PU h4; refine hK.out _ _ ?_; refine NoPanic.normal ?_; clear hK K hHeld
            go_wp2
            go_roundw
            case rel => exact ⟨i + 1, by go_num, by omega, H4⟩
            case measure => simp [intOf]; omega
        · obtain rfl : i = len0 := by omega
          have HTK : Hid (z0.take i = z0) := List.take_of_length_le (by rw [HL.out]; exact Nat.le_refl _)
          rw [HTK.out] at HC
          obtain ⟨L, hL⟩ : ∃ L, L = appsV z0 := ⟨_, rfl⟩
          rw [← hL] at HC
          clear hL HTK
          have HG : Hid (StoG L) := HC.out.sto
          have HBU : Hid (∀ u, Below W0.heap.size W0 u → Below w.heap.size w u) := fun u hb => HB0.out.trans (hb.mono HB0.out.size)
          clear HA HL H2 HW0
          obtain ⟨g, hg⟩ : ∃ g, g = getV L z2 a1 b1 := ⟨_, rfl⟩
          obtain ⟨R, hR⟩ : ∃ R, R = scanV L zeroK zeroK a1 b1 := ⟨_, rfl⟩
          obtain ⟨N, hN⟩ : ∃ N, N = R.length := ⟨_, rfl⟩
          have hN200 : N ≤ 200 := by rw [hN, hR]; exact Nat.le_trans (List.length_filterMap_le _ _) HG.out.few
          obtain ⟨A, hA⟩ : ∃ A, A = strOfNums (g.getD []) := ⟨_, rfl⟩
          obtain ⟨pa, hpa⟩ : ∃ b, b = g.isSome := ⟨_, rfl⟩
          have TB : Hid (∀ u, Below W0.heap.size W0 u → SkB w u a1 b1 z2) := fun u hb => HBX.out.past hb
          have KAT : Hid (∀ u, Below W0.heap.size W0 u → KeyAt u (w.heap.size + 1) 0 z2) := fun u hb => (TB.out u hb).ky
          obtain ⟨c0, c1, _⟩ := TB.out wr HC.out.below
          have CG : Hid (∀ u, StX W0 u p L → Calls Try.prog 21 #[.pointer (some ⟨p, 0, none⟩), kv z2, .agg #[.int .i64 a1, .int .u8 b1]] u fun e w' => e = .returned (.tuple #[.string A, .bool pa]) ∧ StX W0 w' p L) := fun u h => by
            rw [hA, hpa, hg]; exact xget_any h z2 KY2.out a1 b1
          have CS : Hid (∀ u, StX W0 u p L → Calls Try.prog 13 #[.pointer (some ⟨p, 0, none⟩), kv zeroK, kv zeroK, .agg #[.int .i64 a1, .int .u8 b1], .int .i64 300] u fun e w' => ∃ a' c', e = .returned (.slice a' N c') ∧ N ≤ c' ∧ StB W0 w' p L a' R) := fun u h => by
            have := iscan_start h zeroK zeroK zeroK_ky zeroK_ky a1 b1 300 (by omega)
            rw [scan_all300 HG.out, ← hR, ← hN] at this
            exact this
          have CG2 : Hid (∀ M u a', (∀ k, getV M k a1 b1 = getV L k a1 b1) → StB W0 u p M a' R → Calls Try.prog 21 #[.pointer (some ⟨p, 0, none⟩), kv z2, .agg #[.int .i64 a1, .int .u8 b1]] u fun e w' => e = .returned (.tuple #[.string A, .bool pa]) ∧ StB W0 w' p M a' R) := fun M u a' hM h => by
            rw [hA, hpa, hg, ← hM z2]; exact iget_any h z2 KY2.out a1 b1
          have CS2 : Hid (∀ M u a', (∀ k, getV M k a1 b1 = getV L k a1 b1) → StB W0 u p M a' R → Calls Try.prog 13 #[.pointer (some ⟨p, 0, none⟩), kv zeroK, kv zeroK, .agg #[.int .i64 a1, .int .u8 b1], .int .i64 300] u fun e w' => (∃ a2 c2, e = .returned (.slice a2 N c2) ∧ ItmsAt w' a2 R ∧ N ≤ c2) ∧ StB W0 w' p M a' R) := fun M u a' hM h => by
            have := iscan_any h zeroK zeroK zeroK_ky zeroK_ky a1 b1 300 (by omega)
            rw [scan_all300 h.stx.sto, scan_same h.stx.sto.sto.ord HG.out.sto.ord hM, ← hR, ← hN] at this
            exact this
          have CI : Hid (∀ u a' c' a2 c2, N ≤ c' → N ≤ c2 → ItmsAt u a2 R → ItmsAt u a' R → Calls Try.prog 23 #[.slice a2 N c2, .slice a' N c'] u fun e w' => e = .returned (.bool true) ∧ Below u.heap.size u w') := fun u a' c' a2 c2 h1 h2 h3 h4 => by
            have := ritems_any a2 a' N N c2 c' R R u hN.symm hN.symm h2 h1 (by omega) (by omega) h3 h4
            rw [show decide (R = R) = true from by simp] at this
            exact this
          clear hA hpa hg hR hN HG g HBX
          have H0 : Hid (StX W0 wr p L) := HC
          clear HC
          go_wp2_with (first | (refine wpList_build_k0 _ (by rfl) (by rfl) (by rfl) ?_) | (have hgo := H0.out; clear hgo; refine wpList_load_keyD 54 (by rfl) (by rfl) _ (by rfl) (w.heap.size + 1) 0 (by rfl) z2 KY2.out (KAT.out _ H0.out.below) ?_) | (have hgo := H0.out; clear hgo; go_at_call 21; refine (CG.out _ H0.out).mono ?_; rintro e v5 ⟨rfl, h5⟩; have H5 : Hid (StX W0 v5 p L) := h5; obtain ⟨c0, c1, _⟩ := TB.out _ h5.below; clear h5 H0 CG) | (have hgo := H5.out; clear hgo; go_at_call 13; refine (CS.out _ H5.out).mono ?_; rintro e v6 ⟨ia, ic, rfl, hic, h6⟩; have H6 : Hid (StB W0 v6 p L ia R) := h6; clear h6 H5 CS))
          clear HBW hi h0 hlt
          go_loopw [14] (fun iv wr => ∃ i : Nat, iv = .int .i64 i ∧ i ≤ len3 ∧ Hid (∃ M, StB W0 wr p M ia R ∧ ∀ k, getV M k a1 b1 = getV L k a1 b1)) (fun iv _ => len3 - (intOf iv).toNat)
          case atStart => exact ⟨0, rfl, Nat.zero_le _, ⟨L, H6.out, fun _ => rfl⟩⟩
          case round =>
            obtain ⟨i, rfl, hi, HC⟩ := hrel
            obtain ⟨M, hM, hMg⟩ := HC.out
            have HM : Hid (StB W0 wr p M ia R) := hM
            have HMG : Hid (∀ k, getV M k a1 b1 = getV L k a1 b1) := hMg
            clear hM hMg HC
            have h0 : (0 : Int) ≤ (i : Int) := by omega
            have HBW : Hid (Below w.heap.size w wr) := HBU.out _ HM.out.stx.below
            by_cases hlt : i < len3
            · have h1 : (i : Int) < (len3 : Int) := by omega
              obtain ⟨x, hx⟩ : ∃ x, z3[i]? = some x := ⟨_, List.getElem?_eq_getElem (by rw [HL3.out]; exact hlt)⟩
              obtain ⟨b, off, rfl, hax, hok⟩ := HA3.out.act hx
              obtain ⟨q0, q1, q2, q3⟩ := hax.past HBW.out
              have HAX : Hid (SActAt wr b (off + i * 4) x) := hax.past HBW.out
              obtain ⟨N2, hN⟩ : ∃ N2, N2 = x.l.length := ⟨_, rfl⟩
              obtain ⟨t, ht⟩ : ∃ t, t = x.t := ⟨_, rfl⟩
              obtain ⟨n, hn⟩ : ∃ t, t = x.n := ⟨_, rfl⟩
              obtain ⟨xa, hxa⟩ : ∃ t, t = x.a := ⟨_, rfl⟩
              obtain ⟨xc, hxc⟩ : ∃ t, t = x.cap := ⟨_, rfl⟩
              rw [← ht] at q1
              rw [← hn] at q2
              rw [← hN, ← hxa, ← hxc] at q3
              have CLG : Hid (Calls Try.prog 18 #[.slice xa N2 xc] wr fun e w' => e = .returned (.bool (longW x.l)) ∧ w' = wr) := by rw [hxa, hN, hxc]; exact llong_any x.a x.l.length x.cap x.l wr rfl hok.wr.room hok.wr.few (hok.wr.at_.past HBW.out)
              obtain ⟨lg, hlg⟩ : ∃ g, g = longW x.l := ⟨_, rfl⟩
              rw [← hlg] at CLG
              cases lg with
              | true =>
                clear hok hax HAX ht hn hN hxa hxc hlg hx
                go_wp2_with (go_at_call 18; refine CLG.out.mono ?_; rintro e v3 ⟨rfl, rfl⟩)
                go_ret
                exact ⟨rfl, HBW.out⟩
              | false =>
                have hM20 : N2 ≤ 20 := by
                  have h9 : longW x.l = false := hlg.symm
                  unfold longW at h9
                  simp only [Bool.or_eq_false_iff, decide_eq_false_iff_not] at h9
                  omega
                have HQ : Hid (∀ u, Below wr.heap.size wr u → u.cell? ⟨b, off + i * 4 + 1, none⟩ = some (.int .i64 t) ∧ u.cell? ⟨b, off + i * 4 + 2, none⟩ = some (.int .u8 n) ∧ u.cell? ⟨b, off + i * 4 + 3, none⟩ = some (.slice xa N2 xc)) := fun u hb => by
                  obtain ⟨_, r1, r2, r3⟩ := HAX.out.past hb
                  rw [ht, hn, hN, hxa, hxc]
                  exact ⟨r1, r2, r3⟩
                have PU : Hid (ltS a1 b1 t n → ∀ u, Below wr.heap.size wr u → Calls Try.prog 10 #[.pointer (some ⟨p, 0, none⟩), .agg #[.int .i64 t, .int .u8 n], .slice xa N2 xc] u fun e w' => ∃ r, e = .returned (.int .i64 r) ∧ ∃ M, StB W0 w' p M ia R ∧ ∀ k, getV M k a1 b1 = getV L k a1 b1) := fun hst u hb => by
                  rw [ht, hn, hxa, hN, hxc]
                  rw [ht, hn] at hst
                  exact (iapply_in (HM.out.past hb) x.t x.n hok.n x.a x.l.length x.cap x.l rfl hok.wr.room (by rw [← hN]; omega) (hok.wr.at_.past HB0.out)).mono fun e w' ⟨h1, h2⟩ => ⟨_, h1, _, h2, fun k => (get_later HM.out.stx.sto.sto.ord hst k).trans (HMG.out k)⟩
                obtain ⟨c, hc⟩ : ∃ c, c = cmpS t n a1 b1 := ⟨_, rfl⟩
                have CC : Hid (∀ u, Calls Try.prog 22 #[.agg #[.int .i64 t, .int .u8 n], .agg #[.int .i64 a1, .int .u8 b1]] u fun e w' => e = .returned (.int .i64 c) ∧ Below u.heap.size u w') := fun u => by rw [hc]; exact rcmp6_any t n a1 b1 u
                have HBX : Hid (∀ u, Below wr.heap.size wr u → SkB w u a1 b1 z2) := fun u hb => (TB.out wr HM.out.stx.below).past hb
                have HST : Hid (0 < c → ltS a1 b1 t n) := fun h => by rw [hc] at h; exact cmp_pos.1 h
                clear hok hax HAX ht hn hN hxa hxc hlg hx hc
                go_wp2_with (go_at_call 18; refine CLG.out.mono ?_; rintro e v7 ⟨rfl, rfl⟩; clear CLG)
                by_cases hcp : 0 < c
                · have HLT : Hid (ltS a1 b1 t n) := HST.out hcp
                  refine wp_region_noPanic ?_
                  refine wp_region_held_drew (S := fun u => Below v7.heap.size v7 u) (by kernel_rfl) ?_ (fun hHeld => ?_)
                  · exact (Below.refl _ _).drew
                  refine wpAnyH_take (i := 0) (v := ?_) rfl (by kernel_rfl) (by kernel_rfl) (by kernel_rfl) (fun _ _ _ h => h) (Or.inl ⟨by rfl, ?_⟩) hHeld ?_
                  rotate_left
                  · intro u hSu
                    (go_simp) <;> (with_reducible rfl)
                  change wpAnyH _ _ _ _ _ _ _ (Act.put _ (some 76) _) _
                  simp only [Act.put, List.setIfInBounds_toArray, List.set_cons_zero, List.set_cons_succ]
                  refine wpAnyH_take (i := 1) (v := ?_) rfl (by kernel_rfl) (by kernel_rfl) (by kernel_rfl) (fun _ _ _ h => h) (Or.inl ⟨by rfl, ?_⟩) hHeld ?_
                  rotate_left
                  · intro u hSu
                    (go_simp) <;> (with_reducible rfl)
                  change wpAnyH _ _ _ _ _ _ _ (Act.put _ (some 77) _) _
                  simp only [Act.put, List.setIfInBounds_toArray, List.set_cons_zero, List.set_cons_succ]
                  refine wpAnyH_take (i := 2) (v := ?_) rfl (by kernel_rfl) (by kernel_rfl) (by kernel_rfl) (fun _ _ _ h => h) (Or.inl ⟨by rfl, ?_⟩) hHeld ?_
                  rotate_left
                  · intro u hSu
                    (go_simp) <;> (with_reducible rfl)
                  change wpAnyH _ _ _ _ _ _ _ (Act.put _ (some 78) _) _
                  simp only [Act.put, List.setIfInBounds_toArray, List.set_cons_zero, List.set_cons_succ]
                  refine wpAnyH_take (i := 3) (v := ?_) rfl (by kernel_rfl) (by kernel_rfl) (by kernel_rfl) (fun _ _ _ h => h) (Or.inl ⟨by rfl, ?_⟩) hHeld ?_
                  rotate_left
                  · intro u hSu
                    (go_simp) <;> (with_reducible rfl)
                  change wpAnyH _ _ _ _ _ _ _ (Act.put _ (some 79) _) _
                  simp only [Act.put, List.setIfInBounds_toArray, List.set_cons_zero, List.set_cons_succ]
                  refine wpAnyH_take (i := 4) (v := ?_) rfl (by kernel_rfl) (by kernel_rfl) (by kernel_rfl) (fun _ _ _ h => h) (Or.inl ⟨by rfl, ?_⟩) hHeld ?_
                  rotate_left
                  · intro u hSu
                    obtain ⟨r1, r2, r3⟩ := HQ.out u hSu
                    (go_simp) <;> (with_reducible rfl)
                  change wpAnyH _ _ _ _ _ _ _ (Act.put _ (some 80) _) _
                  simp only [Act.put, List.setIfInBounds_toArray, List.set_cons_zero, List.set_cons_succ]
                  refine wpAnyH_take (i := 5) (v := ?_) rfl (by kernel_rfl) (by kernel_rfl) (by kernel_rfl) (fun _ _ _ h => h) (Or.inl ⟨by rfl, ?_⟩) hHeld ?_
                  rotate_left
                  · intro u hSu
                    obtain ⟨r1, r2, r3⟩ := HBX.out u hSu
                    (go_simp) <;> (with_reducible rfl)
                  change wpAnyH _ _ _ _ _ _ _ (Act.put _ (some 81) _) _
                  simp only [Act.put, List.setIfInBounds_toArray, List.set_cons_zero, List.set_cons_succ]
                  refine wpAnyH_ready (rs := [6]) (by kernel_rfl) (by simp) ?_
                  refine AllReadyH.cons rfl (fun K hK => ?_) AllReadyH.nil
                  go_simp
                  go_at_call 22
                  refine (CC.out _).mono ?_
                  rintro e v8 ⟨rfl, hbv8⟩
                  have B8 : Hid (Below v7.heap.size v7 v8) := hHeld.trans (hbv8.mono hHeld.size)
                  clear hbv8
                  refine hK.out _ _ ?_ (fun hHeld2 => ?_)
                  · exact B8.out
                  clear hK K hHeld
                  have hHeld := hHeld2
                  clear hHeld2
                  refine wpAnyH_take (i := 7) (v := ?_) rfl (by kernel_rfl) (by kernel_rfl) (by kernel_rfl) (fun _ _ _ h => h) (Or.inl ⟨by rfl, ?_⟩) hHeld ?_
                  rotate_left
                  · intro u hSu
                    (go_simp) <;> (with_reducible rfl)
                  change wpAnyH _ _ _ _ _ _ _ (Act.put _ (some 83) _) _
                  simp only [Act.put, List.setIfInBounds_toArray, List.set_cons_zero, List.set_cons_succ]
                  refine wpAnyH_done (by kernel_rfl) ?_ _
                  refine NoPanic.normal ?_
                  have PU2 : Hid (∀ u, Below v8.heap.size v8 u → Calls Try.prog 10 #[.pointer (some ⟨p, 0, none⟩), .agg #[.int .i64 t, .int .u8 n], .slice xa N2 xc] u fun e w' => ∃ r, e = .returned (.int .i64 r) ∧ ∃ M, StB W0 w' p M ia R ∧ ∀ k, getV M k a1 b1 = getV L k a1 b1) := fun u hb => PU.out HLT.out u (B8.out.trans (hb.mono B8.out.size))
                  have HQ2 : Hid (∀ u, Below v8.heap.size v8 u → u.cell? ⟨b, off + i * 4 + 1, none⟩ = some (.int .i64 t) ∧ u.cell? ⟨b, off + i * 4 + 2, none⟩ = some (.int .u8 n) ∧ u.cell? ⟨b, off + i * 4 + 3, none⟩ = some (.slice xa N2 xc)) := fun u hb => HQ.out u (B8.out.trans (hb.mono B8.out.size))
                  clear HST HLT PU HQ CC HBX
                  go_wp2
                  refine wp_region_noPanic ?_
                  refine region_till 11 (fun u => Below v8.heap.size v8 u) (by kernel_rfl) ?_ (fun hHeld => ?_)
                  · exact (Below.refl _ _).drew
                  refine till_take (i := 0) (v := ?_) 0 (by kernel_rfl) (Or.inl rfl) (by kernel_rfl) rfl (by kernel_rfl) (by kernel_rfl) (by kernel_rfl) (fun _ _ _ h => h) (Or.inl ⟨by rfl, ?_⟩) hHeld ?_
                  rotate_left
                  · intro u hSu
                    (go_simp) <;> (with_reducible rfl)
                  change wpTill _ _ _ _ _ _ _ _ (Act.put _ (some 84) _) _
                  simp only [Act.put, List.setIfInBounds_toArray, List.set_cons_zero, List.set_cons_succ]
                  refine till_takeP (i := 1) (v := ?_) [5, 4, 3] (by kernel_rfl) (by kernel_rfl) rfl (by kernel_rfl) (by kernel_rfl) (by kernel_rfl) (fun _ _ _ h => h) (Or.inl ⟨by rfl, ?_⟩) hHeld ?_
                  rotate_left
                  · intro u hSu
                    (go_simp) <;> (with_reducible rfl)
                  change wpTill _ _ _ _ _ _ _ _ (Act.put _ (some 85) _) _
                  simp only [Act.put, List.setIfInBounds_toArray, List.set_cons_zero, List.set_cons_succ]
                  refine till_takeP (i := 2) (v := ?_) [5, 4, 3] (by kernel_rfl) (by kernel_rfl) rfl (by kernel_rfl) (by kernel_rfl) (by kernel_rfl) (fun _ _ _ h => h) (Or.inl ⟨by rfl, ?_⟩) hHeld ?_
                  rotate_left
                  · intro u hSu
                    (go_simp) <;> (with_reducible rfl)
                  change wpTill _ _ _ _ _ _ _ _ (Act.put _ (some 86) _) _
                  simp only [Act.put, List.setIfInBounds_toArray, List.set_cons_zero, List.set_cons_succ]
                  refine till_takeP (i := 3) (v := ?_) [5, 4] (by kernel_rfl) (by kernel_rfl) rfl (by kernel_rfl) (by kernel_rfl) (by kernel_rfl) (fun _ _ _ h => h) (Or.inl ⟨by rfl, ?_⟩) hHeld ?_
                  rotate_left
                  · intro u hSu
                    (go_simp) <;> (with_reducible rfl)
                  change wpTill _ _ _ _ _ _ _ _ (Act.put _ (some 87) _) _
                  simp only [Act.put, List.setIfInBounds_toArray, List.set_cons_zero, List.set_cons_succ]
                  refine till_takeP (i := 4) (v := ?_) [5] (by kernel_rfl) (by kernel_rfl) rfl (by kernel_rfl) (by kernel_rfl) (by kernel_rfl) (fun _ _ _ h => h) (Or.inl ⟨by rfl, ?_⟩) hHeld ?_
                  rotate_left
                  · intro u hSu
                    (go_simp) <;> (with_reducible rfl)
                  change wpTill _ _ _ _ _ _ _ _ (Act.put _ (some 88) _) _
                  simp only [Act.put, List.setIfInBounds_toArray, List.set_cons_zero, List.set_cons_succ]
                  refine till_take (i := 5) (v := ?_) 5 (by kernel_rfl) (Or.inl rfl) (by kernel_rfl) rfl (by kernel_rfl) (by kernel_rfl) (by kernel_rfl) (fun _ _ _ h => h) (Or.inl ⟨by rfl, ?_⟩) hHeld ?_
                  rotate_left
                  · intro u hSu
                    obtain ⟨r1, r2, r3⟩ := HQ2.out u hSu
                    (go_simp) <;> (with_reducible rfl)
                  change wpTill _ _ _ _ _ _ _ _ (Act.put _ (some 89) _) _
                  simp only [Act.put, List.setIfInBounds_toArray, List.set_cons_zero, List.set_cons_succ]
                  refine till_takeP (i := 6) (v := ?_) [10, 9, 8] (by kernel_rfl) (by kernel_rfl) rfl (by kernel_rfl) (by kernel_rfl) (by kernel_rfl) (fun _ _ _ h => h) (Or.inl ⟨by rfl, ?_⟩) hHeld ?_
                  rotate_left
                  · intro u hSu
                    (go_simp) <;> (with_reducible rfl)
                  change wpTill _ _ _ _ _ _ _ _ (Act.put _ (some 90) _) _
                  simp only [Act.put, List.setIfInBounds_toArray, List.set_cons_zero, List.set_cons_succ]
                  refine till_takeP (i := 7) (v := ?_) [10, 9, 8] (by kernel_rfl) (by kernel_rfl) rfl (by kernel_rfl) (by kernel_rfl) (by kernel_rfl) (fun _ _ _ h => h) (Or.inl ⟨by rfl, ?_⟩) hHeld ?_
                  rotate_left
                  · intro u hSu
                    (go_simp) <;> (with_reducible rfl)
                  change wpTill _ _ _ _ _ _ _ _ (Act.put _ (some 91) _) _
                  simp only [Act.put, List.setIfInBounds_toArray, List.set_cons_zero, List.set_cons_succ]
                  refine till_takeP (i := 8) (v := ?_) [10, 9] (by kernel_rfl) (by kernel_rfl) rfl (by kernel_rfl) (by kernel_rfl) (by kernel_rfl) (fun _ _ _ h => h) (Or.inl ⟨by rfl, ?_⟩) hHeld ?_
                  rotate_left
                  · intro u hSu
                    (go_simp) <;> (with_reducible rfl)
                  change wpTill _ _ _ _ _ _ _ _ (Act.put _ (some 92) _) _
                  simp only [Act.put, List.setIfInBounds_toArray, List.set_cons_zero, List.set_cons_succ]
                  refine till_takeP (i := 9) (v := ?_) [10] (by kernel_rfl) (by kernel_rfl) rfl (by kernel_rfl) (by kernel_rfl) (by kernel_rfl) (fun _ _ _ h => h) (Or.inl ⟨by rfl, ?_⟩) hHeld ?_
                  rotate_left
                  · intro u hSu
                    (go_simp) <;> (with_reducible rfl)
                  change wpTill _ _ _ _ _ _ _ _ (Act.put _ (some 93) _) _
                  simp only [Act.put, List.setIfInBounds_toArray, List.set_cons_zero, List.set_cons_succ]
                  refine till_take (i := 10) (v := ?_) 10 (by kernel_rfl) (Or.inl rfl) (by kernel_rfl) rfl (by kernel_rfl) (by kernel_rfl) (by kernel_rfl) (fun _ _ _ h => h) (Or.inl ⟨by rfl, ?_⟩) hHeld ?_
                  rotate_left
                  · intro u hSu
                    obtain ⟨r1, r2, r3⟩ := HQ2.out u hSu
                    (go_simp) <;> (with_reducible rfl)
                  change wpTill _ _ _ _ _ _ _ _ (Act.put _ (some 94) _) _
                  simp only [Act.put, List.setIfInBounds_toArray, List.set_cons_zero, List.set_cons_succ]
                  refine till_last (by kernel_rfl) (by kernel_rfl) rfl (fun K hK => ?_)
                  go_simp; go_at_call 10; refine (PU2.out _ hHeld).mono ?_; rintro e v9 ⟨r, rfl, h9⟩; have H9 : Hid (∃ M, StB W0 v9 p M ia R ∧ ∀ k, getV M k a1 b1 = getV L k a1 b1) := h9; clear PU2 h9; refine hK.out _ _ ?_; refine NoPanic.normal ?_; clear hK K hHeld
                  go_wp2
                  go_roundw
                  case rel => exact ⟨i + 1, by go_num, by omega, H9⟩
                  case measure => simp [intOf]; omega
                · have hcn : ¬ 0 < c := hcp
                  refine wp_region_noPanic ?_
                  refine wp_region_held_drew (S := fun u => Below v7.heap.size v7 u) (by kernel_rfl) ?_ (fun hHeld => ?_)
                  · exact (Below.refl _ _).drew
                  refine wpAnyH_take (i := 0) (v := ?_) rfl (by kernel_rfl) (by kernel_rfl) (by kernel_rfl) (fun _ _ _ h => h) (Or.inl ⟨by rfl, ?_⟩) hHeld ?_
                  rotate_left
                  · intro u hSu
                    (go_simp) <;> (with_reducible rfl)
                  change wpAnyH _ _ _ _ _ _ _ (Act.put _ (some 76) _) _
                  simp only [Act.put, List.setIfInBounds_toArray, List.set_cons_zero, List.set_cons_succ]
                  refine wpAnyH_take (i := 1) (v := ?_) rfl (by kernel_rfl) (by kernel_rfl) (by kernel_rfl) (fun _ _ _ h => h) (Or.inl ⟨by rfl, ?_⟩) hHeld ?_
                  rotate_left
                  · intro u hSu
                    (go_simp) <;> (with_reducible rfl)
                  change wpAnyH _ _ _ _ _ _ _ (Act.put _ (some 77) _) _
                  simp only [Act.put, List.setIfInBounds_toArray, List.set_cons_zero, List.set_cons_succ]
                  refine wpAnyH_take (i := 2) (v := ?_) rfl (by kernel_rfl) (by kernel_rfl) (by kernel_rfl) (fun _ _ _ h => h) (Or.inl ⟨by rfl, ?_⟩) hHeld ?_
                  rotate_left
                  · intro u hSu
                    (go_simp) <;> (with_reducible rfl)
                  change wpAnyH _ _ _ _ _ _ _ (Act.put _ (some 78) _) _
                  simp only [Act.put, List.setIfInBounds_toArray, List.set_cons_zero, List.set_cons_succ]
                  refine wpAnyH_take (i := 3) (v := ?_) rfl (by kernel_rfl) (by kernel_rfl) (by kernel_rfl) (fun _ _ _ h => h) (Or.inl ⟨by rfl, ?_⟩) hHeld ?_
                  rotate_left
                  · intro u hSu
                    (go_simp) <;> (with_reducible rfl)
                  change wpAnyH _ _ _ _ _ _ _ (Act.put _ (some 79) _) _
                  simp only [Act.put, List.setIfInBounds_toArray, List.set_cons_zero, List.set_cons_succ]
                  refine wpAnyH_take (i := 4) (v := ?_) rfl (by kernel_rfl) (by kernel_rfl) (by kernel_rfl) (fun _ _ _ h => h) (Or.inl ⟨by rfl, ?_⟩) hHeld ?_
                  rotate_left
                  · intro u hSu
                    obtain ⟨r1, r2, r3⟩ := HQ.out u hSu
                    (go_simp) <;> (with_reducible rfl)
                  change wpAnyH _ _ _ _ _ _ _ (Act.put _ (some 80) _) _
                  simp only [Act.put, List.setIfInBounds_toArray, List.set_cons_zero, List.set_cons_succ]
                  refine wpAnyH_take (i := 5) (v := ?_) rfl (by kernel_rfl) (by kernel_rfl) (by kernel_rfl) (fun _ _ _ h => h) (Or.inl ⟨by rfl, ?_⟩) hHeld ?_
                  rotate_left
                  · intro u hSu
                    obtain ⟨r1, r2, r3⟩ := HBX.out u hSu
                    (go_simp) <;> (with_reducible rfl)
                  change wpAnyH _ _ _ _ _ _ _ (Act.put _ (some 81) _) _
                  simp only [Act.put, List.setIfInBounds_toArray, List.set_cons_zero, List.set_cons_succ]
                  refine wpAnyH_ready (rs := [6]) (by kernel_rfl) (by simp) ?_
                  refine AllReadyH.cons rfl (fun K hK => ?_) AllReadyH.nil
                  go_simp
                  go_at_call 22
                  refine (CC.out _).mono ?_
                  rintro e v8 ⟨rfl, hbv8⟩
                  have B8 : Hid (Below v7.heap.size v7 v8) := hHeld.trans (hbv8.mono hHeld.size)
                  clear hbv8
                  refine hK.out _ _ ?_ (fun hHeld2 => ?_)
                  · exact B8.out
                  clear hK K hHeld
                  have hHeld := hHeld2
                  clear hHeld2
                  refine wpAnyH_take (i := 7) (v := ?_) rfl (by kernel_rfl) (by kernel_rfl) (by kernel_rfl) (fun _ _ _ h => h) (Or.inl ⟨by rfl, ?_⟩) hHeld ?_
                  rotate_left
                  · intro u hSu
                    (go_simp) <;> (with_reducible rfl)
                  change wpAnyH _ _ _ _ _ _ _ (Act.put _ (some 83) _) _
                  simp only [Act.put, List.setIfInBounds_toArray, List.set_cons_zero, List.set_cons_succ]
                  refine wpAnyH_done (by kernel_rfl) ?_ _
                  refine NoPanic.normal ?_
                  have H9 : Hid (∃ M, StB W0 v8 p M ia R ∧ ∀ k, getV M k a1 b1 = getV L k a1 b1) := ⟨M, HM.out.past B8.out, HMG.out⟩
                  clear HST PU HQ CC HBX
                  go_wp2
                  go_roundw
                  case rel => exact ⟨i + 1, by go_num, by omega, H9⟩
                  case measure => simp [intOf]; omega
            · obtain rfl : i = len3 := by omega
              obtain ⟨c0, c1, _⟩ := TB.out wr HM.out.stx.below
              go_wp2_with (first | (refine wpList_build_k0 _ (by rfl) (by rfl) (by rfl) ?_) | (have hgo := HM.out; clear hgo; refine wpList_load_keyD 98 (by rfl) (by rfl) _ (by rfl) (w.heap.size + 1) 0 (by rfl) z2 KY2.out (KAT.out _ HM.out.stx.below) ?_) | (have hgo := HM.out; clear hgo; go_at_call 21; refine (CG2.out _ _ _ HMG.out HM.out).mono ?_; rintro e v8 ⟨rfl, h8⟩; have H8 : Hid (StB W0 v8 p M ia R) := h8; obtain ⟨c0, c1, _⟩ := TB.out _ h8.stx.below; clear h8 HM CG2) | (have hgo := H8.out; clear hgo; go_at_call 13; refine (CS2.out _ _ _ HMG.out H8.out).mono ?_; rintro e v9 ⟨⟨ya, yc, rfl, hya, hyc⟩, h9⟩; have H9 : Hid (StB W0 v9 p M ia R) := h9; have HY : Hid (ItmsAt v9 ya R) := hya; clear h9 H8 CS2 hya) | (have hgo := H9.out; clear hgo; go_at_call 23; refine (CI.out _ _ _ _ _ hic hyc HY.out H9.out.itms).mono ?_; rintro e v10 ⟨rfl, hb10⟩; have H10 : Hid (Below w.heap.size w v10) := HBU.out _ (H9.out.past hb10).stx.below; clear hb10 H9 CI))
              go_ret
              exact ⟨rfl, H10.out⟩

set_option maxRecDepth 100000 in
theorem lifted (os : Os) (started : os.Started) (H : Type) (enc : TypeId × Value → H) :
    ReturnsInHanded {} Try.checked os 5 .any (Rows.storeStillSpec.pre6 enc Try.prog Try.f5 Rows.storeStillRow.domain false) (Rows.storeStillSpec.post enc Try.prog Try.f5 false true false false) := by
  refine returnsInHanded_of_change (C := Try.checked) own started (by kernel_rfl) Try.func5
    (ChangeSpec.witness6 (enc := enc) (C := Try.checked) false ⟨#[], #[.slice none 0 0, .agg #[.int .i64 0, .int .u8 0], .agg #[.int .u8 0, .int .u8 0, .int .u8 0, .int .u8 0, .int .u8 0, .int .u8 0, .int .u8 0, .int .u8 0, .int .u8 0, .int .u8 0, .int .u8 0, .int .u8 0, .int .u8 0, .int .u8 0, .int .u8 0, .int .u8 0], .slice none 0 0], []⟩ 8 (by kernel_rfl) (by kernel_rfl) (by kernel_rfl) (by kernel_rfl)) ?_
  intro W base args ds gs before hval0 hW hcnd _
  have hval : ∀ (j : Nat) t v, Try.f5.params[j]? = some t → args[j]? = some v → Value.okWide Try.prog W .any base t v := hval0
  have hW' := hW
  obtain ⟨p, q, hA0, hV, rfl, hfz, hnd⟩ := hW
  have hA : DataW.TrodAll enc Try.prog W 0 (fun _ => true) true Try.f5.params.toList args.toList ds p := hA0
  rw [Try.params5] at hA hval
  obtain ⟨v0, vs0, d0, ds0, p0, q0, hargs, rfl, rfl, h0, r0⟩ := trodAll_cons hA
  obtain ⟨v1, vs1, d1, ds1, p1, q1, rfl, rfl, rfl, h1, r1⟩ := trodAll_cons r0
  obtain ⟨v2, vs2, d2, ds2, p2, q2, rfl, rfl, rfl, h2, r2⟩ := trodAll_cons r1
  obtain ⟨v3, vs3, d3, ds3, p3, q3, rfl, rfl, rfl, h3, r3⟩ := trodAll_cons r2
  obtain ⟨rfl, rfl, rfl⟩ := trodAll_nil r3
  obtain rfl : args = #[v0, v1, v2, v3] := by cases args; simp_all
  obtain ⟨rfl, rfl⟩ := trodVars_none hV
  obtain ⟨a0, len0, cap0, rfl⟩ := okWide_slice Try.underlying45 (hval 0 45 v0 rfl rfl)
  have k0 := h0
  have lt0 : ∀ x ∈ p0, x.block < W.heap.size := by obtain ⟨m, hm⟩ := k0; exact DataW.trod_lt m _ _ _ hm
  obtain ⟨z0, l0, w0⟩ : ∃ xs : List SAct, xs.length = len0 ∧ SActsOf W a0 cap0 xs := by
    obtain ⟨fuel, hf⟩ := h0
    exact sacts_open Try.underlying45 Try.underlying49 Try.underlying3 Try.underlying28 Try.underlying2 Try.underlying5 Try.underlying46 Try.underlying34 Try.underlying31 Try.underlying5 Try.underlying9 Try.underlying4 rfl rfl rfl rfl rfl rfl rfl rfl (by kernel_rfl) (by kernel_rfl) (by kernel_rfl) (by kernel_rfl) (by kernel_rfl) (by kernel_rfl) (by kernel_rfl) (by kernel_rfl) (by kernel_rfl) (by kernel_rfl) (by kernel_rfl) hf
  have k1 := h1
  have lt1 : ∀ x ∈ p1, x.block < W.heap.size := by obtain ⟨m, hm⟩ := k1; exact DataW.trod_lt m _ _ _ hm
  obtain ⟨a1, b1, rfl, w1, x1⟩ := struct2_open Try.underlying28 Try.underlying2 Try.underlying5 rfl rfl (by kernel_rfl) (by kernel_rfl) (by kernel_rfl) (hval 1 28 v1 rfl rfl) h1
  have k2 := h2
  have lt2 : ∀ x ∈ p2, x.block < W.heap.size := by obtain ⟨m, hm⟩ := k2; exact DataW.trod_lt m _ _ _ hm
  obtain ⟨z2, rfl, w2⟩ := arr_open Try.underlying31 Try.underlying5 (by kernel_rfl) (by kernel_rfl) (hval 2 31 v2 rfl rfl) h2
  obtain ⟨a3, len3, cap3, rfl⟩ := okWide_slice Try.underlying45 (hval 3 45 v3 rfl rfl)
  have k3 := h3
  have lt3 : ∀ x ∈ p3, x.block < W.heap.size := by obtain ⟨m, hm⟩ := k3; exact DataW.trod_lt m _ _ _ hm
  obtain ⟨z3, l3, w3⟩ : ∃ xs : List SAct, xs.length = len3 ∧ SActsOf W a3 cap3 xs := by
    obtain ⟨fuel, hf⟩ := h3
    exact sacts_open Try.underlying45 Try.underlying49 Try.underlying3 Try.underlying28 Try.underlying2 Try.underlying5 Try.underlying46 Try.underlying34 Try.underlying31 Try.underlying5 Try.underlying9 Try.underlying4 rfl rfl rfl rfl rfl rfl rfl rfl (by kernel_rfl) (by kernel_rfl) (by kernel_rfl) (by kernel_rfl) (by kernel_rfl) (by kernel_rfl) (by kernel_rfl) (by kernel_rfl) (by kernel_rfl) (by kernel_rfl) (by kernel_rfl) hf
  clear hA0 hval0
  refine (walk a0 len0 cap0 z0 a1 b1 z2 a3 len3 cap3 z3 W l0 w0 w1 x1 w2 l3 w3).mono fun e W' ⟨he, bel⟩ => ?_
  subst he
  exact ⟨_, rfl, _, _, _, [], _, [], hW', trodAll_mk1 (shut_bool Try.underlying4 _), (trodAll_cons_mk (Below.trod laidOut (by kernel_rfl) (of_decide_eq_true (by kernel_rfl)) k0 bel lt0) (trodAll_cons_mk (Below.trod laidOut (by kernel_rfl) (of_decide_eq_true (by kernel_rfl)) k1 bel lt1) (trodAll_cons_mk (Below.trod laidOut (by kernel_rfl) (of_decide_eq_true (by kernel_rfl)) k2 bel lt2) (trodAll_cons_mk (Below.trod laidOut (by kernel_rfl) (of_decide_eq_true (by kernel_rfl)) k3 bel lt3) trodAll_mk0)))), rfl, bel.frame _, fun h => by cases h⟩

theorem over : Rows.storeStillRow.holds Try.pinned (OpenSpec.ofChange Rows.storeStillSpec) :=
  OpenClaim.holds_of_wide 5 Try.f5 rfl rfl rfl rfl rfl rfl rfl ⟨rfl, rfl, rfl, rfl, rfl⟩ rfl rfl rfl rfl rfl (by kernel_rfl) Try.func5 (by kernel_rfl)
    (of_decide_eq_true (by kernel_rfl)) (by unfold Func.isWrapper; first | (rw [if_pos (by decide +kernel)]; kernel_rfl) | (rw [if_neg (by decide +kernel)]; exact ⟨rfl, rfl⟩))
    (fun os started H enc _ => lifted os started H enc)
theorem proved : Rows.StoreStillSaid := over
#print axioms proved
end Go.Proofs.Ytfaojmognbgnfaa.storeStill
namespace Go.Proofs.Ytfaojmognbgnfaa
/-- StoreStill, as given. -/
theorem storeStill_holds : Rows.StoreStillSaid := storeStill.proved
end Go.Proofs.Ytfaojmognbgnfaa
