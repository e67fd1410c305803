/-
  StoreTrims: what is trimmed at a time is the same from that time on, each key, each stretch, for every list of acts, every two stamps, every key (of more than 25 acts, of more than 20 writes in one, of values of more than 250 bytes the statement asks nothing).
-/
import Derived.Test.YtfaojmognbgnfabRows
import Derived.Test.YtfaojmognbgnfabStoL4
import Derived.Test.YtfaojmognbgnfabBase
import Derived.Test.YtfaojmognbgnfabSActs
import Derived.Test.YtfaojmognbgnfabPairOpen
import Derived.WalkKit
import Derived.ProofKit
import Derived.OpenShut
import Derived.ShutString
import Derived.ChangeOld
import Derived.Below
import Derived.Carry
namespace Go.Proofs.Ytfaojmognbgnfab.storeTrims
open Go.ChangeShapes Go.WideShapes Go.ChangeAt Go.RowKit
open Go.ChangeMaps (open_string shut_string)
set_option linter.unusedVariables false

theorem own : ownKnob Try.prog.godebug = none := by kernel_rfl
theorem laidOut : laidOutB Try.prog = true := by kernel_rfl
/-- A slice of integers that came in: nil, or a row of 'cap' cells, of which the first 'len' are its elements. -/
def IsRow (k : IntKind) (w : World) (a : Option Addr) (len cap : Nat) (zs : List Int) : Prop :=
  (a = none ∧ len = 0 ∧ cap = 0 ∧ zs = []) ∨
  ∃ x, a = some x ∧ len ≤ cap ∧ cap ≤ maxLen ∧ zs.length = cap ∧ (∀ i, i < zs.length → w.cell? (x.add i) = some (.int k (zs.getD i 0))) ∧ ∀ n ∈ zs, (Lit.int k n).wf = true

set_option maxRecDepth 20000 in
set_option maxHeartbeats 8000000 in
theorem walk (a0 : Option Addr) (len0 cap0 : Nat) (z0 : List SAct) (a1 b1 : Int) (a2 b2 : Int) (z3 : List Int) (w : World) (l0 : z0.length = len0) (w0 : SActsOf w a0 cap0 z0) (w1 : (Lit.int .i64 a1).wf = true) (x1 : (Lit.int .u8 b1).wf = true) (w2 : (Lit.int .i64 a2).wf = true) (x2 : (Lit.int .u8 b2).wf = true) (w3 : IsArr .u8 16 z3) :
    Calls Try.prog 3 #[.slice a0 len0 cap0, .agg #[.int .i64 a1, .int .u8 b1], .agg #[.int .i64 a2, .int .u8 b2], .agg (z3.map (Value.int .u8)).toArray] w fun e w' => e = .returned (.bool true) ∧ Below w.heap.size w w' := by
  have by1 := bounds_i64 w1
  have by1n := bounds_u8 x1
  have by2 := bounds_i64 w2
  have by2n := bounds_u8 x2
  have KY3 : Hid (Ky z3) := w3.ky
  have AW : Hid (∀ u, Calls Try.prog 4 #[] u fun e w' => e = .returned (.bool true) ∧ Below u.heap.size u w') := fun u => lawake_any u
  have HL : Hid (z0.length = len0) := l0
  have HA : Hid (SActsOf w a0 cap0 z0) := w0
  have hcap : len0 ≤ cap0 := by rw [← l0]; exact w0.room
  obtain ⟨W0, hW0⟩ : ∃ W0, W0 = ((w.alloc (.cells #[.int .i64 a1, .int .u8 b1] 24)).alloc (.cells #[.int .i64 a2, .int .u8 b2] 24)).alloc (.cells (kcs z3) 26) := ⟨_, rfl⟩
  have HW0 : Hid (((w.alloc (.cells #[.int .i64 a1, .int .u8 b1] 24)).alloc (.cells #[.int .i64 a2, .int .u8 b2] 24)).alloc (.cells (kcs z3) 26) = W0) := hW0.symm
  have HB0 : Hid (Below w.heap.size w W0) := by rw [hW0]; exact (((Below.refl _ _).alloc (Nat.le_refl _) _).alloc (by simp) _).alloc (by simp; omega) _
  have HBX : Hid (TrB w W0 a1 b1 a2 b2 z3) := by rw [hW0]; exact TrB.made w a1 b1 a2 b2 KY3.out 24 26
  have CN : Hid (∀ u, Below W0.heap.size W0 u → Calls Try.prog 5 #[] u fun e w' => ∃ p, e = .returned (.pointer (some ⟨p, 0, none⟩)) ∧ StX W0 w' p []) := fun u hb => (xnew_any u).mono fun e w' ⟨p, h1, h2⟩ => ⟨p, h1, h2.to hb⟩
  clear w0 w1 w2 w3 x1 x2 l0 hW0
  by_cases h25 : 25 < len0
  · have b25 : (25 : Int) < (len0 : Int) := by omega
    go_enter Try.func3, Try.ntmps3
    go_wp2_with (first | (go_at_call 4; refine (AW.out _).mono ?_; rintro e v1 ⟨rfl, hb1⟩; rw [HW0.out] at hb1; have B1 : Hid (Below w.heap.size w v1) := HB0.out.trans (hb1.mono HB0.out.size); clear hb1))
    go_ret
    exact ⟨rfl, B1.out⟩
  · have b25 : ¬ (25 : Int) < (len0 : Int) := by omega
    go_enter Try.func3, Try.ntmps3
    go_wp2_with (first | (go_at_call 4; refine (AW.out _).mono ?_; rintro e v1 ⟨rfl, hb1⟩; rw [HW0.out] at hb1; have B1 : Hid (Below W0.heap.size W0 v1) := hb1; clear hb1) | (have hgo := B1.out; clear hgo; go_at_call 5; refine (CN.out _ B1.out).mono ?_; rintro e v2 ⟨p, rfl, h2⟩; have H2 : Hid (StX W0 v2 p []) := h2; clear h2 B1))
    clear CN AW
    go_loopw [10] (fun iv wr => ∃ i : Nat, iv = .int .i64 i ∧ i ≤ len0 ∧ Hid (StX W0 wr p (appsV (z0.take i)))) (fun iv _ => len0 - (intOf iv).toNat)
    case atStart => exact ⟨0, rfl, Nat.zero_le _, by rw [List.take_zero]; exact H2⟩
    case round =>
      obtain ⟨i, rfl, hi, HC⟩ := hrel
      have h0 : (0 : Int) ≤ (i : Int) := by omega
      have HBW : Hid (Below w.heap.size w wr) := HB0.out.trans (HC.out.below.mono HB0.out.size)
      by_cases hlt : i < len0
      · have h1 : (i : Int) < (len0 : Int) := by omega
        obtain ⟨x, hx⟩ : ∃ x, z0[i]? = some x := ⟨_, List.getElem?_eq_getElem (by rw [HL.out]; exact hlt)⟩
        obtain ⟨b, off, rfl, hax, hok⟩ := HA.out.act hx
        obtain ⟨q0, q1, q2, q3⟩ := hax.past HBW.out
        have HAX : Hid (SActAt wr b (off + i * 4) x) := hax.past HBW.out
        have HT : Hid (appsV (z0.take (i + 1)) = (applyV (appsV (z0.take i)) x.t x.n x.l).2) := apps_next hx
        obtain ⟨N, hN⟩ : ∃ N, N = x.l.length := ⟨_, rfl⟩
        obtain ⟨t, ht⟩ : ∃ t, t = x.t := ⟨_, rfl⟩
        obtain ⟨n, hn⟩ : ∃ t, t = x.n := ⟨_, rfl⟩
        obtain ⟨xa, hxa⟩ : ∃ t, t = x.a := ⟨_, rfl⟩
        obtain ⟨xc, hxc⟩ : ∃ t, t = x.cap := ⟨_, rfl⟩
        rw [← ht] at q1
        rw [← hn] at q2
        rw [← hN, ← hxa, ← hxc] at q3
        have CLG : Hid (Calls Try.prog 6 #[.slice xa N xc] wr fun e w' => e = .returned (.bool (longW x.l)) ∧ w' = wr) := by rw [hxa, hN, hxc]; exact llong_any x.a x.l.length x.cap x.l wr rfl hok.wr.room hok.wr.few (hok.wr.at_.past HBW.out)
        obtain ⟨lg, hlg⟩ : ∃ g, g = longW x.l := ⟨_, rfl⟩
        rw [← hlg] at CLG
        cases lg with
        | true =>
          clear HT hok hax HAX ht hn hN hxa hxc hlg hx
          go_wp2_with (go_at_call 6; refine CLG.out.mono ?_; rintro e v3 ⟨rfl, rfl⟩)
          go_ret
          exact ⟨rfl, HBW.out⟩
        | false =>
          have hN20 : N ≤ 20 := by
            have h9 : longW x.l = false := hlg.symm
            unfold longW at h9
            simp only [Bool.or_eq_false_iff, decide_eq_false_iff_not] at h9
            omega
          have PU : Hid (∀ u, Below wr.heap.size wr u → Calls Try.prog 7 #[.pointer (some ⟨p, 0, none⟩), .agg #[.int .i64 t, .int .u8 n], .slice xa N xc] u fun e w' => ∃ r, e = .returned (.int .i64 r) ∧ StX W0 w' p (appsV (z0.take (i + 1)))) := fun u hb => by
            rw [HT.out, ht, hn, hxa, hN, hxc]
            exact (xapply_in (HC.out.past hb) x.t x.n hok.n x.a x.l.length x.cap x.l rfl hok.wr.room (by rw [← hN]; omega) (hok.wr.at_.past HB0.out)).mono fun e w' ⟨h1, h2⟩ => ⟨_, h1, h2⟩
          have HQ : Hid (∀ u, Below wr.heap.size wr u → u.cell? ⟨b, off + i * 4 + 1, none⟩ = some (.int .i64 t) ∧ u.cell? ⟨b, off + i * 4 + 2, none⟩ = some (.int .u8 n) ∧ u.cell? ⟨b, off + i * 4 + 3, none⟩ = some (.slice xa N xc)) := fun u hb => by
            obtain ⟨_, r1, r2, r3⟩ := HAX.out.past hb
            rw [ht, hn, hN, hxa, hxc]
            exact ⟨r1, r2, r3⟩
          clear HT hok hax HAX ht hn hN hxa hxc hlg hx
          go_wp2_with (go_at_call 6; refine CLG.out.mono ?_; rintro e v3 ⟨rfl, rfl⟩; clear CLG)
          refine wp_region_noPanic ?_
          refine region_till 11 (fun u => Below v3.heap.size v3 u) (by kernel_rfl) ?_ (fun hHeld => ?_)
          · exact (Below.refl _ _).drew
          refine till_take (i := 0) (v := ?_) 0 (by kernel_rfl) (Or.inl rfl) (by kernel_rfl) rfl (by kernel_rfl) (by kernel_rfl) (by kernel_rfl) (fun _ _ _ h => h) (Or.inl ⟨by rfl, ?_⟩) hHeld ?_
          rotate_left
          · intro u hSu
            (go_simp) <;> (with_reducible rfl)
          change wpTill _ _ _ _ _ _ _ _ (Act.put _ (some 34) _) _
          simp only [Act.put, List.setIfInBounds_toArray, List.set_cons_zero, List.set_cons_succ]
          refine till_takeP (i := 1) (v := ?_) [5, 4, 3] (by kernel_rfl) (by kernel_rfl) rfl (by kernel_rfl) (by kernel_rfl) (by kernel_rfl) (fun _ _ _ h => h) (Or.inl ⟨by rfl, ?_⟩) hHeld ?_
          rotate_left
          · intro u hSu
            (go_simp) <;> (with_reducible rfl)
          change wpTill _ _ _ _ _ _ _ _ (Act.put _ (some 35) _) _
          simp only [Act.put, List.setIfInBounds_toArray, List.set_cons_zero, List.set_cons_succ]
          refine till_takeP (i := 2) (v := ?_) [5, 4, 3] (by kernel_rfl) (by kernel_rfl) rfl (by kernel_rfl) (by kernel_rfl) (by kernel_rfl) (fun _ _ _ h => h) (Or.inl ⟨by rfl, ?_⟩) hHeld ?_
          rotate_left
          · intro u hSu
            (go_simp) <;> (with_reducible rfl)
          change wpTill _ _ _ _ _ _ _ _ (Act.put _ (some 36) _) _
          simp only [Act.put, List.setIfInBounds_toArray, List.set_cons_zero, List.set_cons_succ]
          refine till_takeP (i := 3) (v := ?_) [5, 4] (by kernel_rfl) (by kernel_rfl) rfl (by kernel_rfl) (by kernel_rfl) (by kernel_rfl) (fun _ _ _ h => h) (Or.inl ⟨by rfl, ?_⟩) hHeld ?_
          rotate_left
          · intro u hSu
            (go_simp) <;> (with_reducible rfl)
          change wpTill _ _ _ _ _ _ _ _ (Act.put _ (some 37) _) _
          simp only [Act.put, List.setIfInBounds_toArray, List.set_cons_zero, List.set_cons_succ]
          refine till_takeP (i := 4) (v := ?_) [5] (by kernel_rfl) (by kernel_rfl) rfl (by kernel_rfl) (by kernel_rfl) (by kernel_rfl) (fun _ _ _ h => h) (Or.inl ⟨by rfl, ?_⟩) hHeld ?_
          rotate_left
          · intro u hSu
            (go_simp) <;> (with_reducible rfl)
          change wpTill _ _ _ _ _ _ _ _ (Act.put _ (some 38) _) _
          simp only [Act.put, List.setIfInBounds_toArray, List.set_cons_zero, List.set_cons_succ]
          refine till_take (i := 5) (v := ?_) 5 (by kernel_rfl) (Or.inl rfl) (by kernel_rfl) rfl (by kernel_rfl) (by kernel_rfl) (by kernel_rfl) (fun _ _ _ h => h) (Or.inl ⟨by rfl, ?_⟩) hHeld ?_
          rotate_left
          · intro u hSu
            obtain ⟨r1, r2, r3⟩ := HQ.out u hSu
            (go_simp) <;> (with_reducible rfl)
          change wpTill _ _ _ _ _ _ _ _ (Act.put _ (some 39) _) _
          simp only [Act.put, List.setIfInBounds_toArray, List.set_cons_zero, List.set_cons_succ]
          refine till_takeP (i := 6) (v := ?_) [10, 9, 8] (by kernel_rfl) (by kernel_rfl) rfl (by kernel_rfl) (by kernel_rfl) (by kernel_rfl) (fun _ _ _ h => h) (Or.inl ⟨by rfl, ?_⟩) hHeld ?_
          rotate_left
          · intro u hSu
            (go_simp) <;> (with_reducible rfl)
          change wpTill _ _ _ _ _ _ _ _ (Act.put _ (some 40) _) _
          simp only [Act.put, List.setIfInBounds_toArray, List.set_cons_zero, List.set_cons_succ]
          refine till_takeP (i := 7) (v := ?_) [10, 9, 8] (by kernel_rfl) (by kernel_rfl) rfl (by kernel_rfl) (by kernel_rfl) (by kernel_rfl) (fun _ _ _ h => h) (Or.inl ⟨by rfl, ?_⟩) hHeld ?_
          rotate_left
          · intro u hSu
            (go_simp) <;> (with_reducible rfl)
          change wpTill _ _ _ _ _ _ _ _ (Act.put _ (some 41) _) _
          simp only [Act.put, List.setIfInBounds_toArray, List.set_cons_zero, List.set_cons_succ]
          refine till_takeP (i := 8) (v := ?_) [10, 9] (by kernel_rfl) (by kernel_rfl) rfl (by kernel_rfl) (by kernel_rfl) (by kernel_rfl) (fun _ _ _ h => h) (Or.inl ⟨by rfl, ?_⟩) hHeld ?_
          rotate_left
          · intro u hSu
            (go_simp) <;> (with_reducible rfl)
          change wpTill _ _ _ _ _ _ _ _ (Act.put _ (some 42) _) _
          simp only [Act.put, List.setIfInBounds_toArray, List.set_cons_zero, List.set_cons_succ]
          refine till_takeP (i := 9) (v := ?_) [10] (by kernel_rfl) (by kernel_rfl) rfl (by kernel_rfl) (by kernel_rfl) (by kernel_rfl) (fun _ _ _ h => h) (Or.inl ⟨by rfl, ?_⟩) hHeld ?_
          rotate_left
          · intro u hSu
            (go_simp) <;> (with_reducible rfl)
          change wpTill _ _ _ _ _ _ _ _ (Act.put _ (some 43) _) _
          simp only [Act.put, List.setIfInBounds_toArray, List.set_cons_zero, List.set_cons_succ]
          refine till_take (i := 10) (v := ?_) 10 (by kernel_rfl) (Or.inl rfl) (by kernel_rfl) rfl (by kernel_rfl) (by kernel_rfl) (by kernel_rfl) (fun _ _ _ h => h) (Or.inl ⟨by rfl, ?_⟩) hHeld ?_
          rotate_left
          · intro u hSu
            obtain ⟨r1, r2, r3⟩ := HQ.out u hSu
            (go_simp) <;> (with_reducible rfl)
          change wpTill _ _ _ _ _ _ _ _ (Act.put _ (some 44) _) _
          simp only [Act.put, List.setIfInBounds_toArray, List.set_cons_zero, List.set_cons_succ]
          refine till_last (by kernel_rfl) (by kernel_rfl) rfl (fun K hK => ?_)
          go_simp; go_at_call 7; refine (PU.out _ hHeld).mono ?_; rintro e v4 ⟨r, rfl, h4⟩; have H4 : Hid (StX W0 v4 p (appsV (z0.take (i + 1)))) := h4; clear h4 PU; refine hK.out _ _ ?_; refine NoPanic.normal ?_; clear hK K hHeld
          go_wp2
          go_roundw
          case rel => exact ⟨i + 1, by go_num, by omega, H4⟩
          case measure => simp [intOf]; omega
      · obtain rfl : i = len0 := by omega
        have HTK : Hid (z0.take i = z0) := List.take_of_length_le (by rw [HL.out]; exact Nat.le_refl _)
        rw [HTK.out] at HC
        obtain ⟨L, hL⟩ : ∃ L, L = appsV z0 := ⟨_, rfl⟩
        rw [← hL] at HC
        clear hL HTK
        have HG : Hid (StoG L) := HC.out.sto
        have TB : Hid (∀ u, Below W0.heap.size W0 u → TrB w u a1 b1 a2 b2 z3) := fun u hb => HBX.out.past hb
        have HBU : Hid (∀ u, Below W0.heap.size W0 u → Below w.heap.size w u) := fun u hb => HB0.out.trans (hb.mono HB0.out.size)
        obtain ⟨c0, c1, d0, d1, _⟩ := TB.out wr HC.out.below
        clear HBX HA HL H2 HW0
        by_cases hst : ltS a2 b2 a1 b1
        · rcases hst with hst | ⟨hst, hst2⟩
          · go_wp2
            go_ret
            exact ⟨rfl, HBW.out⟩
          · have hnl : ¬ a2 < a1 := by omega
            go_wp2
            go_ret
            exact ⟨rfl, HBW.out⟩
        · obtain ⟨g, hg⟩ : ∃ g, g = getV L z3 a2 b2 := ⟨_, rfl⟩
          obtain ⟨R, hR⟩ : ∃ R, R = scanV L zeroK zeroK a2 b2 := ⟨_, rfl⟩
          obtain ⟨N, hN⟩ : ∃ N, N = R.length := ⟨_, rfl⟩
          obtain ⟨L2, hL2⟩ : ∃ M, M = restV L a1 b1 := ⟨_, rfl⟩
          have hG2 : StoG L2 := by rw [hL2]; exact HG.out.rest a1 b1
          have hget : ∀ k, getV L2 k a2 b2 = getV L k a2 b2 := fun k => by rw [hL2]; exact get_trim HG.out.sto hst k
          have hscan : scanV L2 zeroK zeroK a2 b2 = R := by rw [hR]; exact scan_same hG2.sto.ord HG.out.sto.ord hget
          have hN200 : N ≤ 200 := by rw [hN, hR]; exact Nat.le_trans (List.length_filterMap_le _ _) HG.out.few
          obtain ⟨A, hA⟩ : ∃ A, A = strOfNums (g.getD []) := ⟨_, rfl⟩
          obtain ⟨pa, hpa⟩ : ∃ b, b = g.isSome := ⟨_, rfl⟩
          have CG : Hid (∀ u, StX W0 u p L → Calls Try.prog 8 #[.pointer (some ⟨p, 0, none⟩), kv z3, .agg #[.int .i64 a2, .int .u8 b2]] u fun e w' => e = .returned (.tuple #[.string A, .bool pa]) ∧ StX W0 w' p L) := fun u h => by
            rw [hA, hpa, hg]; exact xget_any h z3 KY3.out a2 b2
          have CS : Hid (∀ u, StX W0 u p L → Calls Try.prog 9 #[.pointer (some ⟨p, 0, none⟩), kv zeroK, kv zeroK, .agg #[.int .i64 a2, .int .u8 b2], .int .i64 300] u fun e w' => ∃ a' c', e = .returned (.slice a' N c') ∧ N ≤ c' ∧ StB W0 w' p L a' R) := fun u h => by
            have := iscan_start h zeroK zeroK zeroK_ky zeroK_ky a2 b2 300 (by omega)
            rw [scan_all300 HG.out, ← hR, ← hN] at this
            exact this
          have CT : Hid (∀ u a', StB W0 u p L a' R → Calls Try.prog 10 #[.pointer (some ⟨p, 0, none⟩), .agg #[.int .i64 a1, .int .u8 b1]] u fun e w' => ∃ r, e = .returned (.int .i64 r) ∧ StB W0 w' p L2 a' R) := fun u a' h => by
            rw [hL2]; exact (itrim_any h a1 b1).mono fun e w' ⟨h1, h2⟩ => ⟨_, h1, h2⟩
          have CG2 : Hid (∀ u a', StB W0 u p L2 a' R → Calls Try.prog 8 #[.pointer (some ⟨p, 0, none⟩), kv z3, .agg #[.int .i64 a2, .int .u8 b2]] u fun e w' => e = .returned (.tuple #[.string A, .bool pa]) ∧ StB W0 w' p L2 a' R) := fun u a' h => by
            rw [hA, hpa, hg, ← hget z3]; exact iget_any h z3 KY3.out a2 b2
          have CS2 : Hid (∀ u a', StB W0 u p L2 a' R → Calls Try.prog 9 #[.pointer (some ⟨p, 0, none⟩), kv zeroK, kv zeroK, .agg #[.int .i64 a2, .int .u8 b2], .int .i64 300] u fun e w' => (∃ a2 c2, e = .returned (.slice a2 N c2) ∧ ItmsAt w' a2 R ∧ N ≤ c2) ∧ StB W0 w' p L2 a' R) := fun u a' h => by
            have := iscan_any h zeroK zeroK zeroK_ky zeroK_ky a2 b2 300 (by omega)
            rw [scan_all300 hG2, hscan, ← hN] at this
            exact this
          have CI : Hid (∀ u a' c' a2 c2, N ≤ c' → N ≤ c2 → ItmsAt u a2 R → ItmsAt u a' R → Calls Try.prog 11 #[.slice a2 N c2, .slice a' N c'] u fun e w' => e = .returned (.bool true) ∧ Below u.heap.size u w') := fun u a' c' a2 c2 h1 h2 h3 h4 => by
            have := ritems_any a2 a' N N c2 c' R R u hN.symm hN.symm h2 h1 (by omega) (by omega) h3 h4
            rw [show decide (R = R) = true from by simp] at this
            exact this
          have CT2 : Hid (∀ u a', StB W0 u p L2 a' R → Calls Try.prog 10 #[.pointer (some ⟨p, 0, none⟩), .agg #[.int .i64 a1, .int .u8 b1]] u fun e w' => e = .returned (.int .i64 0) ∧ Below w.heap.size w w') := fun u a' h => by
            have := itrim_any h a1 b1
            rw [show restV L2 a1 b1 = L2 by rw [hL2]; exact trim_twice HG.out.sto a1 b1, Int.sub_self] at this
            exact this.mono fun e w' ⟨h1, h2⟩ => ⟨h1, HBU.out _ h2.stx.below⟩
          clear hA hpa hg hR hN hL2 hG2 hget hscan HG g
          have hwh : a1 < a2 ∨ a2 = a1 ∧ ¬ b2 < b1 := by
            rcases Int.lt_trichotomy a2 a1 with h | h | h
            · exact absurd (.inl h) hst
            · exact .inr ⟨h, fun h' => hst (.inr ⟨h, h'⟩)⟩
            · exact .inl h
          clear hst
          have H0 : Hid (StX W0 wr p L) := HC
          clear HC
          have KAT : Hid (∀ u, Below W0.heap.size W0 u → KeyAt u (w.heap.size + 1 + 1) 0 z3) := fun u hb => (TB.out u hb).ky
          rcases hwh with hwh | ⟨rfl, hwh⟩
          · have hnl : ¬ a2 < a1 := by omega
            have hne : ¬ a2 = a1 := by omega
            go_wp2_with (first | (refine wpList_build_k0 _ (by rfl) (by rfl) (by rfl) ?_) | (have hgo := H0.out; clear hgo; refine wpList_load_keyD 67 (by rfl) (by rfl) _ (by rfl) (w.heap.size + 1 + 1) 0 (by rfl) z3 KY3.out (KAT.out _ H0.out.below) ?_) | (have hgo := H0.out; clear hgo; go_at_call 8; refine (CG.out _ H0.out).mono ?_; rintro e v5 ⟨rfl, h5⟩; have H5 : Hid (StX W0 v5 p L) := h5; obtain ⟨c0, c1, d0, d1, _⟩ := TB.out _ h5.below; clear h5 H0 CG) | (have hgo := H5.out; clear hgo; go_at_call 9; refine (CS.out _ H5.out).mono ?_; rintro e v6 ⟨xa, xc, rfl, hxc, h6⟩; have H6 : Hid (StB W0 v6 p L xa R) := h6; obtain ⟨c0, c1, d0, d1, _⟩ := TB.out _ h6.stx.below; clear h6 H5 CS) | (have hgo := H6.out; clear hgo; go_at_call 10; refine (CT.out _ _ H6.out).mono ?_; rintro e v7 ⟨r7, rfl, h7⟩; have H7 : Hid (StB W0 v7 p L2 xa R) := h7; obtain ⟨c0, c1, d0, d1, _⟩ := TB.out _ h7.stx.below; clear h7 H6 CT) | (have hgo := H7.out; clear hgo; refine wpList_load_keyD 82 (by rfl) (by rfl) _ (by rfl) (w.heap.size + 1 + 1) 0 (by rfl) z3 KY3.out (KAT.out _ H7.out.stx.below) ?_) | (have hgo := H7.out; clear hgo; go_at_call 8; refine (CG2.out _ _ H7.out).mono ?_; rintro e v8 ⟨rfl, h8⟩; have H8 : Hid (StB W0 v8 p L2 xa R) := h8; obtain ⟨c0, c1, d0, d1, _⟩ := TB.out _ h8.stx.below; clear h8 H7 CG2) | (have hgo := H8.out; clear hgo; go_at_call 9; refine (CS2.out _ _ H8.out).mono ?_; rintro e v9 ⟨⟨ya, yc, rfl, hya, hyc⟩, h9⟩; have H9 : Hid (StB W0 v9 p L2 xa R) := h9; have HY : Hid (ItmsAt v9 ya R) := hya; clear h9 H8 CS2 hya) | (have hgo := H9.out; clear hgo; go_at_call 11; refine (CI.out _ _ _ _ _ hxc hyc HY.out H9.out.itms).mono ?_; rintro e v10 ⟨rfl, hb10⟩; have H10 : Hid (StB W0 v10 p L2 xa R) := H9.out.past hb10; obtain ⟨c0, c1, d0, d1, _⟩ := TB.out _ H10.out.stx.below; clear hb10 H9 CI) | (have hgo := H10.out; clear hgo; go_at_call 10; refine (CT2.out _ _ H10.out).mono ?_; rintro e v11 ⟨rfl, h11⟩; have H11 : Hid (Below w.heap.size w v11) := h11; clear h11 H10 CT2))
            go_ret
            exact ⟨rfl, H11.out⟩
          · go_wp2_with (first | (refine wpList_build_k0 _ (by rfl) (by rfl) (by rfl) ?_) | (have hgo := H0.out; clear hgo; refine wpList_load_keyD 67 (by rfl) (by rfl) _ (by rfl) (w.heap.size + 1 + 1) 0 (by rfl) z3 KY3.out (KAT.out _ H0.out.below) ?_) | (have hgo := H0.out; clear hgo; go_at_call 8; refine (CG.out _ H0.out).mono ?_; rintro e v5 ⟨rfl, h5⟩; have H5 : Hid (StX W0 v5 p L) := h5; obtain ⟨c0, c1, d0, d1, _⟩ := TB.out _ h5.below; clear h5 H0 CG) | (have hgo := H5.out; clear hgo; go_at_call 9; refine (CS.out _ H5.out).mono ?_; rintro e v6 ⟨xa, xc, rfl, hxc, h6⟩; have H6 : Hid (StB W0 v6 p L xa R) := h6; obtain ⟨c0, c1, d0, d1, _⟩ := TB.out _ h6.stx.below; clear h6 H5 CS) | (have hgo := H6.out; clear hgo; go_at_call 10; refine (CT.out _ _ H6.out).mono ?_; rintro e v7 ⟨r7, rfl, h7⟩; have H7 : Hid (StB W0 v7 p L2 xa R) := h7; obtain ⟨c0, c1, d0, d1, _⟩ := TB.out _ h7.stx.below; clear h7 H6 CT) | (have hgo := H7.out; clear hgo; refine wpList_load_keyD 82 (by rfl) (by rfl) _ (by rfl) (w.heap.size + 1 + 1) 0 (by rfl) z3 KY3.out (KAT.out _ H7.out.stx.below) ?_) | (have hgo := H7.out; clear hgo; go_at_call 8; refine (CG2.out _ _ H7.out).mono ?_; rintro e v8 ⟨rfl, h8⟩; have H8 : Hid (StB W0 v8 p L2 xa R) := h8; obtain ⟨c0, c1, d0, d1, _⟩ := TB.out _ h8.stx.below; clear h8 H7 CG2) | (have hgo := H8.out; clear hgo; go_at_call 9; refine (CS2.out _ _ H8.out).mono ?_; rintro e v9 ⟨⟨ya, yc, rfl, hya, hyc⟩, h9⟩; have H9 : Hid (StB W0 v9 p L2 xa R) := h9; have HY : Hid (ItmsAt v9 ya R) := hya; clear h9 H8 CS2 hya) | (have hgo := H9.out; clear hgo; go_at_call 11; refine (CI.out _ _ _ _ _ hxc hyc HY.out H9.out.itms).mono ?_; rintro e v10 ⟨rfl, hb10⟩; have H10 : Hid (StB W0 v10 p L2 xa R) := H9.out.past hb10; obtain ⟨c0, c1, d0, d1, _⟩ := TB.out _ H10.out.stx.below; clear hb10 H9 CI) | (have hgo := H10.out; clear hgo; go_at_call 10; refine (CT2.out _ _ H10.out).mono ?_; rintro e v11 ⟨rfl, h11⟩; have H11 : Hid (Below w.heap.size w v11) := h11; clear h11 H10 CT2))
            go_ret
            exact ⟨rfl, H11.out⟩

set_option maxRecDepth 100000 in
theorem lifted (os : Os) (started : os.Started) (H : Type) (enc : TypeId × Value → H) :
    ReturnsInHanded {} Try.checked os 3 .any (Rows.storeTrimsSpec.pre6 enc Try.prog Try.f3 Rows.storeTrimsRow.domain false) (Rows.storeTrimsSpec.post enc Try.prog Try.f3 false true false false) := by
  refine returnsInHanded_of_change (C := Try.checked) own started (by kernel_rfl) Try.func3
    (ChangeSpec.witness6 (enc := enc) (C := Try.checked) false ⟨#[], #[.slice none 0 0, .agg #[.int .i64 0, .int .u8 0], .agg #[.int .i64 0, .int .u8 0], .agg #[.int .u8 0, .int .u8 0, .int .u8 0, .int .u8 0, .int .u8 0, .int .u8 0, .int .u8 0, .int .u8 0, .int .u8 0, .int .u8 0, .int .u8 0, .int .u8 0, .int .u8 0, .int .u8 0, .int .u8 0, .int .u8 0]], []⟩ 8 (by kernel_rfl) (by kernel_rfl) (by kernel_rfl) (by kernel_rfl)) ?_
  intro W base args ds gs before hval0 hW hcnd _
  have hval : ∀ (j : Nat) t v, Try.f3.params[j]? = some t → args[j]? = some v → Value.okWide Try.prog W .any base t v := hval0
  have hW' := hW
  obtain ⟨p, q, hA0, hV, rfl, hfz, hnd⟩ := hW
  have hA : DataW.TrodAll enc Try.prog W 0 (fun _ => true) true Try.f3.params.toList args.toList ds p := hA0
  rw [Try.params3] at hA hval
  obtain ⟨v0, vs0, d0, ds0, p0, q0, hargs, rfl, rfl, h0, r0⟩ := trodAll_cons hA
  obtain ⟨v1, vs1, d1, ds1, p1, q1, rfl, rfl, rfl, h1, r1⟩ := trodAll_cons r0
  obtain ⟨v2, vs2, d2, ds2, p2, q2, rfl, rfl, rfl, h2, r2⟩ := trodAll_cons r1
  obtain ⟨v3, vs3, d3, ds3, p3, q3, rfl, rfl, rfl, h3, r3⟩ := trodAll_cons r2
  obtain ⟨rfl, rfl, rfl⟩ := trodAll_nil r3
  obtain rfl : args = #[v0, v1, v2, v3] := by cases args; simp_all
  obtain ⟨rfl, rfl⟩ := trodVars_none hV
  obtain ⟨a0, len0, cap0, rfl⟩ := okWide_slice Try.underlying22 (hval 0 22 v0 rfl rfl)
  have k0 := h0
  have lt0 : ∀ x ∈ p0, x.block < W.heap.size := by obtain ⟨m, hm⟩ := k0; exact DataW.trod_lt m _ _ _ hm
  obtain ⟨z0, l0, w0⟩ : ∃ xs : List SAct, xs.length = len0 ∧ SActsOf W a0 cap0 xs := by
    obtain ⟨fuel, hf⟩ := h0
    exact sacts_open Try.underlying22 Try.underlying33 Try.underlying3 Try.underlying24 Try.underlying2 Try.underlying5 Try.underlying31 Try.underlying46 Try.underlying26 Try.underlying5 Try.underlying9 Try.underlying4 rfl rfl rfl rfl rfl rfl rfl rfl (by kernel_rfl) (by kernel_rfl) (by kernel_rfl) (by kernel_rfl) (by kernel_rfl) (by kernel_rfl) (by kernel_rfl) (by kernel_rfl) (by kernel_rfl) (by kernel_rfl) (by kernel_rfl) hf
  have k1 := h1
  have lt1 : ∀ x ∈ p1, x.block < W.heap.size := by obtain ⟨m, hm⟩ := k1; exact DataW.trod_lt m _ _ _ hm
  obtain ⟨a1, b1, rfl, w1, x1⟩ := struct2_open Try.underlying24 Try.underlying2 Try.underlying5 rfl rfl (by kernel_rfl) (by kernel_rfl) (by kernel_rfl) (hval 1 24 v1 rfl rfl) h1
  have k2 := h2
  have lt2 : ∀ x ∈ p2, x.block < W.heap.size := by obtain ⟨m, hm⟩ := k2; exact DataW.trod_lt m _ _ _ hm
  obtain ⟨a2, b2, rfl, w2, x2⟩ := struct2_open Try.underlying24 Try.underlying2 Try.underlying5 rfl rfl (by kernel_rfl) (by kernel_rfl) (by kernel_rfl) (hval 2 24 v2 rfl rfl) h2
  have k3 := h3
  have lt3 : ∀ x ∈ p3, x.block < W.heap.size := by obtain ⟨m, hm⟩ := k3; exact DataW.trod_lt m _ _ _ hm
  obtain ⟨z3, rfl, w3⟩ := arr_open Try.underlying26 Try.underlying5 (by kernel_rfl) (by kernel_rfl) (hval 3 26 v3 rfl rfl) h3
  clear hA0 hval0
  refine (walk a0 len0 cap0 z0 a1 b1 a2 b2 z3 W l0 w0 w1 x1 w2 x2 w3).mono fun e W' ⟨he, bel⟩ => ?_
  subst he
  exact ⟨_, rfl, _, _, _, [], _, [], hW', trodAll_mk1 (shut_bool Try.underlying4 _), (trodAll_cons_mk (Below.trod laidOut (by kernel_rfl) (of_decide_eq_true (by kernel_rfl)) k0 bel lt0) (trodAll_cons_mk (Below.trod laidOut (by kernel_rfl) (of_decide_eq_true (by kernel_rfl)) k1 bel lt1) (trodAll_cons_mk (Below.trod laidOut (by kernel_rfl) (of_decide_eq_true (by kernel_rfl)) k2 bel lt2) (trodAll_cons_mk (Below.trod laidOut (by kernel_rfl) (of_decide_eq_true (by kernel_rfl)) k3 bel lt3) trodAll_mk0)))), rfl, bel.frame _, fun h => by cases h⟩

theorem over : Rows.storeTrimsRow.holds Try.pinned (OpenSpec.ofChange Rows.storeTrimsSpec) :=
  OpenClaim.holds_of_wide 3 Try.f3 rfl rfl rfl rfl rfl rfl rfl ⟨rfl, rfl, rfl, rfl, rfl⟩ rfl rfl rfl rfl rfl (by kernel_rfl) Try.func3 (by kernel_rfl)
    (of_decide_eq_true (by kernel_rfl)) (by unfold Func.isWrapper; first | (rw [if_pos (by decide +kernel)]; kernel_rfl) | (rw [if_neg (by decide +kernel)]; exact ⟨rfl, rfl⟩))
    (fun os started H enc _ => lifted os started H enc)
theorem proved : Rows.StoreTrimsSaid := over
#print axioms proved
end Go.Proofs.Ytfaojmognbgnfab.storeTrims
namespace Go.Proofs.Ytfaojmognbgnfab
/-- StoreTrims, as given. -/
theorem storeTrims_holds : Rows.StoreTrimsSaid := storeTrims.proved
end Go.Proofs.Ytfaojmognbgnfab
