/-
  KeySays: every text's key, every keys' order and sum, whether one is between two, every list in order are as the document says (texts of more than 100 bytes, lists of more than 40: the statement asks nothing).
-/
import Derived.Test.YtfgbgcaackhcmaaRows
import Derived.Test.YtfgbgcaackhcmaaKeyKeys
import Derived.Test.YtfgbgcaackhcmaaKeysOpen
import Derived.Test.YtfgbgcaackhcmaaRefKeyOf
import Derived.Test.YtfgbgcaackhcmaaRefKeySort
import Derived.Test.YtfgbgcaackhcmaaNested
import Derived.WalkKit
import Derived.ProofKit
import Derived.OpenShut
import Derived.ShutString
import Derived.ChangeOld
import Derived.Below
import Derived.Carry
namespace Go.Proofs.Ytfgbgcaackhcmaa.keySays
open Go.ChangeShapes Go.WideShapes Go.ChangeAt Go.RowKit
open Go.ChangeMaps (open_string shut_string)
set_option linter.unusedVariables false

theorem own : ownKnob Try.prog.godebug = none := by kernel_rfl
theorem laidOut : laidOutB Try.prog = true := by kernel_rfl
/-- A slice of integers that came in: nil, or a row of 'cap' cells, of which the first 'len' are its elements. -/
def IsRow (k : IntKind) (w : World) (a : Option Addr) (len cap : Nat) (zs : List Int) : Prop :=
  (a = none ∧ len = 0 ∧ cap = 0 ∧ zs = []) ∨
  ∃ x, a = some x ∧ len ≤ cap ∧ cap ≤ maxLen ∧ zs.length = cap ∧ (∀ i, i < zs.length → w.cell? (x.add i) = some (.int k (zs.getD i 0))) ∧ ∀ n ∈ zs, (Lit.int k n).wf = true

set_option maxRecDepth 8000 in
set_option maxHeartbeats 4000000 in
theorem walk (a0 : ByteArray) (z1 : List Int) (z2 : List Int) (z3 : List Int) (a4 : Option Addr) (len4 cap4 : Nat) (z4 : List (List Int)) (w : World) (w0 : a0.size ≤ maxLen) (w1 : IsArr .u8 16 z1) (w2 : IsArr .u8 16 z2) (w3 : IsArr .u8 16 z3) (l4 : z4.length = len4) (w4 : KeysAt w a4 z4) (r4 : len4 ≤ cap4) :
    Calls Try.prog 4 #[.string a0, .agg (z1.map (Value.int .u8)).toArray, .agg (z2.map (Value.int .u8)).toArray, .agg (z3.map (Value.int .u8)).toArray, .slice a4 len4 cap4] w fun e w' => e = .returned (.bool true) ∧ Below w.heap.size w w' := by
  have AW : Hid (∀ u, Calls Try.prog 9 #[] u fun e w' => e = .returned (.bool true) ∧ Below u.heap.size u w') := fun u => awake_any u
  have K1 : Hid (Ky z1) := w1.ky
  have K2 : Hid (Ky z2) := w2.ky
  have K3 : Hid (Ky z3) := w3.ky
  have H0 : Hid (Three3 w (((w.alloc (.cells (kcs z1) 24)).alloc (.cells (kcs z2) 24)).alloc (.cells (kcs z3) 24)) z1 z2 z3) := Three3.made w 24 w1.ky w2.ky w3.ky
  have HL0 : Hid (KeysAt w a4 z4) := w4
  obtain ⟨xs, hxs, hb, hl⟩ := str_nums a0
  by_cases r1 : 100 < a0.size
  · have r1' : (100 : Int) < (a0.size : Int) := by omega
    clear hxs hb hl w0 w1 w2 w3 w4 l4
    go_enter Try.func4, Try.ntmps4
    go_wp2_with (go_at_call 9; refine (AW.out _).mono ?_; rintro e v1 ⟨rfl, hb1⟩; have T1 : Hid (Three3 w v1 z1 z2 z3) := H0.out.past hb1; clear hb1)
    go_ret
    exact ⟨rfl, T1.out.below⟩
  have r1' : decide ((100 : Int) < (a0.size : Int)) = false := decide_eq_false (by omega)
  by_cases r2 : 40 < len4
  · have r2' : (40 : Int) < (len4 : Int) := by omega
    clear hxs hb hl w0 w1 w2 w3 w4 l4
    go_enter Try.func4, Try.ntmps4
    go_wp2_with (go_at_call 9; refine (AW.out _).mono ?_; rintro e v1 ⟨rfl, hb1⟩; have T1 : Hid (Three3 w v1 z1 z2 z3) := H0.out.past hb1; clear hb1)
    go_ret
    exact ⟨rfl, T1.out.below⟩
  have r2' : ¬ (40 : Int) < (len4 : Int) := by omega
  obtain ⟨A, hA⟩ : ∃ A, A = ofK xs := ⟨_, rfl⟩
  have HAK : Hid (Ky A) := by rw [hA]; exact ofK_ky hb
  have C1 : Hid (∀ u, Calls Try.prog 10 #[.string a0] u fun e w' => e = .returned (.tuple #[kv A, .int .i64 (if mayK xs = true then 0 else 1)]) ∧ Below u.heap.size u w') := fun u => by rw [hA, hxs]; exact kof_any xs hb (by omega) u
  have C2 : Hid (∀ u, Calls Try.prog 15 #[.string a0] u fun e w' => e = .returned (.tuple #[kv A, .bool (mayK xs)]) ∧ Below u.heap.size u w') := fun u => by rw [hA, hxs]; exact rof_any xs hb (by omega) u
  have hq : ∀ u, (Op.equalIn 10000 24 (kv A) (kv A)).run Try.prog u = .ok true u := fun u => by rw [eq_key u A A HAK.out HAK.out, decide_eq_true rfl]
  obtain ⟨ST, hST⟩ : ∃ s, s = strOfNums (textK z1) := ⟨_, rfl⟩
  obtain ⟨GD, hGD⟩ : ∃ s, s = goodK z1 := ⟨_, rfl⟩
  obtain ⟨LX, hLX⟩ : ∃ s, s = lexC z1 z2 := ⟨_, rfl⟩
  obtain ⟨WI, hWI⟩ : ∃ s, s = withinK z1 z2 z3 := ⟨_, rfl⟩
  obtain ⟨SM, hSM⟩ : ∃ s, s = sumK z1 := ⟨_, rfl⟩
  have D1 : Hid (∀ u, Calls Try.prog 12 #[kv z1] u fun e w' => e = .returned (.string ST) ∧ Below u.heap.size u w') := fun u => by rw [hST]; exact ktext_any z1 K1.out u
  have D2 : Hid (∀ u, Calls Try.prog 16 #[kv z1] u fun e w' => e = .returned (.string ST) ∧ Below u.heap.size u w') := fun u => by rw [hST]; exact rtext_any z1 K1.out u
  have D3 : Hid (∀ u, Calls Try.prog 13 #[kv z1] u fun e w' => e = .returned (.bool GD) ∧ Below u.heap.size u w') := fun u => by rw [hGD]; exact kgood_any z1 K1.out u
  have D4 : Hid (∀ u, Calls Try.prog 17 #[kv z1] u fun e w' => e = .returned (.bool GD) ∧ Below u.heap.size u w') := fun u => by rw [hGD]; exact rgood_any z1 K1.out u
  have D5 : Hid (∀ u, Calls Try.prog 18 #[kv z1, kv z2] u fun e w' => e = .returned (.int .i64 LX) ∧ Below u.heap.size u w') := fun u => by rw [hLX]; exact kcmp_any z1 z2 K1.out K2.out u
  have D6 : Hid (∀ u, Calls Try.prog 19 #[kv z1, kv z2] u fun e w' => e = .returned (.int .i64 LX) ∧ Below u.heap.size u w') := fun u => by rw [hLX]; exact rcmp_any z1 z2 K1.out K2.out u
  have D7 : Hid (∀ u, Calls Try.prog 14 #[kv z1, kv z2, kv z3] u fun e w' => e = .returned (.bool WI) ∧ Below u.heap.size u w') := fun u => by rw [hWI]; exact kwithin_any z1 z2 z3 K1.out K2.out K3.out u
  have D8 : Hid (∀ u, Calls Try.prog 20 #[kv z1, kv z2, kv z3] u fun e w' => e = .returned (.bool WI) ∧ Below u.heap.size u w') := fun u => by rw [hWI]; exact rwithin_any z1 z2 z3 K1.out K2.out K3.out u
  have D9 : Hid (∀ u, Calls Try.prog 21 #[kv z1] u fun e w' => e = .returned (.int .u32 SM) ∧ Below u.heap.size u w') := fun u => by rw [hSM]; exact ksum_any z1 K1.out u
  have D10 : Hid (∀ u, Calls Try.prog 22 #[kv z1] u fun e w' => e = .returned (.int .u32 SM) ∧ Below u.heap.size u w') := fun u => by rw [hSM]; exact rsum_any z1 K1.out u
  obtain ⟨S, hS⟩ : ∃ S, S = sortK z4 := ⟨_, rfl⟩
  obtain ⟨M, hM⟩ : ∃ M, M = S.length := ⟨_, rfl⟩
  have hM40 : M ≤ 40 := by
    have h := (sortK_facts z4).2.2
    rw [← hS, ← hM] at h
    omega
  have S1 : Hid (∀ u, KeysAt u a4 z4 → Calls Try.prog 11 #[.slice a4 len4 cap4] u fun e w' => (∃ a' cap', e = .returned (.slice a' M cap') ∧ KeysAt w' a' S ∧ M ≤ cap') ∧ Below u.heap.size u w') := fun u h => by
    have c := ksort_any a4 len4 cap4 z4 u l4 (by omega) r4 h
    rw [← hS, ← hM] at c
    exact c
  have S2 : Hid (∀ u, KeysAt u a4 z4 → Calls Try.prog 24 #[.slice a4 len4 cap4] u fun e w' => (∃ a' cap', e = .returned (.slice a' M cap') ∧ KeysAt w' a' S) ∧ Below u.heap.size u w') := fun u h => by
    refine (rsort_any a4 len4 cap4 z4 u l4 (by omega) h).mono ?_
    rintro e w' ⟨v, rfl, hm, hb⟩
    rw [← hS] at hm
    refine ⟨?_, hb⟩
    by_cases h0 : 0 < S.length
    · obtain ⟨g, cp, rfl, _, _, _, hk⟩ := hm.shape h0
      exact ⟨_, _, by rw [hM], hk⟩
    · have he : S = [] := List.eq_nil_of_length_eq_zero (by omega)
      obtain ⟨av, cv, hv⟩ := own_form hm.own
      subst hv
      refine ⟨av, cv, by rw [hM], ?_⟩
      rw [he]
      exact ⟨lies_nil _ _, fun k hk => by simp at hk, fun _ => rfl⟩
  have CK : Hid (∀ u a c a' c', KeysAt u a S → KeysAt u a' S → Calls Try.prog 23 #[.slice a M c, .slice a' M c'] u fun e w' => e = .returned (.bool true) ∧ Below u.heap.size u w') := fun u a c a' c' h h' => by
    have x := keys_any a M c S a' M c' S u hM.symm hM.symm h h' (by omega)
    rw [decide_eq_true rfl] at x
    exact x
  have hse : (ST.toList == ST.toList) = true := by simp
  have hge : (GD == GD) = true := by simp
  have hle : (LX == LX) = true := by simp
  have hwe : (WI == WI) = true := by simp
  have hsm : (SM == SM) = true := by simp
  clear hST hGD hLX hWI hSM hS hM hxs hb hl hA w0 w1 w2 w3 w4 l4
  by_cases m1 : mayK xs = true
  · rw [if_pos m1] at C1
    rw [m1] at C2
    clear m1
    go_enter Try.func4, Try.ntmps4
    go_wp2_with (first
      | (have hgo := AW.out; clear hgo; go_at_call 9; refine (AW.out _).mono ?_; rintro e v1 ⟨rfl, hb1⟩; have T1 : Hid (Three3 w v1 z1 z2 z3) := H0.out.past hb1; have L1 : Hid (KeysAt v1 a4 z4) := HL0.out.past (H0.out.below.trans (hb1.mono H0.out.below.size)); clear hb1 AW)
      | (have hgo := T1.out; clear hgo; have hgo := C1.out; clear hgo; go_at_call 10; refine (C1.out _).mono ?_; rintro e v2 ⟨rfl, hb2⟩; have HM : Hid (Uno v1 (v2.alloc (.cells (kcs zeroK) 24)) v2.heap.size zeroK) := uno_made hb2 24; rw [zero_list] at HM; clear hb2 C1)
      | (have hgo := HM.out; clear hgo; refine wpList_store_keyU (by rfl) _ _ (by rfl) v2.heap.size 0 zeroK A (by rfl) (by rfl) HAK.out HM.out.key ?_; intro u1 hu; have H1 : Hid (Uno v1 u1 v2.heap.size A) := hu ▸ HM.out.store HAK.out; clear hu HM)
      | (have hgo := H1.out; clear hgo; have hgo := C2.out; clear hgo; go_at_call 15; refine (C2.out _).mono ?_; rintro e v3 ⟨rfl, hb3⟩; have HM2 : Hid (Uno u1 (v3.alloc (.cells (kcs zeroK) 24)) v3.heap.size zeroK) := uno_made hb3 24; rw [zero_list] at HM2; clear hb3 C2)
      | (have hgo := HM2.out; clear hgo; refine wpList_store_keyU (by rfl) _ _ (by rfl) v3.heap.size 0 zeroK A (by rfl) (by rfl) HAK.out HM2.out.key ?_; intro u2 hu; have H2 : Hid (Uno u1 u2 v3.heap.size A) := hu ▸ HM2.out.store HAK.out; have HV : Hid (Below v1.heap.size v1 u2) := H1.out.below.trans (H2.out.below.mono H1.out.below.size); have T2 : Hid (Three3 w u2 z1 z2 z3) := T1.out.past HV.out; have L2 : Hid (KeysAt u2 a4 z4) := L1.out.past HV.out; have FA : Hid (∀ u, Below u2.heap.size u2 u → KeyAt u v2.heap.size 0 A) := fun u hb => (H1.out.at H2.out.below).past hb; have FB : Hid (∀ u, Below u2.heap.size u2 u → KeyAt u v3.heap.size 0 A) := fun u hb => H2.out.at hb; have F1 : Hid (∀ u, Below u2.heap.size u2 u → KeyAt u w.heap.size 0 z1) := fun u hb => T2.out.k.past hb; have F2 : Hid (∀ u, Below u2.heap.size u2 u → KeyAt u (w.heap.size + 1) 0 z2) := fun u hb => T2.out.a.past hb; have F3 : Hid (∀ u, Below u2.heap.size u2 u → KeyAt u (w.heap.size + 2) 0 z3) := fun u hb => T2.out.b.past hb; have B0 : Hid (Below u2.heap.size u2 u2) := Below.refl _ _; clear hu HM2))
    refine wp_region_noPanic ?_
    refine wp_region_held_drew (S := fun u => Below u2.heap.size u2 u) (by kernel_rfl) ?_ (fun hHeld => ?_)
    · exact (Below.refl _ _).drew
    refine wpAnyH_take (i := 0) (v := kv A) rfl (by kernel_rfl) (by kernel_rfl) (by kernel_rfl) (fun _ _ _ h => h) (yieldsIf_load_mid (by rfl) _ _ rfl _ _ rfl (A.map (Value.int .u8)) _ (fun u hu => (FA.out u hu).range HAK.out) Try.underlying24 rfl (info_keyl A HAK.out)) hHeld ?_
    change wpAnyH _ _ _ _ _ _ _ (Act.put _ (some 35) _) _
    simp only [Act.put, List.setIfInBounds_toArray, List.set_cons_zero, List.set_cons_succ]
    refine wpAnyH_take (i := 1) (v := kv A) rfl (by kernel_rfl) (by kernel_rfl) (by kernel_rfl) (fun _ _ _ h => h) (yieldsIf_load_mid (by rfl) _ _ rfl _ _ rfl (A.map (Value.int .u8)) _ (fun u hu => (FB.out u hu).range HAK.out) Try.underlying24 rfl (info_keyl A HAK.out)) hHeld ?_
    change wpAnyH _ _ _ _ _ _ _ (Act.put _ (some 36) _) _
    simp only [Act.put, List.setIfInBounds_toArray, List.set_cons_zero, List.set_cons_succ]
    refine wpAnyH_take (i := 2) (v := ?_) rfl (by kernel_rfl) (by kernel_rfl) (by kernel_rfl) (fun _ _ _ h => h) (Or.inl ⟨by rfl, ?_⟩) hHeld ?_
    rotate_left
    · intro u hSu
      (go_simp) <;> (with_reducible rfl)
    change wpAnyH _ _ _ _ _ _ _ (Act.put _ (some 37) _) _
    simp only [Act.put, List.setIfInBounds_toArray, List.set_cons_zero, List.set_cons_succ]
    refine wpAnyH_take (i := 3) (v := ?_) rfl (by kernel_rfl) (by kernel_rfl) (by kernel_rfl) (fun _ _ _ h => h) (Or.inl ⟨by rfl, ?_⟩) hHeld ?_
    rotate_left
    · intro u hSu
      (go_simp) <;> (with_reducible rfl)
    change wpAnyH _ _ _ _ _ _ _ (Act.put _ (some 38) _) _
    simp only [Act.put, List.setIfInBounds_toArray, List.set_cons_zero, List.set_cons_succ]
    refine wpAnyH_take (i := 4) (v := ?_) rfl (by kernel_rfl) (by kernel_rfl) (by kernel_rfl) (fun _ _ _ h => h) (Or.inl ⟨by rfl, ?_⟩) hHeld ?_
    rotate_left
    · intro u hSu
      (go_simp) <;> (with_reducible rfl)
    change wpAnyH _ _ _ _ _ _ _ (Act.put _ (some 39) _) _
    simp only [Act.put, List.setIfInBounds_toArray, List.set_cons_zero, List.set_cons_succ]
    refine wpAnyH_take (i := 5) (v := ?_) rfl (by kernel_rfl) (by kernel_rfl) (by kernel_rfl) (fun _ _ _ h => h) (Or.inl ⟨by rfl, ?_⟩) hHeld ?_
    rotate_left
    · intro u hSu
      (go_simp) <;> (with_reducible rfl)
    change wpAnyH _ _ _ _ _ _ _ (Act.put _ (some 40) _) _
    simp only [Act.put, List.setIfInBounds_toArray, List.set_cons_zero, List.set_cons_succ]
    refine wpAnyH_take (i := 6) (v := ?_) rfl (by kernel_rfl) (by kernel_rfl) (by kernel_rfl) (fun _ _ _ h => h) (Or.inl ⟨by rfl, ?_⟩) hHeld ?_
    rotate_left
    · intro u hSu
      (go_simp) <;> (with_reducible rfl)
    change wpAnyH _ _ _ _ _ _ _ (Act.put _ (some 41) _) _
    simp only [Act.put, List.setIfInBounds_toArray, List.set_cons_zero, List.set_cons_succ]
    refine wpAnyH_take (i := 7) (v := ?_) rfl (by kernel_rfl) (by kernel_rfl) (by kernel_rfl) (fun _ _ _ h => h) (Or.inl ⟨by rfl, ?_⟩) hHeld ?_
    rotate_left
    · intro u hSu
      (go_simp) <;> (with_reducible rfl)
    change wpAnyH _ _ _ _ _ _ _ (Act.put _ (some 42) _) _
    simp only [Act.put, List.setIfInBounds_toArray, List.set_cons_zero, List.set_cons_succ]
    refine wpAnyH_take (i := 8) (v := ?_) rfl (by kernel_rfl) (by kernel_rfl) (by kernel_rfl) (fun _ _ _ h => h) (Or.inl ⟨by rfl, ?_⟩) hHeld ?_
    rotate_left
    · intro u hSu
      (go_simp) <;> (with_reducible rfl)
    change wpAnyH _ _ _ _ _ _ _ (Act.put _ (some 43) _) _
    simp only [Act.put, List.setIfInBounds_toArray, List.set_cons_zero, List.set_cons_succ]
    refine wpAnyH_take (i := 9) (v := ?_) rfl (by kernel_rfl) (by kernel_rfl) (by kernel_rfl) (fun _ _ _ h => h) (Or.inl ⟨by rfl, ?_⟩) hHeld ?_
    rotate_left
    · intro u hSu
      (go_simp) <;> (with_reducible rfl)
    change wpAnyH _ _ _ _ _ _ _ (Act.put _ (some 44) _) _
    simp only [Act.put, List.setIfInBounds_toArray, List.set_cons_zero, List.set_cons_succ]
    refine wpAnyH_take (i := 10) (v := ?_) rfl (by kernel_rfl) (by kernel_rfl) (by kernel_rfl) (fun _ _ _ h => h) (Or.inl ⟨by rfl, ?_⟩) hHeld ?_
    rotate_left
    · intro u hSu
      (go_simp) <;> (with_reducible rfl)
    change wpAnyH _ _ _ _ _ _ _ (Act.put _ (some 45) _) _
    simp only [Act.put, List.setIfInBounds_toArray, List.set_cons_zero, List.set_cons_succ]
    refine wpAnyH_take (i := 11) (v := ?_) rfl (by kernel_rfl) (by kernel_rfl) (by kernel_rfl) (fun _ _ _ h => h) (Or.inl ⟨by rfl, ?_⟩) hHeld ?_
    rotate_left
    · intro u hSu
      (go_simp) <;> (with_reducible rfl)
    change wpAnyH _ _ _ _ _ _ _ (Act.put _ (some 46) _) _
    simp only [Act.put, List.setIfInBounds_toArray, List.set_cons_zero, List.set_cons_succ]
    refine wpAnyH_take (i := 12) (v := undef) rfl (by kernel_rfl) (by kernel_rfl) (by kernel_rfl) (fun _ _ _ h => h) (Or.inr ⟨by rfl, rfl⟩) hHeld ?_
    change wpAnyH _ _ _ _ _ _ _ (Act.put _ (some 47) _) _
    simp only [Act.put, List.setIfInBounds_toArray, List.set_cons_zero, List.set_cons_succ]
    refine wpAnyH_take (i := 13) (v := undef) rfl (by kernel_rfl) (by kernel_rfl) (by kernel_rfl) (fun _ _ _ h => h) (Or.inr ⟨by rfl, rfl⟩) hHeld ?_
    change wpAnyH _ _ _ _ _ _ _ (Act.put _ (some 48) _) _
    simp only [Act.put, List.setIfInBounds_toArray, List.set_cons_zero, List.set_cons_succ]
    refine wpAnyH_take (i := 14) (v := ?_) rfl (by kernel_rfl) (by kernel_rfl) (by kernel_rfl) (fun _ _ _ h => h) (Or.inl ⟨by rfl, ?_⟩) hHeld ?_
    rotate_left
    · intro u hSu
      (go_simp) <;> (with_reducible rfl)
    change wpAnyH _ _ _ _ _ _ _ (Act.put _ (some 49) _) _
    simp only [Act.put, List.setIfInBounds_toArray, List.set_cons_zero, List.set_cons_succ]
    refine wpAnyH_take (i := 15) (v := ?_) rfl (by kernel_rfl) (by kernel_rfl) (by kernel_rfl) (fun _ _ _ h => h) (Or.inl ⟨by rfl, ?_⟩) hHeld ?_
    rotate_left
    · intro u hSu
      (go_simp) <;> (with_reducible rfl)
    change wpAnyH _ _ _ _ _ _ _ (Act.put _ (some 50) _) _
    simp only [Act.put, List.setIfInBounds_toArray, List.set_cons_zero, List.set_cons_succ]
    refine wpAnyH_take (i := 16) (v := ?_) rfl (by kernel_rfl) (by kernel_rfl) (by kernel_rfl) (fun _ _ _ h => h) (Or.inl ⟨by rfl, ?_⟩) hHeld ?_
    rotate_left
    · intro u hSu
      (go_simp) <;> (with_reducible rfl)
    change wpAnyH _ _ _ _ _ _ _ (Act.put _ (some 51) _) _
    simp only [Act.put, List.setIfInBounds_toArray, List.set_cons_zero, List.set_cons_succ]
    refine wpAnyH_take (i := 17) (v := kv z1) rfl (by kernel_rfl) (by kernel_rfl) (by kernel_rfl) (fun _ _ _ h => h) (yieldsIf_load_mid (by rfl) _ _ rfl _ _ rfl (z1.map (Value.int .u8)) _ (fun u hu => (F1.out u hu).range K1.out) Try.underlying24 rfl (info_keyl z1 K1.out)) hHeld ?_
    change wpAnyH _ _ _ _ _ _ _ (Act.put _ (some 52) _) _
    simp only [Act.put, List.setIfInBounds_toArray, List.set_cons_zero, List.set_cons_succ]
    refine wpAnyH_take (i := 19) (v := kv z1) rfl (by kernel_rfl) (by kernel_rfl) (by kernel_rfl) (fun _ _ _ h => h) (yieldsIf_load_mid (by rfl) _ _ rfl _ _ rfl (z1.map (Value.int .u8)) _ (fun u hu => (F1.out u hu).range K1.out) Try.underlying24 rfl (info_keyl z1 K1.out)) hHeld ?_
    change wpAnyH _ _ _ _ _ _ _ (Act.put _ (some 54) _) _
    simp only [Act.put, List.setIfInBounds_toArray, List.set_cons_zero, List.set_cons_succ]
    refine wpAnyH_ready (rs := [18]) (by kernel_rfl) (by simp) ?_
    refine AllReadyH.cons rfl (fun K hK => ?_) AllReadyH.nil
    go_simp
    go_at_call 12
    refine (D1.out _).mono ?_
    rintro e x1 ⟨rfl, hbx1⟩
    have B1 : Hid (Below u2.heap.size u2 x1) := hHeld.trans (hbx1.mono hHeld.size)
    clear hbx1
    refine hK.out _ _ ?_ (fun hHeld2 => ?_)
    · exact B1.out
    clear hK K hHeld
    have hHeld := hHeld2
    clear hHeld2
    refine wpAnyH_ready (rs := [20]) (by kernel_rfl) (by simp) ?_
    refine AllReadyH.cons rfl (fun K hK => ?_) AllReadyH.nil
    go_simp
    go_at_call 16
    refine (D2.out _).mono ?_
    rintro e x2 ⟨rfl, hbx2⟩
    have B2 : Hid (Below u2.heap.size u2 x2) := hHeld.trans (hbx2.mono hHeld.size)
    clear hbx2
    refine hK.out _ _ ?_ (fun hHeld2 => ?_)
    · exact B2.out
    clear hK K hHeld
    have hHeld := hHeld2
    clear hHeld2
    refine wpAnyH_take (i := 21) (v := ?_) rfl (by kernel_rfl) (by kernel_rfl) (by kernel_rfl) (fun _ _ _ h => h) (Or.inl ⟨by rfl, ?_⟩) hHeld ?_
    rotate_left
    · intro u hSu
      (go_simp) <;> (with_reducible rfl)
    change wpAnyH _ _ _ _ _ _ _ (Act.put _ (some 56) _) _
    simp only [Act.put, List.setIfInBounds_toArray, List.set_cons_zero, List.set_cons_succ]
    refine wpAnyH_take (i := 22) (v := ?_) rfl (by kernel_rfl) (by kernel_rfl) (by kernel_rfl) (fun _ _ _ h => h) (Or.inl ⟨by rfl, ?_⟩) hHeld ?_
    rotate_left
    · intro u hSu
      (go_simp) <;> (with_reducible rfl)
    change wpAnyH _ _ _ _ _ _ _ (Act.put _ (some 57) _) _
    simp only [Act.put, List.setIfInBounds_toArray, List.set_cons_zero, List.set_cons_succ]
    refine wpAnyH_take (i := 23) (v := ?_) rfl (by kernel_rfl) (by kernel_rfl) (by kernel_rfl) (fun _ _ _ h => h) (Or.inl ⟨by rfl, ?_⟩) hHeld ?_
    rotate_left
    · intro u hSu
      (go_simp) <;> (with_reducible rfl)
    change wpAnyH _ _ _ _ _ _ _ (Act.put _ (some 58) _) _
    simp only [Act.put, List.setIfInBounds_toArray, List.set_cons_zero, List.set_cons_succ]
    refine wpAnyH_take (i := 24) (v := kv z1) rfl (by kernel_rfl) (by kernel_rfl) (by kernel_rfl) (fun _ _ _ h => h) (yieldsIf_load_mid (by rfl) _ _ rfl _ _ rfl (z1.map (Value.int .u8)) _ (fun u hu => (F1.out u hu).range K1.out) Try.underlying24 rfl (info_keyl z1 K1.out)) hHeld ?_
    change wpAnyH _ _ _ _ _ _ _ (Act.put _ (some 59) _) _
    simp only [Act.put, List.setIfInBounds_toArray, List.set_cons_zero, List.set_cons_succ]
    refine wpAnyH_take (i := 26) (v := kv z1) rfl (by kernel_rfl) (by kernel_rfl) (by kernel_rfl) (fun _ _ _ h => h) (yieldsIf_load_mid (by rfl) _ _ rfl _ _ rfl (z1.map (Value.int .u8)) _ (fun u hu => (F1.out u hu).range K1.out) Try.underlying24 rfl (info_keyl z1 K1.out)) hHeld ?_
    change wpAnyH _ _ _ _ _ _ _ (Act.put _ (some 61) _) _
    simp only [Act.put, List.setIfInBounds_toArray, List.set_cons_zero, List.set_cons_succ]
    refine wpAnyH_ready (rs := [25]) (by kernel_rfl) (by simp) ?_
    refine AllReadyH.cons rfl (fun K hK => ?_) AllReadyH.nil
    go_simp
    go_at_call 13
    refine (D3.out _).mono ?_
    rintro e x3 ⟨rfl, hbx3⟩
    have B3 : Hid (Below u2.heap.size u2 x3) := hHeld.trans (hbx3.mono hHeld.size)
    clear hbx3
    refine hK.out _ _ ?_ (fun hHeld2 => ?_)
    · exact B3.out
    clear hK K hHeld
    have hHeld := hHeld2
    clear hHeld2
    refine wpAnyH_ready (rs := [27]) (by kernel_rfl) (by simp) ?_
    refine AllReadyH.cons rfl (fun K hK => ?_) AllReadyH.nil
    go_simp
    go_at_call 17
    refine (D4.out _).mono ?_
    rintro e x4 ⟨rfl, hbx4⟩
    have B4 : Hid (Below u2.heap.size u2 x4) := hHeld.trans (hbx4.mono hHeld.size)
    clear hbx4
    refine hK.out _ _ ?_ (fun hHeld2 => ?_)
    · exact B4.out
    clear hK K hHeld
    have hHeld := hHeld2
    clear hHeld2
    refine wpAnyH_take (i := 28) (v := ?_) rfl (by kernel_rfl) (by kernel_rfl) (by kernel_rfl) (fun _ _ _ h => h) (Or.inl ⟨by rfl, ?_⟩) hHeld ?_
    rotate_left
    · intro u hSu
      (go_simp) <;> (with_reducible rfl)
    change wpAnyH _ _ _ _ _ _ _ (Act.put _ (some 63) _) _
    simp only [Act.put, List.setIfInBounds_toArray, List.set_cons_zero, List.set_cons_succ]
    refine wpAnyH_take (i := 29) (v := ?_) rfl (by kernel_rfl) (by kernel_rfl) (by kernel_rfl) (fun _ _ _ h => h) (Or.inl ⟨by rfl, ?_⟩) hHeld ?_
    rotate_left
    · intro u hSu
      (go_simp) <;> (with_reducible rfl)
    change wpAnyH _ _ _ _ _ _ _ (Act.put _ (some 64) _) _
    simp only [Act.put, List.setIfInBounds_toArray, List.set_cons_zero, List.set_cons_succ]
    refine wpAnyH_take (i := 30) (v := ?_) rfl (by kernel_rfl) (by kernel_rfl) (by kernel_rfl) (fun _ _ _ h => h) (Or.inl ⟨by rfl, ?_⟩) hHeld ?_
    rotate_left
    · intro u hSu
      (go_simp) <;> (with_reducible rfl)
    change wpAnyH _ _ _ _ _ _ _ (Act.put _ (some 65) _) _
    simp only [Act.put, List.setIfInBounds_toArray, List.set_cons_zero, List.set_cons_succ]
    refine wpAnyH_take (i := 31) (v := kv z1) rfl (by kernel_rfl) (by kernel_rfl) (by kernel_rfl) (fun _ _ _ h => h) (yieldsIf_load_mid (by rfl) _ _ rfl _ _ rfl (z1.map (Value.int .u8)) _ (fun u hu => (F1.out u hu).range K1.out) Try.underlying24 rfl (info_keyl z1 K1.out)) hHeld ?_
    change wpAnyH _ _ _ _ _ _ _ (Act.put _ (some 66) _) _
    simp only [Act.put, List.setIfInBounds_toArray, List.set_cons_zero, List.set_cons_succ]
    refine wpAnyH_take (i := 32) (v := kv z2) rfl (by kernel_rfl) (by kernel_rfl) (by kernel_rfl) (fun _ _ _ h => h) (yieldsIf_load_mid (by rfl) _ _ rfl _ _ rfl (z2.map (Value.int .u8)) _ (fun u hu => (F2.out u hu).range K2.out) Try.underlying24 rfl (info_keyl z2 K2.out)) hHeld ?_
    change wpAnyH _ _ _ _ _ _ _ (Act.put _ (some 67) _) _
    simp only [Act.put, List.setIfInBounds_toArray, List.set_cons_zero, List.set_cons_succ]
    refine wpAnyH_take (i := 34) (v := kv z1) rfl (by kernel_rfl) (by kernel_rfl) (by kernel_rfl) (fun _ _ _ h => h) (yieldsIf_load_mid (by rfl) _ _ rfl _ _ rfl (z1.map (Value.int .u8)) _ (fun u hu => (F1.out u hu).range K1.out) Try.underlying24 rfl (info_keyl z1 K1.out)) hHeld ?_
    change wpAnyH _ _ _ _ _ _ _ (Act.put _ (some 69) _) _
    simp only [Act.put, List.setIfInBounds_toArray, List.set_cons_zero, List.set_cons_succ]
    refine wpAnyH_take (i := 35) (v := kv z2) rfl (by kernel_rfl) (by kernel_rfl) (by kernel_rfl) (fun _ _ _ h => h) (yieldsIf_load_mid (by rfl) _ _ rfl _ _ rfl (z2.map (Value.int .u8)) _ (fun u hu => (F2.out u hu).range K2.out) Try.underlying24 rfl (info_keyl z2 K2.out)) hHeld ?_
    change wpAnyH _ _ _ _ _ _ _ (Act.put _ (some 70) _) _
    simp only [Act.put, List.setIfInBounds_toArray, List.set_cons_zero, List.set_cons_succ]
    refine wpAnyH_ready (rs := [33]) (by kernel_rfl) (by simp) ?_
    refine AllReadyH.cons rfl (fun K hK => ?_) AllReadyH.nil
    go_simp
    go_at_call 18
    refine (D5.out _).mono ?_
    rintro e x5 ⟨rfl, hbx5⟩
    have B5 : Hid (Below u2.heap.size u2 x5) := hHeld.trans (hbx5.mono hHeld.size)
    clear hbx5
    refine hK.out _ _ ?_ (fun hHeld2 => ?_)
    · exact B5.out
    clear hK K hHeld
    have hHeld := hHeld2
    clear hHeld2
    refine wpAnyH_ready (rs := [36]) (by kernel_rfl) (by simp) ?_
    refine AllReadyH.cons rfl (fun K hK => ?_) AllReadyH.nil
    go_simp
    go_at_call 19
    refine (D6.out _).mono ?_
    rintro e x6 ⟨rfl, hbx6⟩
    have B6 : Hid (Below u2.heap.size u2 x6) := hHeld.trans (hbx6.mono hHeld.size)
    clear hbx6
    refine hK.out _ _ ?_ (fun hHeld2 => ?_)
    · exact B6.out
    clear hK K hHeld
    have hHeld := hHeld2
    clear hHeld2
    refine wpAnyH_take (i := 37) (v := ?_) rfl (by kernel_rfl) (by kernel_rfl) (by kernel_rfl) (fun _ _ _ h => h) (Or.inl ⟨by rfl, ?_⟩) hHeld ?_
    rotate_left
    · intro u hSu
      (go_simp) <;> (with_reducible rfl)
    change wpAnyH _ _ _ _ _ _ _ (Act.put _ (some 72) _) _
    simp only [Act.put, List.setIfInBounds_toArray, List.set_cons_zero, List.set_cons_succ]
    refine wpAnyH_take (i := 38) (v := ?_) rfl (by kernel_rfl) (by kernel_rfl) (by kernel_rfl) (fun _ _ _ h => h) (Or.inl ⟨by rfl, ?_⟩) hHeld ?_
    rotate_left
    · intro u hSu
      (go_simp) <;> (with_reducible rfl)
    change wpAnyH _ _ _ _ _ _ _ (Act.put _ (some 73) _) _
    simp only [Act.put, List.setIfInBounds_toArray, List.set_cons_zero, List.set_cons_succ]
    refine wpAnyH_take (i := 39) (v := ?_) rfl (by kernel_rfl) (by kernel_rfl) (by kernel_rfl) (fun _ _ _ h => h) (Or.inl ⟨by rfl, ?_⟩) hHeld ?_
    rotate_left
    · intro u hSu
      (go_simp) <;> (with_reducible rfl)
    change wpAnyH _ _ _ _ _ _ _ (Act.put _ (some 74) _) _
    simp only [Act.put, List.setIfInBounds_toArray, List.set_cons_zero, List.set_cons_succ]
    refine wpAnyH_take (i := 40) (v := kv z1) rfl (by kernel_rfl) (by kernel_rfl) (by kernel_rfl) (fun _ _ _ h => h) (yieldsIf_load_mid (by rfl) _ _ rfl _ _ rfl (z1.map (Value.int .u8)) _ (fun u hu => (F1.out u hu).range K1.out) Try.underlying24 rfl (info_keyl z1 K1.out)) hHeld ?_
    change wpAnyH _ _ _ _ _ _ _ (Act.put _ (some 75) _) _
    simp only [Act.put, List.setIfInBounds_toArray, List.set_cons_zero, List.set_cons_succ]
    refine wpAnyH_take (i := 41) (v := kv z2) rfl (by kernel_rfl) (by kernel_rfl) (by kernel_rfl) (fun _ _ _ h => h) (yieldsIf_load_mid (by rfl) _ _ rfl _ _ rfl (z2.map (Value.int .u8)) _ (fun u hu => (F2.out u hu).range K2.out) Try.underlying24 rfl (info_keyl z2 K2.out)) hHeld ?_
    change wpAnyH _ _ _ _ _ _ _ (Act.put _ (some 76) _) _
    simp only [Act.put, List.setIfInBounds_toArray, List.set_cons_zero, List.set_cons_succ]
    refine wpAnyH_take (i := 42) (v := kv z3) rfl (by kernel_rfl) (by kernel_rfl) (by kernel_rfl) (fun _ _ _ h => h) (yieldsIf_load_mid (by rfl) _ _ rfl _ _ rfl (z3.map (Value.int .u8)) _ (fun u hu => (F3.out u hu).range K3.out) Try.underlying24 rfl (info_keyl z3 K3.out)) hHeld ?_
    change wpAnyH _ _ _ _ _ _ _ (Act.put _ (some 77) _) _
    simp only [Act.put, List.setIfInBounds_toArray, List.set_cons_zero, List.set_cons_succ]
    refine wpAnyH_take (i := 44) (v := kv z1) rfl (by kernel_rfl) (by kernel_rfl) (by kernel_rfl) (fun _ _ _ h => h) (yieldsIf_load_mid (by rfl) _ _ rfl _ _ rfl (z1.map (Value.int .u8)) _ (fun u hu => (F1.out u hu).range K1.out) Try.underlying24 rfl (info_keyl z1 K1.out)) hHeld ?_
    change wpAnyH _ _ _ _ _ _ _ (Act.put _ (some 79) _) _
    simp only [Act.put, List.setIfInBounds_toArray, List.set_cons_zero, List.set_cons_succ]
    refine wpAnyH_take (i := 45) (v := kv z2) rfl (by kernel_rfl) (by kernel_rfl) (by kernel_rfl) (fun _ _ _ h => h) (yieldsIf_load_mid (by rfl) _ _ rfl _ _ rfl (z2.map (Value.int .u8)) _ (fun u hu => (F2.out u hu).range K2.out) Try.underlying24 rfl (info_keyl z2 K2.out)) hHeld ?_
    change wpAnyH _ _ _ _ _ _ _ (Act.put _ (some 80) _) _
    simp only [Act.put, List.setIfInBounds_toArray, List.set_cons_zero, List.set_cons_succ]
    refine wpAnyH_take (i := 46) (v := kv z3) rfl (by kernel_rfl) (by kernel_rfl) (by kernel_rfl) (fun _ _ _ h => h) (yieldsIf_load_mid (by rfl) _ _ rfl _ _ rfl (z3.map (Value.int .u8)) _ (fun u hu => (F3.out u hu).range K3.out) Try.underlying24 rfl (info_keyl z3 K3.out)) hHeld ?_
    change wpAnyH _ _ _ _ _ _ _ (Act.put _ (some 81) _) _
    simp only [Act.put, List.setIfInBounds_toArray, List.set_cons_zero, List.set_cons_succ]
    refine wpAnyH_ready (rs := [43]) (by kernel_rfl) (by simp) ?_
    refine AllReadyH.cons rfl (fun K hK => ?_) AllReadyH.nil
    go_simp
    go_at_call 14
    refine (D7.out _).mono ?_
    rintro e x7 ⟨rfl, hbx7⟩
    have B7 : Hid (Below u2.heap.size u2 x7) := hHeld.trans (hbx7.mono hHeld.size)
    clear hbx7
    refine hK.out _ _ ?_ (fun hHeld2 => ?_)
    · exact B7.out
    clear hK K hHeld
    have hHeld := hHeld2
    clear hHeld2
    refine wpAnyH_ready (rs := [47]) (by kernel_rfl) (by simp) ?_
    refine AllReadyH.cons rfl (fun K hK => ?_) AllReadyH.nil
    go_simp
    go_at_call 20
    refine (D8.out _).mono ?_
    rintro e x8 ⟨rfl, hbx8⟩
    have B8 : Hid (Below u2.heap.size u2 x8) := hHeld.trans (hbx8.mono hHeld.size)
    clear hbx8
    refine hK.out _ _ ?_ (fun hHeld2 => ?_)
    · exact B8.out
    clear hK K hHeld
    have hHeld := hHeld2
    clear hHeld2
    refine wpAnyH_take (i := 48) (v := ?_) rfl (by kernel_rfl) (by kernel_rfl) (by kernel_rfl) (fun _ _ _ h => h) (Or.inl ⟨by rfl, ?_⟩) hHeld ?_
    rotate_left
    · intro u hSu
      (go_simp) <;> (with_reducible rfl)
    change wpAnyH _ _ _ _ _ _ _ (Act.put _ (some 83) _) _
    simp only [Act.put, List.setIfInBounds_toArray, List.set_cons_zero, List.set_cons_succ]
    refine wpAnyH_take (i := 49) (v := ?_) rfl (by kernel_rfl) (by kernel_rfl) (by kernel_rfl) (fun _ _ _ h => h) (Or.inl ⟨by rfl, ?_⟩) hHeld ?_
    rotate_left
    · intro u hSu
      (go_simp) <;> (with_reducible rfl)
    change wpAnyH _ _ _ _ _ _ _ (Act.put _ (some 84) _) _
    simp only [Act.put, List.setIfInBounds_toArray, List.set_cons_zero, List.set_cons_succ]
    refine wpAnyH_take (i := 50) (v := ?_) rfl (by kernel_rfl) (by kernel_rfl) (by kernel_rfl) (fun _ _ _ h => h) (Or.inl ⟨by rfl, ?_⟩) hHeld ?_
    rotate_left
    · intro u hSu
      (go_simp) <;> (with_reducible rfl)
    change wpAnyH _ _ _ _ _ _ _ (Act.put _ (some 85) _) _
    simp only [Act.put, List.setIfInBounds_toArray, List.set_cons_zero, List.set_cons_succ]
    refine wpAnyH_take (i := 51) (v := kv z1) rfl (by kernel_rfl) (by kernel_rfl) (by kernel_rfl) (fun _ _ _ h => h) (yieldsIf_load_mid (by rfl) _ _ rfl _ _ rfl (z1.map (Value.int .u8)) _ (fun u hu => (F1.out u hu).range K1.out) Try.underlying24 rfl (info_keyl z1 K1.out)) hHeld ?_
    change wpAnyH _ _ _ _ _ _ _ (Act.put _ (some 86) _) _
    simp only [Act.put, List.setIfInBounds_toArray, List.set_cons_zero, List.set_cons_succ]
    refine wpAnyH_take (i := 53) (v := kv z1) rfl (by kernel_rfl) (by kernel_rfl) (by kernel_rfl) (fun _ _ _ h => h) (yieldsIf_load_mid (by rfl) _ _ rfl _ _ rfl (z1.map (Value.int .u8)) _ (fun u hu => (F1.out u hu).range K1.out) Try.underlying24 rfl (info_keyl z1 K1.out)) hHeld ?_
    change wpAnyH _ _ _ _ _ _ _ (Act.put _ (some 88) _) _
    simp only [Act.put, List.setIfInBounds_toArray, List.set_cons_zero, List.set_cons_succ]
    refine wpAnyH_ready (rs := [52]) (by kernel_rfl) (by simp) ?_
    refine AllReadyH.cons rfl (fun K hK => ?_) AllReadyH.nil
    go_simp
    go_at_call 21
    refine (D9.out _).mono ?_
    rintro e x9 ⟨rfl, hbx9⟩
    have B9 : Hid (Below u2.heap.size u2 x9) := hHeld.trans (hbx9.mono hHeld.size)
    clear hbx9
    refine hK.out _ _ ?_ (fun hHeld2 => ?_)
    · exact B9.out
    clear hK K hHeld
    have hHeld := hHeld2
    clear hHeld2
    refine wpAnyH_ready (rs := [54]) (by kernel_rfl) (by simp) ?_
    refine AllReadyH.cons rfl (fun K hK => ?_) AllReadyH.nil
    go_simp
    go_at_call 22
    refine (D10.out _).mono ?_
    rintro e x10 ⟨rfl, hbx10⟩
    have B10 : Hid (Below u2.heap.size u2 x10) := hHeld.trans (hbx10.mono hHeld.size)
    clear hbx10
    refine hK.out _ _ ?_ (fun hHeld2 => ?_)
    · exact B10.out
    clear hK K hHeld
    have hHeld := hHeld2
    clear hHeld2
    refine wpAnyH_take (i := 55) (v := ?_) rfl (by kernel_rfl) (by kernel_rfl) (by kernel_rfl) (fun _ _ _ h => h) (Or.inl ⟨by rfl, ?_⟩) hHeld ?_
    rotate_left
    · intro u hSu
      (go_simp) <;> (with_reducible rfl)
    change wpAnyH _ _ _ _ _ _ _ (Act.put _ (some 90) _) _
    simp only [Act.put, List.setIfInBounds_toArray, List.set_cons_zero, List.set_cons_succ]
    refine wpAnyH_take (i := 56) (v := ?_) rfl (by kernel_rfl) (by kernel_rfl) (by kernel_rfl) (fun _ _ _ h => h) (Or.inl ⟨by rfl, ?_⟩) hHeld ?_
    rotate_left
    · intro u hSu
      (go_simp) <;> (with_reducible rfl)
    change wpAnyH _ _ _ _ _ _ _ (Act.put _ (some 91) _) _
    simp only [Act.put, List.setIfInBounds_toArray, List.set_cons_zero, List.set_cons_succ]
    refine wpAnyH_take (i := 57) (v := ?_) rfl (by kernel_rfl) (by kernel_rfl) (by kernel_rfl) (fun _ _ _ h => h) (Or.inl ⟨by rfl, ?_⟩) hHeld ?_
    rotate_left
    · intro u hSu
      (go_simp) <;> (with_reducible rfl)
    change wpAnyH _ _ _ _ _ _ _ (Act.put _ (some 92) _) _
    simp only [Act.put, List.setIfInBounds_toArray, List.set_cons_zero, List.set_cons_succ]
    refine wpAnyH_take (i := 58) (v := ?_) rfl (by kernel_rfl) (by kernel_rfl) (by kernel_rfl) (fun _ _ _ h => h) (Or.inl ⟨by rfl, ?_⟩) hHeld ?_
    rotate_left
    · intro u hSu
      (go_simp) <;> (with_reducible rfl)
    change wpAnyH _ _ _ _ _ _ _ (Act.put _ (some 93) _) _
    simp only [Act.put, List.setIfInBounds_toArray, List.set_cons_zero, List.set_cons_succ]
    refine wpAnyH_take (i := 60) (v := ?_) rfl (by kernel_rfl) (by kernel_rfl) (by kernel_rfl) (fun _ _ _ h => h) (Or.inl ⟨by rfl, ?_⟩) hHeld ?_
    rotate_left
    · intro u hSu
      (go_simp) <;> (with_reducible rfl)
    change wpAnyH _ _ _ _ _ _ _ (Act.put _ (some 95) _) _
    simp only [Act.put, List.setIfInBounds_toArray, List.set_cons_zero, List.set_cons_succ]
    refine wpAnyH_ready (rs := [59]) (by kernel_rfl) (by simp) ?_
    refine AllReadyH.cons rfl (fun K hK => ?_) AllReadyH.nil
    go_simp
    go_at_call 11
    refine (S1.out _ (L2.out.past hHeld)).mono ?_
    rintro e x11 ⟨⟨p, c11, rfl, hk, -⟩, hbx⟩
    have P11 : Hid (KeysAt x11 p S) := hk; have B11 : Hid (Below u2.heap.size u2 x11) := hHeld.trans (hbx.mono hHeld.size); clear hk hbx
    refine hK.out _ _ ?_ (fun hHeld2 => ?_)
    · exact B11.out
    clear hK K hHeld
    have hHeld := hHeld2
    clear hHeld2
    refine wpAnyH_ready (rs := [61]) (by kernel_rfl) (by simp) ?_
    refine AllReadyH.cons rfl (fun K hK => ?_) AllReadyH.nil
    go_simp
    go_at_call 24
    refine (S2.out _ (L2.out.past hHeld)).mono ?_
    rintro e x12 ⟨⟨q, c12, rfl, hk⟩, hbx⟩
    have P12 : Hid (KeysAt x12 q S) := hk; have P13 : Hid (KeysAt x12 p S) := P11.out.past hbx; have B12 : Hid (Below u2.heap.size u2 x12) := hHeld.trans (hbx.mono hHeld.size); clear hk hbx
    refine hK.out _ _ ?_ (fun hHeld2 => ?_)
    · exact B12.out
    clear hK K hHeld
    have hHeld := hHeld2
    clear hHeld2
    refine wpAnyH_ready (rs := [62]) (by kernel_rfl) (by simp) ?_
    refine AllReadyH.cons rfl (fun K hK => ?_) AllReadyH.nil
    go_simp
    go_at_call 23
    refine (CK.out _ _ _ _ _ P13.out P12.out).mono ?_
    rintro e x13 ⟨rfl, hbx⟩
    have B13 : Hid (Below u2.heap.size u2 x13) := hHeld.trans (hbx.mono hHeld.size); clear hbx
    refine hK.out _ _ ?_ (fun hHeld2 => ?_)
    · exact B13.out
    clear hK K hHeld
    have hHeld := hHeld2
    clear hHeld2
    refine wpAnyH_take (i := 63) (v := ?_) rfl (by kernel_rfl) (by kernel_rfl) (by kernel_rfl) (fun _ _ _ h => h) (Or.inl ⟨by rfl, ?_⟩) hHeld ?_
    rotate_left
    · intro u hSu
      (go_simp) <;> (with_reducible rfl)
    change wpAnyH _ _ _ _ _ _ _ (Act.put _ (some 98) _) _
    simp only [Act.put, List.setIfInBounds_toArray, List.set_cons_zero, List.set_cons_succ]
    refine wpAnyH_take (i := 64) (v := ?_) rfl (by kernel_rfl) (by kernel_rfl) (by kernel_rfl) (fun _ _ _ h => h) (Or.inl ⟨by rfl, ?_⟩) hHeld ?_
    rotate_left
    · intro u hSu
      (go_simp) <;> (with_reducible rfl)
    change wpAnyH _ _ _ _ _ _ _ (Act.put _ (some 10) _) _
    simp only [Act.put, List.setIfInBounds_toArray, List.set_cons_zero, List.set_cons_succ]
    refine wpAnyH_done (by kernel_rfl) ?_ _
    refine NoPanic.normal ?_
    go_wp2
    go_ret
    exact ⟨rfl, T2.out.below.trans (B13.out.mono T2.out.below.size)⟩
  · rw [if_neg m1] at C1
    rw [show mayK xs = false by simpa using m1] at C2
    clear m1
    go_enter Try.func4, Try.ntmps4
    go_wp2_with (first
      | (have hgo := AW.out; clear hgo; go_at_call 9; refine (AW.out _).mono ?_; rintro e v1 ⟨rfl, hb1⟩; have T1 : Hid (Three3 w v1 z1 z2 z3) := H0.out.past hb1; have L1 : Hid (KeysAt v1 a4 z4) := HL0.out.past (H0.out.below.trans (hb1.mono H0.out.below.size)); clear hb1 AW)
      | (have hgo := T1.out; clear hgo; have hgo := C1.out; clear hgo; go_at_call 10; refine (C1.out _).mono ?_; rintro e v2 ⟨rfl, hb2⟩; have HM : Hid (Uno v1 (v2.alloc (.cells (kcs zeroK) 24)) v2.heap.size zeroK) := uno_made hb2 24; rw [zero_list] at HM; clear hb2 C1)
      | (have hgo := HM.out; clear hgo; refine wpList_store_keyU (by rfl) _ _ (by rfl) v2.heap.size 0 zeroK A (by rfl) (by rfl) HAK.out HM.out.key ?_; intro u1 hu; have H1 : Hid (Uno v1 u1 v2.heap.size A) := hu ▸ HM.out.store HAK.out; clear hu HM)
      | (have hgo := H1.out; clear hgo; have hgo := C2.out; clear hgo; go_at_call 15; refine (C2.out _).mono ?_; rintro e v3 ⟨rfl, hb3⟩; have HM2 : Hid (Uno u1 (v3.alloc (.cells (kcs zeroK) 24)) v3.heap.size zeroK) := uno_made hb3 24; rw [zero_list] at HM2; clear hb3 C2)
      | (have hgo := HM2.out; clear hgo; refine wpList_store_keyU (by rfl) _ _ (by rfl) v3.heap.size 0 zeroK A (by rfl) (by rfl) HAK.out HM2.out.key ?_; intro u2 hu; have H2 : Hid (Uno u1 u2 v3.heap.size A) := hu ▸ HM2.out.store HAK.out; have HV : Hid (Below v1.heap.size v1 u2) := H1.out.below.trans (H2.out.below.mono H1.out.below.size); have T2 : Hid (Three3 w u2 z1 z2 z3) := T1.out.past HV.out; have L2 : Hid (KeysAt u2 a4 z4) := L1.out.past HV.out; have FA : Hid (∀ u, Below u2.heap.size u2 u → KeyAt u v2.heap.size 0 A) := fun u hb => (H1.out.at H2.out.below).past hb; have FB : Hid (∀ u, Below u2.heap.size u2 u → KeyAt u v3.heap.size 0 A) := fun u hb => H2.out.at hb; have F1 : Hid (∀ u, Below u2.heap.size u2 u → KeyAt u w.heap.size 0 z1) := fun u hb => T2.out.k.past hb; have F2 : Hid (∀ u, Below u2.heap.size u2 u → KeyAt u (w.heap.size + 1) 0 z2) := fun u hb => T2.out.a.past hb; have F3 : Hid (∀ u, Below u2.heap.size u2 u → KeyAt u (w.heap.size + 2) 0 z3) := fun u hb => T2.out.b.past hb; have B0 : Hid (Below u2.heap.size u2 u2) := Below.refl _ _; clear hu HM2))
    refine wp_region_noPanic ?_
    refine wp_region_held_drew (S := fun u => Below u2.heap.size u2 u) (by kernel_rfl) ?_ (fun hHeld => ?_)
    · exact (Below.refl _ _).drew
    refine wpAnyH_take (i := 0) (v := kv A) rfl (by kernel_rfl) (by kernel_rfl) (by kernel_rfl) (fun _ _ _ h => h) (yieldsIf_load_mid (by rfl) _ _ rfl _ _ rfl (A.map (Value.int .u8)) _ (fun u hu => (FA.out u hu).range HAK.out) Try.underlying24 rfl (info_keyl A HAK.out)) hHeld ?_
    change wpAnyH _ _ _ _ _ _ _ (Act.put _ (some 35) _) _
    simp only [Act.put, List.setIfInBounds_toArray, List.set_cons_zero, List.set_cons_succ]
    refine wpAnyH_take (i := 1) (v := kv A) rfl (by kernel_rfl) (by kernel_rfl) (by kernel_rfl) (fun _ _ _ h => h) (yieldsIf_load_mid (by rfl) _ _ rfl _ _ rfl (A.map (Value.int .u8)) _ (fun u hu => (FB.out u hu).range HAK.out) Try.underlying24 rfl (info_keyl A HAK.out)) hHeld ?_
    change wpAnyH _ _ _ _ _ _ _ (Act.put _ (some 36) _) _
    simp only [Act.put, List.setIfInBounds_toArray, List.set_cons_zero, List.set_cons_succ]
    refine wpAnyH_take (i := 2) (v := ?_) rfl (by kernel_rfl) (by kernel_rfl) (by kernel_rfl) (fun _ _ _ h => h) (Or.inl ⟨by rfl, ?_⟩) hHeld ?_
    rotate_left
    · intro u hSu
      (go_simp) <;> (with_reducible rfl)
    change wpAnyH _ _ _ _ _ _ _ (Act.put _ (some 37) _) _
    simp only [Act.put, List.setIfInBounds_toArray, List.set_cons_zero, List.set_cons_succ]
    refine wpAnyH_take (i := 3) (v := ?_) rfl (by kernel_rfl) (by kernel_rfl) (by kernel_rfl) (fun _ _ _ h => h) (Or.inl ⟨by rfl, ?_⟩) hHeld ?_
    rotate_left
    · intro u hSu
      (go_simp) <;> (with_reducible rfl)
    change wpAnyH _ _ _ _ _ _ _ (Act.put _ (some 38) _) _
    simp only [Act.put, List.setIfInBounds_toArray, List.set_cons_zero, List.set_cons_succ]
    refine wpAnyH_take (i := 4) (v := ?_) rfl (by kernel_rfl) (by kernel_rfl) (by kernel_rfl) (fun _ _ _ h => h) (Or.inl ⟨by rfl, ?_⟩) hHeld ?_
    rotate_left
    · intro u hSu
      (go_simp) <;> (with_reducible rfl)
    change wpAnyH _ _ _ _ _ _ _ (Act.put _ (some 39) _) _
    simp only [Act.put, List.setIfInBounds_toArray, List.set_cons_zero, List.set_cons_succ]
    refine wpAnyH_take (i := 5) (v := ?_) rfl (by kernel_rfl) (by kernel_rfl) (by kernel_rfl) (fun _ _ _ h => h) (Or.inl ⟨by rfl, ?_⟩) hHeld ?_
    rotate_left
    · intro u hSu
      (go_simp) <;> (with_reducible rfl)
    change wpAnyH _ _ _ _ _ _ _ (Act.put _ (some 40) _) _
    simp only [Act.put, List.setIfInBounds_toArray, List.set_cons_zero, List.set_cons_succ]
    refine wpAnyH_take (i := 6) (v := ?_) rfl (by kernel_rfl) (by kernel_rfl) (by kernel_rfl) (fun _ _ _ h => h) (Or.inl ⟨by rfl, ?_⟩) hHeld ?_
    rotate_left
    · intro u hSu
      (go_simp) <;> (with_reducible rfl)
    change wpAnyH _ _ _ _ _ _ _ (Act.put _ (some 41) _) _
    simp only [Act.put, List.setIfInBounds_toArray, List.set_cons_zero, List.set_cons_succ]
    refine wpAnyH_take (i := 7) (v := ?_) rfl (by kernel_rfl) (by kernel_rfl) (by kernel_rfl) (fun _ _ _ h => h) (Or.inl ⟨by rfl, ?_⟩) hHeld ?_
    rotate_left
    · intro u hSu
      (go_simp) <;> (with_reducible rfl)
    change wpAnyH _ _ _ _ _ _ _ (Act.put _ (some 42) _) _
    simp only [Act.put, List.setIfInBounds_toArray, List.set_cons_zero, List.set_cons_succ]
    refine wpAnyH_take (i := 8) (v := ?_) rfl (by kernel_rfl) (by kernel_rfl) (by kernel_rfl) (fun _ _ _ h => h) (Or.inl ⟨by rfl, ?_⟩) hHeld ?_
    rotate_left
    · intro u hSu
      (go_simp) <;> (with_reducible rfl)
    change wpAnyH _ _ _ _ _ _ _ (Act.put _ (some 43) _) _
    simp only [Act.put, List.setIfInBounds_toArray, List.set_cons_zero, List.set_cons_succ]
    refine wpAnyH_take (i := 9) (v := ?_) rfl (by kernel_rfl) (by kernel_rfl) (by kernel_rfl) (fun _ _ _ h => h) (Or.inl ⟨by rfl, ?_⟩) hHeld ?_
    rotate_left
    · intro u hSu
      (go_simp) <;> (with_reducible rfl)
    change wpAnyH _ _ _ _ _ _ _ (Act.put _ (some 44) _) _
    simp only [Act.put, List.setIfInBounds_toArray, List.set_cons_zero, List.set_cons_succ]
    refine wpAnyH_take (i := 10) (v := ?_) rfl (by kernel_rfl) (by kernel_rfl) (by kernel_rfl) (fun _ _ _ h => h) (Or.inl ⟨by rfl, ?_⟩) hHeld ?_
    rotate_left
    · intro u hSu
      (go_simp) <;> (with_reducible rfl)
    change wpAnyH _ _ _ _ _ _ _ (Act.put _ (some 45) _) _
    simp only [Act.put, List.setIfInBounds_toArray, List.set_cons_zero, List.set_cons_succ]
    refine wpAnyH_take (i := 11) (v := ?_) rfl (by kernel_rfl) (by kernel_rfl) (by kernel_rfl) (fun _ _ _ h => h) (Or.inl ⟨by rfl, ?_⟩) hHeld ?_
    rotate_left
    · intro u hSu
      (go_simp) <;> (with_reducible rfl)
    change wpAnyH _ _ _ _ _ _ _ (Act.put _ (some 46) _) _
    simp only [Act.put, List.setIfInBounds_toArray, List.set_cons_zero, List.set_cons_succ]
    refine wpAnyH_take (i := 12) (v := ?_) rfl (by kernel_rfl) (by kernel_rfl) (by kernel_rfl) (fun _ _ _ h => h) (Or.inl ⟨by rfl, ?_⟩) hHeld ?_
    rotate_left
    · intro u hSu
      (go_simp) <;> (with_reducible rfl)
    change wpAnyH _ _ _ _ _ _ _ (Act.put _ (some 47) _) _
    simp only [Act.put, List.setIfInBounds_toArray, List.set_cons_zero, List.set_cons_succ]
    refine wpAnyH_take (i := 13) (v := ?_) rfl (by kernel_rfl) (by kernel_rfl) (by kernel_rfl) (fun _ _ _ h => h) (Or.inl ⟨by rfl, ?_⟩) hHeld ?_
    rotate_left
    · intro u hSu
      (go_simp) <;> (with_reducible rfl)
    change wpAnyH _ _ _ _ _ _ _ (Act.put _ (some 48) _) _
    simp only [Act.put, List.setIfInBounds_toArray, List.set_cons_zero, List.set_cons_succ]
    refine wpAnyH_take (i := 14) (v := ?_) rfl (by kernel_rfl) (by kernel_rfl) (by kernel_rfl) (fun _ _ _ h => h) (Or.inl ⟨by rfl, ?_⟩) hHeld ?_
    rotate_left
    · intro u hSu
      (go_simp) <;> (with_reducible rfl)
    change wpAnyH _ _ _ _ _ _ _ (Act.put _ (some 49) _) _
    simp only [Act.put, List.setIfInBounds_toArray, List.set_cons_zero, List.set_cons_succ]
    refine wpAnyH_take (i := 15) (v := ?_) rfl (by kernel_rfl) (by kernel_rfl) (by kernel_rfl) (fun _ _ _ h => h) (Or.inl ⟨by rfl, ?_⟩) hHeld ?_
    rotate_left
    · intro u hSu
      (go_simp) <;> (with_reducible rfl)
    change wpAnyH _ _ _ _ _ _ _ (Act.put _ (some 50) _) _
    simp only [Act.put, List.setIfInBounds_toArray, List.set_cons_zero, List.set_cons_succ]
    refine wpAnyH_take (i := 16) (v := ?_) rfl (by kernel_rfl) (by kernel_rfl) (by kernel_rfl) (fun _ _ _ h => h) (Or.inl ⟨by rfl, ?_⟩) hHeld ?_
    rotate_left
    · intro u hSu
      (go_simp) <;> (with_reducible rfl)
    change wpAnyH _ _ _ _ _ _ _ (Act.put _ (some 51) _) _
    simp only [Act.put, List.setIfInBounds_toArray, List.set_cons_zero, List.set_cons_succ]
    refine wpAnyH_take (i := 17) (v := kv z1) rfl (by kernel_rfl) (by kernel_rfl) (by kernel_rfl) (fun _ _ _ h => h) (yieldsIf_load_mid (by rfl) _ _ rfl _ _ rfl (z1.map (Value.int .u8)) _ (fun u hu => (F1.out u hu).range K1.out) Try.underlying24 rfl (info_keyl z1 K1.out)) hHeld ?_
    change wpAnyH _ _ _ _ _ _ _ (Act.put _ (some 52) _) _
    simp only [Act.put, List.setIfInBounds_toArray, List.set_cons_zero, List.set_cons_succ]
    refine wpAnyH_take (i := 19) (v := kv z1) rfl (by kernel_rfl) (by kernel_rfl) (by kernel_rfl) (fun _ _ _ h => h) (yieldsIf_load_mid (by rfl) _ _ rfl _ _ rfl (z1.map (Value.int .u8)) _ (fun u hu => (F1.out u hu).range K1.out) Try.underlying24 rfl (info_keyl z1 K1.out)) hHeld ?_
    change wpAnyH _ _ _ _ _ _ _ (Act.put _ (some 54) _) _
    simp only [Act.put, List.setIfInBounds_toArray, List.set_cons_zero, List.set_cons_succ]
    refine wpAnyH_ready (rs := [18]) (by kernel_rfl) (by simp) ?_
    refine AllReadyH.cons rfl (fun K hK => ?_) AllReadyH.nil
    go_simp
    go_at_call 12
    refine (D1.out _).mono ?_
    rintro e x1 ⟨rfl, hbx1⟩
    have B1 : Hid (Below u2.heap.size u2 x1) := hHeld.trans (hbx1.mono hHeld.size)
    clear hbx1
    refine hK.out _ _ ?_ (fun hHeld2 => ?_)
    · exact B1.out
    clear hK K hHeld
    have hHeld := hHeld2
    clear hHeld2
    refine wpAnyH_ready (rs := [20]) (by kernel_rfl) (by simp) ?_
    refine AllReadyH.cons rfl (fun K hK => ?_) AllReadyH.nil
    go_simp
    go_at_call 16
    refine (D2.out _).mono ?_
    rintro e x2 ⟨rfl, hbx2⟩
    have B2 : Hid (Below u2.heap.size u2 x2) := hHeld.trans (hbx2.mono hHeld.size)
    clear hbx2
    refine hK.out _ _ ?_ (fun hHeld2 => ?_)
    · exact B2.out
    clear hK K hHeld
    have hHeld := hHeld2
    clear hHeld2
    refine wpAnyH_take (i := 21) (v := ?_) rfl (by kernel_rfl) (by kernel_rfl) (by kernel_rfl) (fun _ _ _ h => h) (Or.inl ⟨by rfl, ?_⟩) hHeld ?_
    rotate_left
    · intro u hSu
      (go_simp) <;> (with_reducible rfl)
    change wpAnyH _ _ _ _ _ _ _ (Act.put _ (some 56) _) _
    simp only [Act.put, List.setIfInBounds_toArray, List.set_cons_zero, List.set_cons_succ]
    refine wpAnyH_take (i := 22) (v := ?_) rfl (by kernel_rfl) (by kernel_rfl) (by kernel_rfl) (fun _ _ _ h => h) (Or.inl ⟨by rfl, ?_⟩) hHeld ?_
    rotate_left
    · intro u hSu
      (go_simp) <;> (with_reducible rfl)
    change wpAnyH _ _ _ _ _ _ _ (Act.put _ (some 57) _) _
    simp only [Act.put, List.setIfInBounds_toArray, List.set_cons_zero, List.set_cons_succ]
    refine wpAnyH_take (i := 23) (v := ?_) rfl (by kernel_rfl) (by kernel_rfl) (by kernel_rfl) (fun _ _ _ h => h) (Or.inl ⟨by rfl, ?_⟩) hHeld ?_
    rotate_left
    · intro u hSu
      (go_simp) <;> (with_reducible rfl)
    change wpAnyH _ _ _ _ _ _ _ (Act.put _ (some 58) _) _
    simp only [Act.put, List.setIfInBounds_toArray, List.set_cons_zero, List.set_cons_succ]
    refine wpAnyH_take (i := 24) (v := kv z1) rfl (by kernel_rfl) (by kernel_rfl) (by kernel_rfl) (fun _ _ _ h => h) (yieldsIf_load_mid (by rfl) _ _ rfl _ _ rfl (z1.map (Value.int .u8)) _ (fun u hu => (F1.out u hu).range K1.out) Try.underlying24 rfl (info_keyl z1 K1.out)) hHeld ?_
    change wpAnyH _ _ _ _ _ _ _ (Act.put _ (some 59) _) _
    simp only [Act.put, List.setIfInBounds_toArray, List.set_cons_zero, List.set_cons_succ]
    refine wpAnyH_take (i := 26) (v := kv z1) rfl (by kernel_rfl) (by kernel_rfl) (by kernel_rfl) (fun _ _ _ h => h) (yieldsIf_load_mid (by rfl) _ _ rfl _ _ rfl (z1.map (Value.int .u8)) _ (fun u hu => (F1.out u hu).range K1.out) Try.underlying24 rfl (info_keyl z1 K1.out)) hHeld ?_
    change wpAnyH _ _ _ _ _ _ _ (Act.put _ (some 61) _) _
    simp only [Act.put, List.setIfInBounds_toArray, List.set_cons_zero, List.set_cons_succ]
    refine wpAnyH_ready (rs := [25]) (by kernel_rfl) (by simp) ?_
    refine AllReadyH.cons rfl (fun K hK => ?_) AllReadyH.nil
    go_simp
    go_at_call 13
    refine (D3.out _).mono ?_
    rintro e x3 ⟨rfl, hbx3⟩
    have B3 : Hid (Below u2.heap.size u2 x3) := hHeld.trans (hbx3.mono hHeld.size)
    clear hbx3
    refine hK.out _ _ ?_ (fun hHeld2 => ?_)
    · exact B3.out
    clear hK K hHeld
    have hHeld := hHeld2
    clear hHeld2
    refine wpAnyH_ready (rs := [27]) (by kernel_rfl) (by simp) ?_
    refine AllReadyH.cons rfl (fun K hK => ?_) AllReadyH.nil
    go_simp
    go_at_call 17
    refine (D4.out _).mono ?_
    rintro e x4 ⟨rfl, hbx4⟩
    have B4 : Hid (Below u2.heap.size u2 x4) := hHeld.trans (hbx4.mono hHeld.size)
    clear hbx4
    refine hK.out _ _ ?_ (fun hHeld2 => ?_)
    · exact B4.out
    clear hK K hHeld
    have hHeld := hHeld2
    clear hHeld2
    refine wpAnyH_take (i := 28) (v := ?_) rfl (by kernel_rfl) (by kernel_rfl) (by kernel_rfl) (fun _ _ _ h => h) (Or.inl ⟨by rfl, ?_⟩) hHeld ?_
    rotate_left
    · intro u hSu
      (go_simp) <;> (with_reducible rfl)
    change wpAnyH _ _ _ _ _ _ _ (Act.put _ (some 63) _) _
    simp only [Act.put, List.setIfInBounds_toArray, List.set_cons_zero, List.set_cons_succ]
    refine wpAnyH_take (i := 29) (v := ?_) rfl (by kernel_rfl) (by kernel_rfl) (by kernel_rfl) (fun _ _ _ h => h) (Or.inl ⟨by rfl, ?_⟩) hHeld ?_
    rotate_left
    · intro u hSu
      (go_simp) <;> (with_reducible rfl)
    change wpAnyH _ _ _ _ _ _ _ (Act.put _ (some 64) _) _
    simp only [Act.put, List.setIfInBounds_toArray, List.set_cons_zero, List.set_cons_succ]
    refine wpAnyH_take (i := 30) (v := ?_) rfl (by kernel_rfl) (by kernel_rfl) (by kernel_rfl) (fun _ _ _ h => h) (Or.inl ⟨by rfl, ?_⟩) hHeld ?_
    rotate_left
    · intro u hSu
      (go_simp) <;> (with_reducible rfl)
    change wpAnyH _ _ _ _ _ _ _ (Act.put _ (some 65) _) _
    simp only [Act.put, List.setIfInBounds_toArray, List.set_cons_zero, List.set_cons_succ]
    refine wpAnyH_take (i := 31) (v := kv z1) rfl (by kernel_rfl) (by kernel_rfl) (by kernel_rfl) (fun _ _ _ h => h) (yieldsIf_load_mid (by rfl) _ _ rfl _ _ rfl (z1.map (Value.int .u8)) _ (fun u hu => (F1.out u hu).range K1.out) Try.underlying24 rfl (info_keyl z1 K1.out)) hHeld ?_
    change wpAnyH _ _ _ _ _ _ _ (Act.put _ (some 66) _) _
    simp only [Act.put, List.setIfInBounds_toArray, List.set_cons_zero, List.set_cons_succ]
    refine wpAnyH_take (i := 32) (v := kv z2) rfl (by kernel_rfl) (by kernel_rfl) (by kernel_rfl) (fun _ _ _ h => h) (yieldsIf_load_mid (by rfl) _ _ rfl _ _ rfl (z2.map (Value.int .u8)) _ (fun u hu => (F2.out u hu).range K2.out) Try.underlying24 rfl (info_keyl z2 K2.out)) hHeld ?_
    change wpAnyH _ _ _ _ _ _ _ (Act.put _ (some 67) _) _
    simp only [Act.put, List.setIfInBounds_toArray, List.set_cons_zero, List.set_cons_succ]
    refine wpAnyH_take (i := 34) (v := kv z1) rfl (by kernel_rfl) (by kernel_rfl) (by kernel_rfl) (fun _ _ _ h => h) (yieldsIf_load_mid (by rfl) _ _ rfl _ _ rfl (z1.map (Value.int .u8)) _ (fun u hu => (F1.out u hu).range K1.out) Try.underlying24 rfl (info_keyl z1 K1.out)) hHeld ?_
    change wpAnyH _ _ _ _ _ _ _ (Act.put _ (some 69) _) _
    simp only [Act.put, List.setIfInBounds_toArray, List.set_cons_zero, List.set_cons_succ]
    refine wpAnyH_take (i := 35) (v := kv z2) rfl (by kernel_rfl) (by kernel_rfl) (by kernel_rfl) (fun _ _ _ h => h) (yieldsIf_load_mid (by rfl) _ _ rfl _ _ rfl (z2.map (Value.int .u8)) _ (fun u hu => (F2.out u hu).range K2.out) Try.underlying24 rfl (info_keyl z2 K2.out)) hHeld ?_
    change wpAnyH _ _ _ _ _ _ _ (Act.put _ (some 70) _) _
    simp only [Act.put, List.setIfInBounds_toArray, List.set_cons_zero, List.set_cons_succ]
    refine wpAnyH_ready (rs := [33]) (by kernel_rfl) (by simp) ?_
    refine AllReadyH.cons rfl (fun K hK => ?_) AllReadyH.nil
    go_simp
    go_at_call 18
    refine (D5.out _).mono ?_
    rintro e x5 ⟨rfl, hbx5⟩
    have B5 : Hid (Below u2.heap.size u2 x5) := hHeld.trans (hbx5.mono hHeld.size)
    clear hbx5
    refine hK.out _ _ ?_ (fun hHeld2 => ?_)
    · exact B5.out
    clear hK K hHeld
    have hHeld := hHeld2
    clear hHeld2
    refine wpAnyH_ready (rs := [36]) (by kernel_rfl) (by simp) ?_
    refine AllReadyH.cons rfl (fun K hK => ?_) AllReadyH.nil
    go_simp
    go_at_call 19
    refine (D6.out _).mono ?_
    rintro e x6 ⟨rfl, hbx6⟩
    have B6 : Hid (Below u2.heap.size u2 x6) := hHeld.trans (hbx6.mono hHeld.size)
    clear hbx6
    refine hK.out _ _ ?_ (fun hHeld2 => ?_)
    · exact B6.out
    clear hK K hHeld
    have hHeld := hHeld2
    clear hHeld2
    refine wpAnyH_take (i := 37) (v := ?_) rfl (by kernel_rfl) (by kernel_rfl) (by kernel_rfl) (fun _ _ _ h => h) (Or.inl ⟨by rfl, ?_⟩) hHeld ?_
    rotate_left
    · intro u hSu
      (go_simp) <;> (with_reducible rfl)
    change wpAnyH _ _ _ _ _ _ _ (Act.put _ (some 72) _) _
    simp only [Act.put, List.setIfInBounds_toArray, List.set_cons_zero, List.set_cons_succ]
    refine wpAnyH_take (i := 38) (v := ?_) rfl (by kernel_rfl) (by kernel_rfl) (by kernel_rfl) (fun _ _ _ h => h) (Or.inl ⟨by rfl, ?_⟩) hHeld ?_
    rotate_left
    · intro u hSu
      (go_simp) <;> (with_reducible rfl)
    change wpAnyH _ _ _ _ _ _ _ (Act.put _ (some 73) _) _
    simp only [Act.put, List.setIfInBounds_toArray, List.set_cons_zero, List.set_cons_succ]
    refine wpAnyH_take (i := 39) (v := ?_) rfl (by kernel_rfl) (by kernel_rfl) (by kernel_rfl) (fun _ _ _ h => h) (Or.inl ⟨by rfl, ?_⟩) hHeld ?_
    rotate_left
    · intro u hSu
      (go_simp) <;> (with_reducible rfl)
    change wpAnyH _ _ _ _ _ _ _ (Act.put _ (some 74) _) _
    simp only [Act.put, List.setIfInBounds_toArray, List.set_cons_zero, List.set_cons_succ]
    refine wpAnyH_take (i := 40) (v := kv z1) rfl (by kernel_rfl) (by kernel_rfl) (by kernel_rfl) (fun _ _ _ h => h) (yieldsIf_load_mid (by rfl) _ _ rfl _ _ rfl (z1.map (Value.int .u8)) _ (fun u hu => (F1.out u hu).range K1.out) Try.underlying24 rfl (info_keyl z1 K1.out)) hHeld ?_
    change wpAnyH _ _ _ _ _ _ _ (Act.put _ (some 75) _) _
    simp only [Act.put, List.setIfInBounds_toArray, List.set_cons_zero, List.set_cons_succ]
    refine wpAnyH_take (i := 41) (v := kv z2) rfl (by kernel_rfl) (by kernel_rfl) (by kernel_rfl) (fun _ _ _ h => h) (yieldsIf_load_mid (by rfl) _ _ rfl _ _ rfl (z2.map (Value.int .u8)) _ (fun u hu => (F2.out u hu).range K2.out) Try.underlying24 rfl (info_keyl z2 K2.out)) hHeld ?_
    change wpAnyH _ _ _ _ _ _ _ (Act.put _ (some 76) _) _
    simp only [Act.put, List.setIfInBounds_toArray, List.set_cons_zero, List.set_cons_succ]
    refine wpAnyH_take (i := 42) (v := kv z3) rfl (by kernel_rfl) (by kernel_rfl) (by kernel_rfl) (fun _ _ _ h => h) (yieldsIf_load_mid (by rfl) _ _ rfl _ _ rfl (z3.map (Value.int .u8)) _ (fun u hu => (F3.out u hu).range K3.out) Try.underlying24 rfl (info_keyl z3 K3.out)) hHeld ?_
    change wpAnyH _ _ _ _ _ _ _ (Act.put _ (some 77) _) _
    simp only [Act.put, List.setIfInBounds_toArray, List.set_cons_zero, List.set_cons_succ]
    refine wpAnyH_take (i := 44) (v := kv z1) rfl (by kernel_rfl) (by kernel_rfl) (by kernel_rfl) (fun _ _ _ h => h) (yieldsIf_load_mid (by rfl) _ _ rfl _ _ rfl (z1.map (Value.int .u8)) _ (fun u hu => (F1.out u hu).range K1.out) Try.underlying24 rfl (info_keyl z1 K1.out)) hHeld ?_
    change wpAnyH _ _ _ _ _ _ _ (Act.put _ (some 79) _) _
    simp only [Act.put, List.setIfInBounds_toArray, List.set_cons_zero, List.set_cons_succ]
    refine wpAnyH_take (i := 45) (v := kv z2) rfl (by kernel_rfl) (by kernel_rfl) (by kernel_rfl) (fun _ _ _ h => h) (yieldsIf_load_mid (by rfl) _ _ rfl _ _ rfl (z2.map (Value.int .u8)) _ (fun u hu => (F2.out u hu).range K2.out) Try.underlying24 rfl (info_keyl z2 K2.out)) hHeld ?_
    change wpAnyH _ _ _ _ _ _ _ (Act.put _ (some 80) _) _
    simp only [Act.put, List.setIfInBounds_toArray, List.set_cons_zero, List.set_cons_succ]
    refine wpAnyH_take (i := 46) (v := kv z3) rfl (by kernel_rfl) (by kernel_rfl) (by kernel_rfl) (fun _ _ _ h => h) (yieldsIf_load_mid (by rfl) _ _ rfl _ _ rfl (z3.map (Value.int .u8)) _ (fun u hu => (F3.out u hu).range K3.out) Try.underlying24 rfl (info_keyl z3 K3.out)) hHeld ?_
    change wpAnyH _ _ _ _ _ _ _ (Act.put _ (some 81) _) _
    simp only [Act.put, List.setIfInBounds_toArray, List.set_cons_zero, List.set_cons_succ]
    refine wpAnyH_ready (rs := [43]) (by kernel_rfl) (by simp) ?_
    refine AllReadyH.cons rfl (fun K hK => ?_) AllReadyH.nil
    go_simp
    go_at_call 14
    refine (D7.out _).mono ?_
    rintro e x7 ⟨rfl, hbx7⟩
    have B7 : Hid (Below u2.heap.size u2 x7) := hHeld.trans (hbx7.mono hHeld.size)
    clear hbx7
    refine hK.out _ _ ?_ (fun hHeld2 => ?_)
    · exact B7.out
    clear hK K hHeld
    have hHeld := hHeld2
    clear hHeld2
    refine wpAnyH_ready (rs := [47]) (by kernel_rfl) (by simp) ?_
    refine AllReadyH.cons rfl (fun K hK => ?_) AllReadyH.nil
    go_simp
    go_at_call 20
    refine (D8.out _).mono ?_
    rintro e x8 ⟨rfl, hbx8⟩
    have B8 : Hid (Below u2.heap.size u2 x8) := hHeld.trans (hbx8.mono hHeld.size)
    clear hbx8
    refine hK.out _ _ ?_ (fun hHeld2 => ?_)
    · exact B8.out
    clear hK K hHeld
    have hHeld := hHeld2
    clear hHeld2
    refine wpAnyH_take (i := 48) (v := ?_) rfl (by kernel_rfl) (by kernel_rfl) (by kernel_rfl) (fun _ _ _ h => h) (Or.inl ⟨by rfl, ?_⟩) hHeld ?_
    rotate_left
    · intro u hSu
      (go_simp) <;> (with_reducible rfl)
    change wpAnyH _ _ _ _ _ _ _ (Act.put _ (some 83) _) _
    simp only [Act.put, List.setIfInBounds_toArray, List.set_cons_zero, List.set_cons_succ]
    refine wpAnyH_take (i := 49) (v := ?_) rfl (by kernel_rfl) (by kernel_rfl) (by kernel_rfl) (fun _ _ _ h => h) (Or.inl ⟨by rfl, ?_⟩) hHeld ?_
    rotate_left
    · intro u hSu
      (go_simp) <;> (with_reducible rfl)
    change wpAnyH _ _ _ _ _ _ _ (Act.put _ (some 84) _) _
    simp only [Act.put, List.setIfInBounds_toArray, List.set_cons_zero, List.set_cons_succ]
    refine wpAnyH_take (i := 50) (v := ?_) rfl (by kernel_rfl) (by kernel_rfl) (by kernel_rfl) (fun _ _ _ h => h) (Or.inl ⟨by rfl, ?_⟩) hHeld ?_
    rotate_left
    · intro u hSu
      (go_simp) <;> (with_reducible rfl)
    change wpAnyH _ _ _ _ _ _ _ (Act.put _ (some 85) _) _
    simp only [Act.put, List.setIfInBounds_toArray, List.set_cons_zero, List.set_cons_succ]
    refine wpAnyH_take (i := 51) (v := kv z1) rfl (by kernel_rfl) (by kernel_rfl) (by kernel_rfl) (fun _ _ _ h => h) (yieldsIf_load_mid (by rfl) _ _ rfl _ _ rfl (z1.map (Value.int .u8)) _ (fun u hu => (F1.out u hu).range K1.out) Try.underlying24 rfl (info_keyl z1 K1.out)) hHeld ?_
    change wpAnyH _ _ _ _ _ _ _ (Act.put _ (some 86) _) _
    simp only [Act.put, List.setIfInBounds_toArray, List.set_cons_zero, List.set_cons_succ]
    refine wpAnyH_take (i := 53) (v := kv z1) rfl (by kernel_rfl) (by kernel_rfl) (by kernel_rfl) (fun _ _ _ h => h) (yieldsIf_load_mid (by rfl) _ _ rfl _ _ rfl (z1.map (Value.int .u8)) _ (fun u hu => (F1.out u hu).range K1.out) Try.underlying24 rfl (info_keyl z1 K1.out)) hHeld ?_
    change wpAnyH _ _ _ _ _ _ _ (Act.put _ (some 88) _) _
    simp only [Act.put, List.setIfInBounds_toArray, List.set_cons_zero, List.set_cons_succ]
    refine wpAnyH_ready (rs := [52]) (by kernel_rfl) (by simp) ?_
    refine AllReadyH.cons rfl (fun K hK => ?_) AllReadyH.nil
    go_simp
    go_at_call 21
    refine (D9.out _).mono ?_
    rintro e x9 ⟨rfl, hbx9⟩
    have B9 : Hid (Below u2.heap.size u2 x9) := hHeld.trans (hbx9.mono hHeld.size)
    clear hbx9
    refine hK.out _ _ ?_ (fun hHeld2 => ?_)
    · exact B9.out
    clear hK K hHeld
    have hHeld := hHeld2
    clear hHeld2
    refine wpAnyH_ready (rs := [54]) (by kernel_rfl) (by simp) ?_
    refine AllReadyH.cons rfl (fun K hK => ?_) AllReadyH.nil
    go_simp
    go_at_call 22
    refine (D10.out _).mono ?_
    rintro e x10 ⟨rfl, hbx10⟩
    have B10 : Hid (Below u2.heap.size u2 x10) := hHeld.trans (hbx10.mono hHeld.size)
    clear hbx10
    refine hK.out _ _ ?_ (fun hHeld2 => ?_)
    · exact B10.out
    clear hK K hHeld
    have hHeld := hHeld2
    clear hHeld2
    refine wpAnyH_take (i := 55) (v := ?_) rfl (by kernel_rfl) (by kernel_rfl) (by kernel_rfl) (fun _ _ _ h => h) (Or.inl ⟨by rfl, ?_⟩) hHeld ?_
    rotate_left
    · intro u hSu
      (go_simp) <;> (with_reducible rfl)
    change wpAnyH _ _ _ _ _ _ _ (Act.put _ (some 90) _) _
    simp only [Act.put, List.setIfInBounds_toArray, List.set_cons_zero, List.set_cons_succ]
    refine wpAnyH_take (i := 56) (v := ?_) rfl (by kernel_rfl) (by kernel_rfl) (by kernel_rfl) (fun _ _ _ h => h) (Or.inl ⟨by rfl, ?_⟩) hHeld ?_
    rotate_left
    · intro u hSu
      (go_simp) <;> (with_reducible rfl)
    change wpAnyH _ _ _ _ _ _ _ (Act.put _ (some 91) _) _
    simp only [Act.put, List.setIfInBounds_toArray, List.set_cons_zero, List.set_cons_succ]
    refine wpAnyH_take (i := 57) (v := ?_) rfl (by kernel_rfl) (by kernel_rfl) (by kernel_rfl) (fun _ _ _ h => h) (Or.inl ⟨by rfl, ?_⟩) hHeld ?_
    rotate_left
    · intro u hSu
      (go_simp) <;> (with_reducible rfl)
    change wpAnyH _ _ _ _ _ _ _ (Act.put _ (some 92) _) _
    simp only [Act.put, List.setIfInBounds_toArray, List.set_cons_zero, List.set_cons_succ]
    refine wpAnyH_take (i := 58) (v := ?_) rfl (by kernel_rfl) (by kernel_rfl) (by kernel_rfl) (fun _ _ _ h => h) (Or.inl ⟨by rfl, ?_⟩) hHeld ?_
    rotate_left
    · intro u hSu
      (go_simp) <;> (with_reducible rfl)
    change wpAnyH _ _ _ _ _ _ _ (Act.put _ (some 93) _) _
    simp only [Act.put, List.setIfInBounds_toArray, List.set_cons_zero, List.set_cons_succ]
    refine wpAnyH_take (i := 60) (v := ?_) rfl (by kernel_rfl) (by kernel_rfl) (by kernel_rfl) (fun _ _ _ h => h) (Or.inl ⟨by rfl, ?_⟩) hHeld ?_
    rotate_left
    · intro u hSu
      (go_simp) <;> (with_reducible rfl)
    change wpAnyH _ _ _ _ _ _ _ (Act.put _ (some 95) _) _
    simp only [Act.put, List.setIfInBounds_toArray, List.set_cons_zero, List.set_cons_succ]
    refine wpAnyH_ready (rs := [59]) (by kernel_rfl) (by simp) ?_
    refine AllReadyH.cons rfl (fun K hK => ?_) AllReadyH.nil
    go_simp
    go_at_call 11
    refine (S1.out _ (L2.out.past hHeld)).mono ?_
    rintro e x11 ⟨⟨p, c11, rfl, hk, -⟩, hbx⟩
    have P11 : Hid (KeysAt x11 p S) := hk; have B11 : Hid (Below u2.heap.size u2 x11) := hHeld.trans (hbx.mono hHeld.size); clear hk hbx
    refine hK.out _ _ ?_ (fun hHeld2 => ?_)
    · exact B11.out
    clear hK K hHeld
    have hHeld := hHeld2
    clear hHeld2
    refine wpAnyH_ready (rs := [61]) (by kernel_rfl) (by simp) ?_
    refine AllReadyH.cons rfl (fun K hK => ?_) AllReadyH.nil
    go_simp
    go_at_call 24
    refine (S2.out _ (L2.out.past hHeld)).mono ?_
    rintro e x12 ⟨⟨q, c12, rfl, hk⟩, hbx⟩
    have P12 : Hid (KeysAt x12 q S) := hk; have P13 : Hid (KeysAt x12 p S) := P11.out.past hbx; have B12 : Hid (Below u2.heap.size u2 x12) := hHeld.trans (hbx.mono hHeld.size); clear hk hbx
    refine hK.out _ _ ?_ (fun hHeld2 => ?_)
    · exact B12.out
    clear hK K hHeld
    have hHeld := hHeld2
    clear hHeld2
    refine wpAnyH_ready (rs := [62]) (by kernel_rfl) (by simp) ?_
    refine AllReadyH.cons rfl (fun K hK => ?_) AllReadyH.nil
    go_simp
    go_at_call 23
    refine (CK.out _ _ _ _ _ P13.out P12.out).mono ?_
    rintro e x13 ⟨rfl, hbx⟩
    have B13 : Hid (Below u2.heap.size u2 x13) := hHeld.trans (hbx.mono hHeld.size); clear hbx
    refine hK.out _ _ ?_ (fun hHeld2 => ?_)
    · exact B13.out
    clear hK K hHeld
    have hHeld := hHeld2
    clear hHeld2
    refine wpAnyH_take (i := 63) (v := ?_) rfl (by kernel_rfl) (by kernel_rfl) (by kernel_rfl) (fun _ _ _ h => h) (Or.inl ⟨by rfl, ?_⟩) hHeld ?_
    rotate_left
    · intro u hSu
      (go_simp) <;> (with_reducible rfl)
    change wpAnyH _ _ _ _ _ _ _ (Act.put _ (some 98) _) _
    simp only [Act.put, List.setIfInBounds_toArray, List.set_cons_zero, List.set_cons_succ]
    refine wpAnyH_take (i := 64) (v := ?_) rfl (by kernel_rfl) (by kernel_rfl) (by kernel_rfl) (fun _ _ _ h => h) (Or.inl ⟨by rfl, ?_⟩) hHeld ?_
    rotate_left
    · intro u hSu
      (go_simp) <;> (with_reducible rfl)
    change wpAnyH _ _ _ _ _ _ _ (Act.put _ (some 10) _) _
    simp only [Act.put, List.setIfInBounds_toArray, List.set_cons_zero, List.set_cons_succ]
    refine wpAnyH_done (by kernel_rfl) ?_ _
    refine NoPanic.normal ?_
    go_wp2
    go_ret
    exact ⟨rfl, T2.out.below.trans (B13.out.mono T2.out.below.size)⟩

set_option maxRecDepth 100000 in
theorem lifted (os : Os) (started : os.Started) (H : Type) (enc : TypeId × Value → H) :
    ReturnsInHanded {} Try.checked os 4 .any (Rows.keySaysSpec.pre6 enc Try.prog Try.f4 Rows.keySaysRow.domain false) (Rows.keySaysSpec.post enc Try.prog Try.f4 false true false false) := by
  refine returnsInHanded_of_change (C := Try.checked) own started (by kernel_rfl) Try.func4
    (ChangeSpec.witness6 (enc := enc) (C := Try.checked) false ⟨#[], #[.string ⟨#[]⟩, .agg #[.int .u8 0, .int .u8 0, .int .u8 0, .int .u8 0, .int .u8 0, .int .u8 0, .int .u8 0, .int .u8 0, .int .u8 0, .int .u8 0, .int .u8 0, .int .u8 0, .int .u8 0, .int .u8 0, .int .u8 0, .int .u8 0], .agg #[.int .u8 0, .int .u8 0, .int .u8 0, .int .u8 0, .int .u8 0, .int .u8 0, .int .u8 0, .int .u8 0, .int .u8 0, .int .u8 0, .int .u8 0, .int .u8 0, .int .u8 0, .int .u8 0, .int .u8 0, .int .u8 0], .agg #[.int .u8 0, .int .u8 0, .int .u8 0, .int .u8 0, .int .u8 0, .int .u8 0, .int .u8 0, .int .u8 0, .int .u8 0, .int .u8 0, .int .u8 0, .int .u8 0, .int .u8 0, .int .u8 0, .int .u8 0, .int .u8 0], .slice none 0 0], []⟩ 8 (by kernel_rfl) (by kernel_rfl) (by kernel_rfl) (by kernel_rfl)) ?_
  intro W base args ds gs before hval0 hW hcnd _
  have hval : ∀ (j : Nat) t v, Try.f4.params[j]? = some t → args[j]? = some v → Value.okWide Try.prog W .any base t v := hval0
  have hW' := hW
  obtain ⟨p, q, hA0, hV, rfl, hfz, hnd⟩ := hW
  have hA : DataW.TrodAll enc Try.prog W 0 (fun _ => true) true Try.f4.params.toList args.toList ds p := hA0
  rw [Try.params4] at hA hval
  obtain ⟨v0, vs0, d0, ds0, p0, q0, hargs, rfl, rfl, h0, r0⟩ := trodAll_cons hA
  obtain ⟨v1, vs1, d1, ds1, p1, q1, rfl, rfl, rfl, h1, r1⟩ := trodAll_cons r0
  obtain ⟨v2, vs2, d2, ds2, p2, q2, rfl, rfl, rfl, h2, r2⟩ := trodAll_cons r1
  obtain ⟨v3, vs3, d3, ds3, p3, q3, rfl, rfl, rfl, h3, r3⟩ := trodAll_cons r2
  obtain ⟨v4, vs4, d4, ds4, p4, q4, rfl, rfl, rfl, h4, r4⟩ := trodAll_cons r3
  obtain ⟨rfl, rfl, rfl⟩ := trodAll_nil r4
  obtain rfl : args = #[v0, v1, v2, v3, v4] := by cases args; simp_all
  obtain ⟨rfl, rfl⟩ := trodVars_none hV
  have k0 := h0
  have lt0 : ∀ x ∈ p0, x.block < W.heap.size := by obtain ⟨m, hm⟩ := k0; exact DataW.trod_lt m _ _ _ hm
  obtain ⟨a0, rfl, rfl, rfl, w0⟩ := open_string Try.underlying9 (hval 0 9 v0 rfl rfl) h0
  have k1 := h1
  have lt1 : ∀ x ∈ p1, x.block < W.heap.size := by obtain ⟨m, hm⟩ := k1; exact DataW.trod_lt m _ _ _ hm
  obtain ⟨z1, rfl, w1⟩ := arr_open Try.underlying24 Try.underlying5 (by kernel_rfl) (by kernel_rfl) (hval 1 24 v1 rfl rfl) h1
  have k2 := h2
  have lt2 : ∀ x ∈ p2, x.block < W.heap.size := by obtain ⟨m, hm⟩ := k2; exact DataW.trod_lt m _ _ _ hm
  obtain ⟨z2, rfl, w2⟩ := arr_open Try.underlying24 Try.underlying5 (by kernel_rfl) (by kernel_rfl) (hval 2 24 v2 rfl rfl) h2
  have k3 := h3
  have lt3 : ∀ x ∈ p3, x.block < W.heap.size := by obtain ⟨m, hm⟩ := k3; exact DataW.trod_lt m _ _ _ hm
  obtain ⟨z3, rfl, w3⟩ := arr_open Try.underlying24 Try.underlying5 (by kernel_rfl) (by kernel_rfl) (hval 3 24 v3 rfl rfl) h3
  obtain ⟨a4, len4, cap4, rfl⟩ := okWide_slice Try.underlying28 (hval 4 28 v4 rfl rfl)
  have k4 := h4
  have lt4 : ∀ x ∈ p4, x.block < W.heap.size := by obtain ⟨m, hm⟩ := k4; exact DataW.trod_lt m _ _ _ hm
  obtain ⟨z4, l4, w4, rm4⟩ : ∃ ls : List (List Int), ls.length = len4 ∧ KeysAt W a4 ls ∧ len4 ≤ cap4 := by
    obtain ⟨fuel, hf⟩ := h4
    exact keys_open Try.underlying28 Try.underlying24 Try.underlying5 (by kernel_rfl) (by kernel_rfl) hf
  clear hA0 hval0
  refine (walk a0 z1 z2 z3 a4 len4 cap4 z4 W w0 w1 w2 w3 l4 w4 rm4).mono fun e W' ⟨he, bel⟩ => ?_
  subst he
  exact ⟨_, rfl, _, _, _, [], _, [], hW', trodAll_mk1 (shut_bool Try.underlying4 _), (trodAll_cons_mk (Below.trod laidOut (by kernel_rfl) (of_decide_eq_true (by kernel_rfl)) k0 bel lt0) (trodAll_cons_mk (Below.trod laidOut (by kernel_rfl) (of_decide_eq_true (by kernel_rfl)) k1 bel lt1) (trodAll_cons_mk (Below.trod laidOut (by kernel_rfl) (of_decide_eq_true (by kernel_rfl)) k2 bel lt2) (trodAll_cons_mk (Below.trod laidOut (by kernel_rfl) (of_decide_eq_true (by kernel_rfl)) k3 bel lt3) (trodAll_cons_mk (Below.trod laidOut (by kernel_rfl) (of_decide_eq_true (by kernel_rfl)) k4 bel lt4) trodAll_mk0))))), rfl, bel.frame _, fun h => by cases h⟩

theorem over : Rows.keySaysRow.holds Try.pinned (OpenSpec.ofChange Rows.keySaysSpec) :=
  OpenClaim.holds_of_wide 4 Try.f4 rfl rfl rfl rfl rfl rfl rfl ⟨rfl, rfl, rfl, rfl, rfl⟩ rfl rfl rfl rfl rfl (by kernel_rfl) Try.func4 (by kernel_rfl)
    (of_decide_eq_true (by kernel_rfl)) (by unfold Func.isWrapper; first | (rw [if_pos (by decide +kernel)]; kernel_rfl) | (rw [if_neg (by decide +kernel)]; exact ⟨rfl, rfl⟩))
    (fun os started H enc _ => lifted os started H enc)
theorem proved : Rows.KeySaysSaid := over
#print axioms proved
end Go.Proofs.Ytfgbgcaackhcmaa.keySays
namespace Go.Proofs.Ytfgbgcaackhcmaa
/-- KeySays, as given. -/
theorem keySays_holds : Rows.KeySaysSaid := keySays.proved
end Go.Proofs.Ytfgbgcaackhcmaa
