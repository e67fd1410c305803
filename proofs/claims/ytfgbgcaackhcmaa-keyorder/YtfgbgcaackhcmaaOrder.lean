/-
  KeyOrder: keys are in the order of their texts, for every two texts (of more than 30 bytes the statement asks nothing).
-/
import Derived.Test.YtfgbgcaackhcmaaRows
import Derived.Test.YtfgbgcaackhcmaaKeyAwake
import Derived.Test.YtfgbgcaackhcmaaKeysOpen
import Derived.Test.YtfgbgcaackhcmaaKeyLex
import Derived.WalkKit
import Derived.ProofKit
import Derived.OpenShut
import Derived.ShutString
import Derived.ChangeOld
import Derived.Below
import Derived.Carry
namespace Go.Proofs.Ytfgbgcaackhcmaa.keyOrder
open Go.ChangeShapes Go.WideShapes Go.ChangeAt Go.RowKit
open Go.ChangeMaps (open_string shut_string)
set_option linter.unusedVariables false

theorem own : ownKnob Try.prog.godebug = none := by kernel_rfl
theorem laidOut : laidOutB Try.prog = true := by kernel_rfl
/-- A slice of integers that came in: nil, or a row of 'cap' cells, of which the first 'len' are its elements. -/
def IsRow (k : IntKind) (w : World) (a : Option Addr) (len cap : Nat) (zs : List Int) : Prop :=
  (a = none ∧ len = 0 ∧ cap = 0 ∧ zs = []) ∨
  ∃ x, a = some x ∧ len ≤ cap ∧ cap ≤ maxLen ∧ zs.length = cap ∧ (∀ i, i < zs.length → w.cell? (x.add i) = some (.int k (zs.getD i 0))) ∧ ∀ n ∈ zs, (Lit.int k n).wf = true

set_option maxRecDepth 4000 in
set_option maxHeartbeats 4000000 in
theorem walk (a0 : ByteArray) (a1 : ByteArray) (w : World) (w0 : a0.size ≤ maxLen) (w1 : a1.size ≤ maxLen) :
    Calls Try.prog 6 #[.string a0, .string a1] w fun e w' => e = .returned (.bool true) ∧ Below w.heap.size w w' := by
  have AW : Hid (∀ u, Calls Try.prog 9 #[] u fun e w' => e = .returned (.bool true) ∧ Below u.heap.size u w') := fun u => awake_any u
  obtain ⟨xs, hxs, hbx, hlx⟩ := str_nums a0
  obtain ⟨ys, hys, hby, hly⟩ := str_nums a1
  clear w0 w1
  by_cases r1 : 30 < a0.size
  · have r1' : (30 : Int) < (a0.size : Int) := by omega
    clear hxs hbx hlx hys hby hly
    go_enter Try.func6, Try.ntmps6
    go_wp2_with (go_at_call 9; refine (AW.out _).mono ?_; rintro e v1 ⟨rfl, hb1⟩; have W1 : Hid (Below w.heap.size w v1) := hb1; clear hb1)
    go_ret
    exact ⟨rfl, W1.out⟩
  have r1' : decide ((30 : Int) < (a0.size : Int)) = false := decide_eq_false (by omega)
  by_cases r2 : 30 < a1.size
  · have r2' : (30 : Int) < (a1.size : Int) := by omega
    clear hxs hbx hlx hys hby hly
    go_enter Try.func6, Try.ntmps6
    go_wp2_with (go_at_call 9; refine (AW.out _).mono ?_; rintro e v1 ⟨rfl, hb1⟩; have W1 : Hid (Below w.heap.size w v1) := hb1; clear hb1)
    go_ret
    exact ⟨rfl, W1.out⟩
  have r2' : ¬ (30 : Int) < (a1.size : Int) := by omega
  obtain ⟨A, hA⟩ : ∃ A, A = ofK xs := ⟨_, rfl⟩
  obtain ⟨B, hB⟩ : ∃ B, B = ofK ys := ⟨_, rfl⟩
  have HAK : Hid (Ky A) := by rw [hA]; exact ofK_ky hbx
  have HBK : Hid (Ky B) := by rw [hB]; exact ofK_ky hby
  have C1 : Hid (∀ u, Calls Try.prog 10 #[.string a0] u fun e w' => e = .returned (.tuple #[kv A, .int .i64 (if mayK xs = true then 0 else 1)]) ∧ Below u.heap.size u w') := fun u => by rw [hA, hxs]; exact kof_any xs hbx (by omega) u
  have C2 : Hid (∀ u, Calls Try.prog 10 #[.string a1] u fun e w' => e = .returned (.tuple #[kv B, .int .i64 (if mayK ys = true then 0 else 1)]) ∧ Below u.heap.size u w') := fun u => by rw [hB, hys]; exact kof_any ys hby (by omega) u
  have hlt := text_lt hxs hys hbx hby
  have heq := text_eq hxs hys hbx hby
  by_cases m1 : mayK xs = true
  case neg =>
    rw [if_neg m1] at C1
    obtain ⟨F, hF⟩ : ∃ F : Int, F = if mayK ys = true then 0 else 1 := ⟨_, rfl⟩
    rw [← hF] at C2
    clear hF hxs hbx hlx hys hby hly hlt heq hA hB m1
    go_enter Try.func6, Try.ntmps6
    go_wp2_with (first
      | (have hgo := AW.out; clear hgo; go_at_call 9; refine (AW.out _).mono ?_; rintro e v1 ⟨rfl, hb1⟩; have W1 : Hid (Below w.heap.size w v1) := hb1; clear hb1 AW)
      | (have hgo := C1.out; clear hgo; have hgo := W1.out; clear hgo; go_at_call 10; refine (C1.out _).mono ?_; rintro e v2 ⟨rfl, hb2⟩; have HM : Hid (Uno v1 (v2.alloc (.cells (kcs zeroK) 24)) v2.heap.size zeroK) := uno_made hb2 24; rw [zero_list] at HM; clear hb2 C1)
      | (have hgo := HM.out; clear hgo; refine wpList_store_keyU (by rfl) _ _ (by rfl) v2.heap.size 0 zeroK A (by rfl) (by rfl) HAK.out HM.out.key ?_; intro u1 hu; have H1 : Hid (Uno v1 u1 v2.heap.size A) := hu ▸ HM.out.store HAK.out; clear hu HM)
      | (have hgo := H1.out; clear hgo; have hgo := C2.out; clear hgo; go_at_call 10; refine (C2.out _).mono ?_; rintro e v3 ⟨rfl, hb3⟩; have HM2 : Hid (Uno u1 (v3.alloc (.cells (kcs zeroK) 24)) v3.heap.size zeroK) := uno_made hb3 24; rw [zero_list] at HM2; clear hb3 C2)
      | (have hgo := HM2.out; clear hgo; refine wpList_store_keyU (by rfl) _ _ (by rfl) v3.heap.size 0 zeroK B (by rfl) (by rfl) HBK.out HM2.out.key ?_; intro u2 hu; have H2 : Hid (Uno u1 u2 v3.heap.size B) := hu ▸ HM2.out.store HBK.out; clear hu HM2))
    have KA : Hid (∀ u, Below u2.heap.size u2 u → KeyAt u v2.heap.size 0 A) := fun u hb => (H1.out.at H2.out.below).past hb
    have KB : Hid (∀ u, Below u2.heap.size u2 u → KeyAt u v3.heap.size 0 B) := fun u hb => H2.out.at hb
    have WU : Hid (Below w.heap.size w u2) := W1.out.trans ((H1.out.below.trans (H2.out.below.mono H1.out.below.size)).mono W1.out.size)
    go_quiet (fail)
    go_wp2
    go_ret
    exact ⟨rfl, below_dN WU.out _⟩
  by_cases m2 : mayK ys = true
  case neg =>
    rw [if_pos m1] at C1
    rw [if_neg m2] at C2
    clear hxs hbx hlx hys hby hly hlt heq hA hB m1 m2
    go_enter Try.func6, Try.ntmps6
    go_wp2_with (first
      | (have hgo := AW.out; clear hgo; go_at_call 9; refine (AW.out _).mono ?_; rintro e v1 ⟨rfl, hb1⟩; have W1 : Hid (Below w.heap.size w v1) := hb1; clear hb1 AW)
      | (have hgo := C1.out; clear hgo; have hgo := W1.out; clear hgo; go_at_call 10; refine (C1.out _).mono ?_; rintro e v2 ⟨rfl, hb2⟩; have HM : Hid (Uno v1 (v2.alloc (.cells (kcs zeroK) 24)) v2.heap.size zeroK) := uno_made hb2 24; rw [zero_list] at HM; clear hb2 C1)
      | (have hgo := HM.out; clear hgo; refine wpList_store_keyU (by rfl) _ _ (by rfl) v2.heap.size 0 zeroK A (by rfl) (by rfl) HAK.out HM.out.key ?_; intro u1 hu; have H1 : Hid (Uno v1 u1 v2.heap.size A) := hu ▸ HM.out.store HAK.out; clear hu HM)
      | (have hgo := H1.out; clear hgo; have hgo := C2.out; clear hgo; go_at_call 10; refine (C2.out _).mono ?_; rintro e v3 ⟨rfl, hb3⟩; have HM2 : Hid (Uno u1 (v3.alloc (.cells (kcs zeroK) 24)) v3.heap.size zeroK) := uno_made hb3 24; rw [zero_list] at HM2; clear hb3 C2)
      | (have hgo := HM2.out; clear hgo; refine wpList_store_keyU (by rfl) _ _ (by rfl) v3.heap.size 0 zeroK B (by rfl) (by rfl) HBK.out HM2.out.key ?_; intro u2 hu; have H2 : Hid (Uno u1 u2 v3.heap.size B) := hu ▸ HM2.out.store HBK.out; clear hu HM2))
    have KA : Hid (∀ u, Below u2.heap.size u2 u → KeyAt u v2.heap.size 0 A) := fun u hb => (H1.out.at H2.out.below).past hb
    have KB : Hid (∀ u, Below u2.heap.size u2 u → KeyAt u v3.heap.size 0 B) := fun u hb => H2.out.at hb
    have WU : Hid (Below w.heap.size w u2) := W1.out.trans ((H1.out.below.trans (H2.out.below.mono H1.out.below.size)).mono W1.out.size)
    go_quiet (fail)
    go_wp2
    go_ret
    exact ⟨rfl, below_dN WU.out _⟩
  rw [if_pos m1] at C1
  rw [if_pos m2] at C2
  have hL : lexC A B = lexC xs ys := by
    rw [hA, hB]
    unfold ofK
    rw [if_pos m1, if_pos m2]
    exact lex_keys m1 m2 (fun z hz => (hbx z hz).1) (fun z hz => (hby z hz).1)
  have hsw := lexC_swap A B
  have hw := lexC_ways A B
  have C3 : Hid (∀ u, Calls Try.prog 18 #[kv A, kv B] u fun e w' => e = .returned (.int .i64 (lexC A B)) ∧ Below u.heap.size u w') := fun u => kcmp_any A B HAK.out HBK.out u
  have C4 : Hid (∀ u, Calls Try.prog 18 #[kv B, kv A] u fun e w' => e = .returned (.int .i64 (lexC B A)) ∧ Below u.heap.size u w') := fun u => kcmp_any B A HBK.out HAK.out u
  rw [hsw] at C4
  rw [← hL] at hlt heq
  clear hxs hbx hlx hys hby hly hA hB m1 m2 hL hsw
  have hw1 : IntKind.i64.wrap (-1) = -1 := by decide
  have hw2 : IntKind.i64.wrap 1 = 1 := by decide
  have hw3 : IntKind.i64.wrap 0 = 0 := by decide
  rcases hw with hw | hw | hw
  · skip
    rw [hw] at C3 C4 hlt heq
    rw [show (-(-1) : Int) = 1 from rfl] at C4
    have hlt' : Op.bytesLess a0.toList a1.toList = true := hlt.trans (by decide)
    have heq' : (a0.toList == a1.toList) = false := heq.trans (by decide)
    clear hw hlt heq
    go_enter Try.func6, Try.ntmps6
    go_wp2_with (first
      | (have hgo := AW.out; clear hgo; go_at_call 9; refine (AW.out _).mono ?_; rintro e v1 ⟨rfl, hb1⟩; have W1 : Hid (Below w.heap.size w v1) := hb1; clear hb1 AW)
      | (have hgo := C1.out; clear hgo; have hgo := W1.out; clear hgo; go_at_call 10; refine (C1.out _).mono ?_; rintro e v2 ⟨rfl, hb2⟩; have HM : Hid (Uno v1 (v2.alloc (.cells (kcs zeroK) 24)) v2.heap.size zeroK) := uno_made hb2 24; rw [zero_list] at HM; clear hb2 C1)
      | (have hgo := HM.out; clear hgo; refine wpList_store_keyU (by rfl) _ _ (by rfl) v2.heap.size 0 zeroK A (by rfl) (by rfl) HAK.out HM.out.key ?_; intro u1 hu; have H1 : Hid (Uno v1 u1 v2.heap.size A) := hu ▸ HM.out.store HAK.out; clear hu HM)
      | (have hgo := H1.out; clear hgo; have hgo := C2.out; clear hgo; go_at_call 10; refine (C2.out _).mono ?_; rintro e v3 ⟨rfl, hb3⟩; have HM2 : Hid (Uno u1 (v3.alloc (.cells (kcs zeroK) 24)) v3.heap.size zeroK) := uno_made hb3 24; rw [zero_list] at HM2; clear hb3 C2)
      | (have hgo := HM2.out; clear hgo; refine wpList_store_keyU (by rfl) _ _ (by rfl) v3.heap.size 0 zeroK B (by rfl) (by rfl) HBK.out HM2.out.key ?_; intro u2 hu; have H2 : Hid (Uno u1 u2 v3.heap.size B) := hu ▸ HM2.out.store HBK.out; clear hu HM2))
    have KA : Hid (∀ u, Below u2.heap.size u2 u → KeyAt u v2.heap.size 0 A) := fun u hb => (H1.out.at H2.out.below).past hb
    have KB : Hid (∀ u, Below u2.heap.size u2 u → KeyAt u v3.heap.size 0 B) := fun u hb => H2.out.at hb
    have WU : Hid (Below w.heap.size w u2) := W1.out.trans ((H1.out.below.trans (H2.out.below.mono H1.out.below.size)).mono W1.out.size)
    refine wp_region_noPanic ?_
    refine wp_region_held_drew (S := fun u => Below u2.heap.size u2 u) (by kernel_rfl) ?_ (fun hHeld => ?_)
    · exact (Below.refl _ _).drew
    refine wpAnyH_take (i := 0) (v := ?_) rfl (by kernel_rfl) (by kernel_rfl) (by kernel_rfl) (fun _ _ _ h => h) (Or.inl ⟨by rfl, ?_⟩) hHeld ?_
    rotate_left
    · intro u hSu
      (go_simp) <;> (with_reducible rfl)
    change wpAnyH _ _ _ _ _ _ _ (Act.put _ (some 29) _) _
    simp only [Act.put, List.setIfInBounds_toArray, List.set_cons_zero, List.set_cons_succ]
    refine wpAnyH_take (i := 1) (v := ?_) rfl (by kernel_rfl) (by kernel_rfl) (by kernel_rfl) (fun _ _ _ h => h) (Or.inl ⟨by rfl, ?_⟩) hHeld ?_
    rotate_left
    · intro u hSu
      (go_simp) <;> (with_reducible rfl)
    change wpAnyH _ _ _ _ _ _ _ (Act.put _ (some 30) _) _
    simp only [Act.put, List.setIfInBounds_toArray, List.set_cons_zero, List.set_cons_succ]
    refine wpAnyH_take (i := 2) (v := ?_) rfl (by kernel_rfl) (by kernel_rfl) (by kernel_rfl) (fun _ _ _ h => h) (Or.inl ⟨by rfl, ?_⟩) hHeld ?_
    rotate_left
    · intro u hSu
      (go_simp) <;> (with_reducible rfl)
    change wpAnyH _ _ _ _ _ _ _ (Act.put _ (some 31) _) _
    simp only [Act.put, List.setIfInBounds_toArray, List.set_cons_zero, List.set_cons_succ]
    refine wpAnyH_take (i := 3) (v := ?_) rfl (by kernel_rfl) (by kernel_rfl) (by kernel_rfl) (fun _ _ _ h => h) (Or.inl ⟨by rfl, ?_⟩) hHeld ?_
    rotate_left
    · intro u hSu
      (go_simp) <;> (with_reducible rfl)
    change wpAnyH _ _ _ _ _ _ _ (Act.put _ (some 32) _) _
    simp only [Act.put, List.setIfInBounds_toArray, List.set_cons_zero, List.set_cons_succ]
    refine wpAnyH_take (i := 4) (v := ?_) rfl (by kernel_rfl) (by kernel_rfl) (by kernel_rfl) (fun _ _ _ h => h) (Or.inl ⟨by rfl, ?_⟩) hHeld ?_
    rotate_left
    · intro u hSu
      (go_simp) <;> (with_reducible rfl)
    change wpAnyH _ _ _ _ _ _ _ (Act.put _ (some 33) _) _
    simp only [Act.put, List.setIfInBounds_toArray, List.set_cons_zero, List.set_cons_succ]
    refine wpAnyH_take (i := 5) (v := ?_) rfl (by kernel_rfl) (by kernel_rfl) (by kernel_rfl) (fun _ _ _ h => h) (Or.inl ⟨by rfl, ?_⟩) hHeld ?_
    rotate_left
    · intro u hSu
      (go_simp) <;> (with_reducible rfl)
    change wpAnyH _ _ _ _ _ _ _ (Act.put _ (some 34) _) _
    simp only [Act.put, List.setIfInBounds_toArray, List.set_cons_zero, List.set_cons_succ]
    refine wpAnyH_take (i := 6) (v := ?_) rfl (by kernel_rfl) (by kernel_rfl) (by kernel_rfl) (fun _ _ _ h => h) (Or.inl ⟨by rfl, ?_⟩) hHeld ?_
    rotate_left
    · intro u hSu
      (go_simp) <;> (with_reducible rfl)
    change wpAnyH _ _ _ _ _ _ _ (Act.put _ (some 35) _) _
    simp only [Act.put, List.setIfInBounds_toArray, List.set_cons_zero, List.set_cons_succ]
    refine wpAnyH_take (i := 7) (v := kv A) rfl (by kernel_rfl) (by kernel_rfl) (by kernel_rfl) (fun _ _ _ h => h) (yieldsIf_load_mid (by rfl) _ _ rfl _ _ rfl (A.map (Value.int .u8)) _ (fun u hu => (KA.out u hu).range HAK.out) Try.underlying24 rfl (info_keyl A HAK.out)) hHeld ?_
    change wpAnyH _ _ _ _ _ _ _ (Act.put _ (some 36) _) _
    simp only [Act.put, List.setIfInBounds_toArray, List.set_cons_zero, List.set_cons_succ]
    refine wpAnyH_take (i := 8) (v := kv B) rfl (by kernel_rfl) (by kernel_rfl) (by kernel_rfl) (fun _ _ _ h => h) (yieldsIf_load_mid (by rfl) _ _ rfl _ _ rfl (B.map (Value.int .u8)) _ (fun u hu => (KB.out u hu).range HBK.out) Try.underlying24 rfl (info_keyl B HBK.out)) hHeld ?_
    change wpAnyH _ _ _ _ _ _ _ (Act.put _ (some 37) _) _
    simp only [Act.put, List.setIfInBounds_toArray, List.set_cons_zero, List.set_cons_succ]
    refine wpAnyH_take (i := 11) (v := ?_) rfl (by kernel_rfl) (by kernel_rfl) (by kernel_rfl) (fun _ _ _ h => h) (Or.inl ⟨by rfl, ?_⟩) hHeld ?_
    rotate_left
    · intro u hSu
      (go_simp) <;> (with_reducible rfl)
    change wpAnyH _ _ _ _ _ _ _ (Act.put _ (some 40) _) _
    simp only [Act.put, List.setIfInBounds_toArray, List.set_cons_zero, List.set_cons_succ]
    refine wpAnyH_take (i := 12) (v := ?_) rfl (by kernel_rfl) (by kernel_rfl) (by kernel_rfl) (fun _ _ _ h => h) (Or.inl ⟨by rfl, ?_⟩) hHeld ?_
    rotate_left
    · intro u hSu
      (go_simp) <;> (with_reducible rfl)
    change wpAnyH _ _ _ _ _ _ _ (Act.put _ (some 41) _) _
    simp only [Act.put, List.setIfInBounds_toArray, List.set_cons_zero, List.set_cons_succ]
    refine wpAnyH_take (i := 13) (v := ?_) rfl (by kernel_rfl) (by kernel_rfl) (by kernel_rfl) (fun _ _ _ h => h) (Or.inl ⟨by rfl, ?_⟩) hHeld ?_
    rotate_left
    · intro u hSu
      (go_simp) <;> (with_reducible rfl)
    change wpAnyH _ _ _ _ _ _ _ (Act.put _ (some 42) _) _
    simp only [Act.put, List.setIfInBounds_toArray, List.set_cons_zero, List.set_cons_succ]
    refine wpAnyH_ready (rs := [9]) (by kernel_rfl) (by simp) ?_
    refine AllReadyH.cons rfl (fun K hK => ?_) AllReadyH.nil
    go_simp
    go_at_call 18
    refine (C3.out _).mono ?_
    rintro e v4 ⟨rfl, hbv4⟩
    have B4 : Hid (Below u2.heap.size u2 v4) := hHeld.trans (hbv4.mono hHeld.size)
    clear hbv4
    refine hK.out _ _ ?_ (fun hHeld2 => ?_)
    · exact B4.out
    clear hK K hHeld
    have hHeld := hHeld2
    clear hHeld2
    refine wpAnyH_take (i := 10) (v := ?_) rfl (by kernel_rfl) (by kernel_rfl) (by kernel_rfl) (fun _ _ _ h => h) (Or.inl ⟨by rfl, ?_⟩) hHeld ?_
    rotate_left
    · intro u hSu
      (go_simp) <;> (with_reducible rfl)
    change wpAnyH _ _ _ _ _ _ _ (Act.put _ (some 39) _) _
    simp only [Act.put, List.setIfInBounds_toArray, List.set_cons_zero, List.set_cons_succ]
    refine wpAnyH_take (i := 14) (v := ?_) rfl (by kernel_rfl) (by kernel_rfl) (by kernel_rfl) (fun _ _ _ h => h) (Or.inl ⟨by rfl, ?_⟩) hHeld ?_
    rotate_left
    · intro u hSu
      (go_simp) <;> (with_reducible rfl)
    change wpAnyH _ _ _ _ _ _ _ (Act.put _ (some 43) _) _
    simp only [Act.put, List.setIfInBounds_toArray, List.set_cons_zero, List.set_cons_succ]
    refine wpAnyH_take (i := 15) (v := ?_) rfl (by kernel_rfl) (by kernel_rfl) (by kernel_rfl) (fun _ _ _ h => h) (Or.inl ⟨by rfl, ?_⟩) hHeld ?_
    rotate_left
    · intro u hSu
      (go_simp) <;> (with_reducible rfl)
    change wpAnyH _ _ _ _ _ _ _ (Act.put _ (some 44) _) _
    simp only [Act.put, List.setIfInBounds_toArray, List.set_cons_zero, List.set_cons_succ]
    refine wpAnyH_take (i := 16) (v := kv A) rfl (by kernel_rfl) (by kernel_rfl) (by kernel_rfl) (fun _ _ _ h => h) (yieldsIf_load_mid (by rfl) _ _ rfl _ _ rfl (A.map (Value.int .u8)) _ (fun u hu => (KA.out u hu).range HAK.out) Try.underlying24 rfl (info_keyl A HAK.out)) hHeld ?_
    change wpAnyH _ _ _ _ _ _ _ (Act.put _ (some 45) _) _
    simp only [Act.put, List.setIfInBounds_toArray, List.set_cons_zero, List.set_cons_succ]
    refine wpAnyH_take (i := 17) (v := kv B) rfl (by kernel_rfl) (by kernel_rfl) (by kernel_rfl) (fun _ _ _ h => h) (yieldsIf_load_mid (by rfl) _ _ rfl _ _ rfl (B.map (Value.int .u8)) _ (fun u hu => (KB.out u hu).range HBK.out) Try.underlying24 rfl (info_keyl B HBK.out)) hHeld ?_
    change wpAnyH _ _ _ _ _ _ _ (Act.put _ (some 46) _) _
    simp only [Act.put, List.setIfInBounds_toArray, List.set_cons_zero, List.set_cons_succ]
    refine wpAnyH_take (i := 20) (v := ?_) rfl (by kernel_rfl) (by kernel_rfl) (by kernel_rfl) (fun _ _ _ h => h) (Or.inl ⟨by rfl, ?_⟩) hHeld ?_
    rotate_left
    · intro u hSu
      (go_simp) <;> (with_reducible rfl)
    change wpAnyH _ _ _ _ _ _ _ (Act.put _ (some 49) _) _
    simp only [Act.put, List.setIfInBounds_toArray, List.set_cons_zero, List.set_cons_succ]
    refine wpAnyH_take (i := 21) (v := ?_) rfl (by kernel_rfl) (by kernel_rfl) (by kernel_rfl) (fun _ _ _ h => h) (Or.inl ⟨by rfl, ?_⟩) hHeld ?_
    rotate_left
    · intro u hSu
      (go_simp) <;> (with_reducible rfl)
    change wpAnyH _ _ _ _ _ _ _ (Act.put _ (some 50) _) _
    simp only [Act.put, List.setIfInBounds_toArray, List.set_cons_zero, List.set_cons_succ]
    refine wpAnyH_take (i := 22) (v := ?_) rfl (by kernel_rfl) (by kernel_rfl) (by kernel_rfl) (fun _ _ _ h => h) (Or.inl ⟨by rfl, ?_⟩) hHeld ?_
    rotate_left
    · intro u hSu
      (go_simp) <;> (with_reducible rfl)
    change wpAnyH _ _ _ _ _ _ _ (Act.put _ (some 51) _) _
    simp only [Act.put, List.setIfInBounds_toArray, List.set_cons_zero, List.set_cons_succ]
    refine wpAnyH_ready (rs := [18]) (by kernel_rfl) (by simp) ?_
    refine AllReadyH.cons rfl (fun K hK => ?_) AllReadyH.nil
    go_simp
    go_at_call 18
    refine (C3.out _).mono ?_
    rintro e v5 ⟨rfl, hbv5⟩
    have B5 : Hid (Below u2.heap.size u2 v5) := hHeld.trans (hbv5.mono hHeld.size)
    clear hbv5
    refine hK.out _ _ ?_ (fun hHeld2 => ?_)
    · exact B5.out
    clear hK K hHeld
    have hHeld := hHeld2
    clear hHeld2
    refine wpAnyH_take (i := 19) (v := ?_) rfl (by kernel_rfl) (by kernel_rfl) (by kernel_rfl) (fun _ _ _ h => h) (Or.inl ⟨by rfl, ?_⟩) hHeld ?_
    rotate_left
    · intro u hSu
      (go_simp) <;> (with_reducible rfl)
    change wpAnyH _ _ _ _ _ _ _ (Act.put _ (some 48) _) _
    simp only [Act.put, List.setIfInBounds_toArray, List.set_cons_zero, List.set_cons_succ]
    refine wpAnyH_take (i := 23) (v := ?_) rfl (by kernel_rfl) (by kernel_rfl) (by kernel_rfl) (fun _ _ _ h => h) (Or.inl ⟨by rfl, ?_⟩) hHeld ?_
    rotate_left
    · intro u hSu
      (go_simp) <;> (with_reducible rfl)
    change wpAnyH _ _ _ _ _ _ _ (Act.put _ (some 52) _) _
    simp only [Act.put, List.setIfInBounds_toArray, List.set_cons_zero, List.set_cons_succ]
    refine wpAnyH_take (i := 24) (v := ?_) rfl (by kernel_rfl) (by kernel_rfl) (by kernel_rfl) (fun _ _ _ h => h) (Or.inl ⟨by rfl, ?_⟩) hHeld ?_
    rotate_left
    · intro u hSu
      (go_simp) <;> (with_reducible rfl)
    change wpAnyH _ _ _ _ _ _ _ (Act.put _ (some 53) _) _
    simp only [Act.put, List.setIfInBounds_toArray, List.set_cons_zero, List.set_cons_succ]
    refine wpAnyH_take (i := 25) (v := ?_) rfl (by kernel_rfl) (by kernel_rfl) (by kernel_rfl) (fun _ _ _ h => h) (Or.inl ⟨by rfl, ?_⟩) hHeld ?_
    rotate_left
    · intro u hSu
      (go_simp) <;> (with_reducible rfl)
    change wpAnyH _ _ _ _ _ _ _ (Act.put _ (some 54) _) _
    simp only [Act.put, List.setIfInBounds_toArray, List.set_cons_zero, List.set_cons_succ]
    refine wpAnyH_take (i := 26) (v := kv A) rfl (by kernel_rfl) (by kernel_rfl) (by kernel_rfl) (fun _ _ _ h => h) (yieldsIf_load_mid (by rfl) _ _ rfl _ _ rfl (A.map (Value.int .u8)) _ (fun u hu => (KA.out u hu).range HAK.out) Try.underlying24 rfl (info_keyl A HAK.out)) hHeld ?_
    change wpAnyH _ _ _ _ _ _ _ (Act.put _ (some 55) _) _
    simp only [Act.put, List.setIfInBounds_toArray, List.set_cons_zero, List.set_cons_succ]
    refine wpAnyH_take (i := 27) (v := kv B) rfl (by kernel_rfl) (by kernel_rfl) (by kernel_rfl) (fun _ _ _ h => h) (yieldsIf_load_mid (by rfl) _ _ rfl _ _ rfl (B.map (Value.int .u8)) _ (fun u hu => (KB.out u hu).range HBK.out) Try.underlying24 rfl (info_keyl B HBK.out)) hHeld ?_
    change wpAnyH _ _ _ _ _ _ _ (Act.put _ (some 56) _) _
    simp only [Act.put, List.setIfInBounds_toArray, List.set_cons_zero, List.set_cons_succ]
    refine wpAnyH_take (i := 29) (v := kv B) rfl (by kernel_rfl) (by kernel_rfl) (by kernel_rfl) (fun _ _ _ h => h) (yieldsIf_load_mid (by rfl) _ _ rfl _ _ rfl (B.map (Value.int .u8)) _ (fun u hu => (KB.out u hu).range HBK.out) Try.underlying24 rfl (info_keyl B HBK.out)) hHeld ?_
    change wpAnyH _ _ _ _ _ _ _ (Act.put _ (some 58) _) _
    simp only [Act.put, List.setIfInBounds_toArray, List.set_cons_zero, List.set_cons_succ]
    refine wpAnyH_take (i := 30) (v := kv A) rfl (by kernel_rfl) (by kernel_rfl) (by kernel_rfl) (fun _ _ _ h => h) (yieldsIf_load_mid (by rfl) _ _ rfl _ _ rfl (A.map (Value.int .u8)) _ (fun u hu => (KA.out u hu).range HAK.out) Try.underlying24 rfl (info_keyl A HAK.out)) hHeld ?_
    change wpAnyH _ _ _ _ _ _ _ (Act.put _ (some 59) _) _
    simp only [Act.put, List.setIfInBounds_toArray, List.set_cons_zero, List.set_cons_succ]
    refine wpAnyH_ready (rs := [28]) (by kernel_rfl) (by simp) ?_
    refine AllReadyH.cons rfl (fun K hK => ?_) AllReadyH.nil
    go_simp
    go_at_call 18
    refine (C3.out _).mono ?_
    rintro e v6 ⟨rfl, hbv6⟩
    have B6 : Hid (Below u2.heap.size u2 v6) := hHeld.trans (hbv6.mono hHeld.size)
    clear hbv6
    refine hK.out _ _ ?_ (fun hHeld2 => ?_)
    · exact B6.out
    clear hK K hHeld
    have hHeld := hHeld2
    clear hHeld2
    refine wpAnyH_ready (rs := [31]) (by kernel_rfl) (by simp) ?_
    refine AllReadyH.cons rfl (fun K hK => ?_) AllReadyH.nil
    go_simp
    go_at_call 18
    refine (C4.out _).mono ?_
    rintro e v7 ⟨rfl, hbv7⟩
    have B7 : Hid (Below u2.heap.size u2 v7) := hHeld.trans (hbv7.mono hHeld.size)
    clear hbv7
    refine hK.out _ _ ?_ (fun hHeld2 => ?_)
    · exact B7.out
    clear hK K hHeld
    have hHeld := hHeld2
    clear hHeld2
    refine wpAnyH_take (i := 32) (v := ?_) rfl (by kernel_rfl) (by kernel_rfl) (by kernel_rfl) (fun _ _ _ h => h) (Or.inl ⟨by rfl, ?_⟩) hHeld ?_
    rotate_left
    · intro u hSu
      (go_simp) <;> (with_reducible rfl)
    change wpAnyH _ _ _ _ _ _ _ (Act.put _ (some 61) _) _
    simp only [Act.put, List.setIfInBounds_toArray, List.set_cons_zero, List.set_cons_succ]
    refine wpAnyH_take (i := 33) (v := ?_) rfl (by kernel_rfl) (by kernel_rfl) (by kernel_rfl) (fun _ _ _ h => h) (Or.inl ⟨by rfl, ?_⟩) hHeld ?_
    rotate_left
    · intro u hSu
      (go_simp) <;> (with_reducible rfl)
    change wpAnyH _ _ _ _ _ _ _ (Act.put _ (some 62) _) _
    simp only [Act.put, List.setIfInBounds_toArray, List.set_cons_zero, List.set_cons_succ]
    refine wpAnyH_take (i := 34) (v := ?_) rfl (by kernel_rfl) (by kernel_rfl) (by kernel_rfl) (fun _ _ _ h => h) (Or.inl ⟨by rfl, ?_⟩) hHeld ?_
    rotate_left
    · intro u hSu
      (go_simp) <;> (with_reducible rfl)
    change wpAnyH _ _ _ _ _ _ _ (Act.put _ (some 63) _) _
    simp only [Act.put, List.setIfInBounds_toArray, List.set_cons_zero, List.set_cons_succ]
    refine wpAnyH_take (i := 35) (v := ?_) rfl (by kernel_rfl) (by kernel_rfl) (by kernel_rfl) (fun _ _ _ h => h) (Or.inl ⟨by rfl, ?_⟩) hHeld ?_
    rotate_left
    · intro u hSu
      (go_simp) <;> (with_reducible rfl)
    change wpAnyH _ _ _ _ _ _ _ (Act.put _ (some 64) _) _
    simp only [Act.put, List.setIfInBounds_toArray, List.set_cons_zero, List.set_cons_succ]
    refine wpAnyH_take (i := 36) (v := ?_) rfl (by kernel_rfl) (by kernel_rfl) (by kernel_rfl) (fun _ _ _ h => h) (Or.inl ⟨by rfl, ?_⟩) hHeld ?_
    rotate_left
    · intro u hSu
      (go_simp) <;> (with_reducible rfl)
    change wpAnyH _ _ _ _ _ _ _ (Act.put _ (some 4) _) _
    simp only [Act.put, List.setIfInBounds_toArray, List.set_cons_zero, List.set_cons_succ]
    refine wpAnyH_done (by kernel_rfl) ?_ _
    refine NoPanic.normal ?_
    go_wp2
    go_ret
    exact ⟨rfl, WU.out.trans (B7.out.mono WU.out.size)⟩
  · skip
    rw [hw] at C3 C4 hlt heq
    rw [show (-(0) : Int) = 0 from rfl] at C4
    have hlt' : Op.bytesLess a0.toList a1.toList = false := hlt.trans (by decide)
    have heq' : (a0.toList == a1.toList) = true := heq.trans (by decide)
    clear hw hlt heq
    go_enter Try.func6, Try.ntmps6
    go_wp2_with (first
      | (have hgo := AW.out; clear hgo; go_at_call 9; refine (AW.out _).mono ?_; rintro e v1 ⟨rfl, hb1⟩; have W1 : Hid (Below w.heap.size w v1) := hb1; clear hb1 AW)
      | (have hgo := C1.out; clear hgo; have hgo := W1.out; clear hgo; go_at_call 10; refine (C1.out _).mono ?_; rintro e v2 ⟨rfl, hb2⟩; have HM : Hid (Uno v1 (v2.alloc (.cells (kcs zeroK) 24)) v2.heap.size zeroK) := uno_made hb2 24; rw [zero_list] at HM; clear hb2 C1)
      | (have hgo := HM.out; clear hgo; refine wpList_store_keyU (by rfl) _ _ (by rfl) v2.heap.size 0 zeroK A (by rfl) (by rfl) HAK.out HM.out.key ?_; intro u1 hu; have H1 : Hid (Uno v1 u1 v2.heap.size A) := hu ▸ HM.out.store HAK.out; clear hu HM)
      | (have hgo := H1.out; clear hgo; have hgo := C2.out; clear hgo; go_at_call 10; refine (C2.out _).mono ?_; rintro e v3 ⟨rfl, hb3⟩; have HM2 : Hid (Uno u1 (v3.alloc (.cells (kcs zeroK) 24)) v3.heap.size zeroK) := uno_made hb3 24; rw [zero_list] at HM2; clear hb3 C2)
      | (have hgo := HM2.out; clear hgo; refine wpList_store_keyU (by rfl) _ _ (by rfl) v3.heap.size 0 zeroK B (by rfl) (by rfl) HBK.out HM2.out.key ?_; intro u2 hu; have H2 : Hid (Uno u1 u2 v3.heap.size B) := hu ▸ HM2.out.store HBK.out; clear hu HM2))
    have KA : Hid (∀ u, Below u2.heap.size u2 u → KeyAt u v2.heap.size 0 A) := fun u hb => (H1.out.at H2.out.below).past hb
    have KB : Hid (∀ u, Below u2.heap.size u2 u → KeyAt u v3.heap.size 0 B) := fun u hb => H2.out.at hb
    have WU : Hid (Below w.heap.size w u2) := W1.out.trans ((H1.out.below.trans (H2.out.below.mono H1.out.below.size)).mono W1.out.size)
    refine wp_region_noPanic ?_
    refine wp_region_held_drew (S := fun u => Below u2.heap.size u2 u) (by kernel_rfl) ?_ (fun hHeld => ?_)
    · exact (Below.refl _ _).drew
    refine wpAnyH_take (i := 0) (v := ?_) rfl (by kernel_rfl) (by kernel_rfl) (by kernel_rfl) (fun _ _ _ h => h) (Or.inl ⟨by rfl, ?_⟩) hHeld ?_
    rotate_left
    · intro u hSu
      (go_simp) <;> (with_reducible rfl)
    change wpAnyH _ _ _ _ _ _ _ (Act.put _ (some 29) _) _
    simp only [Act.put, List.setIfInBounds_toArray, List.set_cons_zero, List.set_cons_succ]
    refine wpAnyH_take (i := 1) (v := ?_) rfl (by kernel_rfl) (by kernel_rfl) (by kernel_rfl) (fun _ _ _ h => h) (Or.inl ⟨by rfl, ?_⟩) hHeld ?_
    rotate_left
    · intro u hSu
      (go_simp) <;> (with_reducible rfl)
    change wpAnyH _ _ _ _ _ _ _ (Act.put _ (some 30) _) _
    simp only [Act.put, List.setIfInBounds_toArray, List.set_cons_zero, List.set_cons_succ]
    refine wpAnyH_take (i := 2) (v := ?_) rfl (by kernel_rfl) (by kernel_rfl) (by kernel_rfl) (fun _ _ _ h => h) (Or.inl ⟨by rfl, ?_⟩) hHeld ?_
    rotate_left
    · intro u hSu
      (go_simp) <;> (with_reducible rfl)
    change wpAnyH _ _ _ _ _ _ _ (Act.put _ (some 31) _) _
    simp only [Act.put, List.setIfInBounds_toArray, List.set_cons_zero, List.set_cons_succ]
    refine wpAnyH_take (i := 3) (v := ?_) rfl (by kernel_rfl) (by kernel_rfl) (by kernel_rfl) (fun _ _ _ h => h) (Or.inl ⟨by rfl, ?_⟩) hHeld ?_
    rotate_left
    · intro u hSu
      (go_simp) <;> (with_reducible rfl)
    change wpAnyH _ _ _ _ _ _ _ (Act.put _ (some 32) _) _
    simp only [Act.put, List.setIfInBounds_toArray, List.set_cons_zero, List.set_cons_succ]
    refine wpAnyH_take (i := 4) (v := ?_) rfl (by kernel_rfl) (by kernel_rfl) (by kernel_rfl) (fun _ _ _ h => h) (Or.inl ⟨by rfl, ?_⟩) hHeld ?_
    rotate_left
    · intro u hSu
      (go_simp) <;> (with_reducible rfl)
    change wpAnyH _ _ _ _ _ _ _ (Act.put _ (some 33) _) _
    simp only [Act.put, List.setIfInBounds_toArray, List.set_cons_zero, List.set_cons_succ]
    refine wpAnyH_take (i := 5) (v := ?_) rfl (by kernel_rfl) (by kernel_rfl) (by kernel_rfl) (fun _ _ _ h => h) (Or.inl ⟨by rfl, ?_⟩) hHeld ?_
    rotate_left
    · intro u hSu
      (go_simp) <;> (with_reducible rfl)
    change wpAnyH _ _ _ _ _ _ _ (Act.put _ (some 34) _) _
    simp only [Act.put, List.setIfInBounds_toArray, List.set_cons_zero, List.set_cons_succ]
    refine wpAnyH_take (i := 6) (v := ?_) rfl (by kernel_rfl) (by kernel_rfl) (by kernel_rfl) (fun _ _ _ h => h) (Or.inl ⟨by rfl, ?_⟩) hHeld ?_
    rotate_left
    · intro u hSu
      (go_simp) <;> (with_reducible rfl)
    change wpAnyH _ _ _ _ _ _ _ (Act.put _ (some 35) _) _
    simp only [Act.put, List.setIfInBounds_toArray, List.set_cons_zero, List.set_cons_succ]
    refine wpAnyH_take (i := 7) (v := kv A) rfl (by kernel_rfl) (by kernel_rfl) (by kernel_rfl) (fun _ _ _ h => h) (yieldsIf_load_mid (by rfl) _ _ rfl _ _ rfl (A.map (Value.int .u8)) _ (fun u hu => (KA.out u hu).range HAK.out) Try.underlying24 rfl (info_keyl A HAK.out)) hHeld ?_
    change wpAnyH _ _ _ _ _ _ _ (Act.put _ (some 36) _) _
    simp only [Act.put, List.setIfInBounds_toArray, List.set_cons_zero, List.set_cons_succ]
    refine wpAnyH_take (i := 8) (v := kv B) rfl (by kernel_rfl) (by kernel_rfl) (by kernel_rfl) (fun _ _ _ h => h) (yieldsIf_load_mid (by rfl) _ _ rfl _ _ rfl (B.map (Value.int .u8)) _ (fun u hu => (KB.out u hu).range HBK.out) Try.underlying24 rfl (info_keyl B HBK.out)) hHeld ?_
    change wpAnyH _ _ _ _ _ _ _ (Act.put _ (some 37) _) _
    simp only [Act.put, List.setIfInBounds_toArray, List.set_cons_zero, List.set_cons_succ]
    refine wpAnyH_take (i := 11) (v := ?_) rfl (by kernel_rfl) (by kernel_rfl) (by kernel_rfl) (fun _ _ _ h => h) (Or.inl ⟨by rfl, ?_⟩) hHeld ?_
    rotate_left
    · intro u hSu
      (go_simp) <;> (with_reducible rfl)
    change wpAnyH _ _ _ _ _ _ _ (Act.put _ (some 40) _) _
    simp only [Act.put, List.setIfInBounds_toArray, List.set_cons_zero, List.set_cons_succ]
    refine wpAnyH_take (i := 12) (v := ?_) rfl (by kernel_rfl) (by kernel_rfl) (by kernel_rfl) (fun _ _ _ h => h) (Or.inl ⟨by rfl, ?_⟩) hHeld ?_
    rotate_left
    · intro u hSu
      (go_simp) <;> (with_reducible rfl)
    change wpAnyH _ _ _ _ _ _ _ (Act.put _ (some 41) _) _
    simp only [Act.put, List.setIfInBounds_toArray, List.set_cons_zero, List.set_cons_succ]
    refine wpAnyH_take (i := 13) (v := ?_) rfl (by kernel_rfl) (by kernel_rfl) (by kernel_rfl) (fun _ _ _ h => h) (Or.inl ⟨by rfl, ?_⟩) hHeld ?_
    rotate_left
    · intro u hSu
      (go_simp) <;> (with_reducible rfl)
    change wpAnyH _ _ _ _ _ _ _ (Act.put _ (some 42) _) _
    simp only [Act.put, List.setIfInBounds_toArray, List.set_cons_zero, List.set_cons_succ]
    refine wpAnyH_ready (rs := [9]) (by kernel_rfl) (by simp) ?_
    refine AllReadyH.cons rfl (fun K hK => ?_) AllReadyH.nil
    go_simp
    go_at_call 18
    refine (C3.out _).mono ?_
    rintro e v4 ⟨rfl, hbv4⟩
    have B4 : Hid (Below u2.heap.size u2 v4) := hHeld.trans (hbv4.mono hHeld.size)
    clear hbv4
    refine hK.out _ _ ?_ (fun hHeld2 => ?_)
    · exact B4.out
    clear hK K hHeld
    have hHeld := hHeld2
    clear hHeld2
    refine wpAnyH_take (i := 10) (v := ?_) rfl (by kernel_rfl) (by kernel_rfl) (by kernel_rfl) (fun _ _ _ h => h) (Or.inl ⟨by rfl, ?_⟩) hHeld ?_
    rotate_left
    · intro u hSu
      (go_simp) <;> (with_reducible rfl)
    change wpAnyH _ _ _ _ _ _ _ (Act.put _ (some 39) _) _
    simp only [Act.put, List.setIfInBounds_toArray, List.set_cons_zero, List.set_cons_succ]
    refine wpAnyH_take (i := 14) (v := ?_) rfl (by kernel_rfl) (by kernel_rfl) (by kernel_rfl) (fun _ _ _ h => h) (Or.inl ⟨by rfl, ?_⟩) hHeld ?_
    rotate_left
    · intro u hSu
      (go_simp) <;> (with_reducible rfl)
    change wpAnyH _ _ _ _ _ _ _ (Act.put _ (some 43) _) _
    simp only [Act.put, List.setIfInBounds_toArray, List.set_cons_zero, List.set_cons_succ]
    refine wpAnyH_take (i := 15) (v := ?_) rfl (by kernel_rfl) (by kernel_rfl) (by kernel_rfl) (fun _ _ _ h => h) (Or.inl ⟨by rfl, ?_⟩) hHeld ?_
    rotate_left
    · intro u hSu
      (go_simp) <;> (with_reducible rfl)
    change wpAnyH _ _ _ _ _ _ _ (Act.put _ (some 44) _) _
    simp only [Act.put, List.setIfInBounds_toArray, List.set_cons_zero, List.set_cons_succ]
    refine wpAnyH_take (i := 16) (v := kv A) rfl (by kernel_rfl) (by kernel_rfl) (by kernel_rfl) (fun _ _ _ h => h) (yieldsIf_load_mid (by rfl) _ _ rfl _ _ rfl (A.map (Value.int .u8)) _ (fun u hu => (KA.out u hu).range HAK.out) Try.underlying24 rfl (info_keyl A HAK.out)) hHeld ?_
    change wpAnyH _ _ _ _ _ _ _ (Act.put _ (some 45) _) _
    simp only [Act.put, List.setIfInBounds_toArray, List.set_cons_zero, List.set_cons_succ]
    refine wpAnyH_take (i := 17) (v := kv B) rfl (by kernel_rfl) (by kernel_rfl) (by kernel_rfl) (fun _ _ _ h => h) (yieldsIf_load_mid (by rfl) _ _ rfl _ _ rfl (B.map (Value.int .u8)) _ (fun u hu => (KB.out u hu).range HBK.out) Try.underlying24 rfl (info_keyl B HBK.out)) hHeld ?_
    change wpAnyH _ _ _ _ _ _ _ (Act.put _ (some 46) _) _
    simp only [Act.put, List.setIfInBounds_toArray, List.set_cons_zero, List.set_cons_succ]
    refine wpAnyH_take (i := 20) (v := ?_) rfl (by kernel_rfl) (by kernel_rfl) (by kernel_rfl) (fun _ _ _ h => h) (Or.inl ⟨by rfl, ?_⟩) hHeld ?_
    rotate_left
    · intro u hSu
      (go_simp) <;> (with_reducible rfl)
    change wpAnyH _ _ _ _ _ _ _ (Act.put _ (some 49) _) _
    simp only [Act.put, List.setIfInBounds_toArray, List.set_cons_zero, List.set_cons_succ]
    refine wpAnyH_take (i := 21) (v := ?_) rfl (by kernel_rfl) (by kernel_rfl) (by kernel_rfl) (fun _ _ _ h => h) (Or.inl ⟨by rfl, ?_⟩) hHeld ?_
    rotate_left
    · intro u hSu
      (go_simp) <;> (with_reducible rfl)
    change wpAnyH _ _ _ _ _ _ _ (Act.put _ (some 50) _) _
    simp only [Act.put, List.setIfInBounds_toArray, List.set_cons_zero, List.set_cons_succ]
    refine wpAnyH_take (i := 22) (v := ?_) rfl (by kernel_rfl) (by kernel_rfl) (by kernel_rfl) (fun _ _ _ h => h) (Or.inl ⟨by rfl, ?_⟩) hHeld ?_
    rotate_left
    · intro u hSu
      (go_simp) <;> (with_reducible rfl)
    change wpAnyH _ _ _ _ _ _ _ (Act.put _ (some 51) _) _
    simp only [Act.put, List.setIfInBounds_toArray, List.set_cons_zero, List.set_cons_succ]
    refine wpAnyH_ready (rs := [18]) (by kernel_rfl) (by simp) ?_
    refine AllReadyH.cons rfl (fun K hK => ?_) AllReadyH.nil
    go_simp
    go_at_call 18
    refine (C3.out _).mono ?_
    rintro e v5 ⟨rfl, hbv5⟩
    have B5 : Hid (Below u2.heap.size u2 v5) := hHeld.trans (hbv5.mono hHeld.size)
    clear hbv5
    refine hK.out _ _ ?_ (fun hHeld2 => ?_)
    · exact B5.out
    clear hK K hHeld
    have hHeld := hHeld2
    clear hHeld2
    refine wpAnyH_take (i := 19) (v := ?_) rfl (by kernel_rfl) (by kernel_rfl) (by kernel_rfl) (fun _ _ _ h => h) (Or.inl ⟨by rfl, ?_⟩) hHeld ?_
    rotate_left
    · intro u hSu
      (go_simp) <;> (with_reducible rfl)
    change wpAnyH _ _ _ _ _ _ _ (Act.put _ (some 48) _) _
    simp only [Act.put, List.setIfInBounds_toArray, List.set_cons_zero, List.set_cons_succ]
    refine wpAnyH_take (i := 23) (v := ?_) rfl (by kernel_rfl) (by kernel_rfl) (by kernel_rfl) (fun _ _ _ h => h) (Or.inl ⟨by rfl, ?_⟩) hHeld ?_
    rotate_left
    · intro u hSu
      (go_simp) <;> (with_reducible rfl)
    change wpAnyH _ _ _ _ _ _ _ (Act.put _ (some 52) _) _
    simp only [Act.put, List.setIfInBounds_toArray, List.set_cons_zero, List.set_cons_succ]
    refine wpAnyH_take (i := 24) (v := ?_) rfl (by kernel_rfl) (by kernel_rfl) (by kernel_rfl) (fun _ _ _ h => h) (Or.inl ⟨by rfl, ?_⟩) hHeld ?_
    rotate_left
    · intro u hSu
      (go_simp) <;> (with_reducible rfl)
    change wpAnyH _ _ _ _ _ _ _ (Act.put _ (some 53) _) _
    simp only [Act.put, List.setIfInBounds_toArray, List.set_cons_zero, List.set_cons_succ]
    refine wpAnyH_take (i := 25) (v := ?_) rfl (by kernel_rfl) (by kernel_rfl) (by kernel_rfl) (fun _ _ _ h => h) (Or.inl ⟨by rfl, ?_⟩) hHeld ?_
    rotate_left
    · intro u hSu
      (go_simp) <;> (with_reducible rfl)
    change wpAnyH _ _ _ _ _ _ _ (Act.put _ (some 54) _) _
    simp only [Act.put, List.setIfInBounds_toArray, List.set_cons_zero, List.set_cons_succ]
    refine wpAnyH_take (i := 26) (v := kv A) rfl (by kernel_rfl) (by kernel_rfl) (by kernel_rfl) (fun _ _ _ h => h) (yieldsIf_load_mid (by rfl) _ _ rfl _ _ rfl (A.map (Value.int .u8)) _ (fun u hu => (KA.out u hu).range HAK.out) Try.underlying24 rfl (info_keyl A HAK.out)) hHeld ?_
    change wpAnyH _ _ _ _ _ _ _ (Act.put _ (some 55) _) _
    simp only [Act.put, List.setIfInBounds_toArray, List.set_cons_zero, List.set_cons_succ]
    refine wpAnyH_take (i := 27) (v := kv B) rfl (by kernel_rfl) (by kernel_rfl) (by kernel_rfl) (fun _ _ _ h => h) (yieldsIf_load_mid (by rfl) _ _ rfl _ _ rfl (B.map (Value.int .u8)) _ (fun u hu => (KB.out u hu).range HBK.out) Try.underlying24 rfl (info_keyl B HBK.out)) hHeld ?_
    change wpAnyH _ _ _ _ _ _ _ (Act.put _ (some 56) _) _
    simp only [Act.put, List.setIfInBounds_toArray, List.set_cons_zero, List.set_cons_succ]
    refine wpAnyH_take (i := 29) (v := kv B) rfl (by kernel_rfl) (by kernel_rfl) (by kernel_rfl) (fun _ _ _ h => h) (yieldsIf_load_mid (by rfl) _ _ rfl _ _ rfl (B.map (Value.int .u8)) _ (fun u hu => (KB.out u hu).range HBK.out) Try.underlying24 rfl (info_keyl B HBK.out)) hHeld ?_
    change wpAnyH _ _ _ _ _ _ _ (Act.put _ (some 58) _) _
    simp only [Act.put, List.setIfInBounds_toArray, List.set_cons_zero, List.set_cons_succ]
    refine wpAnyH_take (i := 30) (v := kv A) rfl (by kernel_rfl) (by kernel_rfl) (by kernel_rfl) (fun _ _ _ h => h) (yieldsIf_load_mid (by rfl) _ _ rfl _ _ rfl (A.map (Value.int .u8)) _ (fun u hu => (KA.out u hu).range HAK.out) Try.underlying24 rfl (info_keyl A HAK.out)) hHeld ?_
    change wpAnyH _ _ _ _ _ _ _ (Act.put _ (some 59) _) _
    simp only [Act.put, List.setIfInBounds_toArray, List.set_cons_zero, List.set_cons_succ]
    refine wpAnyH_ready (rs := [28]) (by kernel_rfl) (by simp) ?_
    refine AllReadyH.cons rfl (fun K hK => ?_) AllReadyH.nil
    go_simp
    go_at_call 18
    refine (C3.out _).mono ?_
    rintro e v6 ⟨rfl, hbv6⟩
    have B6 : Hid (Below u2.heap.size u2 v6) := hHeld.trans (hbv6.mono hHeld.size)
    clear hbv6
    refine hK.out _ _ ?_ (fun hHeld2 => ?_)
    · exact B6.out
    clear hK K hHeld
    have hHeld := hHeld2
    clear hHeld2
    refine wpAnyH_ready (rs := [31]) (by kernel_rfl) (by simp) ?_
    refine AllReadyH.cons rfl (fun K hK => ?_) AllReadyH.nil
    go_simp
    go_at_call 18
    refine (C4.out _).mono ?_
    rintro e v7 ⟨rfl, hbv7⟩
    have B7 : Hid (Below u2.heap.size u2 v7) := hHeld.trans (hbv7.mono hHeld.size)
    clear hbv7
    refine hK.out _ _ ?_ (fun hHeld2 => ?_)
    · exact B7.out
    clear hK K hHeld
    have hHeld := hHeld2
    clear hHeld2
    refine wpAnyH_take (i := 32) (v := ?_) rfl (by kernel_rfl) (by kernel_rfl) (by kernel_rfl) (fun _ _ _ h => h) (Or.inl ⟨by rfl, ?_⟩) hHeld ?_
    rotate_left
    · intro u hSu
      (go_simp) <;> (with_reducible rfl)
    change wpAnyH _ _ _ _ _ _ _ (Act.put _ (some 61) _) _
    simp only [Act.put, List.setIfInBounds_toArray, List.set_cons_zero, List.set_cons_succ]
    refine wpAnyH_take (i := 33) (v := ?_) rfl (by kernel_rfl) (by kernel_rfl) (by kernel_rfl) (fun _ _ _ h => h) (Or.inl ⟨by rfl, ?_⟩) hHeld ?_
    rotate_left
    · intro u hSu
      (go_simp) <;> (with_reducible rfl)
    change wpAnyH _ _ _ _ _ _ _ (Act.put _ (some 62) _) _
    simp only [Act.put, List.setIfInBounds_toArray, List.set_cons_zero, List.set_cons_succ]
    refine wpAnyH_take (i := 34) (v := ?_) rfl (by kernel_rfl) (by kernel_rfl) (by kernel_rfl) (fun _ _ _ h => h) (Or.inl ⟨by rfl, ?_⟩) hHeld ?_
    rotate_left
    · intro u hSu
      (go_simp) <;> (with_reducible rfl)
    change wpAnyH _ _ _ _ _ _ _ (Act.put _ (some 63) _) _
    simp only [Act.put, List.setIfInBounds_toArray, List.set_cons_zero, List.set_cons_succ]
    refine wpAnyH_take (i := 35) (v := ?_) rfl (by kernel_rfl) (by kernel_rfl) (by kernel_rfl) (fun _ _ _ h => h) (Or.inl ⟨by rfl, ?_⟩) hHeld ?_
    rotate_left
    · intro u hSu
      (go_simp) <;> (with_reducible rfl)
    change wpAnyH _ _ _ _ _ _ _ (Act.put _ (some 64) _) _
    simp only [Act.put, List.setIfInBounds_toArray, List.set_cons_zero, List.set_cons_succ]
    refine wpAnyH_take (i := 36) (v := ?_) rfl (by kernel_rfl) (by kernel_rfl) (by kernel_rfl) (fun _ _ _ h => h) (Or.inl ⟨by rfl, ?_⟩) hHeld ?_
    rotate_left
    · intro u hSu
      (go_simp) <;> (with_reducible rfl)
    change wpAnyH _ _ _ _ _ _ _ (Act.put _ (some 4) _) _
    simp only [Act.put, List.setIfInBounds_toArray, List.set_cons_zero, List.set_cons_succ]
    refine wpAnyH_done (by kernel_rfl) ?_ _
    refine NoPanic.normal ?_
    go_wp2
    go_ret
    exact ⟨rfl, WU.out.trans (B7.out.mono WU.out.size)⟩
  · skip
    rw [hw] at C3 C4 hlt heq
    rw [show (-(1) : Int) = -1 from rfl] at C4
    have hlt' : Op.bytesLess a0.toList a1.toList = false := hlt.trans (by decide)
    have heq' : (a0.toList == a1.toList) = false := heq.trans (by decide)
    clear hw hlt heq
    go_enter Try.func6, Try.ntmps6
    go_wp2_with (first
      | (have hgo := AW.out; clear hgo; go_at_call 9; refine (AW.out _).mono ?_; rintro e v1 ⟨rfl, hb1⟩; have W1 : Hid (Below w.heap.size w v1) := hb1; clear hb1 AW)
      | (have hgo := C1.out; clear hgo; have hgo := W1.out; clear hgo; go_at_call 10; refine (C1.out _).mono ?_; rintro e v2 ⟨rfl, hb2⟩; have HM : Hid (Uno v1 (v2.alloc (.cells (kcs zeroK) 24)) v2.heap.size zeroK) := uno_made hb2 24; rw [zero_list] at HM; clear hb2 C1)
      | (have hgo := HM.out; clear hgo; refine wpList_store_keyU (by rfl) _ _ (by rfl) v2.heap.size 0 zeroK A (by rfl) (by rfl) HAK.out HM.out.key ?_; intro u1 hu; have H1 : Hid (Uno v1 u1 v2.heap.size A) := hu ▸ HM.out.store HAK.out; clear hu HM)
      | (have hgo := H1.out; clear hgo; have hgo := C2.out; clear hgo; go_at_call 10; refine (C2.out _).mono ?_; rintro e v3 ⟨rfl, hb3⟩; have HM2 : Hid (Uno u1 (v3.alloc (.cells (kcs zeroK) 24)) v3.heap.size zeroK) := uno_made hb3 24; rw [zero_list] at HM2; clear hb3 C2)
      | (have hgo := HM2.out; clear hgo; refine wpList_store_keyU (by rfl) _ _ (by rfl) v3.heap.size 0 zeroK B (by rfl) (by rfl) HBK.out HM2.out.key ?_; intro u2 hu; have H2 : Hid (Uno u1 u2 v3.heap.size B) := hu ▸ HM2.out.store HBK.out; clear hu HM2))
    have KA : Hid (∀ u, Below u2.heap.size u2 u → KeyAt u v2.heap.size 0 A) := fun u hb => (H1.out.at H2.out.below).past hb
    have KB : Hid (∀ u, Below u2.heap.size u2 u → KeyAt u v3.heap.size 0 B) := fun u hb => H2.out.at hb
    have WU : Hid (Below w.heap.size w u2) := W1.out.trans ((H1.out.below.trans (H2.out.below.mono H1.out.below.size)).mono W1.out.size)
    refine wp_region_noPanic ?_
    refine wp_region_held_drew (S := fun u => Below u2.heap.size u2 u) (by kernel_rfl) ?_ (fun hHeld => ?_)
    · exact (Below.refl _ _).drew
    refine wpAnyH_take (i := 0) (v := ?_) rfl (by kernel_rfl) (by kernel_rfl) (by kernel_rfl) (fun _ _ _ h => h) (Or.inl ⟨by rfl, ?_⟩) hHeld ?_
    rotate_left
    · intro u hSu
      (go_simp) <;> (with_reducible rfl)
    change wpAnyH _ _ _ _ _ _ _ (Act.put _ (some 29) _) _
    simp only [Act.put, List.setIfInBounds_toArray, List.set_cons_zero, List.set_cons_succ]
    refine wpAnyH_take (i := 1) (v := ?_) rfl (by kernel_rfl) (by kernel_rfl) (by kernel_rfl) (fun _ _ _ h => h) (Or.inl ⟨by rfl, ?_⟩) hHeld ?_
    rotate_left
    · intro u hSu
      (go_simp) <;> (with_reducible rfl)
    change wpAnyH _ _ _ _ _ _ _ (Act.put _ (some 30) _) _
    simp only [Act.put, List.setIfInBounds_toArray, List.set_cons_zero, List.set_cons_succ]
    refine wpAnyH_take (i := 2) (v := ?_) rfl (by kernel_rfl) (by kernel_rfl) (by kernel_rfl) (fun _ _ _ h => h) (Or.inl ⟨by rfl, ?_⟩) hHeld ?_
    rotate_left
    · intro u hSu
      (go_simp) <;> (with_reducible rfl)
    change wpAnyH _ _ _ _ _ _ _ (Act.put _ (some 31) _) _
    simp only [Act.put, List.setIfInBounds_toArray, List.set_cons_zero, List.set_cons_succ]
    refine wpAnyH_take (i := 3) (v := ?_) rfl (by kernel_rfl) (by kernel_rfl) (by kernel_rfl) (fun _ _ _ h => h) (Or.inl ⟨by rfl, ?_⟩) hHeld ?_
    rotate_left
    · intro u hSu
      (go_simp) <;> (with_reducible rfl)
    change wpAnyH _ _ _ _ _ _ _ (Act.put _ (some 32) _) _
    simp only [Act.put, List.setIfInBounds_toArray, List.set_cons_zero, List.set_cons_succ]
    refine wpAnyH_take (i := 4) (v := ?_) rfl (by kernel_rfl) (by kernel_rfl) (by kernel_rfl) (fun _ _ _ h => h) (Or.inl ⟨by rfl, ?_⟩) hHeld ?_
    rotate_left
    · intro u hSu
      (go_simp) <;> (with_reducible rfl)
    change wpAnyH _ _ _ _ _ _ _ (Act.put _ (some 33) _) _
    simp only [Act.put, List.setIfInBounds_toArray, List.set_cons_zero, List.set_cons_succ]
    refine wpAnyH_take (i := 5) (v := ?_) rfl (by kernel_rfl) (by kernel_rfl) (by kernel_rfl) (fun _ _ _ h => h) (Or.inl ⟨by rfl, ?_⟩) hHeld ?_
    rotate_left
    · intro u hSu
      (go_simp) <;> (with_reducible rfl)
    change wpAnyH _ _ _ _ _ _ _ (Act.put _ (some 34) _) _
    simp only [Act.put, List.setIfInBounds_toArray, List.set_cons_zero, List.set_cons_succ]
    refine wpAnyH_take (i := 6) (v := ?_) rfl (by kernel_rfl) (by kernel_rfl) (by kernel_rfl) (fun _ _ _ h => h) (Or.inl ⟨by rfl, ?_⟩) hHeld ?_
    rotate_left
    · intro u hSu
      (go_simp) <;> (with_reducible rfl)
    change wpAnyH _ _ _ _ _ _ _ (Act.put _ (some 35) _) _
    simp only [Act.put, List.setIfInBounds_toArray, List.set_cons_zero, List.set_cons_succ]
    refine wpAnyH_take (i := 7) (v := kv A) rfl (by kernel_rfl) (by kernel_rfl) (by kernel_rfl) (fun _ _ _ h => h) (yieldsIf_load_mid (by rfl) _ _ rfl _ _ rfl (A.map (Value.int .u8)) _ (fun u hu => (KA.out u hu).range HAK.out) Try.underlying24 rfl (info_keyl A HAK.out)) hHeld ?_
    change wpAnyH _ _ _ _ _ _ _ (Act.put _ (some 36) _) _
    simp only [Act.put, List.setIfInBounds_toArray, List.set_cons_zero, List.set_cons_succ]
    refine wpAnyH_take (i := 8) (v := kv B) rfl (by kernel_rfl) (by kernel_rfl) (by kernel_rfl) (fun _ _ _ h => h) (yieldsIf_load_mid (by rfl) _ _ rfl _ _ rfl (B.map (Value.int .u8)) _ (fun u hu => (KB.out u hu).range HBK.out) Try.underlying24 rfl (info_keyl B HBK.out)) hHeld ?_
    change wpAnyH _ _ _ _ _ _ _ (Act.put _ (some 37) _) _
    simp only [Act.put, List.setIfInBounds_toArray, List.set_cons_zero, List.set_cons_succ]
    refine wpAnyH_take (i := 11) (v := ?_) rfl (by kernel_rfl) (by kernel_rfl) (by kernel_rfl) (fun _ _ _ h => h) (Or.inl ⟨by rfl, ?_⟩) hHeld ?_
    rotate_left
    · intro u hSu
      (go_simp) <;> (with_reducible rfl)
    change wpAnyH _ _ _ _ _ _ _ (Act.put _ (some 40) _) _
    simp only [Act.put, List.setIfInBounds_toArray, List.set_cons_zero, List.set_cons_succ]
    refine wpAnyH_take (i := 12) (v := ?_) rfl (by kernel_rfl) (by kernel_rfl) (by kernel_rfl) (fun _ _ _ h => h) (Or.inl ⟨by rfl, ?_⟩) hHeld ?_
    rotate_left
    · intro u hSu
      (go_simp) <;> (with_reducible rfl)
    change wpAnyH _ _ _ _ _ _ _ (Act.put _ (some 41) _) _
    simp only [Act.put, List.setIfInBounds_toArray, List.set_cons_zero, List.set_cons_succ]
    refine wpAnyH_take (i := 13) (v := ?_) rfl (by kernel_rfl) (by kernel_rfl) (by kernel_rfl) (fun _ _ _ h => h) (Or.inl ⟨by rfl, ?_⟩) hHeld ?_
    rotate_left
    · intro u hSu
      (go_simp) <;> (with_reducible rfl)
    change wpAnyH _ _ _ _ _ _ _ (Act.put _ (some 42) _) _
    simp only [Act.put, List.setIfInBounds_toArray, List.set_cons_zero, List.set_cons_succ]
    refine wpAnyH_ready (rs := [9]) (by kernel_rfl) (by simp) ?_
    refine AllReadyH.cons rfl (fun K hK => ?_) AllReadyH.nil
    go_simp
    go_at_call 18
    refine (C3.out _).mono ?_
    rintro e v4 ⟨rfl, hbv4⟩
    have B4 : Hid (Below u2.heap.size u2 v4) := hHeld.trans (hbv4.mono hHeld.size)
    clear hbv4
    refine hK.out _ _ ?_ (fun hHeld2 => ?_)
    · exact B4.out
    clear hK K hHeld
    have hHeld := hHeld2
    clear hHeld2
    refine wpAnyH_take (i := 10) (v := ?_) rfl (by kernel_rfl) (by kernel_rfl) (by kernel_rfl) (fun _ _ _ h => h) (Or.inl ⟨by rfl, ?_⟩) hHeld ?_
    rotate_left
    · intro u hSu
      (go_simp) <;> (with_reducible rfl)
    change wpAnyH _ _ _ _ _ _ _ (Act.put _ (some 39) _) _
    simp only [Act.put, List.setIfInBounds_toArray, List.set_cons_zero, List.set_cons_succ]
    refine wpAnyH_take (i := 14) (v := ?_) rfl (by kernel_rfl) (by kernel_rfl) (by kernel_rfl) (fun _ _ _ h => h) (Or.inl ⟨by rfl, ?_⟩) hHeld ?_
    rotate_left
    · intro u hSu
      (go_simp) <;> (with_reducible rfl)
    change wpAnyH _ _ _ _ _ _ _ (Act.put _ (some 43) _) _
    simp only [Act.put, List.setIfInBounds_toArray, List.set_cons_zero, List.set_cons_succ]
    refine wpAnyH_take (i := 15) (v := ?_) rfl (by kernel_rfl) (by kernel_rfl) (by kernel_rfl) (fun _ _ _ h => h) (Or.inl ⟨by rfl, ?_⟩) hHeld ?_
    rotate_left
    · intro u hSu
      (go_simp) <;> (with_reducible rfl)
    change wpAnyH _ _ _ _ _ _ _ (Act.put _ (some 44) _) _
    simp only [Act.put, List.setIfInBounds_toArray, List.set_cons_zero, List.set_cons_succ]
    refine wpAnyH_take (i := 16) (v := kv A) rfl (by kernel_rfl) (by kernel_rfl) (by kernel_rfl) (fun _ _ _ h => h) (yieldsIf_load_mid (by rfl) _ _ rfl _ _ rfl (A.map (Value.int .u8)) _ (fun u hu => (KA.out u hu).range HAK.out) Try.underlying24 rfl (info_keyl A HAK.out)) hHeld ?_
    change wpAnyH _ _ _ _ _ _ _ (Act.put _ (some 45) _) _
    simp only [Act.put, List.setIfInBounds_toArray, List.set_cons_zero, List.set_cons_succ]
    refine wpAnyH_take (i := 17) (v := kv B) rfl (by kernel_rfl) (by kernel_rfl) (by kernel_rfl) (fun _ _ _ h => h) (yieldsIf_load_mid (by rfl) _ _ rfl _ _ rfl (B.map (Value.int .u8)) _ (fun u hu => (KB.out u hu).range HBK.out) Try.underlying24 rfl (info_keyl B HBK.out)) hHeld ?_
    change wpAnyH _ _ _ _ _ _ _ (Act.put _ (some 46) _) _
    simp only [Act.put, List.setIfInBounds_toArray, List.set_cons_zero, List.set_cons_succ]
    refine wpAnyH_take (i := 20) (v := ?_) rfl (by kernel_rfl) (by kernel_rfl) (by kernel_rfl) (fun _ _ _ h => h) (Or.inl ⟨by rfl, ?_⟩) hHeld ?_
    rotate_left
    · intro u hSu
      (go_simp) <;> (with_reducible rfl)
    change wpAnyH _ _ _ _ _ _ _ (Act.put _ (some 49) _) _
    simp only [Act.put, List.setIfInBounds_toArray, List.set_cons_zero, List.set_cons_succ]
    refine wpAnyH_take (i := 21) (v := ?_) rfl (by kernel_rfl) (by kernel_rfl) (by kernel_rfl) (fun _ _ _ h => h) (Or.inl ⟨by rfl, ?_⟩) hHeld ?_
    rotate_left
    · intro u hSu
      (go_simp) <;> (with_reducible rfl)
    change wpAnyH _ _ _ _ _ _ _ (Act.put _ (some 50) _) _
    simp only [Act.put, List.setIfInBounds_toArray, List.set_cons_zero, List.set_cons_succ]
    refine wpAnyH_take (i := 22) (v := ?_) rfl (by kernel_rfl) (by kernel_rfl) (by kernel_rfl) (fun _ _ _ h => h) (Or.inl ⟨by rfl, ?_⟩) hHeld ?_
    rotate_left
    · intro u hSu
      (go_simp) <;> (with_reducible rfl)
    change wpAnyH _ _ _ _ _ _ _ (Act.put _ (some 51) _) _
    simp only [Act.put, List.setIfInBounds_toArray, List.set_cons_zero, List.set_cons_succ]
    refine wpAnyH_ready (rs := [18]) (by kernel_rfl) (by simp) ?_
    refine AllReadyH.cons rfl (fun K hK => ?_) AllReadyH.nil
    go_simp
    go_at_call 18
    refine (C3.out _).mono ?_
    rintro e v5 ⟨rfl, hbv5⟩
    have B5 : Hid (Below u2.heap.size u2 v5) := hHeld.trans (hbv5.mono hHeld.size)
    clear hbv5
    refine hK.out _ _ ?_ (fun hHeld2 => ?_)
    · exact B5.out
    clear hK K hHeld
    have hHeld := hHeld2
    clear hHeld2
    refine wpAnyH_take (i := 19) (v := ?_) rfl (by kernel_rfl) (by kernel_rfl) (by kernel_rfl) (fun _ _ _ h => h) (Or.inl ⟨by rfl, ?_⟩) hHeld ?_
    rotate_left
    · intro u hSu
      (go_simp) <;> (with_reducible rfl)
    change wpAnyH _ _ _ _ _ _ _ (Act.put _ (some 48) _) _
    simp only [Act.put, List.setIfInBounds_toArray, List.set_cons_zero, List.set_cons_succ]
    refine wpAnyH_take (i := 23) (v := ?_) rfl (by kernel_rfl) (by kernel_rfl) (by kernel_rfl) (fun _ _ _ h => h) (Or.inl ⟨by rfl, ?_⟩) hHeld ?_
    rotate_left
    · intro u hSu
      (go_simp) <;> (with_reducible rfl)
    change wpAnyH _ _ _ _ _ _ _ (Act.put _ (some 52) _) _
    simp only [Act.put, List.setIfInBounds_toArray, List.set_cons_zero, List.set_cons_succ]
    refine wpAnyH_take (i := 24) (v := ?_) rfl (by kernel_rfl) (by kernel_rfl) (by kernel_rfl) (fun _ _ _ h => h) (Or.inl ⟨by rfl, ?_⟩) hHeld ?_
    rotate_left
    · intro u hSu
      (go_simp) <;> (with_reducible rfl)
    change wpAnyH _ _ _ _ _ _ _ (Act.put _ (some 53) _) _
    simp only [Act.put, List.setIfInBounds_toArray, List.set_cons_zero, List.set_cons_succ]
    refine wpAnyH_take (i := 25) (v := ?_) rfl (by kernel_rfl) (by kernel_rfl) (by kernel_rfl) (fun _ _ _ h => h) (Or.inl ⟨by rfl, ?_⟩) hHeld ?_
    rotate_left
    · intro u hSu
      (go_simp) <;> (with_reducible rfl)
    change wpAnyH _ _ _ _ _ _ _ (Act.put _ (some 54) _) _
    simp only [Act.put, List.setIfInBounds_toArray, List.set_cons_zero, List.set_cons_succ]
    refine wpAnyH_take (i := 26) (v := kv A) rfl (by kernel_rfl) (by kernel_rfl) (by kernel_rfl) (fun _ _ _ h => h) (yieldsIf_load_mid (by rfl) _ _ rfl _ _ rfl (A.map (Value.int .u8)) _ (fun u hu => (KA.out u hu).range HAK.out) Try.underlying24 rfl (info_keyl A HAK.out)) hHeld ?_
    change wpAnyH _ _ _ _ _ _ _ (Act.put _ (some 55) _) _
    simp only [Act.put, List.setIfInBounds_toArray, List.set_cons_zero, List.set_cons_succ]
    refine wpAnyH_take (i := 27) (v := kv B) rfl (by kernel_rfl) (by kernel_rfl) (by kernel_rfl) (fun _ _ _ h => h) (yieldsIf_load_mid (by rfl) _ _ rfl _ _ rfl (B.map (Value.int .u8)) _ (fun u hu => (KB.out u hu).range HBK.out) Try.underlying24 rfl (info_keyl B HBK.out)) hHeld ?_
    change wpAnyH _ _ _ _ _ _ _ (Act.put _ (some 56) _) _
    simp only [Act.put, List.setIfInBounds_toArray, List.set_cons_zero, List.set_cons_succ]
    refine wpAnyH_take (i := 29) (v := kv B) rfl (by kernel_rfl) (by kernel_rfl) (by kernel_rfl) (fun _ _ _ h => h) (yieldsIf_load_mid (by rfl) _ _ rfl _ _ rfl (B.map (Value.int .u8)) _ (fun u hu => (KB.out u hu).range HBK.out) Try.underlying24 rfl (info_keyl B HBK.out)) hHeld ?_
    change wpAnyH _ _ _ _ _ _ _ (Act.put _ (some 58) _) _
    simp only [Act.put, List.setIfInBounds_toArray, List.set_cons_zero, List.set_cons_succ]
    refine wpAnyH_take (i := 30) (v := kv A) rfl (by kernel_rfl) (by kernel_rfl) (by kernel_rfl) (fun _ _ _ h => h) (yieldsIf_load_mid (by rfl) _ _ rfl _ _ rfl (A.map (Value.int .u8)) _ (fun u hu => (KA.out u hu).range HAK.out) Try.underlying24 rfl (info_keyl A HAK.out)) hHeld ?_
    change wpAnyH _ _ _ _ _ _ _ (Act.put _ (some 59) _) _
    simp only [Act.put, List.setIfInBounds_toArray, List.set_cons_zero, List.set_cons_succ]
    refine wpAnyH_ready (rs := [28]) (by kernel_rfl) (by simp) ?_
    refine AllReadyH.cons rfl (fun K hK => ?_) AllReadyH.nil
    go_simp
    go_at_call 18
    refine (C3.out _).mono ?_
    rintro e v6 ⟨rfl, hbv6⟩
    have B6 : Hid (Below u2.heap.size u2 v6) := hHeld.trans (hbv6.mono hHeld.size)
    clear hbv6
    refine hK.out _ _ ?_ (fun hHeld2 => ?_)
    · exact B6.out
    clear hK K hHeld
    have hHeld := hHeld2
    clear hHeld2
    refine wpAnyH_ready (rs := [31]) (by kernel_rfl) (by simp) ?_
    refine AllReadyH.cons rfl (fun K hK => ?_) AllReadyH.nil
    go_simp
    go_at_call 18
    refine (C4.out _).mono ?_
    rintro e v7 ⟨rfl, hbv7⟩
    have B7 : Hid (Below u2.heap.size u2 v7) := hHeld.trans (hbv7.mono hHeld.size)
    clear hbv7
    refine hK.out _ _ ?_ (fun hHeld2 => ?_)
    · exact B7.out
    clear hK K hHeld
    have hHeld := hHeld2
    clear hHeld2
    refine wpAnyH_take (i := 32) (v := ?_) rfl (by kernel_rfl) (by kernel_rfl) (by kernel_rfl) (fun _ _ _ h => h) (Or.inl ⟨by rfl, ?_⟩) hHeld ?_
    rotate_left
    · intro u hSu
      (go_simp) <;> (with_reducible rfl)
    change wpAnyH _ _ _ _ _ _ _ (Act.put _ (some 61) _) _
    simp only [Act.put, List.setIfInBounds_toArray, List.set_cons_zero, List.set_cons_succ]
    refine wpAnyH_take (i := 33) (v := ?_) rfl (by kernel_rfl) (by kernel_rfl) (by kernel_rfl) (fun _ _ _ h => h) (Or.inl ⟨by rfl, ?_⟩) hHeld ?_
    rotate_left
    · intro u hSu
      (go_simp) <;> (with_reducible rfl)
    change wpAnyH _ _ _ _ _ _ _ (Act.put _ (some 62) _) _
    simp only [Act.put, List.setIfInBounds_toArray, List.set_cons_zero, List.set_cons_succ]
    refine wpAnyH_take (i := 34) (v := ?_) rfl (by kernel_rfl) (by kernel_rfl) (by kernel_rfl) (fun _ _ _ h => h) (Or.inl ⟨by rfl, ?_⟩) hHeld ?_
    rotate_left
    · intro u hSu
      (go_simp) <;> (with_reducible rfl)
    change wpAnyH _ _ _ _ _ _ _ (Act.put _ (some 63) _) _
    simp only [Act.put, List.setIfInBounds_toArray, List.set_cons_zero, List.set_cons_succ]
    refine wpAnyH_take (i := 35) (v := ?_) rfl (by kernel_rfl) (by kernel_rfl) (by kernel_rfl) (fun _ _ _ h => h) (Or.inl ⟨by rfl, ?_⟩) hHeld ?_
    rotate_left
    · intro u hSu
      (go_simp) <;> (with_reducible rfl)
    change wpAnyH _ _ _ _ _ _ _ (Act.put _ (some 64) _) _
    simp only [Act.put, List.setIfInBounds_toArray, List.set_cons_zero, List.set_cons_succ]
    refine wpAnyH_take (i := 36) (v := ?_) rfl (by kernel_rfl) (by kernel_rfl) (by kernel_rfl) (fun _ _ _ h => h) (Or.inl ⟨by rfl, ?_⟩) hHeld ?_
    rotate_left
    · intro u hSu
      (go_simp) <;> (with_reducible rfl)
    change wpAnyH _ _ _ _ _ _ _ (Act.put _ (some 4) _) _
    simp only [Act.put, List.setIfInBounds_toArray, List.set_cons_zero, List.set_cons_succ]
    refine wpAnyH_done (by kernel_rfl) ?_ _
    refine NoPanic.normal ?_
    go_wp2
    go_ret
    exact ⟨rfl, WU.out.trans (B7.out.mono WU.out.size)⟩

set_option maxRecDepth 100000 in
theorem lifted (os : Os) (started : os.Started) (H : Type) (enc : TypeId × Value → H) :
    ReturnsInHanded {} Try.checked os 6 .any (Rows.keyOrderSpec.pre6 enc Try.prog Try.f6 Rows.keyOrderRow.domain false) (Rows.keyOrderSpec.post enc Try.prog Try.f6 false true false false) := by
  refine returnsInHanded_of_change (C := Try.checked) own started (by kernel_rfl) Try.func6
    (ChangeSpec.witness6 (enc := enc) (C := Try.checked) false ⟨#[], #[.string ⟨#[]⟩, .string ⟨#[]⟩], []⟩ 8 (by kernel_rfl) (by kernel_rfl) (by kernel_rfl) (by kernel_rfl)) ?_
  intro W base args ds gs before hval0 hW hcnd _
  have hval : ∀ (j : Nat) t v, Try.f6.params[j]? = some t → args[j]? = some v → Value.okWide Try.prog W .any base t v := hval0
  have hW' := hW
  obtain ⟨p, q, hA0, hV, rfl, hfz, hnd⟩ := hW
  have hA : DataW.TrodAll enc Try.prog W 0 (fun _ => true) true Try.f6.params.toList args.toList ds p := hA0
  rw [Try.params6] at hA hval
  obtain ⟨v0, vs0, d0, ds0, p0, q0, hargs, rfl, rfl, h0, r0⟩ := trodAll_cons hA
  obtain ⟨v1, vs1, d1, ds1, p1, q1, rfl, rfl, rfl, h1, r1⟩ := trodAll_cons r0
  obtain ⟨rfl, rfl, rfl⟩ := trodAll_nil r1
  obtain rfl : args = #[v0, v1] := by cases args; simp_all
  obtain ⟨rfl, rfl⟩ := trodVars_none hV
  have k0 := h0
  have lt0 : ∀ x ∈ p0, x.block < W.heap.size := by obtain ⟨m, hm⟩ := k0; exact DataW.trod_lt m _ _ _ hm
  obtain ⟨a0, rfl, rfl, rfl, w0⟩ := open_string Try.underlying9 (hval 0 9 v0 rfl rfl) h0
  have k1 := h1
  have lt1 : ∀ x ∈ p1, x.block < W.heap.size := by obtain ⟨m, hm⟩ := k1; exact DataW.trod_lt m _ _ _ hm
  obtain ⟨a1, rfl, rfl, rfl, w1⟩ := open_string Try.underlying9 (hval 1 9 v1 rfl rfl) h1
  clear hA0 hval0
  refine (walk a0 a1 W w0 w1).mono fun e W' ⟨he, bel⟩ => ?_
  subst he
  exact ⟨_, rfl, _, _, _, [], _, [], hW', trodAll_mk1 (shut_bool Try.underlying4 _), (trodAll_cons_mk (Below.trod laidOut (by kernel_rfl) (of_decide_eq_true (by kernel_rfl)) k0 bel lt0) (trodAll_cons_mk (Below.trod laidOut (by kernel_rfl) (of_decide_eq_true (by kernel_rfl)) k1 bel lt1) trodAll_mk0)), rfl, bel.frame _, fun h => by cases h⟩

theorem over : Rows.keyOrderRow.holds Try.pinned (OpenSpec.ofChange Rows.keyOrderSpec) :=
  OpenClaim.holds_of_wide 6 Try.f6 rfl rfl rfl rfl rfl rfl rfl ⟨rfl, rfl, rfl, rfl, rfl⟩ rfl rfl rfl rfl rfl (by kernel_rfl) Try.func6 (by kernel_rfl)
    (of_decide_eq_true (by kernel_rfl)) (by unfold Func.isWrapper; first | (rw [if_pos (by decide +kernel)]; kernel_rfl) | (rw [if_neg (by decide +kernel)]; exact ⟨rfl, rfl⟩))
    (fun os started H enc _ => lifted os started H enc)
theorem proved : Rows.KeyOrderSaid := over
#print axioms proved
end Go.Proofs.Ytfgbgcaackhcmaa.keyOrder
namespace Go.Proofs.Ytfgbgcaackhcmaa
/-- KeyOrder, as given. -/
theorem keyOrder_holds : Rows.KeyOrderSaid := keyOrder.proved
end Go.Proofs.Ytfgbgcaackhcmaa
