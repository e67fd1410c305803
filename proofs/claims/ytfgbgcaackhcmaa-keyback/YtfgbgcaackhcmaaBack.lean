/-
  KeyBack: a text's key has that text, and a key that may be is its text's, for every text (of more than 100 bytes the statement asks nothing) and every key.
-/
import Derived.Test.YtfgbgcaackhcmaaRows
import Derived.Test.YtfgbgcaackhcmaaKeyAwake
import Derived.Test.YtfgbgcaackhcmaaKeysOpen
import Derived.Test.YtfgbgcaackhcmaaNested
import Derived.WalkKit
import Derived.ProofKit
import Derived.OpenShut
import Derived.ShutString
import Derived.ChangeOld
import Derived.Below
import Derived.Carry
namespace Go.Proofs.Ytfgbgcaackhcmaa.keyBack
open Go.ChangeShapes Go.WideShapes Go.ChangeAt Go.RowKit
open Go.ChangeMaps (open_string shut_string)
set_option linter.unusedVariables false

theorem own : ownKnob Try.prog.godebug = none := by kernel_rfl
theorem laidOut : laidOutB Try.prog = true := by kernel_rfl
/-- A slice of integers that came in: nil, or a row of 'cap' cells, of which the first 'len' are its elements. -/
def IsRow (k : IntKind) (w : World) (a : Option Addr) (len cap : Nat) (zs : List Int) : Prop :=
  (a = none ∧ len = 0 ∧ cap = 0 ∧ zs = []) ∨
  ∃ x, a = some x ∧ len ≤ cap ∧ cap ≤ maxLen ∧ zs.length = cap ∧ (∀ i, i < zs.length → w.cell? (x.add i) = some (.int k (zs.getD i 0))) ∧ ∀ n ∈ zs, (Lit.int k n).wf = true

set_option maxRecDepth 4000 in
set_option maxHeartbeats 2000000 in
theorem walk (a0 : ByteArray) (z1 : List Int) (w : World) (w0 : a0.size ≤ maxLen) (w1 : IsArr .u8 16 z1) :
    Calls Try.prog 5 #[.string a0, .agg (z1.map (Value.int .u8)).toArray] w fun e w' => e = .returned (.bool true) ∧ Below w.heap.size w w' := by
  have HZK : Hid (Ky z1) := w1.ky
  have AW : Hid (∀ u, Calls Try.prog 9 #[] u fun e w' => e = .returned (.bool true) ∧ Below u.heap.size u w') := fun u => awake_any u
  have H0 : Hid (KeyAt (w.alloc (.cells (kcs z1) 24)) w.heap.size 0 z1) := KeyAt.made w 24 z1 w1.ky
  have HB0 : Hid (Below w.heap.size w (w.alloc (.cells (kcs z1) 24))) := (Below.refl _ _).alloc (Nat.le_refl _) _
  obtain ⟨xs, hxs, hb, hl⟩ := str_nums a0
  clear w0 w1
  by_cases r1 : 100 < a0.size
  · have r1' : (100 : Int) < (a0.size : Int) := by omega
    clear hxs hb hl
    go_enter Try.func5, Try.ntmps5
    go_wp2_with (go_at_call 9; refine (AW.out _).mono ?_; rintro e v1 ⟨rfl, hb1⟩; have W1 : Hid (Below w.heap.size w v1) := HB0.out.trans (hb1.mono HB0.out.size); clear hb1)
    go_ret
    exact ⟨rfl, W1.out⟩
  have r1' : ¬ (100 : Int) < (a0.size : Int) := by omega
  obtain ⟨A, hA⟩ : ∃ A, A = ofK xs := ⟨_, rfl⟩
  obtain ⟨T, hT⟩ : ∃ T, T = textK z1 := ⟨_, rfl⟩
  obtain ⟨B, hBd⟩ : ∃ B, B = ofK T := ⟨_, rfl⟩
  have hTb : ∀ z ∈ T, 0 ≤ z ∧ z ≤ 255 := by rw [hT]; exact text_bytes HZK.out
  have hTl : T.length ≤ 1000000 := by rw [hT]; exact text_len HZK.out
  have HAK : Hid (Ky A) := by rw [hA]; exact ofK_ky hb
  have HBK : Hid (Ky B) := by rw [hBd]; exact ofK_ky hTb
  have C1 : Hid (∀ u, Calls Try.prog 10 #[.string a0] u fun e w' => e = .returned (.tuple #[kv A, .int .i64 (if mayK xs = true then 0 else 1)]) ∧ Below u.heap.size u w') := fun u => by rw [hA, hxs]; exact kof_any xs hb (by omega) u
  obtain ⟨ST, hST⟩ : ∃ ST, ST = strOfNums T := ⟨_, rfl⟩
  have C5 : Hid (∀ u, Calls Try.prog 12 #[kv z1] u fun e w' => e = .returned (.string ST) ∧ Below u.heap.size u w') := fun u => by rw [hST, hT]; exact ktext_any z1 HZK.out u
  have C6 : Hid (∀ u, Calls Try.prog 10 #[.string ST] u fun e w' => e = .returned (.tuple #[kv B, .int .i64 (if goodK z1 = true then 0 else 1)]) ∧ Below u.heap.size u w') := fun u => by
    have c := kof_any T hTb hTl u
    rw [show mayK T = goodK z1 by rw [hT]; exact (text_may HZK.out).1, ← hBd, ← hST] at c
    exact c
  have C7 : Hid (∀ u, Calls Try.prog 13 #[kv z1] u fun e w' => e = .returned (.bool (goodK z1)) ∧ Below u.heap.size u w') := fun u => kgood_any z1 HZK.out u
  clear hST hTb hTl
  by_cases hmay : mayK xs = true <;> by_cases hgood : goodK z1 = true
  · skip
    have C3 : Hid (∀ u, Calls Try.prog 12 #[kv A] u fun e w' => e = .returned (.string a0) ∧ Below u.heap.size u w') := fun u => by
      have c := ktext_any A HAK.out u
      rw [show strOfNums (textK A) = a0 by rw [hA, hxs]; show strOfNums (textK (ofK xs)) = _; unfold ofK; rw [if_pos hmay]; unfold textK; rw [if_pos (good_key hmay).1, (good_key hmay).2]] at c
      exact c
    have C4 : Hid (∀ u, Calls Try.prog 13 #[kv A] u fun e w' => e = .returned (.bool true) ∧ Below u.heap.size u w') := fun u => by
      have c := kgood_any A HAK.out u
      rw [show goodK A = true by rw [hA]; unfold ofK; rw [if_pos hmay]; exact (good_key hmay).1] at c
      exact c
    have hss : (a0.toList != a0.toList) = false := by simp
    have hB : B = z1 := by rw [hBd]; unfold ofK; rw [if_pos (by rw [hT]; exact (text_may HZK.out).1.trans hgood), hT]; exact (text_may HZK.out).2 hgood
    have hq : ∀ u, (Op.equalIn 10000 24 (kv B) (kv z1)).run Try.prog u = .ok true u := fun u => by rw [eq_key u B z1 HBK.out HZK.out, decide_eq_true hB]
    clear hB
    rw [if_pos hmay] at C1
    rw [if_pos hgood] at C6
    rw [hgood] at C7
    clear hmay hgood hA hxs hBd hT hb hl
    go_enter Try.func5, Try.ntmps5
    go_wp2_with (first
      | (have hgo := AW.out; clear hgo; go_at_call 9; refine (AW.out _).mono ?_; rintro e v1 ⟨rfl, hb1⟩; have K1 : Hid (KeyAt v1 w.heap.size 0 z1) := H0.out.past hb1; have W1 : Hid (Below w.heap.size w v1) := HB0.out.trans (hb1.mono HB0.out.size); clear hb1 AW)
      | (have hgo := C1.out; clear hgo; have hgo := K1.out; clear hgo; go_at_call 10; refine (C1.out _).mono ?_; rintro e v2 ⟨rfl, hb2⟩; have HM : Hid (Uno v1 (v2.alloc (.cells (kcs zeroK) 24)) v2.heap.size zeroK) := uno_made hb2 24; rw [zero_list] at HM; clear hb2 C1)
      | (have hgo := HM.out; clear hgo; refine wpList_store_keyU (by rfl) _ _ (by rfl) v2.heap.size 0 zeroK A (by rfl) (by rfl) HAK.out HM.out.key ?_; intro u1 hu; have H1 : Hid (Uno v1 u1 v2.heap.size A) := hu ▸ HM.out.store HAK.out; have KA : Hid (∀ u, Below u1.heap.size u1 u → KeyAt u v2.heap.size 0 A) := fun u hb => H1.out.at hb; have KZ : Hid (∀ u, Below u1.heap.size u1 u → KeyAt u w.heap.size 0 z1) := fun u hb => (K1.out.past H1.out.below).past hb; have WU : Hid (Below w.heap.size w u1) := W1.out.trans (H1.out.below.mono W1.out.size); have B1 : Hid (Below u1.heap.size u1 u1) := Below.refl _ _; clear hu HM)
      | (have hgo := KA.out; clear hgo; have hgo := C4.out; clear hgo; (with_reducible show wpList _ _ _ (Oper.mk (some 22) _ _ _ _ _ :: _) _ _); refine wpList_load_keyD 22 (by rfl) (by rfl) _ (by rfl) v2.heap.size 0 (by rfl) A HAK.out (KA.out _ (by first | exact B9.out | exact B8.out | exact B7.out | exact B6.out | exact B5.out | exact B4.out | exact B3.out | exact B2.out | exact B1.out)) ?_)
      | (have hgo := KA.out; clear hgo; have hgo := C4.out; clear hgo; (with_reducible show wpList _ _ _ (Oper.mk (some 27) _ _ _ _ _ :: _) _ _); refine wpList_load_keyD 27 (by rfl) (by rfl) _ (by rfl) v2.heap.size 0 (by rfl) A HAK.out (KA.out _ (by first | exact B9.out | exact B8.out | exact B7.out | exact B6.out | exact B5.out | exact B4.out | exact B3.out | exact B2.out | exact B1.out)) ?_)
      | (have hgo := KA.out; clear hgo; have hgo := C3.out; clear hgo; go_at_call 12; refine (C3.out _).mono ?_; rintro e v3 ⟨rfl, hb3⟩; have B2 : Hid (Below u1.heap.size u1 v3) := B1.out.trans (hb3.mono B1.out.size); clear hb3 C3)
      | (have hgo := B2.out; clear hgo; have hgo := C4.out; clear hgo; go_at_call 13; refine (C4.out _).mono ?_; rintro e v4 ⟨rfl, hb4⟩; have B3 : Hid (Below u1.heap.size u1 v4) := B2.out.trans (hb4.mono B2.out.size); clear hb4 C4)
      | (have hgo := B3.out; clear hgo; have hgo := C5.out; clear hgo; (with_reducible show wpList _ _ _ (Oper.mk (some 33) _ _ _ _ _ :: _) _ _); refine wpList_load_keyN 33 (by rfl) (by rfl) _ (by rfl) w.heap.size 0 (by rfl) z1 HZK.out (KZ.out _ (by first | exact B9.out | exact B8.out | exact B7.out | exact B6.out | exact B5.out | exact B4.out | exact B3.out | exact B2.out | exact B1.out)) ?_)
      | (have hgo := B3.out; clear hgo; have hgo := C5.out; clear hgo; go_at_call 12; refine (C5.out _).mono ?_; rintro e v5 ⟨rfl, hb5⟩; have B4 : Hid (Below u1.heap.size u1 v5) := B3.out.trans (hb5.mono B3.out.size); clear hb5 C5)
      | (have hgo := B4.out; clear hgo; have hgo := C6.out; clear hgo; go_at_call 10; refine (C6.out _).mono ?_; rintro e v6 ⟨rfl, hb6⟩; have HM2 : Hid (Uno v5 (v6.alloc (.cells (kcs zeroK) 24)) v6.heap.size zeroK) := uno_made hb6 24; rw [zero_list] at HM2; clear hb6 C6)
      | (have hgo := HM2.out; clear hgo; refine wpList_store_keyU (by rfl) _ _ (by rfl) v6.heap.size 0 zeroK B (by rfl) (by rfl) HBK.out HM2.out.key ?_; intro u2 hu; have H2 : Hid (Uno v5 u2 v6.heap.size B) := hu ▸ HM2.out.store HBK.out; have B5 : Hid (Below u1.heap.size u1 u2) := B4.out.trans (H2.out.below.mono B4.out.size); have KB : Hid (∀ u, Below u2.heap.size u2 u → KeyAt u v6.heap.size 0 B) := fun u hb => H2.out.at hb; clear hu HM2)
      | (have hgo := B5.out; clear hgo; have hgo := C7.out; clear hgo; (with_reducible show wpList _ _ _ (Oper.mk (some 38) _ _ _ _ _ :: _) _ _); refine wpList_load_keyN 38 (by rfl) (by rfl) _ (by rfl) w.heap.size 0 (by rfl) z1 HZK.out (KZ.out _ (by first | exact B9.out | exact B8.out | exact B7.out | exact B6.out | exact B5.out | exact B4.out | exact B3.out | exact B2.out | exact B1.out)) ?_)
      | (have hgo := B5.out; clear hgo; have hgo := C7.out; clear hgo; go_at_call 13; refine (C7.out _).mono ?_; rintro e v7 ⟨rfl, hb7⟩; have D6 : Hid (Below u2.heap.size u2 v7) := hb7; have B6 : Hid (Below u1.heap.size u1 v7) := B5.out.trans (hb7.mono B5.out.size); clear hb7 C7)
      | (have hgo := D6.out; clear hgo; (with_reducible show wpList _ _ _ (Oper.mk (some 47) _ _ _ _ _ :: _) _ _); refine wpList_load_keyD 47 (by rfl) (by rfl) _ (by rfl) v6.heap.size 0 (by rfl) B HBK.out (KB.out _ D6.out) ?_)
      | (have hgo := D6.out; clear hgo; (with_reducible show wpList _ _ _ (Oper.mk (some 48) _ _ _ _ _ :: _) _ _); refine wpList_load_keyD 48 (by rfl) (by rfl) _ (by rfl) w.heap.size 0 (by rfl) z1 HZK.out (KZ.out _ B6.out) ?_))
    go_ret
    exact ⟨rfl, WU.out.trans (B6.out.mono WU.out.size)⟩
  · skip
    have C3 : Hid (∀ u, Calls Try.prog 12 #[kv A] u fun e w' => e = .returned (.string a0) ∧ Below u.heap.size u w') := fun u => by
      have c := ktext_any A HAK.out u
      rw [show strOfNums (textK A) = a0 by rw [hA, hxs]; show strOfNums (textK (ofK xs)) = _; unfold ofK; rw [if_pos hmay]; unfold textK; rw [if_pos (good_key hmay).1, (good_key hmay).2]] at c
      exact c
    have C4 : Hid (∀ u, Calls Try.prog 13 #[kv A] u fun e w' => e = .returned (.bool true) ∧ Below u.heap.size u w') := fun u => by
      have c := kgood_any A HAK.out u
      rw [show goodK A = true by rw [hA]; unfold ofK; rw [if_pos hmay]; exact (good_key hmay).1] at c
      exact c
    have hss : (a0.toList != a0.toList) = false := by simp
    rw [if_pos hmay] at C1
    rw [if_neg hgood] at C6
    rw [show goodK z1 = false by simpa using hgood] at C7
    clear hmay hgood hA hxs hBd hT hb hl
    go_enter Try.func5, Try.ntmps5
    go_wp2_with (first
      | (have hgo := AW.out; clear hgo; go_at_call 9; refine (AW.out _).mono ?_; rintro e v1 ⟨rfl, hb1⟩; have K1 : Hid (KeyAt v1 w.heap.size 0 z1) := H0.out.past hb1; have W1 : Hid (Below w.heap.size w v1) := HB0.out.trans (hb1.mono HB0.out.size); clear hb1 AW)
      | (have hgo := C1.out; clear hgo; have hgo := K1.out; clear hgo; go_at_call 10; refine (C1.out _).mono ?_; rintro e v2 ⟨rfl, hb2⟩; have HM : Hid (Uno v1 (v2.alloc (.cells (kcs zeroK) 24)) v2.heap.size zeroK) := uno_made hb2 24; rw [zero_list] at HM; clear hb2 C1)
      | (have hgo := HM.out; clear hgo; refine wpList_store_keyU (by rfl) _ _ (by rfl) v2.heap.size 0 zeroK A (by rfl) (by rfl) HAK.out HM.out.key ?_; intro u1 hu; have H1 : Hid (Uno v1 u1 v2.heap.size A) := hu ▸ HM.out.store HAK.out; have KA : Hid (∀ u, Below u1.heap.size u1 u → KeyAt u v2.heap.size 0 A) := fun u hb => H1.out.at hb; have KZ : Hid (∀ u, Below u1.heap.size u1 u → KeyAt u w.heap.size 0 z1) := fun u hb => (K1.out.past H1.out.below).past hb; have WU : Hid (Below w.heap.size w u1) := W1.out.trans (H1.out.below.mono W1.out.size); have B1 : Hid (Below u1.heap.size u1 u1) := Below.refl _ _; clear hu HM)
      | (have hgo := KA.out; clear hgo; have hgo := C4.out; clear hgo; (with_reducible show wpList _ _ _ (Oper.mk (some 22) _ _ _ _ _ :: _) _ _); refine wpList_load_keyD 22 (by rfl) (by rfl) _ (by rfl) v2.heap.size 0 (by rfl) A HAK.out (KA.out _ (by first | exact B9.out | exact B8.out | exact B7.out | exact B6.out | exact B5.out | exact B4.out | exact B3.out | exact B2.out | exact B1.out)) ?_)
      | (have hgo := KA.out; clear hgo; have hgo := C4.out; clear hgo; (with_reducible show wpList _ _ _ (Oper.mk (some 27) _ _ _ _ _ :: _) _ _); refine wpList_load_keyD 27 (by rfl) (by rfl) _ (by rfl) v2.heap.size 0 (by rfl) A HAK.out (KA.out _ (by first | exact B9.out | exact B8.out | exact B7.out | exact B6.out | exact B5.out | exact B4.out | exact B3.out | exact B2.out | exact B1.out)) ?_)
      | (have hgo := KA.out; clear hgo; have hgo := C3.out; clear hgo; go_at_call 12; refine (C3.out _).mono ?_; rintro e v3 ⟨rfl, hb3⟩; have B2 : Hid (Below u1.heap.size u1 v3) := B1.out.trans (hb3.mono B1.out.size); clear hb3 C3)
      | (have hgo := B2.out; clear hgo; have hgo := C4.out; clear hgo; go_at_call 13; refine (C4.out _).mono ?_; rintro e v4 ⟨rfl, hb4⟩; have B3 : Hid (Below u1.heap.size u1 v4) := B2.out.trans (hb4.mono B2.out.size); clear hb4 C4)
      | (have hgo := B3.out; clear hgo; have hgo := C5.out; clear hgo; (with_reducible show wpList _ _ _ (Oper.mk (some 33) _ _ _ _ _ :: _) _ _); refine wpList_load_keyN 33 (by rfl) (by rfl) _ (by rfl) w.heap.size 0 (by rfl) z1 HZK.out (KZ.out _ (by first | exact B9.out | exact B8.out | exact B7.out | exact B6.out | exact B5.out | exact B4.out | exact B3.out | exact B2.out | exact B1.out)) ?_)
      | (have hgo := B3.out; clear hgo; have hgo := C5.out; clear hgo; go_at_call 12; refine (C5.out _).mono ?_; rintro e v5 ⟨rfl, hb5⟩; have B4 : Hid (Below u1.heap.size u1 v5) := B3.out.trans (hb5.mono B3.out.size); clear hb5 C5)
      | (have hgo := B4.out; clear hgo; have hgo := C6.out; clear hgo; go_at_call 10; refine (C6.out _).mono ?_; rintro e v6 ⟨rfl, hb6⟩; have HM2 : Hid (Uno v5 (v6.alloc (.cells (kcs zeroK) 24)) v6.heap.size zeroK) := uno_made hb6 24; rw [zero_list] at HM2; clear hb6 C6)
      | (have hgo := HM2.out; clear hgo; refine wpList_store_keyU (by rfl) _ _ (by rfl) v6.heap.size 0 zeroK B (by rfl) (by rfl) HBK.out HM2.out.key ?_; intro u2 hu; have H2 : Hid (Uno v5 u2 v6.heap.size B) := hu ▸ HM2.out.store HBK.out; have B5 : Hid (Below u1.heap.size u1 u2) := B4.out.trans (H2.out.below.mono B4.out.size); have KB : Hid (∀ u, Below u2.heap.size u2 u → KeyAt u v6.heap.size 0 B) := fun u hb => H2.out.at hb; clear hu HM2)
      | (have hgo := B5.out; clear hgo; have hgo := C7.out; clear hgo; (with_reducible show wpList _ _ _ (Oper.mk (some 38) _ _ _ _ _ :: _) _ _); refine wpList_load_keyN 38 (by rfl) (by rfl) _ (by rfl) w.heap.size 0 (by rfl) z1 HZK.out (KZ.out _ (by first | exact B9.out | exact B8.out | exact B7.out | exact B6.out | exact B5.out | exact B4.out | exact B3.out | exact B2.out | exact B1.out)) ?_)
      | (have hgo := B5.out; clear hgo; have hgo := C7.out; clear hgo; go_at_call 13; refine (C7.out _).mono ?_; rintro e v7 ⟨rfl, hb7⟩; have D6 : Hid (Below u2.heap.size u2 v7) := hb7; have B6 : Hid (Below u1.heap.size u1 v7) := B5.out.trans (hb7.mono B5.out.size); clear hb7 C7))
    go_ret
    exact ⟨rfl, WU.out.trans (B6.out.mono WU.out.size)⟩
  · skip
    have hB : B = z1 := by rw [hBd]; unfold ofK; rw [if_pos (by rw [hT]; exact (text_may HZK.out).1.trans hgood), hT]; exact (text_may HZK.out).2 hgood
    have hq : ∀ u, (Op.equalIn 10000 24 (kv B) (kv z1)).run Try.prog u = .ok true u := fun u => by rw [eq_key u B z1 HBK.out HZK.out, decide_eq_true hB]
    clear hB
    rw [if_neg hmay] at C1
    rw [if_pos hgood] at C6
    rw [hgood] at C7
    clear hmay hgood hA hxs hBd hT hb hl
    go_enter Try.func5, Try.ntmps5
    go_wp2_with (first
      | (have hgo := AW.out; clear hgo; go_at_call 9; refine (AW.out _).mono ?_; rintro e v1 ⟨rfl, hb1⟩; have K1 : Hid (KeyAt v1 w.heap.size 0 z1) := H0.out.past hb1; have W1 : Hid (Below w.heap.size w v1) := HB0.out.trans (hb1.mono HB0.out.size); clear hb1 AW)
      | (have hgo := C1.out; clear hgo; have hgo := K1.out; clear hgo; go_at_call 10; refine (C1.out _).mono ?_; rintro e v2 ⟨rfl, hb2⟩; have HM : Hid (Uno v1 (v2.alloc (.cells (kcs zeroK) 24)) v2.heap.size zeroK) := uno_made hb2 24; rw [zero_list] at HM; clear hb2 C1)
      | (have hgo := HM.out; clear hgo; refine wpList_store_keyU (by rfl) _ _ (by rfl) v2.heap.size 0 zeroK A (by rfl) (by rfl) HAK.out HM.out.key ?_; intro u1 hu; have H1 : Hid (Uno v1 u1 v2.heap.size A) := hu ▸ HM.out.store HAK.out; have KA : Hid (∀ u, Below u1.heap.size u1 u → KeyAt u v2.heap.size 0 A) := fun u hb => H1.out.at hb; have KZ : Hid (∀ u, Below u1.heap.size u1 u → KeyAt u w.heap.size 0 z1) := fun u hb => (K1.out.past H1.out.below).past hb; have WU : Hid (Below w.heap.size w u1) := W1.out.trans (H1.out.below.mono W1.out.size); have B1 : Hid (Below u1.heap.size u1 u1) := Below.refl _ _; clear hu HM)
      | (have hgo := B1.out; clear hgo; have hgo := C5.out; clear hgo; (with_reducible show wpList _ _ _ (Oper.mk (some 33) _ _ _ _ _ :: _) _ _); refine wpList_load_keyN 33 (by rfl) (by rfl) _ (by rfl) w.heap.size 0 (by rfl) z1 HZK.out (KZ.out _ (by first | exact B9.out | exact B8.out | exact B7.out | exact B6.out | exact B5.out | exact B4.out | exact B3.out | exact B2.out | exact B1.out)) ?_)
      | (have hgo := B1.out; clear hgo; have hgo := C5.out; clear hgo; go_at_call 12; refine (C5.out _).mono ?_; rintro e v5 ⟨rfl, hb5⟩; have B4 : Hid (Below u1.heap.size u1 v5) := B1.out.trans (hb5.mono B1.out.size); clear hb5 C5)
      | (have hgo := B4.out; clear hgo; have hgo := C6.out; clear hgo; go_at_call 10; refine (C6.out _).mono ?_; rintro e v6 ⟨rfl, hb6⟩; have HM2 : Hid (Uno v5 (v6.alloc (.cells (kcs zeroK) 24)) v6.heap.size zeroK) := uno_made hb6 24; rw [zero_list] at HM2; clear hb6 C6)
      | (have hgo := HM2.out; clear hgo; refine wpList_store_keyU (by rfl) _ _ (by rfl) v6.heap.size 0 zeroK B (by rfl) (by rfl) HBK.out HM2.out.key ?_; intro u2 hu; have H2 : Hid (Uno v5 u2 v6.heap.size B) := hu ▸ HM2.out.store HBK.out; have B5 : Hid (Below u1.heap.size u1 u2) := B4.out.trans (H2.out.below.mono B4.out.size); have KB : Hid (∀ u, Below u2.heap.size u2 u → KeyAt u v6.heap.size 0 B) := fun u hb => H2.out.at hb; clear hu HM2)
      | (have hgo := B5.out; clear hgo; have hgo := C7.out; clear hgo; (with_reducible show wpList _ _ _ (Oper.mk (some 38) _ _ _ _ _ :: _) _ _); refine wpList_load_keyN 38 (by rfl) (by rfl) _ (by rfl) w.heap.size 0 (by rfl) z1 HZK.out (KZ.out _ (by first | exact B9.out | exact B8.out | exact B7.out | exact B6.out | exact B5.out | exact B4.out | exact B3.out | exact B2.out | exact B1.out)) ?_)
      | (have hgo := B5.out; clear hgo; have hgo := C7.out; clear hgo; go_at_call 13; refine (C7.out _).mono ?_; rintro e v7 ⟨rfl, hb7⟩; have D6 : Hid (Below u2.heap.size u2 v7) := hb7; have B6 : Hid (Below u1.heap.size u1 v7) := B5.out.trans (hb7.mono B5.out.size); clear hb7 C7)
      | (have hgo := D6.out; clear hgo; (with_reducible show wpList _ _ _ (Oper.mk (some 47) _ _ _ _ _ :: _) _ _); refine wpList_load_keyD 47 (by rfl) (by rfl) _ (by rfl) v6.heap.size 0 (by rfl) B HBK.out (KB.out _ D6.out) ?_)
      | (have hgo := D6.out; clear hgo; (with_reducible show wpList _ _ _ (Oper.mk (some 48) _ _ _ _ _ :: _) _ _); refine wpList_load_keyD 48 (by rfl) (by rfl) _ (by rfl) w.heap.size 0 (by rfl) z1 HZK.out (KZ.out _ B6.out) ?_))
    go_ret
    exact ⟨rfl, WU.out.trans (B6.out.mono WU.out.size)⟩
  · skip
    rw [if_neg hmay] at C1
    rw [if_neg hgood] at C6
    rw [show goodK z1 = false by simpa using hgood] at C7
    clear hmay hgood hA hxs hBd hT hb hl
    go_enter Try.func5, Try.ntmps5
    go_wp2_with (first
      | (have hgo := AW.out; clear hgo; go_at_call 9; refine (AW.out _).mono ?_; rintro e v1 ⟨rfl, hb1⟩; have K1 : Hid (KeyAt v1 w.heap.size 0 z1) := H0.out.past hb1; have W1 : Hid (Below w.heap.size w v1) := HB0.out.trans (hb1.mono HB0.out.size); clear hb1 AW)
      | (have hgo := C1.out; clear hgo; have hgo := K1.out; clear hgo; go_at_call 10; refine (C1.out _).mono ?_; rintro e v2 ⟨rfl, hb2⟩; have HM : Hid (Uno v1 (v2.alloc (.cells (kcs zeroK) 24)) v2.heap.size zeroK) := uno_made hb2 24; rw [zero_list] at HM; clear hb2 C1)
      | (have hgo := HM.out; clear hgo; refine wpList_store_keyU (by rfl) _ _ (by rfl) v2.heap.size 0 zeroK A (by rfl) (by rfl) HAK.out HM.out.key ?_; intro u1 hu; have H1 : Hid (Uno v1 u1 v2.heap.size A) := hu ▸ HM.out.store HAK.out; have KA : Hid (∀ u, Below u1.heap.size u1 u → KeyAt u v2.heap.size 0 A) := fun u hb => H1.out.at hb; have KZ : Hid (∀ u, Below u1.heap.size u1 u → KeyAt u w.heap.size 0 z1) := fun u hb => (K1.out.past H1.out.below).past hb; have WU : Hid (Below w.heap.size w u1) := W1.out.trans (H1.out.below.mono W1.out.size); have B1 : Hid (Below u1.heap.size u1 u1) := Below.refl _ _; clear hu HM)
      | (have hgo := B1.out; clear hgo; have hgo := C5.out; clear hgo; (with_reducible show wpList _ _ _ (Oper.mk (some 33) _ _ _ _ _ :: _) _ _); refine wpList_load_keyN 33 (by rfl) (by rfl) _ (by rfl) w.heap.size 0 (by rfl) z1 HZK.out (KZ.out _ (by first | exact B9.out | exact B8.out | exact B7.out | exact B6.out | exact B5.out | exact B4.out | exact B3.out | exact B2.out | exact B1.out)) ?_)
      | (have hgo := B1.out; clear hgo; have hgo := C5.out; clear hgo; go_at_call 12; refine (C5.out _).mono ?_; rintro e v5 ⟨rfl, hb5⟩; have B4 : Hid (Below u1.heap.size u1 v5) := B1.out.trans (hb5.mono B1.out.size); clear hb5 C5)
      | (have hgo := B4.out; clear hgo; have hgo := C6.out; clear hgo; go_at_call 10; refine (C6.out _).mono ?_; rintro e v6 ⟨rfl, hb6⟩; have HM2 : Hid (Uno v5 (v6.alloc (.cells (kcs zeroK) 24)) v6.heap.size zeroK) := uno_made hb6 24; rw [zero_list] at HM2; clear hb6 C6)
      | (have hgo := HM2.out; clear hgo; refine wpList_store_keyU (by rfl) _ _ (by rfl) v6.heap.size 0 zeroK B (by rfl) (by rfl) HBK.out HM2.out.key ?_; intro u2 hu; have H2 : Hid (Uno v5 u2 v6.heap.size B) := hu ▸ HM2.out.store HBK.out; have B5 : Hid (Below u1.heap.size u1 u2) := B4.out.trans (H2.out.below.mono B4.out.size); have KB : Hid (∀ u, Below u2.heap.size u2 u → KeyAt u v6.heap.size 0 B) := fun u hb => H2.out.at hb; clear hu HM2)
      | (have hgo := B5.out; clear hgo; have hgo := C7.out; clear hgo; (with_reducible show wpList _ _ _ (Oper.mk (some 38) _ _ _ _ _ :: _) _ _); refine wpList_load_keyN 38 (by rfl) (by rfl) _ (by rfl) w.heap.size 0 (by rfl) z1 HZK.out (KZ.out _ (by first | exact B9.out | exact B8.out | exact B7.out | exact B6.out | exact B5.out | exact B4.out | exact B3.out | exact B2.out | exact B1.out)) ?_)
      | (have hgo := B5.out; clear hgo; have hgo := C7.out; clear hgo; go_at_call 13; refine (C7.out _).mono ?_; rintro e v7 ⟨rfl, hb7⟩; have D6 : Hid (Below u2.heap.size u2 v7) := hb7; have B6 : Hid (Below u1.heap.size u1 v7) := B5.out.trans (hb7.mono B5.out.size); clear hb7 C7))
    go_ret
    exact ⟨rfl, WU.out.trans (B6.out.mono WU.out.size)⟩

set_option maxRecDepth 100000 in
theorem lifted (os : Os) (started : os.Started) (H : Type) (enc : TypeId × Value → H) :
    ReturnsInHanded {} Try.checked os 5 .any (Rows.keyBackSpec.pre6 enc Try.prog Try.f5 Rows.keyBackRow.domain false) (Rows.keyBackSpec.post enc Try.prog Try.f5 false true false false) := by
  refine returnsInHanded_of_change (C := Try.checked) own started (by kernel_rfl) Try.func5
    (ChangeSpec.witness6 (enc := enc) (C := Try.checked) false ⟨#[], #[.string ⟨#[]⟩, .agg #[.int .u8 0, .int .u8 0, .int .u8 0, .int .u8 0, .int .u8 0, .int .u8 0, .int .u8 0, .int .u8 0, .int .u8 0, .int .u8 0, .int .u8 0, .int .u8 0, .int .u8 0, .int .u8 0, .int .u8 0, .int .u8 0]], []⟩ 8 (by kernel_rfl) (by kernel_rfl) (by kernel_rfl) (by kernel_rfl)) ?_
  intro W base args ds gs before hval0 hW hcnd _
  have hval : ∀ (j : Nat) t v, Try.f5.params[j]? = some t → args[j]? = some v → Value.okWide Try.prog W .any base t v := hval0
  have hW' := hW
  obtain ⟨p, q, hA0, hV, rfl, hfz, hnd⟩ := hW
  have hA : DataW.TrodAll enc Try.prog W 0 (fun _ => true) true Try.f5.params.toList args.toList ds p := hA0
  rw [Try.params5] at hA hval
  obtain ⟨v0, vs0, d0, ds0, p0, q0, hargs, rfl, rfl, h0, r0⟩ := trodAll_cons hA
  obtain ⟨v1, vs1, d1, ds1, p1, q1, rfl, rfl, rfl, h1, r1⟩ := trodAll_cons r0
  obtain ⟨rfl, rfl, rfl⟩ := trodAll_nil r1
  obtain rfl : args = #[v0, v1] := by cases args; simp_all
  obtain ⟨rfl, rfl⟩ := trodVars_none hV
  have k0 := h0
  have lt0 : ∀ x ∈ p0, x.block < W.heap.size := by obtain ⟨m, hm⟩ := k0; exact DataW.trod_lt m _ _ _ hm
  obtain ⟨a0, rfl, rfl, rfl, w0⟩ := open_string Try.underlying9 (hval 0 9 v0 rfl rfl) h0
  have k1 := h1
  have lt1 : ∀ x ∈ p1, x.block < W.heap.size := by obtain ⟨m, hm⟩ := k1; exact DataW.trod_lt m _ _ _ hm
  obtain ⟨z1, rfl, w1⟩ := arr_open Try.underlying24 Try.underlying5 (by kernel_rfl) (by kernel_rfl) (hval 1 24 v1 rfl rfl) h1
  clear hA0 hval0
  refine (walk a0 z1 W w0 w1).mono fun e W' ⟨he, bel⟩ => ?_
  subst he
  exact ⟨_, rfl, _, _, _, [], _, [], hW', trodAll_mk1 (shut_bool Try.underlying4 _), (trodAll_cons_mk (Below.trod laidOut (by kernel_rfl) (of_decide_eq_true (by kernel_rfl)) k0 bel lt0) (trodAll_cons_mk (Below.trod laidOut (by kernel_rfl) (of_decide_eq_true (by kernel_rfl)) k1 bel lt1) trodAll_mk0)), rfl, bel.frame _, fun h => by cases h⟩

theorem over : Rows.keyBackRow.holds Try.pinned (OpenSpec.ofChange Rows.keyBackSpec) :=
  OpenClaim.holds_of_wide 5 Try.f5 rfl rfl rfl rfl rfl rfl rfl ⟨rfl, rfl, rfl, rfl, rfl⟩ rfl rfl rfl rfl rfl (by kernel_rfl) Try.func5 (by kernel_rfl)
    (of_decide_eq_true (by kernel_rfl)) (by unfold Func.isWrapper; first | (rw [if_pos (by decide +kernel)]; kernel_rfl) | (rw [if_neg (by decide +kernel)]; exact ⟨rfl, rfl⟩))
    (fun os started H enc _ => lifted os started H enc)
theorem proved : Rows.KeyBackSaid := over
#print axioms proved
end Go.Proofs.Ytfgbgcaackhcmaa.keyBack
namespace Go.Proofs.Ytfgbgcaackhcmaa
/-- KeyBack, as given. -/
theorem keyBack_holds : Rows.KeyBackSaid := keyBack.proved
end Go.Proofs.Ytfgbgcaackhcmaa
