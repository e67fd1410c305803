/-
  KeyKnown: what chapter 10 says at the ends is answered so.
-/
import Derived.Test.YtfgbgcaackhcmaaRows
import Derived.Test.YtfgbgcaackhcmaaKeyAwake
import Derived.Test.YtfgbgcaackhcmaaKeysOpen
import Derived.Test.YtfgbgcaackhcmaaKeyBuild
import Derived.WalkKit
import Derived.ProofKit
import Derived.OpenShut
import Derived.ShutString
import Derived.ChangeOld
import Derived.Below
import Derived.Carry
namespace Go.Proofs.Ytfgbgcaackhcmaa.keyKnown
open Go.ChangeShapes Go.WideShapes Go.ChangeAt Go.RowKit
open Go.ChangeMaps (open_string shut_string)
set_option linter.unusedVariables false

theorem own : ownKnob Try.prog.godebug = none := by kernel_rfl
theorem laidOut : laidOutB Try.prog = true := by kernel_rfl
/-- A slice of integers that came in: nil, or a row of 'cap' cells, of which the first 'len' are its elements. -/
def IsRow (k : IntKind) (w : World) (a : Option Addr) (len cap : Nat) (zs : List Int) : Prop :=
  (a = none ∧ len = 0 ∧ cap = 0 ∧ zs = []) ∨
  ∃ x, a = some x ∧ len ≤ cap ∧ cap ≤ maxLen ∧ zs.length = cap ∧ (∀ i, i < zs.length → w.cell? (x.add i) = some (.int k (zs.getD i 0))) ∧ ∀ n ∈ zs, (Lit.int k n).wf = true

def k16 : List Int := [49, 50, 51, 52, 53, 54, 55, 56, 57, 48, 49, 50, 51, 52, 53, 54]
def kX : List Int := [97, 0, 0, 0, 0, 0, 0, 0, 0, 0, 0, 0, 0, 0, 0, 0]
def kH : List Int := [97, 0, 98, 0, 0, 0, 0, 0, 0, 0, 0, 0, 0, 0, 0, 0]
theorem k16_ky : Ky k16 := ⟨by decide, by decide⟩
theorem kX_ky : Ky kX := ⟨by decide, by decide⟩
theorem kH_ky : Ky kH := ⟨by decide, by decide⟩
theorem of_C1 : ofK [] = zeroK ∧ mayK [] = false := ⟨by decide +kernel, by decide +kernel⟩
theorem of_C2 : ofK [49, 50, 51, 52, 53, 54, 55, 56, 57, 48, 49, 50, 51, 52, 53, 54, 55] = zeroK ∧ mayK [49, 50, 51, 52, 53, 54, 55, 56, 57, 48, 49, 50, 51, 52, 53, 54, 55] = false := ⟨by decide +kernel, by decide +kernel⟩
theorem of_C3 : ofK [97, 0, 98] = zeroK ∧ mayK [97, 0, 98] = false := ⟨by decide +kernel, by decide +kernel⟩
theorem of_C4 : ofK [49, 50, 51, 52, 53, 54, 55, 56, 57, 48, 49, 50, 51, 52, 53, 54] = k16 ∧ mayK [49, 50, 51, 52, 53, 54, 55, 56, 57, 48, 49, 50, 51, 52, 53, 54] = true := ⟨by decide +kernel, by decide +kernel⟩
theorem of_C5 : ofK [97] = kX ∧ mayK [97] = true := ⟨by decide +kernel, by decide +kernel⟩
theorem of_C6 : ofK [98] = kB ∧ mayK [98] = true := ⟨by decide +kernel, by decide +kernel⟩
theorem sort_BXB : sortK [kB, kX, kB] = [kX, kB] := by decide +kernel
theorem text_16 : strOfNums (textK k16) = ⟨#[49, 50, 51, 52, 53, 54, 55, 56, 57, 48, 49, 50, 51, 52, 53, 54]⟩ := by decide +kernel
theorem text_H : strOfNums (textK kH) = ⟨#[]⟩ := by decide +kernel
theorem good_H : goodK kH = false := by decide +kernel
theorem in_1 : withinK kX kX kB = true := by decide +kernel
theorem in_2 : withinK kB kX kB = false := by decide +kernel
theorem in_3 : withinK kB kX zeroK = true := by decide +kernel
theorem in_4 : withinK kX kB zeroK = false := by decide +kernel
theorem ne_XB : kX ≠ kB := by decide +kernel
set_option maxRecDepth 8000 in
set_option maxHeartbeats 4000000 in
theorem walk  (w : World)  :
    Calls Try.prog 3 #[] w fun e w' => e = .returned (.bool true) ∧ Below w.heap.size w w' := by
  have AW : Hid (∀ u, Calls Try.prog 9 #[] u fun e w' => e = .returned (.bool true) ∧ Below u.heap.size u w') := fun u => awake_any u
  have C1 : Hid (∀ u, Calls Try.prog 10 #[.string ⟨#[]⟩] u fun e w' => e = .returned (.tuple #[kv zeroK, .int .i64 1]) ∧ Below u.heap.size u w') := fun u => by
    have c := kof_any [] (by decide) (by decide) u
    rw [of_C1.1, of_C1.2] at c
    exact c
  have C2 : Hid (∀ u, Calls Try.prog 10 #[.string ⟨#[49, 50, 51, 52, 53, 54, 55, 56, 57, 48, 49, 50, 51, 52, 53, 54, 55]⟩] u fun e w' => e = .returned (.tuple #[kv zeroK, .int .i64 1]) ∧ Below u.heap.size u w') := fun u => by
    have c := kof_any [49, 50, 51, 52, 53, 54, 55, 56, 57, 48, 49, 50, 51, 52, 53, 54, 55] (by decide) (by decide) u
    rw [of_C2.1, of_C2.2] at c
    exact c
  have C3 : Hid (∀ u, Calls Try.prog 10 #[.string ⟨#[97, 0, 98]⟩] u fun e w' => e = .returned (.tuple #[kv zeroK, .int .i64 1]) ∧ Below u.heap.size u w') := fun u => by
    have c := kof_any [97, 0, 98] (by decide) (by decide) u
    rw [of_C3.1, of_C3.2] at c
    exact c
  have C4 : Hid (∀ u, Calls Try.prog 10 #[.string ⟨#[49, 50, 51, 52, 53, 54, 55, 56, 57, 48, 49, 50, 51, 52, 53, 54]⟩] u fun e w' => e = .returned (.tuple #[kv k16, .int .i64 0]) ∧ Below u.heap.size u w') := fun u => by
    have c := kof_any [49, 50, 51, 52, 53, 54, 55, 56, 57, 48, 49, 50, 51, 52, 53, 54] (by decide) (by decide) u
    rw [of_C4.1, of_C4.2] at c
    exact c
  have C5 : Hid (∀ u, Calls Try.prog 10 #[.string ⟨#[97]⟩] u fun e w' => e = .returned (.tuple #[kv kX, .int .i64 0]) ∧ Below u.heap.size u w') := fun u => by
    have c := kof_any [97] (by decide) (by decide) u
    rw [of_C5.1, of_C5.2] at c
    exact c
  have C6 : Hid (∀ u, Calls Try.prog 10 #[.string ⟨#[98]⟩] u fun e w' => e = .returned (.tuple #[kv kB, .int .i64 0]) ∧ Below u.heap.size u w') := fun u => by
    have c := kof_any [98] (by decide) (by decide) u
    rw [of_C6.1, of_C6.2] at c
    exact c
  have CS : Hid (∀ u a, KeysAt u (some a) [kB, kX, kB] → Calls Try.prog 11 #[.slice (some a) 3 3] u fun e w' => ∃ p c, e = .returned (.slice (some p) 2 c) ∧ KeysAt w' (some p) [kX, kB] ∧ 2 ≤ c ∧ Below u.heap.size u w') := fun u a h => by
    have c := ksort_any (some a) 3 3 [kB, kX, kB] u rfl (by decide) (by decide) h
    rw [sort_BXB] at c
    refine c.mono ?_
    rintro e w' ⟨⟨a', cap', rfl, h1, h2⟩, hb⟩
    cases a' with
    | none => have := h1.nil rfl; cases this
    | some p => exact ⟨p, cap', rfl, h1, h2, hb⟩
  have D1 : Hid (∀ u, Calls Try.prog 12 #[kv k16] u fun e w' => e = .returned (.string ⟨#[49, 50, 51, 52, 53, 54, 55, 56, 57, 48, 49, 50, 51, 52, 53, 54]⟩) ∧ Below u.heap.size u w') := fun u => by rw [← text_16]; exact ktext_any k16 k16_ky u
  have D2 : Hid (∀ u, Calls Try.prog 13 #[kv kH] u fun e w' => e = .returned (.bool false) ∧ Below u.heap.size u w') := fun u => by rw [← good_H]; exact kgood_any kH kH_ky u
  have D3 : Hid (∀ u, Calls Try.prog 12 #[kv kH] u fun e w' => e = .returned (.string ⟨#[]⟩) ∧ Below u.heap.size u w') := fun u => by rw [← text_H]; exact ktext_any kH kH_ky u
  have D4 : Hid (∀ u, Calls Try.prog 14 #[kv kX, kv kX, kv kB] u fun e w' => e = .returned (.bool true) ∧ Below u.heap.size u w') := fun u => by rw [← in_1]; exact kwithin_any kX kX kB kX_ky kX_ky kB_ky u
  have D5 : Hid (∀ u, Calls Try.prog 14 #[kv kB, kv kX, kv kB] u fun e w' => e = .returned (.bool false) ∧ Below u.heap.size u w') := fun u => by rw [← in_2]; exact kwithin_any kB kX kB kB_ky kX_ky kB_ky u
  have D6 : Hid (∀ u, Calls Try.prog 14 #[kv kB, kv kX, kv zeroK] u fun e w' => e = .returned (.bool true) ∧ Below u.heap.size u w') := fun u => by rw [← in_3]; exact kwithin_any kB kX zeroK kB_ky kX_ky zeroK_ky u
  have D7 : Hid (∀ u, Calls Try.prog 14 #[kv kX, kv kB, kv zeroK] u fun e w' => e = .returned (.bool false) ∧ Below u.heap.size u w') := fun u => by rw [← in_4]; exact kwithin_any kX kB zeroK kX_ky kB_ky zeroK_ky u
  have hqX : ∀ u, (Op.equalIn 10000 24 (kv kX) (kv kX)).run Try.prog u = .ok true u := fun u => by rw [eq_key u kX kX kX_ky kX_ky, decide_eq_true rfl]
  have hqB : ∀ u, (Op.equalIn 10000 24 (kv kB) (kv kB)).run Try.prog u = .ok true u := fun u => by rw [eq_key u kB kB kB_ky kB_ky, decide_eq_true rfl]
  go_enter Try.func3, Try.ntmps3
  go_wp2_with (first
    | (have hgo := AW.out; clear hgo; go_at_call 9; refine (AW.out _).mono ?_; rintro e v0 ⟨rfl, hb1⟩; have B0 : Hid (Below w.heap.size w v0) := hb1; have E0 : Hid (Below v0.heap.size v0 v0) := Below.refl _ _; clear hb1 AW)
    | (have hgo := C1.out; clear hgo; have hgo := E0.out; clear hgo; go_at_call 10; refine (C1.out _).mono ?_; rintro e v1 ⟨rfl, hb1⟩; have HM1 : Hid (Uno v0 (v1.alloc (.cells (kcs zeroK) 24)) v1.heap.size zeroK) := uno_made hb1 24; rw [zero_list] at HM1; clear hb1 C1)
    | ((with_reducible show wpList _ _ _ (Oper.mk none (Op.store _ (Operand.tmp 1) _) _ _ _ _ :: _) _ _); have hgo := HM1.out; clear hgo; refine wpList_store_keyU (by rfl) _ _ (by rfl) (v1.heap.size) 0 zeroK zeroK (by rfl) (by rfl) zeroK_ky HM1.out.key ?_; intro u1 hu; have H1 : Hid (Uno v0 u1 (v1.heap.size) zeroK) := hu ▸ HM1.out.store zeroK_ky; have E1 : Hid (Below v0.heap.size v0 u1) := E0.out.trans (H1.out.below.mono E0.out.size); clear hu HM1)
    | (have hgo := C2.out; clear hgo; have hgo := E1.out; clear hgo; go_at_call 10; refine (C2.out _).mono ?_; rintro e v2 ⟨rfl, hb1⟩; have HM2 : Hid (Uno u1 (v2.alloc (.cells (kcs zeroK) 24)) v2.heap.size zeroK) := uno_made hb1 24; rw [zero_list] at HM2; clear hb1 C2)
    | ((with_reducible show wpList _ _ _ (Oper.mk none (Op.store _ (Operand.tmp 3) _) _ _ _ _ :: _) _ _); have hgo := HM2.out; clear hgo; refine wpList_store_keyU (by rfl) _ _ (by rfl) (v2.heap.size) 0 zeroK zeroK (by rfl) (by rfl) zeroK_ky HM2.out.key ?_; intro u2 hu; have H2 : Hid (Uno u1 u2 (v2.heap.size) zeroK) := hu ▸ HM2.out.store zeroK_ky; have E2 : Hid (Below v0.heap.size v0 u2) := E1.out.trans (H2.out.below.mono E1.out.size); clear hu HM2)
    | (have hgo := C3.out; clear hgo; have hgo := E2.out; clear hgo; go_at_call 10; refine (C3.out _).mono ?_; rintro e v3 ⟨rfl, hb1⟩; have HM3 : Hid (Uno u2 (v3.alloc (.cells (kcs zeroK) 24)) v3.heap.size zeroK) := uno_made hb1 24; rw [zero_list] at HM3; clear hb1 C3)
    | ((with_reducible show wpList _ _ _ (Oper.mk none (Op.store _ (Operand.tmp 5) _) _ _ _ _ :: _) _ _); have hgo := HM3.out; clear hgo; refine wpList_store_keyU (by rfl) _ _ (by rfl) (v3.heap.size) 0 zeroK zeroK (by rfl) (by rfl) zeroK_ky HM3.out.key ?_; intro u3 hu; have H3 : Hid (Uno u2 u3 (v3.heap.size) zeroK) := hu ▸ HM3.out.store zeroK_ky; have E3 : Hid (Below v0.heap.size v0 u3) := E2.out.trans (H3.out.below.mono E2.out.size); clear hu HM3)
    | (have hgo := C4.out; clear hgo; have hgo := E3.out; clear hgo; go_at_call 10; refine (C4.out _).mono ?_; rintro e v4 ⟨rfl, hb1⟩; have HM4 : Hid (Uno u3 (v4.alloc (.cells (kcs zeroK) 24)) v4.heap.size zeroK) := uno_made hb1 24; rw [zero_list] at HM4; clear hb1 C4)
    | ((with_reducible show wpList _ _ _ (Oper.mk none (Op.store _ (Operand.tmp 7) _) _ _ _ _ :: _) _ _); have hgo := HM4.out; clear hgo; refine wpList_store_keyU (by rfl) _ _ (by rfl) (v4.heap.size) 0 zeroK k16 (by rfl) (by rfl) k16_ky HM4.out.key ?_; intro u4 hu; have H4 : Hid (Uno u3 u4 (v4.heap.size) k16) := hu ▸ HM4.out.store k16_ky; have E4 : Hid (Below v0.heap.size v0 u4) := E3.out.trans (H4.out.below.mono E3.out.size); clear hu HM4)
    | ((with_reducible show wpList _ _ _ (Oper.mk none (Op.store _ (Operand.tmp 9) _) _ _ _ _ :: _) _ _); have hgo := E4.out; clear hgo; have HM5 : Hid (Uno u4 (u4.alloc (.cells (kcs zeroK) 24)) u4.heap.size zeroK) := uno_made (Below.refl _ _) 24; rw [zero_list] at HM5; have hgo := HM5.out; clear hgo; refine wpList_store_keyU (by rfl) _ _ (by rfl) (u4.heap.size) 0 zeroK kH (by rfl) (by rfl) kH_ky HM5.out.key ?_; intro u5 hu; have H5 : Hid (Uno u4 u5 (u4.heap.size) kH) := hu ▸ HM5.out.store kH_ky; have E5 : Hid (Below v0.heap.size v0 u5) := E4.out.trans (H5.out.below.mono E4.out.size); clear hu HM5)
    | (have hgo := C5.out; clear hgo; have hgo := E5.out; clear hgo; go_at_call 10; refine (C5.out _).mono ?_; rintro e v6 ⟨rfl, hb1⟩; have HM6 : Hid (Uno u5 (v6.alloc (.cells (kcs zeroK) 24)) v6.heap.size zeroK) := uno_made hb1 24; rw [zero_list] at HM6; clear hb1 C5)
    | ((with_reducible show wpList _ _ _ (Oper.mk none (Op.store _ (Operand.tmp 10) _) _ _ _ _ :: _) _ _); have hgo := HM6.out; clear hgo; refine wpList_store_keyU (by rfl) _ _ (by rfl) (v6.heap.size) 0 zeroK kX (by rfl) (by rfl) kX_ky HM6.out.key ?_; intro u6 hu; have H6 : Hid (Uno u5 u6 (v6.heap.size) kX) := hu ▸ HM6.out.store kX_ky; have E6 : Hid (Below v0.heap.size v0 u6) := E5.out.trans (H6.out.below.mono E5.out.size); clear hu HM6)
    | (have hgo := C6.out; clear hgo; have hgo := E6.out; clear hgo; go_at_call 10; refine (C6.out _).mono ?_; rintro e v7 ⟨rfl, hb1⟩; have HM7 : Hid (Uno u6 (v7.alloc (.cells (kcs zeroK) 24)) v7.heap.size zeroK) := uno_made hb1 24; rw [zero_list] at HM7; clear hb1 C6)
    | ((with_reducible show wpList _ _ _ (Oper.mk none (Op.store _ (Operand.tmp 12) _) _ _ _ _ :: _) _ _); have hgo := HM7.out; clear hgo; refine wpList_store_keyU (by rfl) _ _ (by rfl) (v7.heap.size) 0 zeroK kB (by rfl) (by rfl) kB_ky HM7.out.key ?_; intro u7 hu; have H7 : Hid (Uno u6 u7 (v7.heap.size) kB) := hu ▸ HM7.out.store kB_ky; have E7 : Hid (Below v0.heap.size v0 u7) := E6.out.trans (H7.out.below.mono E6.out.size); clear hu HM7)
    | (have hgo := E7.out; clear hgo; (with_reducible show wpList _ _ _ (Oper.mk (some 42) _ _ _ _ _ :: _) _ _); refine wpList_load_keyD 42 (by rfl) (by rfl) _ (by rfl) (v7.heap.size) 0 (by rfl) kB kB_ky H7.out.key.lies ?_)
    | (have hgo := E7.out; clear hgo; (with_reducible show wpList _ _ _ (Oper.mk (some 43) _ _ _ _ _ :: _) _ _); refine wpList_load_keyD 43 (by rfl) (by rfl) _ (by rfl) (v6.heap.size) 0 (by rfl) kX kX_ky (H6.out.at H7.out.below) ?_)
    | (have hgo := E7.out; clear hgo; (with_reducible show wpList _ _ _ (Oper.mk (some 44) _ _ _ _ _ :: _) _ _); refine wpList_load_keyD 44 (by rfl) (by rfl) _ (by rfl) (v7.heap.size) 0 (by rfl) kB kB_ky H7.out.key.lies ?_)
    | (have hgo := E7.out; clear hgo; (with_reducible show wpList _ _ _ (Oper.mk (some 45) _ _ _ _ _ :: _) _ _); refine wpList_build_keys3 45 (by rfl) (by rfl) _ _ _ (by rfl) kB kX kB kB_ky kX_ky kB_ky (by rfl) (by rfl) (by rfl) ?_; intro W hW; have KL : Hid (KeysAt W (some ⟨u7.heap.size, 0, none⟩) [kB, kX, kB]) := hW ▸ keys3_at u7 kB kX kB kB_ky kX_ky kB_ky; have EW : Hid (Below u7.heap.size u7 W) := hW ▸ (Below.refl _ _).alloc (Nat.le_refl _) _; clear hW)
    | (have hgo := EW.out; clear hgo; go_at_call 11; refine (CS.out _ _ KL.out).mono ?_; rintro e V ⟨p, c8, rfl, hk, hc, hb1⟩; have KS : Hid (KeysAt V (some p) [kX, kB]) := hk; have EV : Hid (Below u7.heap.size u7 V) := EW.out.trans (hb1.mono EW.out.size); clear hk hb1))
  obtain ⟨pb, po, rfl⟩ : ∃ pb po, p = ⟨pb, po, none⟩ := by
    obtain ⟨b, o, e, _⟩ := KS.out.key (i := 0) (by decide)
    injection e with e
    exact ⟨b, o, e⟩
  have X6 : Hid (Below u6.heap.size u6 V) := H7.out.below.trans (EV.out.mono H7.out.below.size)
  have X5 : Hid (Below u5.heap.size u5 V) := H6.out.below.trans (X6.out.mono H6.out.below.size)
  have X4 : Hid (Below u4.heap.size u4 V) := H5.out.below.trans (X5.out.mono H5.out.below.size)
  have F16 : Hid (∀ u, Below V.heap.size V u → KeyAt u v4.heap.size 0 k16) := fun u hb => (H4.out.at X4.out).past hb
  have FH : Hid (∀ u, Below V.heap.size V u → KeyAt u u4.heap.size 0 kH) := fun u hb => (H5.out.at X5.out).past hb
  have FX : Hid (∀ u, Below V.heap.size V u → KeyAt u v6.heap.size 0 kX) := fun u hb => (H6.out.at X6.out).past hb
  have FB : Hid (∀ u, Below V.heap.size V u → KeyAt u v7.heap.size 0 kB) := fun u hb => (H7.out.at EV.out).past hb
  have FL0 : Hid (∀ u, Below V.heap.size V u → KeyAt u pb po kX) := fun u hb => by
    obtain ⟨b, o, e, h, _⟩ := (KS.out.past hb).key (i := 0) (by decide)
    injection e with e
    injection e with e1 e2
    subst e1; subst e2
    simpa using h
  have FL1 : Hid (∀ u, Below V.heap.size V u → KeyAt u pb (po + 16) kB) := fun u hb => by
    obtain ⟨b, o, e, h, _⟩ := (KS.out.past hb).key (i := 1) (by decide)
    injection e with e
    injection e with e1 e2
    subst e1; subst e2
    simpa using h
  have G16 : Hid (Ky k16) := k16_ky
  have GH : Hid (Ky kH) := kH_ky
  have GX : Hid (Ky kX) := kX_ky
  have GB : Hid (Ky kB) := kB_ky
  have EE : Hid (Below w.heap.size w V) := B0.out.trans ((E7.out.trans (EV.out.mono E7.out.size)).mono B0.out.size)
  clear KS KL H1 H2 H3 H4 H5 H6 H7 E0 E1 E2 E3 E4 E5 E6 E7 EW X4 X5 X6 CS
  refine wp_region_noPanic ?_
  refine wp_region_held_drew (S := fun u => Below V.heap.size V u) (by kernel_rfl) ?_ (fun hHeld => ?_)
  · exact (Below.refl _ _).drew
  refine wpAnyH_take (i := 0) (v := ?_) rfl (by kernel_rfl) (by kernel_rfl) (by kernel_rfl) (fun _ _ _ h => h) (Or.inl ⟨by rfl, ?_⟩) hHeld ?_
  rotate_left
  · intro u hSu
    (go_simp) <;> (with_reducible rfl)
  change wpAnyH _ _ _ _ _ _ _ (Act.put _ (some 47) _) _
  simp only [Act.put, List.setIfInBounds_toArray, List.set_cons_zero, List.set_cons_succ]
  refine wpAnyH_take (i := 1) (v := ?_) rfl (by kernel_rfl) (by kernel_rfl) (by kernel_rfl) (fun _ _ _ h => h) (Or.inl ⟨by rfl, ?_⟩) hHeld ?_
  rotate_left
  · intro u hSu
    (go_simp) <;> (with_reducible rfl)
  change wpAnyH _ _ _ _ _ _ _ (Act.put _ (some 48) _) _
  simp only [Act.put, List.setIfInBounds_toArray, List.set_cons_zero, List.set_cons_succ]
  refine wpAnyH_take (i := 2) (v := ?_) rfl (by kernel_rfl) (by kernel_rfl) (by kernel_rfl) (fun _ _ _ h => h) (Or.inl ⟨by rfl, ?_⟩) hHeld ?_
  rotate_left
  · intro u hSu
    (go_simp) <;> (with_reducible rfl)
  change wpAnyH _ _ _ _ _ _ _ (Act.put _ (some 49) _) _
  simp only [Act.put, List.setIfInBounds_toArray, List.set_cons_zero, List.set_cons_succ]
  refine wpAnyH_take (i := 3) (v := ?_) rfl (by kernel_rfl) (by kernel_rfl) (by kernel_rfl) (fun _ _ _ h => h) (Or.inl ⟨by rfl, ?_⟩) hHeld ?_
  rotate_left
  · intro u hSu
    (go_simp) <;> (with_reducible rfl)
  change wpAnyH _ _ _ _ _ _ _ (Act.put _ (some 50) _) _
  simp only [Act.put, List.setIfInBounds_toArray, List.set_cons_zero, List.set_cons_succ]
  refine wpAnyH_take (i := 4) (v := ?_) rfl (by kernel_rfl) (by kernel_rfl) (by kernel_rfl) (fun _ _ _ h => h) (Or.inl ⟨by rfl, ?_⟩) hHeld ?_
  rotate_left
  · intro u hSu
    (go_simp) <;> (with_reducible rfl)
  change wpAnyH _ _ _ _ _ _ _ (Act.put _ (some 51) _) _
  simp only [Act.put, List.setIfInBounds_toArray, List.set_cons_zero, List.set_cons_succ]
  refine wpAnyH_take (i := 5) (v := ?_) rfl (by kernel_rfl) (by kernel_rfl) (by kernel_rfl) (fun _ _ _ h => h) (Or.inl ⟨by rfl, ?_⟩) hHeld ?_
  rotate_left
  · intro u hSu
    (go_simp) <;> (with_reducible rfl)
  change wpAnyH _ _ _ _ _ _ _ (Act.put _ (some 52) _) _
  simp only [Act.put, List.setIfInBounds_toArray, List.set_cons_zero, List.set_cons_succ]
  refine wpAnyH_take (i := 6) (v := ?_) rfl (by kernel_rfl) (by kernel_rfl) (by kernel_rfl) (fun _ _ _ h => h) (Or.inl ⟨by rfl, ?_⟩) hHeld ?_
  rotate_left
  · intro u hSu
    (go_simp) <;> (with_reducible rfl)
  change wpAnyH _ _ _ _ _ _ _ (Act.put _ (some 53) _) _
  simp only [Act.put, List.setIfInBounds_toArray, List.set_cons_zero, List.set_cons_succ]
  refine wpAnyH_take (i := 7) (v := ?_) rfl (by kernel_rfl) (by kernel_rfl) (by kernel_rfl) (fun _ _ _ h => h) (Or.inl ⟨by rfl, ?_⟩) hHeld ?_
  rotate_left
  · intro u hSu
    (go_simp) <;> (with_reducible rfl)
  change wpAnyH _ _ _ _ _ _ _ (Act.put _ (some 54) _) _
  simp only [Act.put, List.setIfInBounds_toArray, List.set_cons_zero, List.set_cons_succ]
  refine wpAnyH_take (i := 8) (v := ?_) rfl (by kernel_rfl) (by kernel_rfl) (by kernel_rfl) (fun _ _ _ h => h) (Or.inl ⟨by rfl, ?_⟩) hHeld ?_
  rotate_left
  · intro u hSu
    (go_simp) <;> (with_reducible rfl)
  change wpAnyH _ _ _ _ _ _ _ (Act.put _ (some 55) _) _
  simp only [Act.put, List.setIfInBounds_toArray, List.set_cons_zero, List.set_cons_succ]
  refine wpAnyH_take (i := 9) (v := ?_) rfl (by kernel_rfl) (by kernel_rfl) (by kernel_rfl) (fun _ _ _ h => h) (Or.inl ⟨by rfl, ?_⟩) hHeld ?_
  rotate_left
  · intro u hSu
    (go_simp) <;> (with_reducible rfl)
  change wpAnyH _ _ _ _ _ _ _ (Act.put _ (some 56) _) _
  simp only [Act.put, List.setIfInBounds_toArray, List.set_cons_zero, List.set_cons_succ]
  refine wpAnyH_take (i := 10) (v := ?_) rfl (by kernel_rfl) (by kernel_rfl) (by kernel_rfl) (fun _ _ _ h => h) (Or.inl ⟨by rfl, ?_⟩) hHeld ?_
  rotate_left
  · intro u hSu
    (go_simp) <;> (with_reducible rfl)
  change wpAnyH _ _ _ _ _ _ _ (Act.put _ (some 57) _) _
  simp only [Act.put, List.setIfInBounds_toArray, List.set_cons_zero, List.set_cons_succ]
  refine wpAnyH_take (i := 11) (v := ?_) rfl (by kernel_rfl) (by kernel_rfl) (by kernel_rfl) (fun _ _ _ h => h) (Or.inl ⟨by rfl, ?_⟩) hHeld ?_
  rotate_left
  · intro u hSu
    (go_simp) <;> (with_reducible rfl)
  change wpAnyH _ _ _ _ _ _ _ (Act.put _ (some 58) _) _
  simp only [Act.put, List.setIfInBounds_toArray, List.set_cons_zero, List.set_cons_succ]
  refine wpAnyH_take (i := 12) (v := ?_) rfl (by kernel_rfl) (by kernel_rfl) (by kernel_rfl) (fun _ _ _ h => h) (Or.inl ⟨by rfl, ?_⟩) hHeld ?_
  rotate_left
  · intro u hSu
    (go_simp) <;> (with_reducible rfl)
  change wpAnyH _ _ _ _ _ _ _ (Act.put _ (some 59) _) _
  simp only [Act.put, List.setIfInBounds_toArray, List.set_cons_zero, List.set_cons_succ]
  refine wpAnyH_take (i := 13) (v := ?_) rfl (by kernel_rfl) (by kernel_rfl) (by kernel_rfl) (fun _ _ _ h => h) (Or.inl ⟨by rfl, ?_⟩) hHeld ?_
  rotate_left
  · intro u hSu
    (go_simp) <;> (with_reducible rfl)
  change wpAnyH _ _ _ _ _ _ _ (Act.put _ (some 60) _) _
  simp only [Act.put, List.setIfInBounds_toArray, List.set_cons_zero, List.set_cons_succ]
  refine wpAnyH_take (i := 14) (v := ?_) rfl (by kernel_rfl) (by kernel_rfl) (by kernel_rfl) (fun _ _ _ h => h) (Or.inl ⟨by rfl, ?_⟩) hHeld ?_
  rotate_left
  · intro u hSu
    (go_simp) <;> (with_reducible rfl)
  change wpAnyH _ _ _ _ _ _ _ (Act.put _ (some 61) _) _
  simp only [Act.put, List.setIfInBounds_toArray, List.set_cons_zero, List.set_cons_succ]
  refine wpAnyH_take (i := 15) (v := kv k16) rfl (by kernel_rfl) (by kernel_rfl) (by kernel_rfl) (fun _ _ _ h => h) (yieldsIf_load_mid (by rfl) _ _ rfl _ _ rfl (k16.map (Value.int .u8)) _ (fun u hu => (F16.out u hu).range G16.out) Try.underlying24 rfl (info_keyl k16 G16.out)) hHeld ?_
  change wpAnyH _ _ _ _ _ _ _ (Act.put _ (some 62) _) _
  simp only [Act.put, List.setIfInBounds_toArray, List.set_cons_zero, List.set_cons_succ]
  refine wpAnyH_ready (rs := [16]) (by kernel_rfl) (by simp) ?_
  refine AllReadyH.cons rfl (fun K hK => ?_) AllReadyH.nil
  go_simp
  go_at_call 12
  refine (D1.out _).mono ?_
  rintro e x1 ⟨rfl, hbx1⟩
  have B21 : Hid (Below V.heap.size V x1) := hHeld.trans (hbx1.mono hHeld.size)
  clear hbx1
  refine hK.out _ _ ?_ (fun hHeld2 => ?_)
  · exact B21.out
  clear hK K hHeld
  have hHeld := hHeld2
  clear hHeld2
  refine wpAnyH_take (i := 17) (v := ?_) rfl (by kernel_rfl) (by kernel_rfl) (by kernel_rfl) (fun _ _ _ h => h) (Or.inl ⟨by rfl, ?_⟩) hHeld ?_
  rotate_left
  · intro u hSu
    (go_simp) <;> (with_reducible rfl)
  change wpAnyH _ _ _ _ _ _ _ (Act.put _ (some 64) _) _
  simp only [Act.put, List.setIfInBounds_toArray, List.set_cons_zero, List.set_cons_succ]
  refine wpAnyH_take (i := 18) (v := ?_) rfl (by kernel_rfl) (by kernel_rfl) (by kernel_rfl) (fun _ _ _ h => h) (Or.inl ⟨by rfl, ?_⟩) hHeld ?_
  rotate_left
  · intro u hSu
    (go_simp) <;> (with_reducible rfl)
  change wpAnyH _ _ _ _ _ _ _ (Act.put _ (some 65) _) _
  simp only [Act.put, List.setIfInBounds_toArray, List.set_cons_zero, List.set_cons_succ]
  refine wpAnyH_take (i := 19) (v := ?_) rfl (by kernel_rfl) (by kernel_rfl) (by kernel_rfl) (fun _ _ _ h => h) (Or.inl ⟨by rfl, ?_⟩) hHeld ?_
  rotate_left
  · intro u hSu
    (go_simp) <;> (with_reducible rfl)
  change wpAnyH _ _ _ _ _ _ _ (Act.put _ (some 66) _) _
  simp only [Act.put, List.setIfInBounds_toArray, List.set_cons_zero, List.set_cons_succ]
  refine wpAnyH_take (i := 20) (v := kv kH) rfl (by kernel_rfl) (by kernel_rfl) (by kernel_rfl) (fun _ _ _ h => h) (yieldsIf_load_mid (by rfl) _ _ rfl _ _ rfl (kH.map (Value.int .u8)) _ (fun u hu => (FH.out u hu).range GH.out) Try.underlying24 rfl (info_keyl kH GH.out)) hHeld ?_
  change wpAnyH _ _ _ _ _ _ _ (Act.put _ (some 67) _) _
  simp only [Act.put, List.setIfInBounds_toArray, List.set_cons_zero, List.set_cons_succ]
  refine wpAnyH_ready (rs := [21]) (by kernel_rfl) (by simp) ?_
  refine AllReadyH.cons rfl (fun K hK => ?_) AllReadyH.nil
  go_simp
  go_at_call 13
  refine (D2.out _).mono ?_
  rintro e x2 ⟨rfl, hbx2⟩
  have B22 : Hid (Below V.heap.size V x2) := hHeld.trans (hbx2.mono hHeld.size)
  clear hbx2
  refine hK.out _ _ ?_ (fun hHeld2 => ?_)
  · exact B22.out
  clear hK K hHeld
  have hHeld := hHeld2
  clear hHeld2
  refine wpAnyH_take (i := 22) (v := ?_) rfl (by kernel_rfl) (by kernel_rfl) (by kernel_rfl) (fun _ _ _ h => h) (Or.inl ⟨by rfl, ?_⟩) hHeld ?_
  rotate_left
  · intro u hSu
    (go_simp) <;> (with_reducible rfl)
  change wpAnyH _ _ _ _ _ _ _ (Act.put _ (some 69) _) _
  simp only [Act.put, List.setIfInBounds_toArray, List.set_cons_zero, List.set_cons_succ]
  refine wpAnyH_take (i := 23) (v := ?_) rfl (by kernel_rfl) (by kernel_rfl) (by kernel_rfl) (fun _ _ _ h => h) (Or.inl ⟨by rfl, ?_⟩) hHeld ?_
  rotate_left
  · intro u hSu
    (go_simp) <;> (with_reducible rfl)
  change wpAnyH _ _ _ _ _ _ _ (Act.put _ (some 70) _) _
  simp only [Act.put, List.setIfInBounds_toArray, List.set_cons_zero, List.set_cons_succ]
  refine wpAnyH_take (i := 24) (v := ?_) rfl (by kernel_rfl) (by kernel_rfl) (by kernel_rfl) (fun _ _ _ h => h) (Or.inl ⟨by rfl, ?_⟩) hHeld ?_
  rotate_left
  · intro u hSu
    (go_simp) <;> (with_reducible rfl)
  change wpAnyH _ _ _ _ _ _ _ (Act.put _ (some 71) _) _
  simp only [Act.put, List.setIfInBounds_toArray, List.set_cons_zero, List.set_cons_succ]
  refine wpAnyH_take (i := 25) (v := kv kH) rfl (by kernel_rfl) (by kernel_rfl) (by kernel_rfl) (fun _ _ _ h => h) (yieldsIf_load_mid (by rfl) _ _ rfl _ _ rfl (kH.map (Value.int .u8)) _ (fun u hu => (FH.out u hu).range GH.out) Try.underlying24 rfl (info_keyl kH GH.out)) hHeld ?_
  change wpAnyH _ _ _ _ _ _ _ (Act.put _ (some 72) _) _
  simp only [Act.put, List.setIfInBounds_toArray, List.set_cons_zero, List.set_cons_succ]
  refine wpAnyH_ready (rs := [26]) (by kernel_rfl) (by simp) ?_
  refine AllReadyH.cons rfl (fun K hK => ?_) AllReadyH.nil
  go_simp
  go_at_call 12
  refine (D3.out _).mono ?_
  rintro e x3 ⟨rfl, hbx3⟩
  have B23 : Hid (Below V.heap.size V x3) := hHeld.trans (hbx3.mono hHeld.size)
  clear hbx3
  refine hK.out _ _ ?_ (fun hHeld2 => ?_)
  · exact B23.out
  clear hK K hHeld
  have hHeld := hHeld2
  clear hHeld2
  refine wpAnyH_take (i := 27) (v := ?_) rfl (by kernel_rfl) (by kernel_rfl) (by kernel_rfl) (fun _ _ _ h => h) (Or.inl ⟨by rfl, ?_⟩) hHeld ?_
  rotate_left
  · intro u hSu
    (go_simp) <;> (with_reducible rfl)
  change wpAnyH _ _ _ _ _ _ _ (Act.put _ (some 74) _) _
  simp only [Act.put, List.setIfInBounds_toArray, List.set_cons_zero, List.set_cons_succ]
  refine wpAnyH_take (i := 28) (v := ?_) rfl (by kernel_rfl) (by kernel_rfl) (by kernel_rfl) (fun _ _ _ h => h) (Or.inl ⟨by rfl, ?_⟩) hHeld ?_
  rotate_left
  · intro u hSu
    (go_simp) <;> (with_reducible rfl)
  change wpAnyH _ _ _ _ _ _ _ (Act.put _ (some 75) _) _
  simp only [Act.put, List.setIfInBounds_toArray, List.set_cons_zero, List.set_cons_succ]
  refine wpAnyH_take (i := 29) (v := ?_) rfl (by kernel_rfl) (by kernel_rfl) (by kernel_rfl) (fun _ _ _ h => h) (Or.inl ⟨by rfl, ?_⟩) hHeld ?_
  rotate_left
  · intro u hSu
    (go_simp) <;> (with_reducible rfl)
  change wpAnyH _ _ _ _ _ _ _ (Act.put _ (some 76) _) _
  simp only [Act.put, List.setIfInBounds_toArray, List.set_cons_zero, List.set_cons_succ]
  refine wpAnyH_take (i := 30) (v := ?_) rfl (by kernel_rfl) (by kernel_rfl) (by kernel_rfl) (fun _ _ _ h => h) (Or.inl ⟨by rfl, ?_⟩) hHeld ?_
  rotate_left
  · intro u hSu
    (go_simp) <;> (with_reducible rfl)
  change wpAnyH _ _ _ _ _ _ _ (Act.put _ (some 77) _) _
  simp only [Act.put, List.setIfInBounds_toArray, List.set_cons_zero, List.set_cons_succ]
  refine wpAnyH_take (i := 31) (v := ?_) rfl (by kernel_rfl) (by kernel_rfl) (by kernel_rfl) (fun _ _ _ h => h) (Or.inl ⟨by rfl, ?_⟩) hHeld ?_
  rotate_left
  · intro u hSu
    (go_simp) <;> (with_reducible rfl)
  change wpAnyH _ _ _ _ _ _ _ (Act.put _ (some 78) _) _
  simp only [Act.put, List.setIfInBounds_toArray, List.set_cons_zero, List.set_cons_succ]
  refine wpAnyH_take (i := 32) (v := ?_) rfl (by kernel_rfl) (by kernel_rfl) (by kernel_rfl) (fun _ _ _ h => h) (Or.inl ⟨by rfl, ?_⟩) hHeld ?_
  rotate_left
  · intro u hSu
    (go_simp) <;> (with_reducible rfl)
  change wpAnyH _ _ _ _ _ _ _ (Act.put _ (some 79) _) _
  simp only [Act.put, List.setIfInBounds_toArray, List.set_cons_zero, List.set_cons_succ]
  refine wpAnyH_take (i := 33) (v := ?_) rfl (by kernel_rfl) (by kernel_rfl) (by kernel_rfl) (fun _ _ _ h => h) (Or.inl ⟨by rfl, ?_⟩) hHeld ?_
  rotate_left
  · intro u hSu
    (go_simp) <;> (with_reducible rfl)
  change wpAnyH _ _ _ _ _ _ _ (Act.put _ (some 80) _) _
  simp only [Act.put, List.setIfInBounds_toArray, List.set_cons_zero, List.set_cons_succ]
  refine wpAnyH_take (i := 34) (v := ?_) rfl (by kernel_rfl) (by kernel_rfl) (by kernel_rfl) (fun _ _ _ h => h) (Or.inl ⟨by rfl, ?_⟩) hHeld ?_
  rotate_left
  · intro u hSu
    (go_simp) <;> (with_reducible rfl)
  change wpAnyH _ _ _ _ _ _ _ (Act.put _ (some 81) _) _
  simp only [Act.put, List.setIfInBounds_toArray, List.set_cons_zero, List.set_cons_succ]
  refine wpAnyH_take (i := 35) (v := ?_) rfl (by kernel_rfl) (by kernel_rfl) (by kernel_rfl) (fun _ _ _ h => h) (Or.inl ⟨by rfl, ?_⟩) hHeld ?_
  rotate_left
  · intro u hSu
    (go_simp) <;> (with_reducible rfl)
  change wpAnyH _ _ _ _ _ _ _ (Act.put _ (some 82) _) _
  simp only [Act.put, List.setIfInBounds_toArray, List.set_cons_zero, List.set_cons_succ]
  refine wpAnyH_take (i := 36) (v := ?_) rfl (by kernel_rfl) (by kernel_rfl) (by kernel_rfl) (fun _ _ _ h => h) (Or.inl ⟨by rfl, ?_⟩) hHeld ?_
  rotate_left
  · intro u hSu
    (go_simp) <;> (with_reducible rfl)
  change wpAnyH _ _ _ _ _ _ _ (Act.put _ (some 83) _) _
  simp only [Act.put, List.setIfInBounds_toArray, List.set_cons_zero, List.set_cons_succ]
  refine wpAnyH_take (i := 37) (v := kv kX) rfl (by kernel_rfl) (by kernel_rfl) (by kernel_rfl) (fun _ _ _ h => h) (yieldsIf_load_mid (by rfl) _ _ rfl _ _ rfl (kX.map (Value.int .u8)) _ (fun u hu => (FL0.out u hu).range GX.out) Try.underlying24 rfl (info_keyl kX GX.out)) hHeld ?_
  change wpAnyH _ _ _ _ _ _ _ (Act.put _ (some 84) _) _
  simp only [Act.put, List.setIfInBounds_toArray, List.set_cons_zero, List.set_cons_succ]
  refine wpAnyH_take (i := 38) (v := kv kX) rfl (by kernel_rfl) (by kernel_rfl) (by kernel_rfl) (fun _ _ _ h => h) (yieldsIf_load_mid (by rfl) _ _ rfl _ _ rfl (kX.map (Value.int .u8)) _ (fun u hu => (FX.out u hu).range GX.out) Try.underlying24 rfl (info_keyl kX GX.out)) hHeld ?_
  change wpAnyH _ _ _ _ _ _ _ (Act.put _ (some 85) _) _
  simp only [Act.put, List.setIfInBounds_toArray, List.set_cons_zero, List.set_cons_succ]
  refine wpAnyH_take (i := 39) (v := ?_) rfl (by kernel_rfl) (by kernel_rfl) (by kernel_rfl) (fun _ _ _ h => h) (Or.inl ⟨by rfl, ?_⟩) hHeld ?_
  rotate_left
  · intro u hSu
    (go_simp) <;> (with_reducible rfl)
  change wpAnyH _ _ _ _ _ _ _ (Act.put _ (some 86) _) _
  simp only [Act.put, List.setIfInBounds_toArray, List.set_cons_zero, List.set_cons_succ]
  refine wpAnyH_take (i := 40) (v := ?_) rfl (by kernel_rfl) (by kernel_rfl) (by kernel_rfl) (fun _ _ _ h => h) (Or.inl ⟨by rfl, ?_⟩) hHeld ?_
  rotate_left
  · intro u hSu
    (go_simp) <;> (with_reducible rfl)
  change wpAnyH _ _ _ _ _ _ _ (Act.put _ (some 87) _) _
  simp only [Act.put, List.setIfInBounds_toArray, List.set_cons_zero, List.set_cons_succ]
  refine wpAnyH_take (i := 41) (v := ?_) rfl (by kernel_rfl) (by kernel_rfl) (by kernel_rfl) (fun _ _ _ h => h) (Or.inl ⟨by rfl, ?_⟩) hHeld ?_
  rotate_left
  · intro u hSu
    (go_simp) <;> (with_reducible rfl)
  change wpAnyH _ _ _ _ _ _ _ (Act.put _ (some 88) _) _
  simp only [Act.put, List.setIfInBounds_toArray, List.set_cons_zero, List.set_cons_succ]
  refine wpAnyH_take (i := 42) (v := ?_) rfl (by kernel_rfl) (by kernel_rfl) (by kernel_rfl) (fun _ _ _ h => h) (Or.inl ⟨by rfl, ?_⟩) hHeld ?_
  rotate_left
  · intro u hSu
    (go_simp) <;> (with_reducible rfl)
  change wpAnyH _ _ _ _ _ _ _ (Act.put _ (some 89) _) _
  simp only [Act.put, List.setIfInBounds_toArray, List.set_cons_zero, List.set_cons_succ]
  refine wpAnyH_take (i := 43) (v := ?_) rfl (by kernel_rfl) (by kernel_rfl) (by kernel_rfl) (fun _ _ _ h => h) (Or.inl ⟨by rfl, ?_⟩) hHeld ?_
  rotate_left
  · intro u hSu
    (go_simp) <;> (with_reducible rfl)
  change wpAnyH _ _ _ _ _ _ _ (Act.put _ (some 90) _) _
  simp only [Act.put, List.setIfInBounds_toArray, List.set_cons_zero, List.set_cons_succ]
  refine wpAnyH_take (i := 44) (v := kv kB) rfl (by kernel_rfl) (by kernel_rfl) (by kernel_rfl) (fun _ _ _ h => h) (yieldsIf_load_mid (by rfl) _ _ rfl _ _ rfl (kB.map (Value.int .u8)) _ (fun u hu => (FL1.out u hu).range GB.out) Try.underlying24 rfl (info_keyl kB GB.out)) hHeld ?_
  change wpAnyH _ _ _ _ _ _ _ (Act.put _ (some 91) _) _
  simp only [Act.put, List.setIfInBounds_toArray, List.set_cons_zero, List.set_cons_succ]
  refine wpAnyH_take (i := 45) (v := kv kB) rfl (by kernel_rfl) (by kernel_rfl) (by kernel_rfl) (fun _ _ _ h => h) (yieldsIf_load_mid (by rfl) _ _ rfl _ _ rfl (kB.map (Value.int .u8)) _ (fun u hu => (FB.out u hu).range GB.out) Try.underlying24 rfl (info_keyl kB GB.out)) hHeld ?_
  change wpAnyH _ _ _ _ _ _ _ (Act.put _ (some 92) _) _
  simp only [Act.put, List.setIfInBounds_toArray, List.set_cons_zero, List.set_cons_succ]
  refine wpAnyH_take (i := 46) (v := ?_) rfl (by kernel_rfl) (by kernel_rfl) (by kernel_rfl) (fun _ _ _ h => h) (Or.inl ⟨by rfl, ?_⟩) hHeld ?_
  rotate_left
  · intro u hSu
    (go_simp) <;> (with_reducible rfl)
  change wpAnyH _ _ _ _ _ _ _ (Act.put _ (some 93) _) _
  simp only [Act.put, List.setIfInBounds_toArray, List.set_cons_zero, List.set_cons_succ]
  refine wpAnyH_take (i := 47) (v := ?_) rfl (by kernel_rfl) (by kernel_rfl) (by kernel_rfl) (fun _ _ _ h => h) (Or.inl ⟨by rfl, ?_⟩) hHeld ?_
  rotate_left
  · intro u hSu
    (go_simp) <;> (with_reducible rfl)
  change wpAnyH _ _ _ _ _ _ _ (Act.put _ (some 94) _) _
  simp only [Act.put, List.setIfInBounds_toArray, List.set_cons_zero, List.set_cons_succ]
  refine wpAnyH_take (i := 48) (v := ?_) rfl (by kernel_rfl) (by kernel_rfl) (by kernel_rfl) (fun _ _ _ h => h) (Or.inl ⟨by rfl, ?_⟩) hHeld ?_
  rotate_left
  · intro u hSu
    (go_simp) <;> (with_reducible rfl)
  change wpAnyH _ _ _ _ _ _ _ (Act.put _ (some 95) _) _
  simp only [Act.put, List.setIfInBounds_toArray, List.set_cons_zero, List.set_cons_succ]
  refine wpAnyH_take (i := 49) (v := kv kX) rfl (by kernel_rfl) (by kernel_rfl) (by kernel_rfl) (fun _ _ _ h => h) (yieldsIf_load_mid (by rfl) _ _ rfl _ _ rfl (kX.map (Value.int .u8)) _ (fun u hu => (FX.out u hu).range GX.out) Try.underlying24 rfl (info_keyl kX GX.out)) hHeld ?_
  change wpAnyH _ _ _ _ _ _ _ (Act.put _ (some 96) _) _
  simp only [Act.put, List.setIfInBounds_toArray, List.set_cons_zero, List.set_cons_succ]
  refine wpAnyH_take (i := 50) (v := kv kX) rfl (by kernel_rfl) (by kernel_rfl) (by kernel_rfl) (fun _ _ _ h => h) (yieldsIf_load_mid (by rfl) _ _ rfl _ _ rfl (kX.map (Value.int .u8)) _ (fun u hu => (FX.out u hu).range GX.out) Try.underlying24 rfl (info_keyl kX GX.out)) hHeld ?_
  change wpAnyH _ _ _ _ _ _ _ (Act.put _ (some 97) _) _
  simp only [Act.put, List.setIfInBounds_toArray, List.set_cons_zero, List.set_cons_succ]
  refine wpAnyH_take (i := 51) (v := kv kB) rfl (by kernel_rfl) (by kernel_rfl) (by kernel_rfl) (fun _ _ _ h => h) (yieldsIf_load_mid (by rfl) _ _ rfl _ _ rfl (kB.map (Value.int .u8)) _ (fun u hu => (FB.out u hu).range GB.out) Try.underlying24 rfl (info_keyl kB GB.out)) hHeld ?_
  change wpAnyH _ _ _ _ _ _ _ (Act.put _ (some 98) _) _
  simp only [Act.put, List.setIfInBounds_toArray, List.set_cons_zero, List.set_cons_succ]
  refine wpAnyH_ready (rs := [52]) (by kernel_rfl) (by simp) ?_
  refine AllReadyH.cons rfl (fun K hK => ?_) AllReadyH.nil
  go_simp
  go_at_call 14
  refine (D4.out _).mono ?_
  rintro e x4 ⟨rfl, hbx4⟩
  have B24 : Hid (Below V.heap.size V x4) := hHeld.trans (hbx4.mono hHeld.size)
  clear hbx4
  refine hK.out _ _ ?_ (fun hHeld2 => ?_)
  · exact B24.out
  clear hK K hHeld
  have hHeld := hHeld2
  clear hHeld2
  refine wpAnyH_take (i := 53) (v := ?_) rfl (by kernel_rfl) (by kernel_rfl) (by kernel_rfl) (fun _ _ _ h => h) (Or.inl ⟨by rfl, ?_⟩) hHeld ?_
  rotate_left
  · intro u hSu
    (go_simp) <;> (with_reducible rfl)
  change wpAnyH _ _ _ _ _ _ _ (Act.put _ (some 100) _) _
  simp only [Act.put, List.setIfInBounds_toArray, List.set_cons_zero, List.set_cons_succ]
  refine wpAnyH_take (i := 54) (v := ?_) rfl (by kernel_rfl) (by kernel_rfl) (by kernel_rfl) (fun _ _ _ h => h) (Or.inl ⟨by rfl, ?_⟩) hHeld ?_
  rotate_left
  · intro u hSu
    (go_simp) <;> (with_reducible rfl)
  change wpAnyH _ _ _ _ _ _ _ (Act.put _ (some 101) _) _
  simp only [Act.put, List.setIfInBounds_toArray, List.set_cons_zero, List.set_cons_succ]
  refine wpAnyH_take (i := 55) (v := kv kB) rfl (by kernel_rfl) (by kernel_rfl) (by kernel_rfl) (fun _ _ _ h => h) (yieldsIf_load_mid (by rfl) _ _ rfl _ _ rfl (kB.map (Value.int .u8)) _ (fun u hu => (FB.out u hu).range GB.out) Try.underlying24 rfl (info_keyl kB GB.out)) hHeld ?_
  change wpAnyH _ _ _ _ _ _ _ (Act.put _ (some 102) _) _
  simp only [Act.put, List.setIfInBounds_toArray, List.set_cons_zero, List.set_cons_succ]
  refine wpAnyH_take (i := 56) (v := kv kX) rfl (by kernel_rfl) (by kernel_rfl) (by kernel_rfl) (fun _ _ _ h => h) (yieldsIf_load_mid (by rfl) _ _ rfl _ _ rfl (kX.map (Value.int .u8)) _ (fun u hu => (FX.out u hu).range GX.out) Try.underlying24 rfl (info_keyl kX GX.out)) hHeld ?_
  change wpAnyH _ _ _ _ _ _ _ (Act.put _ (some 103) _) _
  simp only [Act.put, List.setIfInBounds_toArray, List.set_cons_zero, List.set_cons_succ]
  refine wpAnyH_take (i := 57) (v := kv kB) rfl (by kernel_rfl) (by kernel_rfl) (by kernel_rfl) (fun _ _ _ h => h) (yieldsIf_load_mid (by rfl) _ _ rfl _ _ rfl (kB.map (Value.int .u8)) _ (fun u hu => (FB.out u hu).range GB.out) Try.underlying24 rfl (info_keyl kB GB.out)) hHeld ?_
  change wpAnyH _ _ _ _ _ _ _ (Act.put _ (some 104) _) _
  simp only [Act.put, List.setIfInBounds_toArray, List.set_cons_zero, List.set_cons_succ]
  refine wpAnyH_ready (rs := [58]) (by kernel_rfl) (by simp) ?_
  refine AllReadyH.cons rfl (fun K hK => ?_) AllReadyH.nil
  go_simp
  go_at_call 14
  refine (D5.out _).mono ?_
  rintro e x5 ⟨rfl, hbx5⟩
  have B25 : Hid (Below V.heap.size V x5) := hHeld.trans (hbx5.mono hHeld.size)
  clear hbx5
  refine hK.out _ _ ?_ (fun hHeld2 => ?_)
  · exact B25.out
  clear hK K hHeld
  have hHeld := hHeld2
  clear hHeld2
  refine wpAnyH_take (i := 59) (v := ?_) rfl (by kernel_rfl) (by kernel_rfl) (by kernel_rfl) (fun _ _ _ h => h) (Or.inl ⟨by rfl, ?_⟩) hHeld ?_
  rotate_left
  · intro u hSu
    (go_simp) <;> (with_reducible rfl)
  change wpAnyH _ _ _ _ _ _ _ (Act.put _ (some 106) _) _
  simp only [Act.put, List.setIfInBounds_toArray, List.set_cons_zero, List.set_cons_succ]
  refine wpAnyH_take (i := 60) (v := ?_) rfl (by kernel_rfl) (by kernel_rfl) (by kernel_rfl) (fun _ _ _ h => h) (Or.inl ⟨by rfl, ?_⟩) hHeld ?_
  rotate_left
  · intro u hSu
    (go_simp) <;> (with_reducible rfl)
  change wpAnyH _ _ _ _ _ _ _ (Act.put _ (some 107) _) _
  simp only [Act.put, List.setIfInBounds_toArray, List.set_cons_zero, List.set_cons_succ]
  refine wpAnyH_take (i := 61) (v := ?_) rfl (by kernel_rfl) (by kernel_rfl) (by kernel_rfl) (fun _ _ _ h => h) (Or.inl ⟨by rfl, ?_⟩) hHeld ?_
  rotate_left
  · intro u hSu
    (go_simp) <;> (with_reducible rfl)
  change wpAnyH _ _ _ _ _ _ _ (Act.put _ (some 108) _) _
  simp only [Act.put, List.setIfInBounds_toArray, List.set_cons_zero, List.set_cons_succ]
  refine wpAnyH_take (i := 62) (v := kv kB) rfl (by kernel_rfl) (by kernel_rfl) (by kernel_rfl) (fun _ _ _ h => h) (yieldsIf_load_mid (by rfl) _ _ rfl _ _ rfl (kB.map (Value.int .u8)) _ (fun u hu => (FB.out u hu).range GB.out) Try.underlying24 rfl (info_keyl kB GB.out)) hHeld ?_
  change wpAnyH _ _ _ _ _ _ _ (Act.put _ (some 109) _) _
  simp only [Act.put, List.setIfInBounds_toArray, List.set_cons_zero, List.set_cons_succ]
  refine wpAnyH_take (i := 63) (v := kv kX) rfl (by kernel_rfl) (by kernel_rfl) (by kernel_rfl) (fun _ _ _ h => h) (yieldsIf_load_mid (by rfl) _ _ rfl _ _ rfl (kX.map (Value.int .u8)) _ (fun u hu => (FX.out u hu).range GX.out) Try.underlying24 rfl (info_keyl kX GX.out)) hHeld ?_
  change wpAnyH _ _ _ _ _ _ _ (Act.put _ (some 110) _) _
  simp only [Act.put, List.setIfInBounds_toArray, List.set_cons_zero, List.set_cons_succ]
  refine wpAnyH_take (i := 64) (v := ?_) rfl (by kernel_rfl) (by kernel_rfl) (by kernel_rfl) (fun _ _ _ h => h) (Or.inl ⟨by rfl, ?_⟩) hHeld ?_
  rotate_left
  · intro u hSu
    (go_simp) <;> (with_reducible rfl)
  change wpAnyH _ _ _ _ _ _ _ (Act.put _ (some 111) _) _
  simp only [Act.put, List.setIfInBounds_toArray, List.set_cons_zero, List.set_cons_succ]
  refine wpAnyH_ready (rs := [65]) (by kernel_rfl) (by simp) ?_
  refine AllReadyH.cons rfl (fun K hK => ?_) AllReadyH.nil
  go_simp
  go_at_call 14
  refine (D6.out _).mono ?_
  rintro e x6 ⟨rfl, hbx6⟩
  have B26 : Hid (Below V.heap.size V x6) := hHeld.trans (hbx6.mono hHeld.size)
  clear hbx6
  refine hK.out _ _ ?_ (fun hHeld2 => ?_)
  · exact B26.out
  clear hK K hHeld
  have hHeld := hHeld2
  clear hHeld2
  refine wpAnyH_take (i := 66) (v := ?_) rfl (by kernel_rfl) (by kernel_rfl) (by kernel_rfl) (fun _ _ _ h => h) (Or.inl ⟨by rfl, ?_⟩) hHeld ?_
  rotate_left
  · intro u hSu
    (go_simp) <;> (with_reducible rfl)
  change wpAnyH _ _ _ _ _ _ _ (Act.put _ (some 113) _) _
  simp only [Act.put, List.setIfInBounds_toArray, List.set_cons_zero, List.set_cons_succ]
  refine wpAnyH_take (i := 67) (v := ?_) rfl (by kernel_rfl) (by kernel_rfl) (by kernel_rfl) (fun _ _ _ h => h) (Or.inl ⟨by rfl, ?_⟩) hHeld ?_
  rotate_left
  · intro u hSu
    (go_simp) <;> (with_reducible rfl)
  change wpAnyH _ _ _ _ _ _ _ (Act.put _ (some 114) _) _
  simp only [Act.put, List.setIfInBounds_toArray, List.set_cons_zero, List.set_cons_succ]
  refine wpAnyH_take (i := 68) (v := kv kX) rfl (by kernel_rfl) (by kernel_rfl) (by kernel_rfl) (fun _ _ _ h => h) (yieldsIf_load_mid (by rfl) _ _ rfl _ _ rfl (kX.map (Value.int .u8)) _ (fun u hu => (FX.out u hu).range GX.out) Try.underlying24 rfl (info_keyl kX GX.out)) hHeld ?_
  change wpAnyH _ _ _ _ _ _ _ (Act.put _ (some 115) _) _
  simp only [Act.put, List.setIfInBounds_toArray, List.set_cons_zero, List.set_cons_succ]
  refine wpAnyH_take (i := 69) (v := kv kB) rfl (by kernel_rfl) (by kernel_rfl) (by kernel_rfl) (fun _ _ _ h => h) (yieldsIf_load_mid (by rfl) _ _ rfl _ _ rfl (kB.map (Value.int .u8)) _ (fun u hu => (FB.out u hu).range GB.out) Try.underlying24 rfl (info_keyl kB GB.out)) hHeld ?_
  change wpAnyH _ _ _ _ _ _ _ (Act.put _ (some 116) _) _
  simp only [Act.put, List.setIfInBounds_toArray, List.set_cons_zero, List.set_cons_succ]
  refine wpAnyH_take (i := 70) (v := ?_) rfl (by kernel_rfl) (by kernel_rfl) (by kernel_rfl) (fun _ _ _ h => h) (Or.inl ⟨by rfl, ?_⟩) hHeld ?_
  rotate_left
  · intro u hSu
    (go_simp) <;> (with_reducible rfl)
  change wpAnyH _ _ _ _ _ _ _ (Act.put _ (some 117) _) _
  simp only [Act.put, List.setIfInBounds_toArray, List.set_cons_zero, List.set_cons_succ]
  refine wpAnyH_ready (rs := [71]) (by kernel_rfl) (by simp) ?_
  refine AllReadyH.cons rfl (fun K hK => ?_) AllReadyH.nil
  go_simp
  go_at_call 14
  refine (D7.out _).mono ?_
  rintro e x7 ⟨rfl, hbx7⟩
  have B27 : Hid (Below V.heap.size V x7) := hHeld.trans (hbx7.mono hHeld.size)
  clear hbx7
  refine hK.out _ _ ?_ (fun hHeld2 => ?_)
  · exact B27.out
  clear hK K hHeld
  have hHeld := hHeld2
  clear hHeld2
  refine wpAnyH_take (i := 72) (v := ?_) rfl (by kernel_rfl) (by kernel_rfl) (by kernel_rfl) (fun _ _ _ h => h) (Or.inl ⟨by rfl, ?_⟩) hHeld ?_
  rotate_left
  · intro u hSu
    (go_simp) <;> (with_reducible rfl)
  change wpAnyH _ _ _ _ _ _ _ (Act.put _ (some 119) _) _
  simp only [Act.put, List.setIfInBounds_toArray, List.set_cons_zero, List.set_cons_succ]
  refine wpAnyH_take (i := 73) (v := ?_) rfl (by kernel_rfl) (by kernel_rfl) (by kernel_rfl) (fun _ _ _ h => h) (Or.inl ⟨by rfl, ?_⟩) hHeld ?_
  rotate_left
  · intro u hSu
    (go_simp) <;> (with_reducible rfl)
  change wpAnyH _ _ _ _ _ _ _ (Act.put _ (some 120) _) _
  simp only [Act.put, List.setIfInBounds_toArray, List.set_cons_zero, List.set_cons_succ]
  refine wpAnyH_take (i := 74) (v := ?_) rfl (by kernel_rfl) (by kernel_rfl) (by kernel_rfl) (fun _ _ _ h => h) (Or.inl ⟨by rfl, ?_⟩) hHeld ?_
  rotate_left
  · intro u hSu
    (go_simp) <;> (with_reducible rfl)
  change wpAnyH _ _ _ _ _ _ _ (Act.put _ (some 0) _) _
  simp only [Act.put, List.setIfInBounds_toArray, List.set_cons_zero]
  refine wpAnyH_done (by kernel_rfl) ?_ _
  refine NoPanic.normal ?_
  go_wp2
  go_ret
  exact ⟨rfl, EE.out.trans (B27.out.mono EE.out.size)⟩

set_option maxRecDepth 100000 in
theorem lifted (os : Os) (started : os.Started) (H : Type) (enc : TypeId × Value → H) :
    ReturnsInHanded {} Try.checked os 3 .any (Rows.keyKnownSpec.pre6 enc Try.prog Try.f3 Rows.keyKnownRow.domain false) (Rows.keyKnownSpec.post enc Try.prog Try.f3 false true false false) := by
  refine returnsInHanded_of_change (C := Try.checked) own started (by kernel_rfl) Try.func3
    (ChangeSpec.witness6 (enc := enc) (C := Try.checked) false ⟨#[], #[], []⟩ 8 (by kernel_rfl) (by kernel_rfl) (by kernel_rfl) (by kernel_rfl)) ?_
  intro W base args ds gs before hval0 hW hcnd _
  have hval : ∀ (j : Nat) t v, Try.f3.params[j]? = some t → args[j]? = some v → Value.okWide Try.prog W .any base t v := hval0
  have hW' := hW
  obtain ⟨p, q, hA0, hV, rfl, hfz, hnd⟩ := hW
  have hA : DataW.TrodAll enc Try.prog W 0 (fun _ => true) true Try.f3.params.toList args.toList ds p := hA0
  rw [Try.params3] at hA hval
  obtain ⟨hargs, rfl, rfl⟩ := trodAll_nil hA
  obtain rfl : args = #[] := by cases args; simp_all
  obtain ⟨rfl, rfl⟩ := trodVars_none hV
  clear hA0 hval0
  refine (walk  W ).mono fun e W' ⟨he, bel⟩ => ?_
  subst he
  exact ⟨_, rfl, _, _, _, [], _, [], hW', trodAll_mk1 (shut_bool Try.underlying4 _), trodAll_mk0, rfl, bel.frame _, fun h => by cases h⟩

theorem over : Rows.keyKnownRow.holds Try.pinned (OpenSpec.ofChange Rows.keyKnownSpec) :=
  OpenClaim.holds_of_wide 3 Try.f3 rfl rfl rfl rfl rfl rfl rfl ⟨rfl, rfl, rfl, rfl, rfl⟩ rfl rfl rfl rfl rfl (by kernel_rfl) Try.func3 (by kernel_rfl)
    (of_decide_eq_true (by kernel_rfl)) (by unfold Func.isWrapper; first | (rw [if_pos (by decide +kernel)]; kernel_rfl) | (rw [if_neg (by decide +kernel)]; exact ⟨rfl, rfl⟩))
    (fun os started H enc _ => lifted os started H enc)
theorem proved : Rows.KeyKnownSaid := over
#print axioms proved
end Go.Proofs.Ytfgbgcaackhcmaa.keyKnown
namespace Go.Proofs.Ytfgbgcaackhcmaa
/-- KeyKnown, as given. -/
theorem keyKnown_holds : Rows.KeyKnownSaid := keyKnown.proved
end Go.Proofs.Ytfgbgcaackhcmaa
