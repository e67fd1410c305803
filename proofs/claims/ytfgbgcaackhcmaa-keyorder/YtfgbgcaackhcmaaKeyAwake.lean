/-
  Layer 10's first words: what the landed keys answer at 'ab' and 'b'; two lists of keys held against one another.
-/
import Derived.Test.YtfgbgcaackhcmaaKeyC
import Derived.Test.YtfgbgcaackhcmaaRefKeyReg
namespace Go.Proofs.Ytfgbgcaackhcmaa
open Go.RowKit
set_option linter.unusedVariables false

/-- One key in a block of its own, made since world w. -/
structure Uno (w u : World) (g : Nat) (A : List Int) : Prop where
  below : Below w.heap.size w u
  key : KeyMine u g 0 A
  new : w.heap.size ≤ g
theorem Uno.at {w u v : World} {g : Nat} {A : List Int} (h : Uno w u g A) (hb : Below u.heap.size u v) : KeyAt v g 0 A := h.key.lies.past hb
/-- A variable for a key is made. -/
theorem uno_made {w u : World} (hb : Below w.heap.size w u) (T : TypeId) : Uno w (u.alloc (.cells (kcs zeroK) T)) u.heap.size zeroK :=
  ⟨hb.alloc hb.size _, KeyMine.made u T zeroK zeroK_ky, hb.size⟩
/-- .. and filled. -/
theorem Uno.store {w u : World} {g : Nat} {A K : List Int} (h : Uno w u g A) (hK : Ky K) : Uno w (u.setCells g 0 (K.map (Value.int .u8))) g K :=
  ⟨below_cells h.new h.below, h.key.store hK, h.new⟩
def kAB : List Int := [97, 98, 0, 0, 0, 0, 0, 0, 0, 0, 0, 0, 0, 0, 0, 0]
def kB : List Int := [98, 0, 0, 0, 0, 0, 0, 0, 0, 0, 0, 0, 0, 0, 0, 0]
theorem kAB_ky : Ky kAB := ⟨by decide, by decide⟩
theorem kB_ky : Ky kB := ⟨by decide, by decide⟩
theorem zero_list : kcs zeroK = #[.int .u8 0, .int .u8 0, .int .u8 0, .int .u8 0, .int .u8 0, .int .u8 0, .int .u8 0, .int .u8 0, .int .u8 0, .int .u8 0, .int .u8 0, .int .u8 0, .int .u8 0, .int .u8 0, .int .u8 0, .int .u8 0] := rfl
set_option maxHeartbeats 1000000 in
theorem awake_any (w : World) : Calls Try.prog 9 #[] w fun e w' => e = .returned (.bool true) ∧ Below w.heap.size w w' := by
  have C1 : Hid (∀ u, Calls Try.prog 10 #[.string ⟨#[97, 98]⟩] u fun e w' => e = .returned (.tuple #[kv kAB, .int .i64 0]) ∧ Below u.heap.size u w') := fun u => kof_any [97, 98] (by decide) (by decide) u
  have C2 : Hid (∀ u, Calls Try.prog 10 #[.string ⟨#[98]⟩] u fun e w' => e = .returned (.tuple #[kv kB, .int .i64 0]) ∧ Below u.heap.size u w') := fun u => kof_any [98] (by decide) (by decide) u
  have C3 : Hid (∀ u, Calls Try.prog 18 #[kv kAB, kv kB] u fun e w' => e = .returned (.int .i64 (-1)) ∧ Below u.heap.size u w') := fun u => kcmp_any kAB kB kAB_ky kB_ky u
  have C4 : Hid (∀ u, Calls Try.prog 12 #[kv kAB] u fun e w' => e = .returned (.string ⟨#[97, 98]⟩) ∧ Below u.heap.size u w') := fun u => ktext_any kAB kAB_ky u
  have C5 : Hid (∀ u, Calls Try.prog 13 #[kv kAB] u fun e w' => e = .returned (.bool true) ∧ Below u.heap.size u w') := fun u => kgood_any kAB kAB_ky u
  have C6 : Hid (∀ u, Calls Try.prog 13 #[kv zeroK] u fun e w' => e = .returned (.bool false) ∧ Below u.heap.size u w') := fun u => kgood_any zeroK zeroK_ky u
  have hs : (sumK kB != 0) = true := by decide +kernel
  obtain ⟨Z, hZ⟩ : ∃ Z, Z = sumK kB := ⟨_, rfl⟩
  have C7 : Hid (∀ u, Calls Try.prog 21 #[kv kB] u fun e w' => e = .returned (.int .u32 Z) ∧ Below u.heap.size u w') := fun u => by rw [hZ]; exact ksum_any kB kB_ky u
  rw [← hZ] at hs
  clear hZ
  go_enter Try.func9, Try.ntmps9
  go_wp2_with (first
    | (have hgo := C1.out; clear hgo; go_at_call 10; refine (C1.out _).mono ?_; rintro e w1 ⟨rfl, hb1⟩; have HM : Hid (Uno w (w1.alloc (.cells (kcs zeroK) 24)) w1.heap.size zeroK) := uno_made hb1 24; rw [zero_list] at HM; clear hb1 C1)
    | (have hgo := HM.out; clear hgo; refine wpList_store_keyU (by rfl) _ _ (by rfl) w1.heap.size 0 zeroK kAB (by rfl) (by rfl) kAB_ky HM.out.key ?_; intro u1 hu; have H1 : Hid (Uno w u1 w1.heap.size kAB) := hu ▸ HM.out.store kAB_ky; clear hu HM)
    | (have hgo := C2.out; clear hgo; have hgo := H1.out; clear hgo; go_at_call 10; refine (C2.out _).mono ?_; rintro e w2 ⟨rfl, hb2⟩; have HM2 : Hid (Uno u1 (w2.alloc (.cells (kcs zeroK) 24)) w2.heap.size zeroK) := uno_made hb2 24; rw [zero_list] at HM2; clear hb2 C2)
    | (have hgo := HM2.out; clear hgo; refine wpList_store_keyU (by rfl) _ _ (by rfl) w2.heap.size 0 zeroK kB (by rfl) (by rfl) kB_ky HM2.out.key ?_; intro u2 hu; have H2 : Hid (Uno u1 u2 w2.heap.size kB) := hu ▸ HM2.out.store kB_ky; have KA : Hid (∀ u, Below u2.heap.size u2 u → KeyAt u w1.heap.size 0 kAB) := fun u hb => (H1.out.at H2.out.below).past hb; have KB : Hid (∀ u, Below u2.heap.size u2 u → KeyAt u w2.heap.size 0 kB) := fun u hb => H2.out.at hb; have BW : Hid (Below w.heap.size w u2) := H1.out.below.trans (H2.out.below.mono H1.out.below.size); have B2 : Hid (Below u2.heap.size u2 u2) := Below.refl _ _; clear hu HM2)
    | (have hgo := KA.out; clear hgo; refine wpList_load_keyG (by rfl) _ (by rfl) w1.heap.size 0 (by rfl) kAB kAB_ky (KA.out _ (by first | exact B6.out | exact B5.out | exact B4.out | exact B3.out | exact B2.out)) ?_)
    | (have hgo := KA.out; clear hgo; refine wpList_load_keyG (by rfl) _ (by rfl) w2.heap.size 0 (by rfl) kB kB_ky (KB.out _ (by first | exact B6.out | exact B5.out | exact B4.out | exact B3.out | exact B2.out)) ?_)
    | (have hgo := KA.out; clear hgo; go_at_call 18; refine (C3.out _).mono ?_; rintro e w3 ⟨rfl, hb3⟩; have B3 : Hid (Below u2.heap.size u2 w3) := hb3; clear hb3)
    | (have hgo := B3.out; clear hgo; go_at_call 12; refine (C4.out _).mono ?_; rintro e w4 ⟨rfl, hb4⟩; have B4 : Hid (Below u2.heap.size u2 w4) := B3.out.trans (hb4.mono B3.out.size); clear hb4)
    | (have hgo := B4.out; clear hgo; have hgo := C5.out; clear hgo; go_at_call 13; refine (C5.out _).mono ?_; rintro e w5 ⟨rfl, hb5⟩; have B5 : Hid (Below u2.heap.size u2 w5) := B4.out.trans (hb5.mono B4.out.size); clear hb5 C5)
    | (have hgo := B5.out; clear hgo; go_at_call 13; refine (C6.out _).mono ?_; rintro e w6 ⟨rfl, hb6⟩; have B6 : Hid (Below u2.heap.size u2 w6) := B5.out.trans (hb6.mono B5.out.size); clear hb6)
    | (have hgo := B6.out; clear hgo; go_at_call 21; refine (C7.out _).mono ?_; rintro e w7 ⟨rfl, hb7⟩; have B7 : Hid (Below u2.heap.size u2 w7) := B6.out.trans (hb7.mono B6.out.size); clear hb7))
  go_ret
  exact ⟨rfl, BW.out.trans (B7.out.mono BW.out.size)⟩
end Go.Proofs.Ytfgbgcaackhcmaa
