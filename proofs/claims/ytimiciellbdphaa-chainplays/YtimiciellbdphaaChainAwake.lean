/-
  One chain, or two, under way in a call; what layer 11's awake answers.
-/
import Derived.Test.YtimiciellbdphaaChainVers
namespace Go.Proofs.Ytimiciellbdphaa
open Go.RowKit
set_option linter.unusedVariables false

/-- A chain of the call's own. -/
def ChW (w u : World) (p : Nat) (L : List Ver) : Prop := ∃ X, ChD u p L X ∧ Below w.heap.size w u ∧ ∀ k, X k → w.heap.size ≤ k
theorem ChW.below {w u : World} {p : Nat} {L : List Ver} (h : ChW w u p L) : Below w.heap.size w u := by obtain ⟨X, _, h, _⟩ := h; exact h
theorem ChW.chn {w u : World} {p : Nat} {L : List Ver} (h : ChW w u p L) : Chn L := by obtain ⟨X, h, _⟩ := h; exact h.chn
theorem ChW.past {w u u' : World} {p : Nat} {L : List Ver} (h : ChW w u p L) (hb : Below u.heap.size u u') : ChW w u' p L := by
  obtain ⟨X, h1, h2, h3⟩ := h
  exact ⟨X, h1.past hb, h2.trans (hb.mono h2.size), h3⟩
theorem ChW.did {w u u' : World} {p : Nat} {L' : List Ver} {X X' : Foot} (h1 : ChD u' p L' X') (d : Did u u' X X') (h2 : Below w.heap.size w u) (h3 : ∀ k, X k → w.heap.size ≤ k) : ChW w u' p L' :=
  ⟨X', h1, h2.trans (d.chg.below h2.size h3), fun k hk => (d.new k hk).1.elim (h3 k) (fun e => Nat.le_trans h2.size e)⟩
theorem wnew_any (w u : World) (hb : Below w.heap.size w u) :
    Calls Try.prog 9 #[] u fun e w' => ∃ p, e = .returned (.pointer (some ⟨p, 0, none⟩)) ∧ ChW w w' p [] ∧ Below u.heap.size u w' :=
  (cnew_any u).mono fun e w' ⟨p, X, h1, h2, h3, h4⟩ => ⟨p, h1, ⟨X, h2, hb.trans (h3.mono hb.size), fun k hk => Nat.le_trans hb.size (h4 k hk)⟩, h3⟩
theorem wput_any {w u : World} {p : Nat} {L : List Ver} (h : ChW w u p L) {V : Ver} (hV : VerIn V) :
    Calls Try.prog 10 #[.pointer (some ⟨p, 0, none⟩), cvv V] u fun e w' => e = .returned (.int .i64 (putV L V).1) ∧ ChW w w' p (putV L V).2 := by
  obtain ⟨X, h1, h2, h3⟩ := h
  exact (cput_any p L X V hV u h1).mono fun e w' ⟨e1, X', c, d⟩ => ⟨e1, ChW.did c d h2 h3⟩
theorem wtrim_any {w u : World} {p : Nat} {L : List Ver} (h : ChW w u p L) (t n : Int) :
    Calls Try.prog 12 #[.pointer (some ⟨p, 0, none⟩), .agg #[.int .i64 t, .int .u8 n]] u fun e w' => e = .returned (.int .i64 ((L.length : Int) - ((restV L t n).length : Int))) ∧ ChW w w' p (restV L t n) := by
  obtain ⟨X, h1, h2, h3⟩ := h
  exact (ctrim_any p L X t n u h1).mono fun e w' ⟨e1, X', c, d⟩ => ⟨e1, ChW.did c d h2 h3⟩
theorem wat_any {w u : World} {p : Nat} {L : List Ver} (h : ChW w u p L) (t n : Int) :
    Calls Try.prog 17 #[.pointer (some ⟨p, 0, none⟩), .agg #[.int .i64 t, .int .u8 n]] u fun e w' => e = .returned (.tuple #[cvv (orZero (atV L zeroK t n)), .bool (atV L zeroK t n).isSome]) ∧ ChW w w' p L ∧ Below u.heap.size u w' := by
  have h0 := h
  obtain ⟨X, h1, h2, h3⟩ := h
  exact (cat_any p L X t n u h1).mono fun e w' ⟨e1, hb⟩ => ⟨e1, h0.past hb, hb⟩
theorem wnewest_any {w u : World} {p : Nat} {L : List Ver} (h : ChW w u p L) :
    Calls Try.prog 19 #[.pointer (some ⟨p, 0, none⟩)] u fun e w' => e = .returned (.tuple #[cvv (orZero (newestV L zeroK)), .bool (newestV L zeroK).isSome]) ∧ ChW w w' p L ∧ Below u.heap.size u w' := by
  have h0 := h
  obtain ⟨X, h1, h2, h3⟩ := h
  exact (cnewest_any p L X u h1).mono fun e w' ⟨e1, hb⟩ => ⟨e1, h0.past hb, hb⟩
theorem wsince_any {w u : World} {p : Nat} {L : List Ver} (h : ChW w u p L) (t n : Int) :
    Calls Try.prog 22 #[.pointer (some ⟨p, 0, none⟩), .agg #[.int .i64 t, .int .u8 n]] u fun e w' => e = .returned (.int .i64 (sinceV L t n : Nat)) ∧ ChW w w' p L ∧ Below u.heap.size u w' := by
  have h0 := h
  obtain ⟨X, h1, h2, h3⟩ := h
  exact (csince_any p L X t n u h1).mono fun e w' ⟨e1, hb⟩ => ⟨e1, h0.past hb, hb⟩
theorem wall_any {w u : World} {p : Nat} {L : List Ver} (h : ChW w u p L) :
    Calls Try.prog 13 #[.pointer (some ⟨p, 0, none⟩)] u fun e w' => (∃ a c, e = .returned (.slice a L.length c) ∧ CVersOf w' a c L) ∧ ChW w w' p L ∧ Below u.heap.size u w' := by
  have h0 := h
  obtain ⟨X, h1, h2, h3⟩ := h
  exact (call_any p L X u h1).mono fun e w' ⟨e1, hb⟩ => ⟨e1, h0.past hb, hb⟩
theorem wlen_any {w u : World} {p : Nat} {L : List Ver} (h : ChW w u p L) :
    Calls Try.prog 23 #[.pointer (some ⟨p, 0, none⟩)] u fun e w' => e = .returned (.int .i64 (L.length : Nat)) ∧ ChW w w' p L ∧ Below u.heap.size u w' := by
  have h0 := h
  obtain ⟨X, h1, h2, h3⟩ := h
  exact (clen_any p L X u h1).mono fun e w' ⟨e1, hb⟩ => ⟨e1, h0.past hb, hb⟩
/-- A version of layer 11's own. -/
def vz (t : Int) (v : List Int) (g : Bool) : Ver := ⟨zeroK, t, 0, v, g⟩
theorem vz_in (t : Int) (v : List Int) (g : Bool) (h0 : -9223372036854775808 ≤ t) (h1 : t ≤ 9223372036854775807) (hv : ∀ z ∈ v, 0 ≤ z ∧ z ≤ 255) (hl : v.length ≤ 1000000) : VerIn (vz t v g) := ⟨rfl, ⟨h0, h1⟩, ⟨by show (0 : Int) ≤ 0; omega, by show (0 : Int) ≤ 255; omega⟩, hv, by show v.length ≤ maxLen; unfold maxLen; omega⟩
theorem aw_1 : putV [] (vz 3 [122] false) = (0, [vz 3 [122] false]) := by rfl
theorem aw_2 : putV [vz 3 [122] false] (vz 1 [120] false) = (0, [vz 1 [120] false, vz 3 [122] false]) := by rfl
theorem aw_3 : atV [vz 1 [120] false, vz 3 [122] false] zeroK 2 9 = some (vz 1 [120] false) := by rfl
theorem aw_4 : newestV [vz 1 [120] false, vz 3 [122] false] zeroK = some (vz 3 [122] false) := by rfl
theorem aw_5 : sinceV [vz 1 [120] false, vz 3 [122] false] 1 0 = 1 := by rfl
set_option maxRecDepth 4000 in
set_option maxHeartbeats 2000000 in
theorem lawake_any (w : World) :
    Calls Try.prog 8 #[] w fun e w' => e = .returned (.bool true) ∧ Below w.heap.size w w' := by
  have AT : Hid (∀ (t : Int) u, Calls Try.prog 11 #[.int .i64 t] u fun e w' => e = .returned (.agg #[.int .i64 t, .int .u8 0]) ∧ Below u.heap.size u w') := fun t u => lat_any t u
  have C0 : Hid (Calls Try.prog 9 #[] w fun e w' => ∃ p, e = .returned (.pointer (some ⟨p, 0, none⟩)) ∧ ChW w w' p []) := (wnew_any w w (Below.refl _ _)).mono fun e w' ⟨p, h1, h2, _⟩ => ⟨p, h1, h2⟩
  have C1 : Hid (∀ u p, ChW w u p [] → Calls Try.prog 10 #[.pointer (some ⟨p, 0, none⟩), .agg #[.int .i64 3, .int .u8 0, .string ⟨#[122]⟩, .bool false]] u fun e w' => e = .returned (.int .i64 0) ∧ ChW w w' p [vz 3 [122] false]) := fun u p h => by
    have := wput_any h (vz_in 3 [122] false (by omega) (by omega) (by decide) (by decide))
    rw [aw_1] at this
    exact this
  have C2 : Hid (∀ u p, ChW w u p [vz 3 [122] false] → Calls Try.prog 10 #[.pointer (some ⟨p, 0, none⟩), .agg #[.int .i64 1, .int .u8 0, .string ⟨#[120]⟩, .bool false]] u fun e w' => e = .returned (.int .i64 0) ∧ ChW w w' p [vz 1 [120] false, vz 3 [122] false]) := fun u p h => by
    have := wput_any h (vz_in 1 [120] false (by omega) (by omega) (by decide) (by decide))
    rw [aw_2] at this
    exact this
  have C3 : Hid (∀ u p, ChW w u p [vz 1 [120] false, vz 3 [122] false] → Calls Try.prog 17 #[.pointer (some ⟨p, 0, none⟩), .agg #[.int .i64 2, .int .u8 9]] u fun e w' => e = .returned (.tuple #[.agg #[.int .i64 1, .int .u8 0, .string ⟨#[120]⟩, .bool false], .bool true]) ∧ ChW w w' p [vz 1 [120] false, vz 3 [122] false]) := fun u p h => by
    have := wat_any h 2 9
    rw [aw_3] at this
    exact this.mono fun e w' ⟨h1, h2, _⟩ => ⟨h1, h2⟩
  have C4 : Hid (∀ u p, ChW w u p [vz 1 [120] false, vz 3 [122] false] → Calls Try.prog 19 #[.pointer (some ⟨p, 0, none⟩)] u fun e w' => e = .returned (.tuple #[.agg #[.int .i64 3, .int .u8 0, .string ⟨#[122]⟩, .bool false], .bool true]) ∧ ChW w w' p [vz 1 [120] false, vz 3 [122] false] ∧ Below u.heap.size u w') := fun u p h => by
    have := wnewest_any h
    rw [aw_4] at this
    exact this
  have C5 : Hid (∀ u p, ChW w u p [vz 1 [120] false, vz 3 [122] false] → Calls Try.prog 23 #[.pointer (some ⟨p, 0, none⟩)] u fun e w' => e = .returned (.int .i64 2) ∧ ChW w w' p [vz 1 [120] false, vz 3 [122] false] ∧ Below u.heap.size u w') := fun u p h => wlen_any h
  have C6 : Hid (∀ u p, ChW w u p [vz 1 [120] false, vz 3 [122] false] → Calls Try.prog 22 #[.pointer (some ⟨p, 0, none⟩), .agg #[.int .i64 1, .int .u8 0]] u fun e w' => e = .returned (.int .i64 1) ∧ ChW w w' p [vz 1 [120] false, vz 3 [122] false] ∧ Below u.heap.size u w') := fun u p h => by
    have := wsince_any h 1 0
    rw [aw_5] at this
    exact this
  generalize [vz 1 [120] false, vz 3 [122] false] = L2 at *
  generalize [vz 3 [122] false] = L1 at *
  go_enter Try.func8, Try.ntmps8
  go_wp2_with (first | (go_at_call 9; refine C0.out.mono ?_; rintro e w1 ⟨p, rfl, h1⟩; have H1 : Hid (ChW w w1 p []) := h1; clear h1 C0) | (have hgo := H1.out; clear hgo; go_at_call 11; refine (AT.out 3 _).mono ?_; rintro e w2 ⟨rfl, hb2⟩; have H2 : Hid (ChW w w2 p []) := H1.out.past hb2; clear hb2 H1) | (have hgo := H2.out; clear hgo; go_at_call 10; refine (C1.out _ _ H2.out).mono ?_; rintro e w3 ⟨rfl, h3⟩; have H3 : Hid (ChW w w3 p L1) := h3; clear h3 H2 C1) | (have hgo := H3.out; clear hgo; go_at_call 11; refine (AT.out 1 _).mono ?_; rintro e w4 ⟨rfl, hb4⟩; have H4 : Hid (ChW w w4 p L1) := H3.out.past hb4; clear hb4 H3) | (have hgo := H4.out; clear hgo; go_at_call 10; refine (C2.out _ _ H4.out).mono ?_; rintro e w5 ⟨rfl, h5⟩; have H5 : Hid (ChW w w5 p L2) := h5; clear h5 H4 C2) | (have hgo := H5.out; clear hgo; go_at_call 17; refine (C3.out _ _ H5.out).mono ?_; rintro e w6 ⟨rfl, h6⟩; have H6 : Hid (ChW w w6 p L2) := h6; clear h6 H5 C3) | (have hgo := H6.out; clear hgo; go_at_call 19; refine (C4.out _ _ (H6.out.past ((Below.refl _ _).alloc (Nat.le_refl _) _))).mono ?_; rintro e w7 ⟨rfl, h7, hb7⟩; have H7 : Hid (ChW w w7 p L2) := h7; have hv7 : w7.cell? ⟨w6.heap.size, 2, none⟩ = some (.string ⟨#[120]⟩) := (hb7.cell (p := ⟨w6.heap.size, 2, none⟩) (by simp)).trans (by rw [World.cell?_alloc_new]; rfl); have hv8 : (w7.alloc (.cells #[.int .i64 3, .int .u8 0, .string ⟨#[122]⟩, .bool false] 31)).cell? ⟨w6.heap.size, 2, none⟩ = some (.string ⟨#[120]⟩) := (((Below.refl w7.heap.size w7).alloc (Nat.le_refl _) _).cell (p := ⟨w6.heap.size, 2, none⟩) (lt_of_cell hv7)).trans hv7; clear h7 H6 C4 hb7) | (have hgo := H7.out; clear hgo; go_at_call 23; refine (C5.out _ _ (H7.out.past ((Below.refl _ _).alloc (Nat.le_refl _) _))).mono ?_; rintro e w9 ⟨rfl, h9, hb9⟩; have H9 : Hid (ChW w w9 p L2) := h9; clear h9 H7 C5 hb9) | (have hgo := H9.out; clear hgo; go_at_call 11; refine (AT.out 1 _).mono ?_; rintro e w10 ⟨rfl, hb10⟩; have H10 : Hid (ChW w w10 p L2) := H9.out.past hb10; clear hb10 H9) | (have hgo := H10.out; clear hgo; go_at_call 22; refine (C6.out _ _ H10.out).mono ?_; rintro e w11 ⟨rfl, h11, hb11⟩; have H11 : Hid (ChW w w11 p L2) := h11; clear h11 H10 C6 hb11))
  go_ret
  exact ⟨rfl, H11.out.below⟩
end Go.Proofs.Ytimiciellbdphaa
