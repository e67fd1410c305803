/-
  LeapRises: later seconds of later days count more, and only these, by every table (of a text of at most 2000 bytes, else the statement asks nothing), for every two days and seconds; conditions: the library's tables and its two errors hold what the program's own text lays (the card ties them, over the pruned copy).
-/
import Derived.Test.YthkafbeojeedbaaDoorRows
import Derived.Test.YthkafbeojeedbaaDoorLeapAwake
import Derived.Test.YthkafbeojeedbaaDoorCards
import Derived.Test.YthkafbeojeedbaaDoorTie
import Derived.Test.YthkafbeojeedbaaDoorCivilLaid
import Derived.Test.YthkafbeojeedbaaDoorLeapLaid
import Derived.WalkKit
import Derived.ProofKit
import Derived.OpenShut
import Derived.ShutString
import Derived.ChangeOld
import Derived.Below
import Derived.Carry
import Derived.SevenTiedAt
import Derived.SizedLaws
import Derived.JoinedAt
namespace Go.Proofs.YthkafbeojeedbaaDoor.leapRises
open Go.ChangeShapes Go.WideShapes Go.ChangeAt Go.RowKit
open Go.ChangeMaps (open_string shut_string)
set_option linter.unusedVariables false

theorem own : ownKnob Tryd.prog.godebug = none := by kernel_rfl
theorem laidOut : laidOutB Tryd.prog = true := by kernel_rfl
/-- A slice of integers that came in: nil, or a row of 'cap' cells, of which the first 'len' are its elements. -/
def IsRow (k : IntKind) (w : World) (a : Option Addr) (len cap : Nat) (zs : List Int) : Prop :=
  (a = none ∧ len = 0 ∧ cap = 0 ∧ zs = []) ∨
  ∃ x, a = some x ∧ len ≤ cap ∧ cap ≤ maxLen ∧ zs.length = cap ∧ (∀ i, i < zs.length → w.cell? (x.add i) = some (.int k (zs.getD i 0))) ∧ ∀ n ∈ zs, (Lit.int k n).wf = true

set_option maxRecDepth 4000 in
set_option maxHeartbeats 1000000 in
theorem walk (a0 : ByteArray) (a1 : Int) (a2 : Int) (a3 : Int) (a4 : Int) (w : World) (w0 : a0.size ≤ maxLen) (w1 : (Lit.int .i64 a1).wf = true) (w2 : (Lit.int .i64 a2).wf = true) (w3 : (Lit.int .i64 a3).wf = true) (w4 : (Lit.int .i64 a4).wf = true) (hR : Ready w) (hE : LE w) :
    Calls Tryd.prog 5 #[.string a0, .int .i64 a1, .int .i64 a2, .int .i64 a3, .int .i64 a4] w fun e w' => e = .returned (.bool true) ∧ Below w.heap.size w w' := by
  have by1 := bounds_i64 w1
  have by2 := bounds_i64 w2
  have by3 := bounds_i64 w3
  have by4 := bounds_i64 w4
  have AW : Hid (Calls Tryd.prog 9 #[] w fun e w' => e = .returned (.bool true) ∧ Below w.heap.size w w') := awake_any w hR hE
  obtain ⟨xs, hxs, hb, hl⟩ := str_bytes a0
  clear w0 w1 w2 w3 w4
  by_cases r1 : 2000 < a0.size
  · have r1' : (2000 : Int) < (a0.size : Int) := by omega
    clear hxs hb hl hR hE
    go_enter Tryd.func5, Tryd.ntmps5
    go_wp2_with (go_at_call 9; refine AW.out.mono ?_; rintro e v1 ⟨rfl, hb1⟩; have B1 : Hid (Below w.heap.size w v1) := hb1; clear hb1)
    go_ret
    exact ⟨rfl, B1.out⟩
  have r1' : ¬ (2000 : Int) < (a0.size : Int) := by omega
  rcases parse_ways a0 xs hxs hb (by omega) w hR hE with ⟨k, hk, c⟩ | ⟨tb, hg, _, c⟩
  · have C1 : Hid (∀ v, Below w.heap.size w v → Calls Tryd.prog 10 #[.string a0] v fun e w' => e = .returned (.tuple #[.pointer none, .int .i64 k]) ∧ Below v.heap.size v w') := c
    have hk0 : ¬ k = 0 := by omega
    clear c hk hxs hb hl hR hE
    go_enter Tryd.func5, Tryd.ntmps5
    go_wp2_with (first | (go_at_call 10; refine (C1.out _ B1.out).mono ?_; rintro e v2 ⟨rfl, hb2⟩; have B2 : Hid (Below w.heap.size w v2) := B1.out.trans (hb2.mono B1.out.size); clear hb2) | (go_at_call 9; refine AW.out.mono ?_; rintro e v1 ⟨rfl, hb1⟩; have B1 : Hid (Below w.heap.size w v1) := hb1; clear hb1))
    go_ret
    exact ⟨rfl, B2.out⟩
  have C1 : Hid (∀ v, Below w.heap.size w v → Calls Tryd.prog 10 #[.string a0] v fun e w' => (∃ p, e = .returned (.tuple #[.pointer (some p), .int .i64 0]) ∧ TB w' p tb xs) ∧ Below v.heap.size v w') := c
  have W1 := tai_ways tb xs hg a1 a2 by1.1 by1.2 by2.1 by2.2
  have W2 := tai_ways tb xs hg a3 a4 by3.1 by3.2 by4.1 by4.2
  clear c hxs hb hl hR hE by1 by2 by3 by4
  obtain ⟨P, F, hF, T1⟩ : ∃ P F : Int, (F = 0 → At tb P a1 a2) ∧ Hid (∀ p u, TB u p tb xs → Calls Tryd.prog 12 #[.pointer (some p), .int .i64 a1, .int .i64 a2] u fun e w' => e = .returned (.tuple #[.int .i64 P, .int .i64 F]) ∧ Below u.heap.size u w') := by
    rcases W1 with ⟨t, h, c⟩ | ⟨k, hk, _, _, c⟩
    · exact ⟨t, 0, fun _ => h, c⟩
    · exact ⟨0, k, fun h => by omega, c⟩
  obtain ⟨Q, G, hG, T2⟩ : ∃ P F : Int, (F = 0 → At tb P a3 a4) ∧ Hid (∀ p u, TB u p tb xs → Calls Tryd.prog 12 #[.pointer (some p), .int .i64 a3, .int .i64 a4] u fun e w' => e = .returned (.tuple #[.int .i64 P, .int .i64 F]) ∧ Below u.heap.size u w') := by
    rcases W2 with ⟨t, h, c⟩ | ⟨k, hk, _, _, c⟩
    · exact ⟨t, 0, fun _ => h, c⟩
    · exact ⟨0, k, fun h => by omega, c⟩
  clear W1 W2
  by_cases f0 : F = 0
  · by_cases g0 : G = 0
    · have hlt := at_lt hg (hF f0) (hG g0)
      subst f0 g0
      clear hF hG hg
      by_cases o1 : a1 < a3
      · have o2 : P < Q := hlt.2 (.inl o1)
        clear hlt
        go_enter Tryd.func5, Tryd.ntmps5
        go_wp2_with (first | (go_at_call 12; have hgo := B3.out; clear hgo; refine (T2.out _ _ K3.out).mono ?_; rintro e v4 ⟨rfl, hb4⟩; have B4 : Hid (Below w.heap.size w v4) := B3.out.trans (hb4.mono B3.out.size); clear hb4) | (go_at_call 12; refine (T1.out _ _ K2.out).mono ?_; rintro e v3 ⟨rfl, hb3⟩; have B3 : Hid (Below w.heap.size w v3) := B2.out.trans (hb3.mono B2.out.size); have K3 : Hid (TB v3 p tb xs) := K2.out.step hb3 (Nat.le_refl _); clear hb3) | (go_at_call 10; refine (C1.out _ B1.out).mono ?_; rintro e v2 ⟨⟨p, rfl, ht2⟩, hb2⟩; have B2 : Hid (Below w.heap.size w v2) := B1.out.trans (hb2.mono B1.out.size); have K2 : Hid (TB v2 p tb xs) := ht2; clear hb2 ht2) | (go_at_call 9; refine AW.out.mono ?_; rintro e v1 ⟨rfl, hb1⟩; have B1 : Hid (Below w.heap.size w v1) := hb1; clear hb1))
        go_ret
        exact ⟨rfl, B4.out⟩
      · by_cases o3 : a1 = a3
        · subst o3
          by_cases o4 : a2 < a4
          · have o2 : P < Q := hlt.2 (.inr ⟨rfl, o4⟩)
            clear hlt
            go_enter Tryd.func5, Tryd.ntmps5
            go_wp2_with (first | (go_at_call 12; have hgo := B3.out; clear hgo; refine (T2.out _ _ K3.out).mono ?_; rintro e v4 ⟨rfl, hb4⟩; have B4 : Hid (Below w.heap.size w v4) := B3.out.trans (hb4.mono B3.out.size); clear hb4) | (go_at_call 12; refine (T1.out _ _ K2.out).mono ?_; rintro e v3 ⟨rfl, hb3⟩; have B3 : Hid (Below w.heap.size w v3) := B2.out.trans (hb3.mono B2.out.size); have K3 : Hid (TB v3 p tb xs) := K2.out.step hb3 (Nat.le_refl _); clear hb3) | (go_at_call 10; refine (C1.out _ B1.out).mono ?_; rintro e v2 ⟨⟨p, rfl, ht2⟩, hb2⟩; have B2 : Hid (Below w.heap.size w v2) := B1.out.trans (hb2.mono B1.out.size); have K2 : Hid (TB v2 p tb xs) := ht2; clear hb2 ht2) | (go_at_call 9; refine AW.out.mono ?_; rintro e v1 ⟨rfl, hb1⟩; have B1 : Hid (Below w.heap.size w v1) := hb1; clear hb1))
            go_ret
            exact ⟨rfl, B4.out⟩
          · have o2 : ¬ P < Q := fun h => by have := hlt.1 h; omega
            have o2d : decide (P < Q) = false := decide_eq_false o2
            have o4d : decide (a2 < a4) = false := decide_eq_false o4
            clear hlt
            go_enter Tryd.func5, Tryd.ntmps5
            go_wp2_with (first | (go_at_call 12; have hgo := B3.out; clear hgo; refine (T2.out _ _ K3.out).mono ?_; rintro e v4 ⟨rfl, hb4⟩; have B4 : Hid (Below w.heap.size w v4) := B3.out.trans (hb4.mono B3.out.size); clear hb4) | (go_at_call 12; refine (T1.out _ _ K2.out).mono ?_; rintro e v3 ⟨rfl, hb3⟩; have B3 : Hid (Below w.heap.size w v3) := B2.out.trans (hb3.mono B2.out.size); have K3 : Hid (TB v3 p tb xs) := K2.out.step hb3 (Nat.le_refl _); clear hb3) | (go_at_call 10; refine (C1.out _ B1.out).mono ?_; rintro e v2 ⟨⟨p, rfl, ht2⟩, hb2⟩; have B2 : Hid (Below w.heap.size w v2) := B1.out.trans (hb2.mono B1.out.size); have K2 : Hid (TB v2 p tb xs) := ht2; clear hb2 ht2) | (go_at_call 9; refine AW.out.mono ?_; rintro e v1 ⟨rfl, hb1⟩; have B1 : Hid (Below w.heap.size w v1) := hb1; clear hb1))
            go_ret
            exact ⟨rfl, B4.out⟩
        · have o2 : ¬ P < Q := fun h => by have := hlt.1 h; omega
          have o2d : decide (P < Q) = false := decide_eq_false o2
          have o1d : decide (a1 < a3) = false := decide_eq_false o1
          clear hlt
          go_enter Tryd.func5, Tryd.ntmps5
          go_wp2_with (first | (go_at_call 12; have hgo := B3.out; clear hgo; refine (T2.out _ _ K3.out).mono ?_; rintro e v4 ⟨rfl, hb4⟩; have B4 : Hid (Below w.heap.size w v4) := B3.out.trans (hb4.mono B3.out.size); clear hb4) | (go_at_call 12; refine (T1.out _ _ K2.out).mono ?_; rintro e v3 ⟨rfl, hb3⟩; have B3 : Hid (Below w.heap.size w v3) := B2.out.trans (hb3.mono B2.out.size); have K3 : Hid (TB v3 p tb xs) := K2.out.step hb3 (Nat.le_refl _); clear hb3) | (go_at_call 10; refine (C1.out _ B1.out).mono ?_; rintro e v2 ⟨⟨p, rfl, ht2⟩, hb2⟩; have B2 : Hid (Below w.heap.size w v2) := B1.out.trans (hb2.mono B1.out.size); have K2 : Hid (TB v2 p tb xs) := ht2; clear hb2 ht2) | (go_at_call 9; refine AW.out.mono ?_; rintro e v1 ⟨rfl, hb1⟩; have B1 : Hid (Below w.heap.size w v1) := hb1; clear hb1))
          go_ret
          exact ⟨rfl, B4.out⟩
    · subst f0
      clear hF hG hg
      go_enter Tryd.func5, Tryd.ntmps5
      go_wp2_with (first | (go_at_call 12; have hgo := B3.out; clear hgo; refine (T2.out _ _ K3.out).mono ?_; rintro e v4 ⟨rfl, hb4⟩; have B4 : Hid (Below w.heap.size w v4) := B3.out.trans (hb4.mono B3.out.size); clear hb4) | (go_at_call 12; refine (T1.out _ _ K2.out).mono ?_; rintro e v3 ⟨rfl, hb3⟩; have B3 : Hid (Below w.heap.size w v3) := B2.out.trans (hb3.mono B2.out.size); have K3 : Hid (TB v3 p tb xs) := K2.out.step hb3 (Nat.le_refl _); clear hb3) | (go_at_call 10; refine (C1.out _ B1.out).mono ?_; rintro e v2 ⟨⟨p, rfl, ht2⟩, hb2⟩; have B2 : Hid (Below w.heap.size w v2) := B1.out.trans (hb2.mono B1.out.size); have K2 : Hid (TB v2 p tb xs) := ht2; clear hb2 ht2) | (go_at_call 9; refine AW.out.mono ?_; rintro e v1 ⟨rfl, hb1⟩; have B1 : Hid (Below w.heap.size w v1) := hb1; clear hb1))
      go_ret
      exact ⟨rfl, B4.out⟩
  · clear hF hG hg
    go_enter Tryd.func5, Tryd.ntmps5
    go_wp2_with (first | (go_at_call 12; have hgo := B3.out; clear hgo; refine (T2.out _ _ K3.out).mono ?_; rintro e v4 ⟨rfl, hb4⟩; have B4 : Hid (Below w.heap.size w v4) := B3.out.trans (hb4.mono B3.out.size); clear hb4) | (go_at_call 12; refine (T1.out _ _ K2.out).mono ?_; rintro e v3 ⟨rfl, hb3⟩; have B3 : Hid (Below w.heap.size w v3) := B2.out.trans (hb3.mono B2.out.size); have K3 : Hid (TB v3 p tb xs) := K2.out.step hb3 (Nat.le_refl _); clear hb3) | (go_at_call 10; refine (C1.out _ B1.out).mono ?_; rintro e v2 ⟨⟨p, rfl, ht2⟩, hb2⟩; have B2 : Hid (Below w.heap.size w v2) := B1.out.trans (hb2.mono B1.out.size); have K2 : Hid (TB v2 p tb xs) := ht2; clear hb2 ht2) | (go_at_call 9; refine AW.out.mono ?_; rintro e v1 ⟨rfl, hb1⟩; have B1 : Hid (Below w.heap.size w v1) := hb1; clear hb1))
    go_ret
    exact ⟨rfl, B4.out⟩

set_option maxRecDepth 100000 in
theorem lifted (os : Os) (started : os.Started) (H : Type) (enc : TypeId × Value → H) :
    ReturnsInHanded {} Tryd.checked os 5 .any (fun w args => (Rows.leapRisesSpec.pre enc Tryd.prog Tryd.f5 Rows.leapRisesRow.domain false w args ∧ laidMet Tryd.prog laid5 w) ∧ sizedMet enc Tryd.prog Tryd.f5 (OpenSpec.ofChange Rows.leapRisesSpec) false w args)
      (Rows.leapRisesSpec.post enc Tryd.prog Tryd.f5 false true false false) := by
  refine returnsInHanded_of_change_and (C := Tryd.checked) (X := fun w _ => laidMet Tryd.prog laid5 w) (fun _ _ _ hh h => h.of_heap hh) own started (by kernel_rfl) Tryd.func5
    (ChangeSpec.witness_at (enc := enc) (C := Tryd.checked) (os := os) (X := fun w _ => laidMet Tryd.prog laid5 w) false (laidWorld5 os) #[.string ⟨#[]⟩, .int .i64 0, .int .i64 0, .int .i64 0, .int .i64 0] 8 rfl (by kernel_rfl) (by kernel_rfl) (by kernel_rfl) (by kernel_rfl) (by kernel_rfl) (laid5_met os _)) ?_
  intro W base args ds gs before hval0 hW _ _ hL _
  have hval : ∀ (j : Nat) t v, Tryd.f5.params[j]? = some t → args[j]? = some v → Value.okWide Tryd.prog W .any base t v := hval0
  have hW' := hW
  obtain ⟨p, q, hA0, hV, rfl, hfz, hnd⟩ := hW
  have hA : DataW.TrodAll enc Tryd.prog W 0 (fun _ => true) true Tryd.f5.params.toList args.toList ds p := hA0
  rw [Tryd.params5] at hA hval
  obtain ⟨v0, vs0, d0, ds0, p0, q0, hargs, rfl, rfl, h0, r0⟩ := trodAll_cons hA
  obtain ⟨v1, vs1, d1, ds1, p1, q1, rfl, rfl, rfl, h1, r1⟩ := trodAll_cons r0
  obtain ⟨v2, vs2, d2, ds2, p2, q2, rfl, rfl, rfl, h2, r2⟩ := trodAll_cons r1
  obtain ⟨v3, vs3, d3, ds3, p3, q3, rfl, rfl, rfl, h3, r3⟩ := trodAll_cons r2
  obtain ⟨v4, vs4, d4, ds4, p4, q4, rfl, rfl, rfl, h4, r4⟩ := trodAll_cons r3
  obtain ⟨rfl, rfl, rfl⟩ := trodAll_nil r4
  obtain rfl : args = #[v0, v1, v2, v3, v4] := by cases args; simp_all
  obtain ⟨rfl, rfl⟩ := trodVars_none hV
  have k0 := h0
  have lt0 : ∀ x ∈ p0, x.block < W.heap.size := by obtain ⟨m, hm⟩ := k0; exact DataW.trod_lt m _ _ _ hm
  obtain ⟨a0, rfl, rfl, rfl, w0⟩ := open_string Tryd.underlying9 (hval 0 9 v0 rfl rfl) h0
  have k1 := h1
  have lt1 : ∀ x ∈ p1, x.block < W.heap.size := by obtain ⟨m, hm⟩ := k1; exact DataW.trod_lt m _ _ _ hm
  obtain ⟨a1, rfl, rfl, rfl, w1⟩ := open_int Tryd.underlying2 (hval 1 2 v1 rfl rfl) h1
  have k2 := h2
  have lt2 : ∀ x ∈ p2, x.block < W.heap.size := by obtain ⟨m, hm⟩ := k2; exact DataW.trod_lt m _ _ _ hm
  obtain ⟨a2, rfl, rfl, rfl, w2⟩ := open_int Tryd.underlying3 (hval 2 3 v2 rfl rfl) h2
  have k3 := h3
  have lt3 : ∀ x ∈ p3, x.block < W.heap.size := by obtain ⟨m, hm⟩ := k3; exact DataW.trod_lt m _ _ _ hm
  obtain ⟨a3, rfl, rfl, rfl, w3⟩ := open_int Tryd.underlying2 (hval 3 2 v3 rfl rfl) h3
  have k4 := h4
  have lt4 : ∀ x ∈ p4, x.block < W.heap.size := by obtain ⟨m, hm⟩ := k4; exact DataW.trod_lt m _ _ _ hm
  obtain ⟨a4, rfl, rfl, rfl, w4⟩ := open_int Tryd.underlying3 (hval 4 3 v4 rfl rfl) h4
  clear hA0 hval0
  refine (walk a0 a1 a2 a3 a4 W w0 w1 w2 w3 w4 (ready_of hL) (le_of hL)).mono fun e W' ⟨he, bel⟩ => ?_
  subst he
  exact ⟨_, rfl, _, _, _, [], _, [], hW', trodAll_mk1 (shut_bool Tryd.underlying4 _), (trodAll_cons_mk (Below.trod laidOut (by kernel_rfl) (of_decide_eq_true (by kernel_rfl)) k0 bel lt0) (trodAll_cons_mk (Below.trod laidOut (by kernel_rfl) (of_decide_eq_true (by kernel_rfl)) k1 bel lt1) (trodAll_cons_mk (Below.trod laidOut (by kernel_rfl) (of_decide_eq_true (by kernel_rfl)) k2 bel lt2) (trodAll_cons_mk (Below.trod laidOut (by kernel_rfl) (of_decide_eq_true (by kernel_rfl)) k3 bel lt3) (trodAll_cons_mk (Below.trod laidOut (by kernel_rfl) (of_decide_eq_true (by kernel_rfl)) k4 bel lt4) trodAll_mk0))))), rfl, bel.frame _, fun h => by cases h⟩

theorem over : Rows.leapRisesRow.holds Tryd.pinned (OpenSpec.ofChange Rows.leapRisesSpec) :=
  OpenClaim.holds_of_wide 5 Tryd.f5 rfl rfl rfl rfl rfl rfl rfl ⟨rfl, rfl, rfl, rfl, rfl⟩ rfl rfl rfl rfl rfl (by kernel_rfl) Tryd.func5 (by kernel_rfl)
    (of_decide_eq_true (by kernel_rfl)) (by unfold Func.isWrapper; first | (rw [if_pos (by decide +kernel)]; kernel_rfl) | (rw [if_neg (by decide +kernel)]; exact ⟨rfl, rfl⟩))
    (fun os started H enc _ => lifted os started H enc)
theorem carded : Rows.LeapRisesCardSaid :=
  Claim7.holds_tied_plain_at .later [] [.data, .data, .data, .sentinel, .sentinel] true (true, "72f713a098904629023c27e22fcd14849cabfc9045bb6cfdb3350a65775f249f") true
    over (fun _ h => by cases h) (by kernel_rfl) (fun _ h => by cases h) leapRises_row_tie rfl ⟨rfl, rfl⟩ (by kernel_rfl) rfl
    (fun f fn hf hfn => by
      obtain rfl : f = 5 := Option.some.inj ((show Tryd.prog.funcNamed "hourglass/hourglasslaw5.LeapRises" = some 5 by kernel_rfl).symm.trans hf) |>.symm
      obtain rfl : fn = Tryd.f5 := (Option.some.inj (Tryd.func5.symm.trans hfn)).symm
      exact ⟨by kernel_rfl, fun j t ht => by
        rw [Tryd.params5] at ht
        have hm : t ∈ [9, 2, 3, 2, 3] := by simpa using Array.mem_of_getElem? ht
        have hall : ([9, 2, 3, 2, 3].all fun u => !Tryd.prog.wantsStandIn u) = true := by kernel_rfl
        exact (show Tryd.prog.wantsStandIn t = false by simpa using List.all_eq_true.1 hall t hm)⟩)
    (by kernel_rfl)
#print axioms carded
end Go.Proofs.YthkafbeojeedbaaDoor.leapRises
namespace Go.Proofs.YthkafbeojeedbaaDoor
/-- LeapRises, as given. -/
theorem leapRises_holds : Rows.LeapRisesCardSaid := leapRises.carded
end Go.Proofs.YthkafbeojeedbaaDoor
