/-
  LeapSteps: a day is as long as its offset changes behind it, and all its seconds count one by one, by every table (of a text of at most 2000 bytes, else the statement asks nothing), for every day; conditions: the library's tables and its two errors hold what the program's own text lays (the card ties them, over the pruned copy).
-/
import Derived.Test.YthkafbeojeedbaaDoorRows
import Derived.Test.YthkafbeojeedbaaDoorLeapAwake
import Derived.Test.YthkafbeojeedbaaDoorCards
import Derived.Test.YthkafbeojeedbaaDoorTie
import Derived.Test.YthkafbeojeedbaaDoorCivilLaid
import Derived.Test.YthkafbeojeedbaaDoorLeapLaid
import Derived.WalkKit
import Derived.ProofKit
import Derived.OpenShut
import Derived.ShutString
import Derived.ChangeOld
import Derived.Below
import Derived.Carry
import Derived.SevenTiedAt
import Derived.SizedLaws
import Derived.JoinedAt
namespace Go.Proofs.YthkafbeojeedbaaDoor.leapSteps
open Go.ChangeShapes Go.WideShapes Go.ChangeAt Go.RowKit
open Go.ChangeMaps (open_string shut_string)
set_option linter.unusedVariables false

theorem own : ownKnob Tryd.prog.godebug = none := by kernel_rfl
theorem laidOut : laidOutB Tryd.prog = true := by kernel_rfl
/-- A slice of integers that came in: nil, or a row of 'cap' cells, of which the first 'len' are its elements. -/
def IsRow (k : IntKind) (w : World) (a : Option Addr) (len cap : Nat) (zs : List Int) : Prop :=
  (a = none ∧ len = 0 ∧ cap = 0 ∧ zs = []) ∨
  ∃ x, a = some x ∧ len ≤ cap ∧ cap ≤ maxLen ∧ zs.length = cap ∧ (∀ i, i < zs.length → w.cell? (x.add i) = some (.int k (zs.getD i 0))) ∧ ∀ n ∈ zs, (Lit.int k n).wf = true

set_option maxRecDepth 4000 in
set_option maxHeartbeats 1000000 in
theorem walk (a0 : ByteArray) (a1 : Int) (w : World) (w0 : a0.size ≤ maxLen) (w1 : (Lit.int .i64 a1).wf = true) (hR : Ready w) (hE : LE w) :
    Calls Tryd.prog 6 #[.string a0, .int .i64 a1] w fun e w' => e = .returned (.bool true) ∧ Below w.heap.size w w' := by
  have by1 := bounds_i64 w1
  have AW : Hid (Calls Tryd.prog 9 #[] w fun e w' => e = .returned (.bool true) ∧ Below w.heap.size w w') := awake_any w hR hE
  obtain ⟨xs, hxs, hb, hl⟩ := str_bytes a0
  clear w0 w1
  by_cases r1 : 2000 < a0.size
  · have r1' : (2000 : Int) < (a0.size : Int) := by omega
    clear hxs hb hl hR hE
    go_enter Tryd.func6, Tryd.ntmps6
    go_wp2_with (go_at_call 9; refine AW.out.mono ?_; rintro e v1 ⟨rfl, hb1⟩; have B1 : Hid (Below w.heap.size w v1) := hb1; clear hb1)
    go_ret
    exact ⟨rfl, B1.out⟩
  have r1' : ¬ (2000 : Int) < (a0.size : Int) := by omega
  rcases parse_ways a0 xs hxs hb (by omega) w hR hE with ⟨k, hk, c⟩ | ⟨tb, hg, _, c⟩
  · have C1 : Hid (∀ v, Below w.heap.size w v → Calls Tryd.prog 10 #[.string a0] v fun e w' => e = .returned (.tuple #[.pointer none, .int .i64 k]) ∧ Below v.heap.size v w') := c
    have hk0 : ¬ k = 0 := by omega
    clear c hk hxs hb hl hR hE
    go_enter Tryd.func6, Tryd.ntmps6
    go_wp2_with (first | (go_at_call 10; refine (C1.out _ B1.out).mono ?_; rintro e v2 ⟨rfl, hb2⟩; have B2 : Hid (Below w.heap.size w v2) := B1.out.trans (hb2.mono B1.out.size); clear hb2) | (go_at_call 9; refine AW.out.mono ?_; rintro e v1 ⟨rfl, hb1⟩; have B1 : Hid (Below w.heap.size w v1) := hb1; clear hb1))
    go_ret
    exact ⟨rfl, B2.out⟩
  have C1 : Hid (∀ v, Below w.heap.size w v → Calls Tryd.prog 10 #[.string a0] v fun e w' => (∃ p, e = .returned (.tuple #[.pointer (some p), .int .i64 0]) ∧ TB w' p tb xs) ∧ Below v.heap.size v w') := c
  clear c hxs hb hl hR hE
  by_cases hk : Known tb a1
  · have hr := lenT_range hg hk
    have hkk := hk
    obtain ⟨k1, k2, _⟩ := hkk
    have ho := offT_range hg a1
    obtain ⟨A, hA⟩ : ∃ A, A = st tb a1 := ⟨_, rfl⟩
    obtain ⟨L, hL⟩ : ∃ L, L = lenT tb a1 := ⟨_, rfl⟩
    have hAr : -400000000000 ≤ A ∧ A ≤ 400000000000 := by rw [hA]; unfold st; omega
    rw [← hL] at hr
    have C2 : Hid (∀ p u, TB u p tb xs → Calls Tryd.prog 11 #[.pointer (some p), .int .i64 a1] u fun e w' => e = .returned (.tuple #[.int .i64 L, .int .i64 0]) ∧ Below u.heap.size u w') := fun p u h => by
      have c := llen_any p tb xs a1 u h hg (by omega) (by omega)
      rw [if_pos hk, if_pos hk, ← hL] at c
      exact c
    have T1 : Hid (∀ p u, TB u p tb xs → Calls Tryd.prog 12 #[.pointer (some p), .int .i64 a1, .int .i64 0] u fun e w' => e = .returned (.tuple #[.int .i64 A, .int .i64 0]) ∧ Below u.heap.size u w') := fun p u h => by
      have c := ltai_any p tb xs a1 0 u h hg (by omega) (by omega) (by omega) (by omega)
      rw [if_pos ⟨hk, by omega, by rw [← hL]; omega⟩, if_pos hk, if_pos ⟨by omega, by rw [← hL]; omega⟩, ← hA, Int.add_zero] at c
      exact c
    have T2 : Hid (∀ p u, TB u p tb xs → Calls Tryd.prog 12 #[.pointer (some p), .int .i64 a1, .int .i64 (L - 1)] u fun e w' => e = .returned (.tuple #[.int .i64 (A + (L - 1)), .int .i64 0]) ∧ Below u.heap.size u w') := fun p u h => by
      have c := ltai_any p tb xs a1 (L - 1) u h hg (by omega) (by omega) (by omega) (by omega)
      rw [if_pos ⟨hk, by omega, by rw [← hL]; omega⟩, if_pos hk, if_pos ⟨by omega, by rw [← hL]; omega⟩, ← hA] at c
      exact c
    have T4 : Hid (∀ p u, TB u p tb xs → Calls Tryd.prog 12 #[.pointer (some p), .int .i64 a1, .int .i64 L] u fun e w' => e = .returned (.tuple #[.int .i64 0, .int .i64 1]) ∧ Below u.heap.size u w') := fun p u h => by
      have c := ltai_any p tb xs a1 L u h hg (by omega) (by omega) (by omega) (by omega)
      rw [if_neg (by rw [← hL]; omega), if_pos hk, if_neg (by rw [← hL]; omega)] at c
      exact c
    by_cases hn : a1 + 1 ≤ 2932896
    · have hk2 : Known tb (a1 + 1) := hk.on (by omega) hn
      have hr2 := lenT_range hg hk2
      have hs := st_step (tb := tb) hn
      rw [← hA, ← hL] at hs
      have T3 : Hid (∀ p u, TB u p tb xs → Calls Tryd.prog 12 #[.pointer (some p), .int .i64 (a1 + 1), .int .i64 0] u fun e w' => e = .returned (.tuple #[.int .i64 (A + L), .int .i64 0]) ∧ Below u.heap.size u w') := fun p u h => by
        have c := ltai_any p tb xs (a1 + 1) 0 u h hg (by omega) (by omega) (by omega) (by omega)
        rw [if_pos ⟨hk2, by omega, by omega⟩, if_pos hk2, if_pos ⟨by omega, by omega⟩, hs, Int.add_zero] at c
        exact c
      have eAL : (A + L - A == L) = true := by rw [show A + L - A = L by omega]; simp
      clear hk hk2 hg hA hL hs ho
      go_enter Tryd.func6, Tryd.ntmps6
      go_wp2_with (first | (go_at_call 12; have hgo := K6.out; clear hgo; refine (T4.out _ _ K6.out).mono ?_; rintro e v7 ⟨rfl, hb7⟩; have B7 : Hid (Below w.heap.size w v7) := B6.out.trans (hb7.mono B6.out.size); have K7 : Hid (TB v7 p tb xs) := K6.out.step hb7 (Nat.le_refl _); clear hb7) | (go_at_call 12; have hgo := K5.out; clear hgo; refine (T3.out _ _ K5.out).mono ?_; rintro e v6 ⟨rfl, hb6⟩; have B6 : Hid (Below w.heap.size w v6) := B5.out.trans (hb6.mono B5.out.size); have K6 : Hid (TB v6 p tb xs) := K5.out.step hb6 (Nat.le_refl _); clear hb6) | (go_at_call 12; have hgo := K4.out; clear hgo; refine (T2.out _ _ K4.out).mono ?_; rintro e v5 ⟨rfl, hb5⟩; have B5 : Hid (Below w.heap.size w v5) := B4.out.trans (hb5.mono B4.out.size); have K5 : Hid (TB v5 p tb xs) := K4.out.step hb5 (Nat.le_refl _); clear hb5) | (go_at_call 12; have hgo := K3.out; clear hgo; refine (T1.out _ _ K3.out).mono ?_; rintro e v4 ⟨rfl, hb4⟩; have B4 : Hid (Below w.heap.size w v4) := B3.out.trans (hb4.mono B3.out.size); have K4 : Hid (TB v4 p tb xs) := K3.out.step hb4 (Nat.le_refl _); clear hb4) | (go_at_call 11; refine (C2.out _ _ K2.out).mono ?_; rintro e v3 ⟨rfl, hb3⟩; have B3 : Hid (Below w.heap.size w v3) := B2.out.trans (hb3.mono B2.out.size); have K3 : Hid (TB v3 p tb xs) := K2.out.step hb3 (Nat.le_refl _); clear hb3) | (go_at_call 10; refine (C1.out _ B1.out).mono ?_; rintro e v2 ⟨⟨p, rfl, ht2⟩, hb2⟩; have B2 : Hid (Below w.heap.size w v2) := B1.out.trans (hb2.mono B1.out.size); have K2 : Hid (TB v2 p tb xs) := ht2; clear hb2 ht2) | (go_at_call 9; refine AW.out.mono ?_; rintro e v1 ⟨rfl, hb1⟩; have B1 : Hid (Below w.heap.size w v1) := hb1; clear hb1))
      go_ret
      exact ⟨rfl, B7.out⟩
    · have hk2 : ¬ Known tb (a1 + 1) := fun h => hn h.2.1
      have T3 : Hid (∀ p u, TB u p tb xs → Calls Tryd.prog 12 #[.pointer (some p), .int .i64 (a1 + 1), .int .i64 0] u fun e w' => e = .returned (.tuple #[.int .i64 0, .int .i64 4]) ∧ Below u.heap.size u w') := fun p u h => by
        have c := ltai_any p tb xs (a1 + 1) 0 u h hg (by omega) (by omega) (by omega) (by omega)
        rw [if_neg (fun h => hk2 h.1), if_neg hk2] at c
        exact c
      clear hk hk2 hg hA hL ho
      go_enter Tryd.func6, Tryd.ntmps6
      go_wp2_with (first | (go_at_call 12; have hgo := K6.out; clear hgo; refine (T4.out _ _ K6.out).mono ?_; rintro e v7 ⟨rfl, hb7⟩; have B7 : Hid (Below w.heap.size w v7) := B6.out.trans (hb7.mono B6.out.size); have K7 : Hid (TB v7 p tb xs) := K6.out.step hb7 (Nat.le_refl _); clear hb7) | (go_at_call 12; have hgo := K5.out; clear hgo; refine (T3.out _ _ K5.out).mono ?_; rintro e v6 ⟨rfl, hb6⟩; have B6 : Hid (Below w.heap.size w v6) := B5.out.trans (hb6.mono B5.out.size); have K6 : Hid (TB v6 p tb xs) := K5.out.step hb6 (Nat.le_refl _); clear hb6) | (go_at_call 12; have hgo := K4.out; clear hgo; refine (T2.out _ _ K4.out).mono ?_; rintro e v5 ⟨rfl, hb5⟩; have B5 : Hid (Below w.heap.size w v5) := B4.out.trans (hb5.mono B4.out.size); have K5 : Hid (TB v5 p tb xs) := K4.out.step hb5 (Nat.le_refl _); clear hb5) | (go_at_call 12; have hgo := K3.out; clear hgo; refine (T1.out _ _ K3.out).mono ?_; rintro e v4 ⟨rfl, hb4⟩; have B4 : Hid (Below w.heap.size w v4) := B3.out.trans (hb4.mono B3.out.size); have K4 : Hid (TB v4 p tb xs) := K3.out.step hb4 (Nat.le_refl _); clear hb4) | (go_at_call 11; refine (C2.out _ _ K2.out).mono ?_; rintro e v3 ⟨rfl, hb3⟩; have B3 : Hid (Below w.heap.size w v3) := B2.out.trans (hb3.mono B2.out.size); have K3 : Hid (TB v3 p tb xs) := K2.out.step hb3 (Nat.le_refl _); clear hb3) | (go_at_call 10; refine (C1.out _ B1.out).mono ?_; rintro e v2 ⟨⟨p, rfl, ht2⟩, hb2⟩; have B2 : Hid (Below w.heap.size w v2) := B1.out.trans (hb2.mono B1.out.size); have K2 : Hid (TB v2 p tb xs) := ht2; clear hb2 ht2) | (go_at_call 9; refine AW.out.mono ?_; rintro e v1 ⟨rfl, hb1⟩; have B1 : Hid (Below w.heap.size w v1) := hb1; clear hb1))
      go_ret
      exact ⟨rfl, B7.out⟩
  · have C2 : Hid (∀ p u, TB u p tb xs → Calls Tryd.prog 11 #[.pointer (some p), .int .i64 a1] u fun e w' => e = .returned (.tuple #[.int .i64 0, .int .i64 4]) ∧ Below u.heap.size u w') := fun p u h => by
      have c := llen_any p tb xs a1 u h hg (by omega) (by omega)
      rw [if_neg hk, if_neg hk] at c
      exact c
    clear hk hg
    go_enter Tryd.func6, Tryd.ntmps6
    go_wp2_with (first | (go_at_call 11; refine (C2.out _ _ K2.out).mono ?_; rintro e v3 ⟨rfl, hb3⟩; have B3 : Hid (Below w.heap.size w v3) := B2.out.trans (hb3.mono B2.out.size); have K3 : Hid (TB v3 p tb xs) := K2.out.step hb3 (Nat.le_refl _); clear hb3) | (go_at_call 10; refine (C1.out _ B1.out).mono ?_; rintro e v2 ⟨⟨p, rfl, ht2⟩, hb2⟩; have B2 : Hid (Below w.heap.size w v2) := B1.out.trans (hb2.mono B1.out.size); have K2 : Hid (TB v2 p tb xs) := ht2; clear hb2 ht2) | (go_at_call 9; refine AW.out.mono ?_; rintro e v1 ⟨rfl, hb1⟩; have B1 : Hid (Below w.heap.size w v1) := hb1; clear hb1))
    go_ret
    exact ⟨rfl, B3.out⟩

set_option maxRecDepth 100000 in
theorem lifted (os : Os) (started : os.Started) (H : Type) (enc : TypeId × Value → H) :
    ReturnsInHanded {} Tryd.checked os 6 .any (fun w args => (Rows.leapStepsSpec.pre enc Tryd.prog Tryd.f6 Rows.leapStepsRow.domain false w args ∧ laidMet Tryd.prog laid5 w) ∧ sizedMet enc Tryd.prog Tryd.f6 (OpenSpec.ofChange Rows.leapStepsSpec) false w args)
      (Rows.leapStepsSpec.post enc Tryd.prog Tryd.f6 false true false false) := by
  refine returnsInHanded_of_change_and (C := Tryd.checked) (X := fun w _ => laidMet Tryd.prog laid5 w) (fun _ _ _ hh h => h.of_heap hh) own started (by kernel_rfl) Tryd.func6
    (ChangeSpec.witness_at (enc := enc) (C := Tryd.checked) (os := os) (X := fun w _ => laidMet Tryd.prog laid5 w) false (laidWorld5 os) #[.string ⟨#[]⟩, .int .i64 0] 8 rfl (by kernel_rfl) (by kernel_rfl) (by kernel_rfl) (by kernel_rfl) (by kernel_rfl) (laid5_met os _)) ?_
  intro W base args ds gs before hval0 hW _ _ hL _
  have hval : ∀ (j : Nat) t v, Tryd.f6.params[j]? = some t → args[j]? = some v → Value.okWide Tryd.prog W .any base t v := hval0
  have hW' := hW
  obtain ⟨p, q, hA0, hV, rfl, hfz, hnd⟩ := hW
  have hA : DataW.TrodAll enc Tryd.prog W 0 (fun _ => true) true Tryd.f6.params.toList args.toList ds p := hA0
  rw [Tryd.params6] at hA hval
  obtain ⟨v0, vs0, d0, ds0, p0, q0, hargs, rfl, rfl, h0, r0⟩ := trodAll_cons hA
  obtain ⟨v1, vs1, d1, ds1, p1, q1, rfl, rfl, rfl, h1, r1⟩ := trodAll_cons r0
  obtain ⟨rfl, rfl, rfl⟩ := trodAll_nil r1
  obtain rfl : args = #[v0, v1] := by cases args; simp_all
  obtain ⟨rfl, rfl⟩ := trodVars_none hV
  have k0 := h0
  have lt0 : ∀ x ∈ p0, x.block < W.heap.size := by obtain ⟨m, hm⟩ := k0; exact DataW.trod_lt m _ _ _ hm
  obtain ⟨a0, rfl, rfl, rfl, w0⟩ := open_string Tryd.underlying9 (hval 0 9 v0 rfl rfl) h0
  have k1 := h1
  have lt1 : ∀ x ∈ p1, x.block < W.heap.size := by obtain ⟨m, hm⟩ := k1; exact DataW.trod_lt m _ _ _ hm
  obtain ⟨a1, rfl, rfl, rfl, w1⟩ := open_int Tryd.underlying2 (hval 1 2 v1 rfl rfl) h1
  clear hA0 hval0
  refine (walk a0 a1 W w0 w1 (ready_of hL) (le_of hL)).mono fun e W' ⟨he, bel⟩ => ?_
  subst he
  exact ⟨_, rfl, _, _, _, [], _, [], hW', trodAll_mk1 (shut_bool Tryd.underlying4 _), (trodAll_cons_mk (Below.trod laidOut (by kernel_rfl) (of_decide_eq_true (by kernel_rfl)) k0 bel lt0) (trodAll_cons_mk (Below.trod laidOut (by kernel_rfl) (of_decide_eq_true (by kernel_rfl)) k1 bel lt1) trodAll_mk0)), rfl, bel.frame _, fun h => by cases h⟩

theorem over : Rows.leapStepsRow.holds Tryd.pinned (OpenSpec.ofChange Rows.leapStepsSpec) :=
  OpenClaim.holds_of_wide 6 Tryd.f6 rfl rfl rfl rfl rfl rfl rfl ⟨rfl, rfl, rfl, rfl, rfl⟩ rfl rfl rfl rfl rfl (by kernel_rfl) Tryd.func6 (by kernel_rfl)
    (of_decide_eq_true (by kernel_rfl)) (by unfold Func.isWrapper; first | (rw [if_pos (by decide +kernel)]; kernel_rfl) | (rw [if_neg (by decide +kernel)]; exact ⟨rfl, rfl⟩))
    (fun os started H enc _ => lifted os started H enc)
theorem carded : Rows.LeapStepsCardSaid :=
  Claim7.holds_tied_plain_at .later [] [.data, .data, .data, .sentinel, .sentinel] true (true, "72f713a098904629023c27e22fcd14849cabfc9045bb6cfdb3350a65775f249f") true
    over (fun _ h => by cases h) (by kernel_rfl) (fun _ h => by cases h) leapSteps_row_tie rfl ⟨rfl, rfl⟩ (by kernel_rfl) rfl
    (fun f fn hf hfn => by
      obtain rfl : f = 6 := Option.some.inj ((show Tryd.prog.funcNamed "hourglass/hourglasslaw5.LeapSteps" = some 6 by kernel_rfl).symm.trans hf) |>.symm
      obtain rfl : fn = Tryd.f6 := (Option.some.inj (Tryd.func6.symm.trans hfn)).symm
      exact ⟨by kernel_rfl, fun j t ht => by
        rw [Tryd.params6] at ht
        have hm : t ∈ [9, 2] := by simpa using Array.mem_of_getElem? ht
        have hall : ([9, 2].all fun u => !Tryd.prog.wantsStandIn u) = true := by kernel_rfl
        exact (show Tryd.prog.wantsStandIn t = false by simpa using List.all_eq_true.1 hall t hm)⟩)
    (by kernel_rfl)
#print axioms carded
end Go.Proofs.YthkafbeojeedbaaDoor.leapSteps
namespace Go.Proofs.YthkafbeojeedbaaDoor
/-- LeapSteps, as given. -/
theorem leapSteps_holds : Rows.LeapStepsCardSaid := leapSteps.carded
end Go.Proofs.YthkafbeojeedbaaDoor
