/-
  LeapBack: a day's second that is counted is that day's second again, and each count between the ends is one, by every table, for every day, every second and every count up to two to the fortieth on (by texts of more than 2000 bytes, or counts further on, the statement asks nothing); conditions: the library's tables and its two errors hold what the program's own text lays (the card ties them, over the pruned copy).
-/
import Derived.Test.YthkafbeojeedbaaDoorRows
import Derived.Test.YthkafbeojeedbaaDoorLeapAwake
import Derived.Test.YthkafbeojeedbaaDoorCards
import Derived.Test.YthkafbeojeedbaaDoorTie
import Derived.Test.YthkafbeojeedbaaDoorCivilLaid
import Derived.Test.YthkafbeojeedbaaDoorLeapLaid
import Derived.WalkKit
import Derived.ProofKit
import Derived.OpenShut
import Derived.ShutString
import Derived.ChangeOld
import Derived.Below
import Derived.Carry
import Derived.SevenTiedAt
import Derived.SizedLaws
import Derived.JoinedAt
namespace Go.Proofs.YthkafbeojeedbaaDoor.leapBack
open Go.ChangeShapes Go.WideShapes Go.ChangeAt Go.RowKit
open Go.ChangeMaps (open_string shut_string)
set_option linter.unusedVariables false

theorem own : ownKnob Tryd.prog.godebug = none := by kernel_rfl
theorem laidOut : laidOutB Tryd.prog = true := by kernel_rfl
/-- A slice of integers that came in: nil, or a row of 'cap' cells, of which the first 'len' are its elements. -/
def IsRow (k : IntKind) (w : World) (a : Option Addr) (len cap : Nat) (zs : List Int) : Prop :=
  (a = none ∧ len = 0 ∧ cap = 0 ∧ zs = []) ∨
  ∃ x, a = some x ∧ len ≤ cap ∧ cap ≤ maxLen ∧ zs.length = cap ∧ (∀ i, i < zs.length → w.cell? (x.add i) = some (.int k (zs.getD i 0))) ∧ ∀ n ∈ zs, (Lit.int k n).wf = true

set_option maxRecDepth 4000 in
set_option maxHeartbeats 1000000 in
theorem walk (a0 : ByteArray) (a1 : Int) (a2 : Int) (a3 : Int) (w : World) (w0 : a0.size ≤ maxLen) (w1 : (Lit.int .i64 a1).wf = true) (w2 : (Lit.int .i64 a2).wf = true) (w3 : (Lit.int .i64 a3).wf = true) (hR : Ready w) (hE : LE w) :
    Calls Tryd.prog 4 #[.string a0, .int .i64 a1, .int .i64 a2, .int .i64 a3] w fun e w' => e = .returned (.bool true) ∧ Below w.heap.size w w' := by
  have by1 := bounds_i64 w1
  have by2 := bounds_i64 w2
  have by3 := bounds_i64 w3
  have AW : Hid (Calls Tryd.prog 9 #[] w fun e w' => e = .returned (.bool true) ∧ Below w.heap.size w w') := awake_any w hR hE
  obtain ⟨xs, hxs, hb, hl⟩ := str_bytes a0
  clear w0 w1 w2 w3
  by_cases r1 : 2000 < a0.size
  · have r1' : (2000 : Int) < (a0.size : Int) := by omega
    clear hxs hb hl hR hE
    go_enter Tryd.func4, Tryd.ntmps4
    go_wp2_with (go_at_call 9; refine AW.out.mono ?_; rintro e v1 ⟨rfl, hb1⟩; have B1 : Hid (Below w.heap.size w v1) := hb1; clear hb1)
    go_ret
    exact ⟨rfl, B1.out⟩
  have r1' : ¬ (2000 : Int) < (a0.size : Int) := by omega
  by_cases r2 : a3 < 0
  · clear hxs hb hl hR hE
    go_enter Tryd.func4, Tryd.ntmps4
    go_wp2_with (go_at_call 9; refine AW.out.mono ?_; rintro e v1 ⟨rfl, hb1⟩; have B1 : Hid (Below w.heap.size w v1) := hb1; clear hb1)
    go_ret
    exact ⟨rfl, B1.out⟩
  by_cases r3 : 1099511627776 < a3
  · clear hxs hb hl hR hE
    go_enter Tryd.func4, Tryd.ntmps4
    go_wp2_with (go_at_call 9; refine AW.out.mono ?_; rintro e v1 ⟨rfl, hb1⟩; have B1 : Hid (Below w.heap.size w v1) := hb1; clear hb1)
    go_ret
    exact ⟨rfl, B1.out⟩
  rcases parse_ways a0 xs hxs hb (by omega) w hR hE with ⟨k, hk, c⟩ | ⟨tb, hg, _, c⟩
  · have C1 : Hid (∀ v, Below w.heap.size w v → Calls Tryd.prog 10 #[.string a0] v fun e w' => e = .returned (.tuple #[.pointer none, .int .i64 k]) ∧ Below v.heap.size v w') := c
    have hk0 : ¬ k = 0 := by omega
    clear c hk hxs hb hl hR hE
    go_enter Tryd.func4, Tryd.ntmps4
    go_wp2_with (first | (go_at_call 10; refine (C1.out _ B1.out).mono ?_; rintro e v2 ⟨rfl, hb2⟩; have B2 : Hid (Below w.heap.size w v2) := B1.out.trans (hb2.mono B1.out.size); clear hb2) | (go_at_call 9; refine AW.out.mono ?_; rintro e v1 ⟨rfl, hb1⟩; have B1 : Hid (Below w.heap.size w v1) := hb1; clear hb1))
    go_ret
    exact ⟨rfl, B2.out⟩
  have C1 : Hid (∀ v, Below w.heap.size w v → Calls Tryd.prog 10 #[.string a0] v fun e w' => (∃ p, e = .returned (.tuple #[.pointer (some p), .int .i64 0]) ∧ TB w' p tb xs) ∧ Below v.heap.size v w') := c
  clear c hxs hb hl hR hE
  rcases tai_ways tb xs hg a1 a2 by1.1 by1.2 by2.1 by2.2 with ⟨A, hat, c⟩ | ⟨k, hk, _, _, c⟩
  · have T1 : Hid (∀ p u, TB u p tb xs → Calls Tryd.prog 12 #[.pointer (some p), .int .i64 a1, .int .i64 a2] u fun e w' => e = .returned (.tuple #[.int .i64 A, .int .i64 0]) ∧ Below u.heap.size u w') := c
    have hAr := at_range hg hat
    have U1 : Hid (∀ p u, TB u p tb xs → Calls Tryd.prog 13 #[.pointer (some p), .int .i64 A] u fun e w' => e = .returned (.tuple #[.int .i64 a1, .int .i64 a2, .int .i64 0]) ∧ Below u.heap.size u w') := fun p u h => (lutc_any p tb xs A u h hg (by omega) (by omega)).mono (by rintro e w' ⟨⟨h1, _⟩, hb⟩; exact ⟨h1 _ _ hat, hb⟩)
    have CU := fun p u h => lutc_any p tb xs (A + a3) u h hg (by omega) (by omega)
    by_cases hx : ∃ day sec, At tb (A + a3) day sec
    · obtain ⟨d, s, hat2⟩ := hx
      have U2 : Hid (∀ p u, TB u p tb xs → Calls Tryd.prog 13 #[.pointer (some p), .int .i64 (A + a3)] u fun e w' => e = .returned (.tuple #[.int .i64 d, .int .i64 s, .int .i64 0]) ∧ Below u.heap.size u w') := fun p u h => (CU p u h).mono (by rintro e w' ⟨⟨h1, _⟩, hb⟩; exact ⟨h1 _ _ hat2, hb⟩)
      have hdk := hat2.known
      have hsr := lenT_range hg hdk
      have hs1 := hat2.lo
      have hs2 := hat2.hi
      have T2 : Hid (∀ p u, TB u p tb xs → Calls Tryd.prog 12 #[.pointer (some p), .int .i64 d, .int .i64 s] u fun e w' => e = .returned (.tuple #[.int .i64 (A + a3), .int .i64 0]) ∧ Below u.heap.size u w') := fun p u h => by
        have c := ltai_any p tb xs d s u h hg (by have := hdk.1; omega) (by have := hdk.2.1; omega) (by omega) (by omega)
        rw [if_pos ⟨hdk, hs1, hs2⟩, if_pos hdk, if_pos ⟨hs1, hs2⟩, ← hat2.eq] at c
        exact c
      clear c CU hat hat2 hg hdk hsr hs1 hs2
      go_enter Tryd.func4, Tryd.ntmps4
      go_wp2_with (first | (go_at_call 12; have hgo := K5.out; clear hgo; refine (T2.out _ _ K5.out).mono ?_; rintro e v6 ⟨rfl, hb6⟩; have B6 : Hid (Below w.heap.size w v6) := B5.out.trans (hb6.mono B5.out.size); have K6 : Hid (TB v6 p tb xs) := K5.out.step hb6 (Nat.le_refl _); clear hb6) | (go_at_call 13; have hgo := K4.out; clear hgo; refine (U2.out _ _ K4.out).mono ?_; rintro e v5 ⟨rfl, hb5⟩; have B5 : Hid (Below w.heap.size w v5) := B4.out.trans (hb5.mono B4.out.size); have K5 : Hid (TB v5 p tb xs) := K4.out.step hb5 (Nat.le_refl _); clear hb5) | (go_at_call 13; have hgo := K3.out; clear hgo; refine (U1.out _ _ K3.out).mono ?_; rintro e v4 ⟨rfl, hb4⟩; have B4 : Hid (Below w.heap.size w v4) := B3.out.trans (hb4.mono B3.out.size); have K4 : Hid (TB v4 p tb xs) := K3.out.step hb4 (Nat.le_refl _); clear hb4) | (go_at_call 12; refine (T1.out _ _ K2.out).mono ?_; rintro e v3 ⟨rfl, hb3⟩; have B3 : Hid (Below w.heap.size w v3) := B2.out.trans (hb3.mono B2.out.size); have K3 : Hid (TB v3 p tb xs) := K2.out.step hb3 (Nat.le_refl _); clear hb3) | (go_at_call 10; refine (C1.out _ B1.out).mono ?_; rintro e v2 ⟨⟨p, rfl, ht2⟩, hb2⟩; have B2 : Hid (Below w.heap.size w v2) := B1.out.trans (hb2.mono B1.out.size); have K2 : Hid (TB v2 p tb xs) := ht2; clear hb2 ht2) | (go_at_call 9; refine AW.out.mono ?_; rintro e v1 ⟨rfl, hb1⟩; have B1 : Hid (Below w.heap.size w v1) := hb1; clear hb1))
      go_ret
      exact ⟨rfl, B6.out⟩
    · have hno : ∀ day sec, ¬ At tb (A + a3) day sec := fun day sec h => hx ⟨day, sec, h⟩
      have U2 : Hid (∀ p u, TB u p tb xs → Calls Tryd.prog 13 #[.pointer (some p), .int .i64 (A + a3)] u fun e w' => e = .returned (.tuple #[.int .i64 0, .int .i64 0, .int .i64 4]) ∧ Below u.heap.size u w') := fun p u h => (CU p u h).mono (by rintro e w' ⟨⟨_, h2⟩, hb⟩; exact ⟨h2 hno, hb⟩)
      have on0 : 0 < a3 := by
        apply Classical.byContradiction
        intro h
        have e : A + a3 = A := by omega
        rw [e] at hno
        exact hno _ _ hat
      have hfar := at_far hg hat.known (t := A + a3) (by have := hat.eq; have := hat.lo; omega) hno
      have hfar' : 253401696000 < A + a3 := by omega
      clear c CU hat hg hno hx hfar
      go_enter Tryd.func4, Tryd.ntmps4
      go_wp2_with (first | (go_at_call 13; have hgo := K4.out; clear hgo; refine (U2.out _ _ K4.out).mono ?_; rintro e v5 ⟨rfl, hb5⟩; have B5 : Hid (Below w.heap.size w v5) := B4.out.trans (hb5.mono B4.out.size); have K5 : Hid (TB v5 p tb xs) := K4.out.step hb5 (Nat.le_refl _); clear hb5) | (go_at_call 13; have hgo := K3.out; clear hgo; refine (U1.out _ _ K3.out).mono ?_; rintro e v4 ⟨rfl, hb4⟩; have B4 : Hid (Below w.heap.size w v4) := B3.out.trans (hb4.mono B3.out.size); have K4 : Hid (TB v4 p tb xs) := K3.out.step hb4 (Nat.le_refl _); clear hb4) | (go_at_call 12; refine (T1.out _ _ K2.out).mono ?_; rintro e v3 ⟨rfl, hb3⟩; have B3 : Hid (Below w.heap.size w v3) := B2.out.trans (hb3.mono B2.out.size); have K3 : Hid (TB v3 p tb xs) := K2.out.step hb3 (Nat.le_refl _); clear hb3) | (go_at_call 10; refine (C1.out _ B1.out).mono ?_; rintro e v2 ⟨⟨p, rfl, ht2⟩, hb2⟩; have B2 : Hid (Below w.heap.size w v2) := B1.out.trans (hb2.mono B1.out.size); have K2 : Hid (TB v2 p tb xs) := ht2; clear hb2 ht2) | (go_at_call 9; refine AW.out.mono ?_; rintro e v1 ⟨rfl, hb1⟩; have B1 : Hid (Below w.heap.size w v1) := hb1; clear hb1))
      go_ret
      exact ⟨rfl, B5.out⟩
  · have T1 : Hid (∀ p u, TB u p tb xs → Calls Tryd.prog 12 #[.pointer (some p), .int .i64 a1, .int .i64 a2] u fun e w' => e = .returned (.tuple #[.int .i64 0, .int .i64 k]) ∧ Below u.heap.size u w') := c
    have hk0 : ¬ k = 0 := by omega
    clear c hk hg
    go_enter Tryd.func4, Tryd.ntmps4
    go_wp2_with (first | (go_at_call 12; refine (T1.out _ _ K2.out).mono ?_; rintro e v3 ⟨rfl, hb3⟩; have B3 : Hid (Below w.heap.size w v3) := B2.out.trans (hb3.mono B2.out.size); have K3 : Hid (TB v3 p tb xs) := K2.out.step hb3 (Nat.le_refl _); clear hb3) | (go_at_call 10; refine (C1.out _ B1.out).mono ?_; rintro e v2 ⟨⟨p, rfl, ht2⟩, hb2⟩; have B2 : Hid (Below w.heap.size w v2) := B1.out.trans (hb2.mono B1.out.size); have K2 : Hid (TB v2 p tb xs) := ht2; clear hb2 ht2) | (go_at_call 9; refine AW.out.mono ?_; rintro e v1 ⟨rfl, hb1⟩; have B1 : Hid (Below w.heap.size w v1) := hb1; clear hb1))
    go_ret
    exact ⟨rfl, B3.out⟩

set_option maxRecDepth 100000 in
theorem lifted (os : Os) (started : os.Started) (H : Type) (enc : TypeId × Value → H) :
    ReturnsInHanded {} Tryd.checked os 4 .any (fun w args => (Rows.leapBackSpec.pre enc Tryd.prog Tryd.f4 Rows.leapBackRow.domain false w args ∧ laidMet Tryd.prog laid5 w) ∧ sizedMet enc Tryd.prog Tryd.f4 (OpenSpec.ofChange Rows.leapBackSpec) false w args)
      (Rows.leapBackSpec.post enc Tryd.prog Tryd.f4 false true false false) := by
  refine returnsInHanded_of_change_and (C := Tryd.checked) (X := fun w _ => laidMet Tryd.prog laid5 w) (fun _ _ _ hh h => h.of_heap hh) own started (by kernel_rfl) Tryd.func4
    (ChangeSpec.witness_at (enc := enc) (C := Tryd.checked) (os := os) (X := fun w _ => laidMet Tryd.prog laid5 w) false (laidWorld5 os) #[.string ⟨#[]⟩, .int .i64 0, .int .i64 0, .int .i64 0] 8 rfl (by kernel_rfl) (by kernel_rfl) (by kernel_rfl) (by kernel_rfl) (by kernel_rfl) (laid5_met os _)) ?_
  intro W base args ds gs before hval0 hW _ _ hL _
  have hval : ∀ (j : Nat) t v, Tryd.f4.params[j]? = some t → args[j]? = some v → Value.okWide Tryd.prog W .any base t v := hval0
  have hW' := hW
  obtain ⟨p, q, hA0, hV, rfl, hfz, hnd⟩ := hW
  have hA : DataW.TrodAll enc Tryd.prog W 0 (fun _ => true) true Tryd.f4.params.toList args.toList ds p := hA0
  rw [Tryd.params4] at hA hval
  obtain ⟨v0, vs0, d0, ds0, p0, q0, hargs, rfl, rfl, h0, r0⟩ := trodAll_cons hA
  obtain ⟨v1, vs1, d1, ds1, p1, q1, rfl, rfl, rfl, h1, r1⟩ := trodAll_cons r0
  obtain ⟨v2, vs2, d2, ds2, p2, q2, rfl, rfl, rfl, h2, r2⟩ := trodAll_cons r1
  obtain ⟨v3, vs3, d3, ds3, p3, q3, rfl, rfl, rfl, h3, r3⟩ := trodAll_cons r2
  obtain ⟨rfl, rfl, rfl⟩ := trodAll_nil r3
  obtain rfl : args = #[v0, v1, v2, v3] := by cases args; simp_all
  obtain ⟨rfl, rfl⟩ := trodVars_none hV
  have k0 := h0
  have lt0 : ∀ x ∈ p0, x.block < W.heap.size := by obtain ⟨m, hm⟩ := k0; exact DataW.trod_lt m _ _ _ hm
  obtain ⟨a0, rfl, rfl, rfl, w0⟩ := open_string Tryd.underlying9 (hval 0 9 v0 rfl rfl) h0
  have k1 := h1
  have lt1 : ∀ x ∈ p1, x.block < W.heap.size := by obtain ⟨m, hm⟩ := k1; exact DataW.trod_lt m _ _ _ hm
  obtain ⟨a1, rfl, rfl, rfl, w1⟩ := open_int Tryd.underlying2 (hval 1 2 v1 rfl rfl) h1
  have k2 := h2
  have lt2 : ∀ x ∈ p2, x.block < W.heap.size := by obtain ⟨m, hm⟩ := k2; exact DataW.trod_lt m _ _ _ hm
  obtain ⟨a2, rfl, rfl, rfl, w2⟩ := open_int Tryd.underlying3 (hval 2 3 v2 rfl rfl) h2
  have k3 := h3
  have lt3 : ∀ x ∈ p3, x.block < W.heap.size := by obtain ⟨m, hm⟩ := k3; exact DataW.trod_lt m _ _ _ hm
  obtain ⟨a3, rfl, rfl, rfl, w3⟩ := open_int Tryd.underlying2 (hval 3 2 v3 rfl rfl) h3
  clear hA0 hval0
  refine (walk a0 a1 a2 a3 W w0 w1 w2 w3 (ready_of hL) (le_of hL)).mono fun e W' ⟨he, bel⟩ => ?_
  subst he
  exact ⟨_, rfl, _, _, _, [], _, [], hW', trodAll_mk1 (shut_bool Tryd.underlying4 _), (trodAll_cons_mk (Below.trod laidOut (by kernel_rfl) (of_decide_eq_true (by kernel_rfl)) k0 bel lt0) (trodAll_cons_mk (Below.trod laidOut (by kernel_rfl) (of_decide_eq_true (by kernel_rfl)) k1 bel lt1) (trodAll_cons_mk (Below.trod laidOut (by kernel_rfl) (of_decide_eq_true (by kernel_rfl)) k2 bel lt2) (trodAll_cons_mk (Below.trod laidOut (by kernel_rfl) (of_decide_eq_true (by kernel_rfl)) k3 bel lt3) trodAll_mk0)))), rfl, bel.frame _, fun h => by cases h⟩

theorem over : Rows.leapBackRow.holds Tryd.pinned (OpenSpec.ofChange Rows.leapBackSpec) :=
  OpenClaim.holds_of_wide 4 Tryd.f4 rfl rfl rfl rfl rfl rfl rfl ⟨rfl, rfl, rfl, rfl, rfl⟩ rfl rfl rfl rfl rfl (by kernel_rfl) Tryd.func4 (by kernel_rfl)
    (of_decide_eq_true (by kernel_rfl)) (by unfold Func.isWrapper; first | (rw [if_pos (by decide +kernel)]; kernel_rfl) | (rw [if_neg (by decide +kernel)]; exact ⟨rfl, rfl⟩))
    (fun os started H enc _ => lifted os started H enc)
theorem carded : Rows.LeapBackCardSaid :=
  Claim7.holds_tied_plain_at .later [] [.data, .data, .data, .sentinel, .sentinel] true (true, "72f713a098904629023c27e22fcd14849cabfc9045bb6cfdb3350a65775f249f") true
    over (fun _ h => by cases h) (by kernel_rfl) (fun _ h => by cases h) leapBack_row_tie rfl ⟨rfl, rfl⟩ (by kernel_rfl) rfl
    (fun f fn hf hfn => by
      obtain rfl : f = 4 := Option.some.inj ((show Tryd.prog.funcNamed "hourglass/hourglasslaw5.LeapBack" = some 4 by kernel_rfl).symm.trans hf) |>.symm
      obtain rfl : fn = Tryd.f4 := (Option.some.inj (Tryd.func4.symm.trans hfn)).symm
      exact ⟨by kernel_rfl, fun j t ht => by
        rw [Tryd.params4] at ht
        have hm : t ∈ [9, 2, 3, 2] := by simpa using Array.mem_of_getElem? ht
        have hall : ([9, 2, 3, 2].all fun u => !Tryd.prog.wantsStandIn u) = true := by kernel_rfl
        exact (show Tryd.prog.wantsStandIn t = false by simpa using List.all_eq_true.1 hall t hm)⟩)
    (by kernel_rfl)
#print axioms carded
end Go.Proofs.YthkafbeojeedbaaDoor.leapBack
namespace Go.Proofs.YthkafbeojeedbaaDoor
/-- LeapBack, as given. -/
theorem leapBack_holds : Rows.LeapBackCardSaid := leapBack.carded
end Go.Proofs.YthkafbeojeedbaaDoor
