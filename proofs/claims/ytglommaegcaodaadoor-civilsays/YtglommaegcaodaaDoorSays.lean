/-
  CivilSays: any date's day, any day's date, lengths, weekdays and texts are as the document says, for every three integers and every day number (outside the years -100000 to 100000 the statement asks for the refusal alone); conditions: the library's tables, and its two errors where they are listed, hold what the program's own text lays (the card ties them, over the pruned copy).
-/
import Derived.Test.YtglommaegcaodaaDoorRows
import Derived.Test.YtglommaegcaodaaDoorSaysGk
import Derived.Test.YtglommaegcaodaaDoorSaysGn
import Derived.Test.YtglommaegcaodaaDoorSaysBk
import Derived.Test.YtglommaegcaodaaDoorSaysBn
import Derived.Test.YtglommaegcaodaaDoorDateOpen
import Derived.Test.YtglommaegcaodaaDoorCards
import Derived.Test.YtglommaegcaodaaDoorTie
import Derived.Test.YtglommaegcaodaaDoorCivilLaid
import Derived.WalkKit
import Derived.ProofKit
import Derived.OpenShut
import Derived.ShutString
import Derived.ChangeOld
import Derived.Below
import Derived.Carry
import Derived.SevenTiedAt
import Derived.SizedLaws
import Derived.JoinedAt
namespace Go.Proofs.YtglommaegcaodaaDoor.civilSays
open Go.ChangeShapes Go.WideShapes Go.ChangeAt Go.RowKit
open Go.ChangeMaps (open_string shut_string)
set_option linter.unusedVariables false

theorem own : ownKnob Tryd.prog.godebug = none := by kernel_rfl
theorem laidOut : laidOutB Tryd.prog = true := by kernel_rfl
/-- A slice of integers that came in: nil, or a row of 'cap' cells, of which the first 'len' are its elements. -/
def IsRow (k : IntKind) (w : World) (a : Option Addr) (len cap : Nat) (zs : List Int) : Prop :=
  (a = none ∧ len = 0 ∧ cap = 0 ∧ zs = []) ∨
  ∃ x, a = some x ∧ len ≤ cap ∧ cap ≤ maxLen ∧ zs.length = cap ∧ (∀ i, i < zs.length → w.cell? (x.add i) = some (.int k (zs.getD i 0))) ∧ ∀ n ∈ zs, (Lit.int k n).wf = true

set_option maxRecDepth 8000 in
set_option maxHeartbeats 4000000 in
theorem says_farkl (a0 b0 c0 a1 : Int) (w : World) (hR : Ready w) (by0 : -9223372036854775808 ≤ a0 ∧ a0 ≤ 9223372036854775807) (by1 : -9223372036854775808 ≤ b0 ∧ b0 ≤ 9223372036854775807) (by2 : -9223372036854775808 ≤ c0 ∧ c0 ≤ 9223372036854775807) (by3 : -9223372036854775808 ≤ a1 ∧ a1 ≤ 9223372036854775807) (hg : ¬ Gd a0 b0 c0) (hr : ¬ (a1 < -4371587 ∨ 2932896 < a1)) (hy : a0 < -100000) :
    Calls Tryd.prog 4 #[.agg #[.int .i64 a0, .int .i64 b0, .int .i64 c0], .int .i64 a1] w fun e w' => e = .returned (.bool true) ∧ Below w.heap.size w w' := by
  have AW : Hid (Calls Tryd.prog 9 #[] (w.alloc (Obj.cells #[Value.int IntKind.i64 a0, Value.int IntKind.i64 b0, Value.int IntKind.i64 c0] 27)) fun e w' => e = .returned (.bool true) ∧ Below (w.alloc (Obj.cells #[Value.int IntKind.i64 a0, Value.int IntKind.i64 b0, Value.int IntKind.i64 c0] 27)).heap.size (w.alloc (Obj.cells #[Value.int IntKind.i64 a0, Value.int IntKind.i64 b0, Value.int IntKind.i64 c0] 27)) w') := awake_any _ (hR.past _)
  have CO : Hid (∀ w, Calls Tryd.prog 18 #[.agg #[.int .i64 a0, .int .i64 b0, .int .i64 c0]] w fun e w' => e = .returned (.agg #[.int .i64 a0, .int .i64 b0, .int .i64 c0]) ∧ Below w.heap.size w w') := fun w => own_any a0 b0 c0 w
  have D1 : Hid (∀ w, Calls Tryd.prog 10 #[.agg #[.int .i64 a0, .int .i64 b0, .int .i64 c0]] w fun e w' => e = .returned (.tuple #[.int .i64 0, .int .i64 1]) ∧ Below w.heap.size w w') := fun w => days_bad a0 b0 c0 w hg (by omega) (by omega) (by omega) (by omega) (by omega) (by omega)
  have D2 : Hid (∀ w, Calls Tryd.prog 17 #[.agg #[.int .i64 a0, .int .i64 b0, .int .i64 c0]] w fun e w' => e = .returned (.tuple #[.int .i64 0, .bool false]) ∧ Below w.heap.size w w') := fun w => by have h := rdays_any a0 b0 c0 w (by omega) (by omega) (by omega) (by omega); rw [if_neg hg, decide_eq_false hg] at h; exact h
  obtain ⟨y, m, d, g1, n1⟩ := day_exists a1 (by omega) (by omega)
  have O1 : Hid (∀ w, Calls Tryd.prog 11 #[.int .i64 a1] w fun e w' => e = .returned (.tuple #[.agg #[.int .i64 y, .int .i64 m, .int .i64 d], .int .i64 0]) ∧ Below w.heap.size w w') := fun w => (of_in a1 w (by omega) (by omega)).mono (by rintro e w' ⟨y', m', d', rfl, hg', h0, hb⟩; obtain ⟨rfl, rfl, rfl⟩ := day_inj hg' g1 (by rw [h0, n1]); exact ⟨rfl, hb⟩)
  have O2 : Hid (∀ w, Calls Tryd.prog 19 #[.int .i64 a1] w fun e w' => e = .returned (.tuple #[.agg #[.int .i64 y, .int .i64 m, .int .i64 d], .bool true]) ∧ Below w.heap.size w w') := fun w => (rof_in a1 w (by omega) (by omega)).mono (by rintro e w' ⟨y', m', d', rfl, hg', h0, hb⟩; obtain ⟨rfl, rfl, rfl⟩ := day_inj hg' g1 (by rw [h0, n1]); exact ⟨rfl, hb⟩)
  clear g1 n1
  clear hg hr hR
  go_enter Tryd.func4, Tryd.ntmps4
  go_wp2_with (first | (go_at_call 19; have hgo := H5.out; clear hgo; refine (O2.out _).mono ?_; rintro e w6 ⟨rfl, hb6⟩; have H6 : Hid (Held w w6 a0 b0 c0) := (H5.out.past _).step hb6; have HQ := (DateAt.made w5 27 y m d).below hb6 (by simp); have hc0 := cell_past HQ.c0; have hc1 := cell_past HQ.c1; have hc2 := cell_past HQ.c2; clear HQ; have hd0 := cell_past H6.out.date.c0; have hd1 := cell_past H6.out.date.c1; have hd2 := cell_past H6.out.date.c2; clear hb6) | (go_at_call 11; have hgo := H4.out; clear hgo; refine (O1.out _).mono ?_; rintro e w5 ⟨rfl, hb5⟩; have H5 : Hid (Held w w5 a0 b0 c0) := H4.out.step hb5; clear hb5) | (go_at_call 17; have hgo := H3.out; clear hgo; refine (D2.out _).mono ?_; rintro e w4 ⟨rfl, hb4⟩; have H4 : Hid (Held w w4 a0 b0 c0) := H3.out.step hb4; clear hd0 hd1 hd2; have hd0 := H4.out.date.c0; have hd1 := H4.out.date.c1; have hd2 := H4.out.date.c2; clear hb4) | (go_at_call 18; have hgo := H2.out; clear hgo; refine (CO.out _).mono ?_; rintro e w3 ⟨rfl, hb3⟩; have H3 : Hid (Held w w3 a0 b0 c0) := H2.out.step hb3; clear hd0 hd1 hd2; have hd0 := H3.out.date.c0; have hd1 := H3.out.date.c1; have hd2 := H3.out.date.c2; clear hb3) | (go_at_call 10; have hgo := H1.out; clear hgo; refine (D1.out _).mono ?_; rintro e w2 ⟨rfl, hb2⟩; have H2 : Hid (Held w w2 a0 b0 c0) := H1.out.step hb2; clear hd0 hd1 hd2; have hd0 := H2.out.date.c0; have hd1 := H2.out.date.c1; have hd2 := H2.out.date.c2; clear hb2) | (go_at_call 9; refine AW.out.mono ?_; rintro e w1 ⟨rfl, hb1⟩; have H1 : Hid (Held w w1 a0 b0 c0) := (Held.made w 27 a0 b0 c0).step hb1; have hd0 := H1.out.date.c0; have hd1 := H1.out.date.c1; have hd2 := H1.out.date.c2; clear hb1))
  go_ret
  exact ⟨rfl, (H6.out.past _).below⟩
set_option maxRecDepth 8000 in
set_option maxHeartbeats 4000000 in
theorem says_farkr (a0 b0 c0 a1 : Int) (w : World) (hR : Ready w) (by0 : -9223372036854775808 ≤ a0 ∧ a0 ≤ 9223372036854775807) (by1 : -9223372036854775808 ≤ b0 ∧ b0 ≤ 9223372036854775807) (by2 : -9223372036854775808 ≤ c0 ∧ c0 ≤ 9223372036854775807) (by3 : -9223372036854775808 ≤ a1 ∧ a1 ≤ 9223372036854775807) (hg : ¬ Gd a0 b0 c0) (hr : ¬ (a1 < -4371587 ∨ 2932896 < a1)) (hy : 100000 < a0) :
    Calls Tryd.prog 4 #[.agg #[.int .i64 a0, .int .i64 b0, .int .i64 c0], .int .i64 a1] w fun e w' => e = .returned (.bool true) ∧ Below w.heap.size w w' := by
  have AW : Hid (Calls Tryd.prog 9 #[] (w.alloc (Obj.cells #[Value.int IntKind.i64 a0, Value.int IntKind.i64 b0, Value.int IntKind.i64 c0] 27)) fun e w' => e = .returned (.bool true) ∧ Below (w.alloc (Obj.cells #[Value.int IntKind.i64 a0, Value.int IntKind.i64 b0, Value.int IntKind.i64 c0] 27)).heap.size (w.alloc (Obj.cells #[Value.int IntKind.i64 a0, Value.int IntKind.i64 b0, Value.int IntKind.i64 c0] 27)) w') := awake_any _ (hR.past _)
  have CO : Hid (∀ w, Calls Tryd.prog 18 #[.agg #[.int .i64 a0, .int .i64 b0, .int .i64 c0]] w fun e w' => e = .returned (.agg #[.int .i64 a0, .int .i64 b0, .int .i64 c0]) ∧ Below w.heap.size w w') := fun w => own_any a0 b0 c0 w
  have D1 : Hid (∀ w, Calls Tryd.prog 10 #[.agg #[.int .i64 a0, .int .i64 b0, .int .i64 c0]] w fun e w' => e = .returned (.tuple #[.int .i64 0, .int .i64 1]) ∧ Below w.heap.size w w') := fun w => days_bad a0 b0 c0 w hg (by omega) (by omega) (by omega) (by omega) (by omega) (by omega)
  have D2 : Hid (∀ w, Calls Tryd.prog 17 #[.agg #[.int .i64 a0, .int .i64 b0, .int .i64 c0]] w fun e w' => e = .returned (.tuple #[.int .i64 0, .bool false]) ∧ Below w.heap.size w w') := fun w => by have h := rdays_any a0 b0 c0 w (by omega) (by omega) (by omega) (by omega); rw [if_neg hg, decide_eq_false hg] at h; exact h
  obtain ⟨y, m, d, g1, n1⟩ := day_exists a1 (by omega) (by omega)
  have O1 : Hid (∀ w, Calls Tryd.prog 11 #[.int .i64 a1] w fun e w' => e = .returned (.tuple #[.agg #[.int .i64 y, .int .i64 m, .int .i64 d], .int .i64 0]) ∧ Below w.heap.size w w') := fun w => (of_in a1 w (by omega) (by omega)).mono (by rintro e w' ⟨y', m', d', rfl, hg', h0, hb⟩; obtain ⟨rfl, rfl, rfl⟩ := day_inj hg' g1 (by rw [h0, n1]); exact ⟨rfl, hb⟩)
  have O2 : Hid (∀ w, Calls Tryd.prog 19 #[.int .i64 a1] w fun e w' => e = .returned (.tuple #[.agg #[.int .i64 y, .int .i64 m, .int .i64 d], .bool true]) ∧ Below w.heap.size w w') := fun w => (rof_in a1 w (by omega) (by omega)).mono (by rintro e w' ⟨y', m', d', rfl, hg', h0, hb⟩; obtain ⟨rfl, rfl, rfl⟩ := day_inj hg' g1 (by rw [h0, n1]); exact ⟨rfl, hb⟩)
  clear g1 n1
  clear hg hr hR
  have hy' : ¬ a0 < -100000 := by omega
  go_enter Tryd.func4, Tryd.ntmps4
  go_wp2_with (first | (go_at_call 19; have hgo := H5.out; clear hgo; refine (O2.out _).mono ?_; rintro e w6 ⟨rfl, hb6⟩; have H6 : Hid (Held w w6 a0 b0 c0) := (H5.out.past _).step hb6; have HQ := (DateAt.made w5 27 y m d).below hb6 (by simp); have hc0 := cell_past HQ.c0; have hc1 := cell_past HQ.c1; have hc2 := cell_past HQ.c2; clear HQ; have hd0 := cell_past H6.out.date.c0; have hd1 := cell_past H6.out.date.c1; have hd2 := cell_past H6.out.date.c2; clear hb6) | (go_at_call 11; have hgo := H4.out; clear hgo; refine (O1.out _).mono ?_; rintro e w5 ⟨rfl, hb5⟩; have H5 : Hid (Held w w5 a0 b0 c0) := H4.out.step hb5; clear hb5) | (go_at_call 17; have hgo := H3.out; clear hgo; refine (D2.out _).mono ?_; rintro e w4 ⟨rfl, hb4⟩; have H4 : Hid (Held w w4 a0 b0 c0) := H3.out.step hb4; clear hd0 hd1 hd2; have hd0 := H4.out.date.c0; have hd1 := H4.out.date.c1; have hd2 := H4.out.date.c2; clear hb4) | (go_at_call 18; have hgo := H2.out; clear hgo; refine (CO.out _).mono ?_; rintro e w3 ⟨rfl, hb3⟩; have H3 : Hid (Held w w3 a0 b0 c0) := H2.out.step hb3; clear hd0 hd1 hd2; have hd0 := H3.out.date.c0; have hd1 := H3.out.date.c1; have hd2 := H3.out.date.c2; clear hb3) | (go_at_call 10; have hgo := H1.out; clear hgo; refine (D1.out _).mono ?_; rintro e w2 ⟨rfl, hb2⟩; have H2 : Hid (Held w w2 a0 b0 c0) := H1.out.step hb2; clear hd0 hd1 hd2; have hd0 := H2.out.date.c0; have hd1 := H2.out.date.c1; have hd2 := H2.out.date.c2; clear hb2) | (go_at_call 9; refine AW.out.mono ?_; rintro e w1 ⟨rfl, hb1⟩; have H1 : Hid (Held w w1 a0 b0 c0) := (Held.made w 27 a0 b0 c0).step hb1; have hd0 := H1.out.date.c0; have hd1 := H1.out.date.c1; have hd2 := H1.out.date.c2; clear hb1))
  go_ret
  exact ⟨rfl, (H6.out.past _).below⟩
set_option maxRecDepth 8000 in
set_option maxHeartbeats 4000000 in
theorem says_farnl (a0 b0 c0 a1 : Int) (w : World) (hR : Ready w) (by0 : -9223372036854775808 ≤ a0 ∧ a0 ≤ 9223372036854775807) (by1 : -9223372036854775808 ≤ b0 ∧ b0 ≤ 9223372036854775807) (by2 : -9223372036854775808 ≤ c0 ∧ c0 ≤ 9223372036854775807) (by3 : -9223372036854775808 ≤ a1 ∧ a1 ≤ 9223372036854775807) (hg : ¬ Gd a0 b0 c0) (hr : (a1 < -4371587 ∨ 2932896 < a1)) (hy : a0 < -100000) :
    Calls Tryd.prog 4 #[.agg #[.int .i64 a0, .int .i64 b0, .int .i64 c0], .int .i64 a1] w fun e w' => e = .returned (.bool true) ∧ Below w.heap.size w w' := by
  have AW : Hid (Calls Tryd.prog 9 #[] (w.alloc (Obj.cells #[Value.int IntKind.i64 a0, Value.int IntKind.i64 b0, Value.int IntKind.i64 c0] 27)) fun e w' => e = .returned (.bool true) ∧ Below (w.alloc (Obj.cells #[Value.int IntKind.i64 a0, Value.int IntKind.i64 b0, Value.int IntKind.i64 c0] 27)).heap.size (w.alloc (Obj.cells #[Value.int IntKind.i64 a0, Value.int IntKind.i64 b0, Value.int IntKind.i64 c0] 27)) w') := awake_any _ (hR.past _)
  have CO : Hid (∀ w, Calls Tryd.prog 18 #[.agg #[.int .i64 a0, .int .i64 b0, .int .i64 c0]] w fun e w' => e = .returned (.agg #[.int .i64 a0, .int .i64 b0, .int .i64 c0]) ∧ Below w.heap.size w w') := fun w => own_any a0 b0 c0 w
  have D1 : Hid (∀ w, Calls Tryd.prog 10 #[.agg #[.int .i64 a0, .int .i64 b0, .int .i64 c0]] w fun e w' => e = .returned (.tuple #[.int .i64 0, .int .i64 1]) ∧ Below w.heap.size w w') := fun w => days_bad a0 b0 c0 w hg (by omega) (by omega) (by omega) (by omega) (by omega) (by omega)
  have D2 : Hid (∀ w, Calls Tryd.prog 17 #[.agg #[.int .i64 a0, .int .i64 b0, .int .i64 c0]] w fun e w' => e = .returned (.tuple #[.int .i64 0, .bool false]) ∧ Below w.heap.size w w') := fun w => by have h := rdays_any a0 b0 c0 w (by omega) (by omega) (by omega) (by omega); rw [if_neg hg, decide_eq_false hg] at h; exact h
  have O1 : Hid (∀ w, Calls Tryd.prog 11 #[.int .i64 a1] w fun e w' => e = .returned (.tuple #[.agg #[.int .i64 0, .int .i64 0, .int .i64 0], .int .i64 1]) ∧ Below w.heap.size w w') := fun w => of_out a1 w hr (by omega) (by omega)
  have O2 : Hid (∀ w, Calls Tryd.prog 19 #[.int .i64 a1] w fun e w' => e = .returned (.tuple #[.agg #[.int .i64 0, .int .i64 0, .int .i64 0], .bool false]) ∧ Below w.heap.size w w') := fun w => rof_out a1 w hr
  clear hg hr hR
  go_enter Tryd.func4, Tryd.ntmps4
  go_wp2_with (first | (go_at_call 19; have hgo := H5.out; clear hgo; refine (O2.out _).mono ?_; rintro e w6 ⟨rfl, hb6⟩; have H6 : Hid (Held w w6 a0 b0 c0) := (H5.out.past _).step hb6; have HQ := (DateAt.made w5 27 0 0 0).below hb6 (by simp); have hc0 := cell_past HQ.c0; have hc1 := cell_past HQ.c1; have hc2 := cell_past HQ.c2; clear HQ; have hd0 := cell_past H6.out.date.c0; have hd1 := cell_past H6.out.date.c1; have hd2 := cell_past H6.out.date.c2; clear hb6) | (go_at_call 11; have hgo := H4.out; clear hgo; refine (O1.out _).mono ?_; rintro e w5 ⟨rfl, hb5⟩; have H5 : Hid (Held w w5 a0 b0 c0) := H4.out.step hb5; clear hb5) | (go_at_call 17; have hgo := H3.out; clear hgo; refine (D2.out _).mono ?_; rintro e w4 ⟨rfl, hb4⟩; have H4 : Hid (Held w w4 a0 b0 c0) := H3.out.step hb4; clear hd0 hd1 hd2; have hd0 := H4.out.date.c0; have hd1 := H4.out.date.c1; have hd2 := H4.out.date.c2; clear hb4) | (go_at_call 18; have hgo := H2.out; clear hgo; refine (CO.out _).mono ?_; rintro e w3 ⟨rfl, hb3⟩; have H3 : Hid (Held w w3 a0 b0 c0) := H2.out.step hb3; clear hd0 hd1 hd2; have hd0 := H3.out.date.c0; have hd1 := H3.out.date.c1; have hd2 := H3.out.date.c2; clear hb3) | (go_at_call 10; have hgo := H1.out; clear hgo; refine (D1.out _).mono ?_; rintro e w2 ⟨rfl, hb2⟩; have H2 : Hid (Held w w2 a0 b0 c0) := H1.out.step hb2; clear hd0 hd1 hd2; have hd0 := H2.out.date.c0; have hd1 := H2.out.date.c1; have hd2 := H2.out.date.c2; clear hb2) | (go_at_call 9; refine AW.out.mono ?_; rintro e w1 ⟨rfl, hb1⟩; have H1 : Hid (Held w w1 a0 b0 c0) := (Held.made w 27 a0 b0 c0).step hb1; have hd0 := H1.out.date.c0; have hd1 := H1.out.date.c1; have hd2 := H1.out.date.c2; clear hb1))
  go_ret
  exact ⟨rfl, (H6.out.past _).below⟩
set_option maxRecDepth 8000 in
set_option maxHeartbeats 4000000 in
theorem says_farnr (a0 b0 c0 a1 : Int) (w : World) (hR : Ready w) (by0 : -9223372036854775808 ≤ a0 ∧ a0 ≤ 9223372036854775807) (by1 : -9223372036854775808 ≤ b0 ∧ b0 ≤ 9223372036854775807) (by2 : -9223372036854775808 ≤ c0 ∧ c0 ≤ 9223372036854775807) (by3 : -9223372036854775808 ≤ a1 ∧ a1 ≤ 9223372036854775807) (hg : ¬ Gd a0 b0 c0) (hr : (a1 < -4371587 ∨ 2932896 < a1)) (hy : 100000 < a0) :
    Calls Tryd.prog 4 #[.agg #[.int .i64 a0, .int .i64 b0, .int .i64 c0], .int .i64 a1] w fun e w' => e = .returned (.bool true) ∧ Below w.heap.size w w' := by
  have AW : Hid (Calls Tryd.prog 9 #[] (w.alloc (Obj.cells #[Value.int IntKind.i64 a0, Value.int IntKind.i64 b0, Value.int IntKind.i64 c0] 27)) fun e w' => e = .returned (.bool true) ∧ Below (w.alloc (Obj.cells #[Value.int IntKind.i64 a0, Value.int IntKind.i64 b0, Value.int IntKind.i64 c0] 27)).heap.size (w.alloc (Obj.cells #[Value.int IntKind.i64 a0, Value.int IntKind.i64 b0, Value.int IntKind.i64 c0] 27)) w') := awake_any _ (hR.past _)
  have CO : Hid (∀ w, Calls Tryd.prog 18 #[.agg #[.int .i64 a0, .int .i64 b0, .int .i64 c0]] w fun e w' => e = .returned (.agg #[.int .i64 a0, .int .i64 b0, .int .i64 c0]) ∧ Below w.heap.size w w') := fun w => own_any a0 b0 c0 w
  have D1 : Hid (∀ w, Calls Tryd.prog 10 #[.agg #[.int .i64 a0, .int .i64 b0, .int .i64 c0]] w fun e w' => e = .returned (.tuple #[.int .i64 0, .int .i64 1]) ∧ Below w.heap.size w w') := fun w => days_bad a0 b0 c0 w hg (by omega) (by omega) (by omega) (by omega) (by omega) (by omega)
  have D2 : Hid (∀ w, Calls Tryd.prog 17 #[.agg #[.int .i64 a0, .int .i64 b0, .int .i64 c0]] w fun e w' => e = .returned (.tuple #[.int .i64 0, .bool false]) ∧ Below w.heap.size w w') := fun w => by have h := rdays_any a0 b0 c0 w (by omega) (by omega) (by omega) (by omega); rw [if_neg hg, decide_eq_false hg] at h; exact h
  have O1 : Hid (∀ w, Calls Tryd.prog 11 #[.int .i64 a1] w fun e w' => e = .returned (.tuple #[.agg #[.int .i64 0, .int .i64 0, .int .i64 0], .int .i64 1]) ∧ Below w.heap.size w w') := fun w => of_out a1 w hr (by omega) (by omega)
  have O2 : Hid (∀ w, Calls Tryd.prog 19 #[.int .i64 a1] w fun e w' => e = .returned (.tuple #[.agg #[.int .i64 0, .int .i64 0, .int .i64 0], .bool false]) ∧ Below w.heap.size w w') := fun w => rof_out a1 w hr
  clear hg hr hR
  have hy' : ¬ a0 < -100000 := by omega
  go_enter Tryd.func4, Tryd.ntmps4
  go_wp2_with (first | (go_at_call 19; have hgo := H5.out; clear hgo; refine (O2.out _).mono ?_; rintro e w6 ⟨rfl, hb6⟩; have H6 : Hid (Held w w6 a0 b0 c0) := (H5.out.past _).step hb6; have HQ := (DateAt.made w5 27 0 0 0).below hb6 (by simp); have hc0 := cell_past HQ.c0; have hc1 := cell_past HQ.c1; have hc2 := cell_past HQ.c2; clear HQ; have hd0 := cell_past H6.out.date.c0; have hd1 := cell_past H6.out.date.c1; have hd2 := cell_past H6.out.date.c2; clear hb6) | (go_at_call 11; have hgo := H4.out; clear hgo; refine (O1.out _).mono ?_; rintro e w5 ⟨rfl, hb5⟩; have H5 : Hid (Held w w5 a0 b0 c0) := H4.out.step hb5; clear hb5) | (go_at_call 17; have hgo := H3.out; clear hgo; refine (D2.out _).mono ?_; rintro e w4 ⟨rfl, hb4⟩; have H4 : Hid (Held w w4 a0 b0 c0) := H3.out.step hb4; clear hd0 hd1 hd2; have hd0 := H4.out.date.c0; have hd1 := H4.out.date.c1; have hd2 := H4.out.date.c2; clear hb4) | (go_at_call 18; have hgo := H2.out; clear hgo; refine (CO.out _).mono ?_; rintro e w3 ⟨rfl, hb3⟩; have H3 : Hid (Held w w3 a0 b0 c0) := H2.out.step hb3; clear hd0 hd1 hd2; have hd0 := H3.out.date.c0; have hd1 := H3.out.date.c1; have hd2 := H3.out.date.c2; clear hb3) | (go_at_call 10; have hgo := H1.out; clear hgo; refine (D1.out _).mono ?_; rintro e w2 ⟨rfl, hb2⟩; have H2 : Hid (Held w w2 a0 b0 c0) := H1.out.step hb2; clear hd0 hd1 hd2; have hd0 := H2.out.date.c0; have hd1 := H2.out.date.c1; have hd2 := H2.out.date.c2; clear hb2) | (go_at_call 9; refine AW.out.mono ?_; rintro e w1 ⟨rfl, hb1⟩; have H1 : Hid (Held w w1 a0 b0 c0) := (Held.made w 27 a0 b0 c0).step hb1; have hd0 := H1.out.date.c0; have hd1 := H1.out.date.c1; have hd2 := H1.out.date.c2; clear hb1))
  go_ret
  exact ⟨rfl, (H6.out.past _).below⟩
theorem walk (a0 b0 c0 : Int) (a1 : Int) (w : World) (w0 : (Lit.int .i64 a0).wf = true) (x0 : (Lit.int .i64 b0).wf = true) (y0 : (Lit.int .i64 c0).wf = true) (w1 : (Lit.int .i64 a1).wf = true) (hR : Ready w) :
    Calls Tryd.prog 4 #[.agg #[.int .i64 a0, .int .i64 b0, .int .i64 c0], .int .i64 a1] w fun e w' => e = .returned (.bool true) ∧ Below w.heap.size w w' := by
  have by0 := bounds_i64 w0
  have by1 := bounds_i64 x0
  have by2 := bounds_i64 y0
  have by3 := bounds_i64 w1
  by_cases hr : a1 < -4371587 ∨ 2932896 < a1
  · by_cases hg : Gd a0 b0 c0
    · exact says_gn a0 b0 c0 a1 w hR by0 by1 by2 by3 hg hr (by have := hg.1; omega) (by have := hg.2.1; omega)
    · by_cases h1 : a0 < -100000
      · exact says_farnl a0 b0 c0 a1 w hR by0 by1 by2 by3 hg hr h1
      · by_cases h2 : 100000 < a0
        · exact says_farnr a0 b0 c0 a1 w hR by0 by1 by2 by3 hg hr h2
        · exact says_bn a0 b0 c0 a1 w hR by0 by1 by2 by3 hg hr h1 h2
  · by_cases hg : Gd a0 b0 c0
    · exact says_gk a0 b0 c0 a1 w hR by0 by1 by2 by3 hg hr (by have := hg.1; omega) (by have := hg.2.1; omega)
    · by_cases h1 : a0 < -100000
      · exact says_farkl a0 b0 c0 a1 w hR by0 by1 by2 by3 hg hr h1
      · by_cases h2 : 100000 < a0
        · exact says_farkr a0 b0 c0 a1 w hR by0 by1 by2 by3 hg hr h2
        · exact says_bk a0 b0 c0 a1 w hR by0 by1 by2 by3 hg hr h1 h2

set_option maxRecDepth 100000 in
theorem lifted (os : Os) (started : os.Started) (H : Type) (enc : TypeId × Value → H) :
    ReturnsInHanded {} Tryd.checked os 4 .any (fun w args => (Rows.civilSaysSpec.pre enc Tryd.prog Tryd.f4 Rows.civilSaysRow.domain false w args ∧ laidMet Tryd.prog laid3 w) ∧ sizedMet enc Tryd.prog Tryd.f4 (OpenSpec.ofChange Rows.civilSaysSpec) false w args)
      (Rows.civilSaysSpec.post enc Tryd.prog Tryd.f4 false true false false) := by
  refine returnsInHanded_of_change_and (C := Tryd.checked) (X := fun w _ => laidMet Tryd.prog laid3 w) (fun _ _ _ hh h => h.of_heap hh) own started (by kernel_rfl) Tryd.func4
    (ChangeSpec.witness_at (enc := enc) (C := Tryd.checked) (os := os) (X := fun w _ => laidMet Tryd.prog laid3 w) false (laidWorld3 os) #[.agg #[.int .i64 0, .int .i64 0, .int .i64 0], .int .i64 0] 8 rfl (by kernel_rfl) (by kernel_rfl) (by kernel_rfl) (by kernel_rfl) (by kernel_rfl) (laid3_met os _)) ?_
  intro W base args ds gs before hval0 hW _ _ hL _
  have hval : ∀ (j : Nat) t v, Tryd.f4.params[j]? = some t → args[j]? = some v → Value.okWide Tryd.prog W .any base t v := hval0
  have hW' := hW
  obtain ⟨p, q, hA0, hV, rfl, hfz, hnd⟩ := hW
  have hA : DataW.TrodAll enc Tryd.prog W 0 (fun _ => true) true Tryd.f4.params.toList args.toList ds p := hA0
  rw [Tryd.params4] at hA hval
  obtain ⟨v0, vs0, d0, ds0, p0, q0, hargs, rfl, rfl, h0, r0⟩ := trodAll_cons hA
  obtain ⟨v1, vs1, d1, ds1, p1, q1, rfl, rfl, rfl, h1, r1⟩ := trodAll_cons r0
  obtain ⟨rfl, rfl, rfl⟩ := trodAll_nil r1
  obtain rfl : args = #[v0, v1] := by cases args; simp_all
  obtain ⟨rfl, rfl⟩ := trodVars_none hV
  have k0 := h0
  have lt0 : ∀ x ∈ p0, x.block < W.heap.size := by obtain ⟨m, hm⟩ := k0; exact DataW.trod_lt m _ _ _ hm
  obtain ⟨a0, b0, c0, rfl, w0, x0, y0⟩ := struct3_open Tryd.underlying27 Tryd.underlying3 Tryd.underlying3 Tryd.underlying3 rfl rfl rfl (by kernel_rfl) (by kernel_rfl) (by kernel_rfl) (by kernel_rfl) (hval 0 27 v0 rfl rfl) h0
  have k1 := h1
  have lt1 : ∀ x ∈ p1, x.block < W.heap.size := by obtain ⟨m, hm⟩ := k1; exact DataW.trod_lt m _ _ _ hm
  obtain ⟨a1, rfl, rfl, rfl, w1⟩ := open_int Tryd.underlying2 (hval 1 2 v1 rfl rfl) h1
  clear hA0 hval0
  refine (walk a0 b0 c0 a1 W w0 x0 y0 w1 (ready_of hL)).mono fun e W' ⟨he, bel⟩ => ?_
  subst he
  exact ⟨_, rfl, _, _, _, [], _, [], hW', trodAll_mk1 (shut_bool Tryd.underlying4 _), (trodAll_cons_mk (Below.trod laidOut (by kernel_rfl) (of_decide_eq_true (by kernel_rfl)) k0 bel lt0) (trodAll_cons_mk (Below.trod laidOut (by kernel_rfl) (of_decide_eq_true (by kernel_rfl)) k1 bel lt1) trodAll_mk0)), rfl, bel.frame _, fun h => by cases h⟩

theorem over : Rows.civilSaysRow.holds Tryd.pinned (OpenSpec.ofChange Rows.civilSaysSpec) :=
  OpenClaim.holds_of_wide 4 Tryd.f4 rfl rfl rfl rfl rfl rfl rfl ⟨rfl, rfl, rfl, rfl, rfl⟩ rfl rfl rfl rfl rfl (by kernel_rfl) Tryd.func4 (by kernel_rfl)
    (of_decide_eq_true (by kernel_rfl)) (by unfold Func.isWrapper; first | (rw [if_pos (by decide +kernel)]; kernel_rfl) | (rw [if_neg (by decide +kernel)]; exact ⟨rfl, rfl⟩))
    (fun os started H enc _ => lifted os started H enc)
theorem carded : Rows.CivilSaysCardSaid :=
  Claim7.holds_tied_plain_at .later [] [.data, .data, .data] true (true, "7af20c8ded581e57e2cc45ba6f6943f52ac148cc54ff3c745e407801333bdc18") true
    over (fun _ h => by cases h) (by kernel_rfl) (fun _ h => by cases h) civilSays_row_tie rfl ⟨rfl, rfl⟩ (by kernel_rfl) rfl
    (fun f fn hf hfn => by
      obtain rfl : f = 4 := Option.some.inj ((show Tryd.prog.funcNamed "hourglass/hourglasslaw4.CivilSays" = some 4 by kernel_rfl).symm.trans hf) |>.symm
      obtain rfl : fn = Tryd.f4 := (Option.some.inj (Tryd.func4.symm.trans hfn)).symm
      exact ⟨by kernel_rfl, fun j t ht => by
        rw [Tryd.params4] at ht
        have hm : t ∈ [27, 2] := by simpa using Array.mem_of_getElem? ht
        have hall : ([27, 2].all fun u => !Tryd.prog.wantsStandIn u) = true := by kernel_rfl
        exact (show Tryd.prog.wantsStandIn t = false by simpa using List.all_eq_true.1 hall t hm)⟩)
    (by kernel_rfl)
#print axioms carded
end Go.Proofs.YtglommaegcaodaaDoor.civilSays
namespace Go.Proofs.YtglommaegcaodaaDoor
/-- CivilSays, as given. -/
theorem civilSays_holds : Rows.CivilSaysCardSaid := civilSays.carded
end Go.Proofs.YtglommaegcaodaaDoor
