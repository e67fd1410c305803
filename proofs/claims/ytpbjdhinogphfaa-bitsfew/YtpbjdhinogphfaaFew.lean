/-
  BitsFew: for every two numbers the law's Go text returns true: a greater number never has fewer bytes, one of n bytes is below 128 to the n-th. No conditions.
-/
import Derived.Test.YtpbjdhinogphfaaRows
import Derived.Test.YtpbjdhinogphfaaAwake
import Derived.WalkKit
import Derived.ProofKit
import Derived.OpenShut
import Derived.ShutString
import Derived.ChangeOld
import Derived.Below
namespace Go.Proofs.Ytpbjdhinogphfaa.bitsFew
open Go.ChangeShapes Go.WideShapes Go.ChangeAt Go.RowKit
open Go.ChangeMaps (open_string shut_string)
set_option linter.unusedVariables false      -- a walk need not use every 'w<i>' (that an integer argument fits its kind)

theorem own : ownKnob Try.prog.godebug = none := by kernel_rfl

theorem walk (a0 : Int) (a1 : Int) (w0 : (Lit.int .u64 a0).wf = true) (w1 : (Lit.int .u64 a1).wf = true) (w : World) :
    Calls Try.prog 7 #[.int .u64 a0, .int .u64 a1] w fun e w' => e = .returned (.bool true) ∧ Below w.heap.size w w' := by
  obtain ⟨l0, l1⟩ := bounds_u64 w0
  obtain ⟨m0, m1⟩ := bounds_u64 w1
  clear w0 w1
  by_cases hab : a1 < a0
  · go_enter Try.func7, Try.ntmps7
    go_wp2_with (go_at_call 9; refine (awake_any _).mono ?_; rintro e w1 ⟨rfl, hb⟩)
    go_ret
    exact ⟨rfl, hb⟩
  · have H0 := fun w => len_any a0 w l0 l1
    have H1 := fun w => len_any a1 w m0 m1
    have g1 := Pl.put_length_pos 9 a1
    have g2 := Pl.put_length_le 9 a1
    have g3 := Pl.put_length_mono 9 a0 a1 (by omega)
    have g4 : Hid _ := Pl.put_length_lt 9 a1 m0
    have g5 : Hid _ := Pl.put_length_ge 9 a1 m0
    change (Pl.putI a0).length ≤ (Pl.putI a1).length at g3
    change 1 ≤ (Pl.putI a1).length at g1
    change (Pl.putI a1).length ≤ 9 + 1 at g2
    change Hid ((Pl.putI a1).length ≤ 9 → a1 < 128 ^ (Pl.putI a1).length) at g4
    change Hid (2 ≤ (Pl.putI a1).length → 128 ^ ((Pl.putI a1).length - 1) ≤ a1) at g5
    generalize (Pl.putI a0).length = n0 at *
    generalize (Pl.putI a1).length = n1 at *
    have hc : n1 = 1 ∨ n1 = 2 ∨ n1 = 3 ∨ n1 = 4 ∨ n1 = 5 ∨ n1 = 6 ∨ n1 = 7 ∨ n1 = 8 ∨ n1 = 9 ∨ n1 = 10 := by omega
    rcases hc with rfl | rfl | rfl | rfl | rfl | rfl | rfl | rfl | rfl | rfl
    all_goals
      have k4 := g4.out
      have k5 := g5.out
      clear g4 g5
      simp at k4 k5
      go_enter Try.func7, Try.ntmps7
      go_wp2_with (first | (go_at_call 9; refine (awake_any _).mono ?_; rintro e w1 ⟨rfl, hb⟩) | (go_at_call_of 15 (Value.int IntKind.u64 a0); refine (H0 _).mono ?_; rintro e w2 ⟨rfl, hw⟩; obtain rfl := hw.symm; clear hw) | (go_at_call_of 15 (Value.int IntKind.u64 a1); refine (H1 _).mono ?_; rintro e w2 ⟨rfl, hw⟩; obtain rfl := hw.symm; clear hw))
      go_ret
      exact ⟨by simp [*], hb⟩

/-! ### THE ROW's STEP: WRITTEN OUT: LEAVE IT -/
set_option maxRecDepth 100000 in
theorem lifted (os : Os) (started : os.Started) (H : Type) (enc : TypeId × Value → H) :
    ReturnsInHanded {} Try.checked os 7 .any (Rows.bitsFewSpec.pre6 enc Try.prog Try.f7 Rows.bitsFewRow.domain false) (Rows.bitsFewSpec.post enc Try.prog Try.f7 false true false false) := by
  refine returnsInHanded_of_change (C := Try.checked) own started (by kernel_rfl) Try.func7
    (ChangeSpec.witness6 (enc := enc) (C := Try.checked) false ⟨#[], #[.int .u64 0, .int .u64 0], []⟩ 8 (by kernel_rfl) (by kernel_rfl) (by kernel_rfl) (by kernel_rfl)) ?_
  intro W base args ds gs before hval0 hW hcnd _
  have hval : ∀ (j : Nat) t v, Try.f7.params[j]? = some t → args[j]? = some v → Value.okWide Try.prog W .any base t v := hval0
  have hW' := hW
  obtain ⟨p, q, hA0, hV, rfl, hfz, hnd⟩ := hW
  have hA : DataW.TrodAll enc Try.prog W 0 (fun _ => true) true Try.f7.params.toList args.toList ds p := hA0
  rw [Try.params7] at hA hval
  obtain ⟨v0, vs0, d0, ds0, p0, q0, hargs, rfl, rfl, h0, r0⟩ := trodAll_cons hA
  obtain ⟨v1, vs1, d1, ds1, p1, q1, rfl, rfl, rfl, h1, r1⟩ := trodAll_cons r0
  obtain ⟨rfl, rfl, rfl⟩ := trodAll_nil r1
  obtain rfl : args = #[v0, v1] := by cases args; simp_all
  obtain ⟨rfl, rfl⟩ := trodVars_none hV
  obtain ⟨a0, rfl, rfl, rfl, w0⟩ := open_int Try.underlying23 (hval 0 23 v0 rfl rfl) h0
  obtain ⟨a1, rfl, rfl, rfl, w1⟩ := open_int Try.underlying23 (hval 1 23 v1 rfl rfl) h1
  clear hA0 hval0
  refine (walk a0 a1 w0 w1 W).mono fun e W' ⟨he, hg⟩ => ?_
  subst he
  exact ⟨_, rfl, _, _, _, [], _, [], hW', trodAll_mk1 (shut_bool Try.underlying4 _), (trodAll_cons_mk (shut_int Try.underlying23 w0) (trodAll_cons_mk (shut_int Try.underlying23 w1) trodAll_mk0)), rfl, hg.frame _, fun h => by cases h⟩

theorem over : Rows.bitsFewRow.holds Try.pinned (OpenSpec.ofChange Rows.bitsFewSpec) :=
  OpenClaim.holds_of_wide 7 Try.f7 rfl rfl rfl rfl rfl rfl rfl ⟨rfl, rfl, rfl, rfl, rfl⟩ rfl rfl rfl rfl rfl (by kernel_rfl) Try.func7 (by kernel_rfl)
    (of_decide_eq_true (by kernel_rfl)) (by unfold Func.isWrapper; first | (rw [if_pos (by decide +kernel)]; kernel_rfl) | (rw [if_neg (by decide +kernel)]; exact ⟨rfl, rfl⟩))
    (fun os started H enc _ => lifted os started H enc)

/-- ████ THE STATEMENT ████ -/
theorem proved : Rows.BitsFewSaid :=
  over
#print axioms proved
end Go.Proofs.Ytpbjdhinogphfaa.bitsFew
namespace Go.Proofs.Ytpbjdhinogphfaa
/-- BitsFew, as given. -/
theorem bitsFew_holds : Rows.BitsFewSaid := bitsFew.proved
end Go.Proofs.Ytpbjdhinogphfaa
