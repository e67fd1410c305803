/-
  BitsCuts: for every number and every count of bits the law's Go text returns true: what fits in the bits is cut and read with its sign again, and just the numbers between the ends do. No conditions.
-/
import Derived.Test.YtpbjdhinogphfaaRows
import Derived.Test.YtpbjdhinogphfaaAwake
import Derived.Test.YtpbjdhinogphfaaLeafA
import Derived.WalkKit
import Derived.ProofKit
import Derived.OpenShut
import Derived.ShutString
import Derived.ChangeOld
import Derived.Below
namespace Go.Proofs.Ytpbjdhinogphfaa.bitsCuts
open Go.ChangeShapes Go.WideShapes Go.ChangeAt Go.RowKit
open Go.ChangeMaps (open_string shut_string)
set_option linter.unusedVariables false      -- a walk need not use every 'w<i>' (that an integer argument fits its kind)

theorem own : ownKnob Try.prog.godebug = none := by kernel_rfl

theorem walk (a0 : Int) (a1 : Int) (w0 : (Lit.int .i64 a0).wf = true) (w1 : (Lit.int .i64 a1).wf = true) (w : World) :
    Calls Try.prog 8 #[.int .i64 a0, .int .i64 a1] w fun e w' => e = .returned (.bool true) ∧ Below w.heap.size w w' := by
  obtain ⟨l0, l1⟩ := bounds_i64 w0
  obtain ⟨m0, m1⟩ := bounds_i64 w1
  clear w0 w1
  by_cases hn : 1 ≤ a1
  · by_cases hn' : a1 ≤ 63
    · have HC := fun w => cut_any a0 a1 w l0 l1 m0 m1
      have hl := Pl.low_bd a0 a1
      have hm := Pl.low_max a0 a1
      have HS := fun w => sign_any (Pl.lowI a0 a1) a1 w hm.1 hm.2 m0 m1
      have hq := Pl.whole_wrap a1 hn hn'
      have hh := Pl.half_wrap a1 hn hn'
      have hhb := Pl.h_le a1 hn hn'
      have hf : Hid _ := Pl.sign_fits a0 a1
      have hsl := Pl.sign_low a0 a1
      have hlq : Pl.lowI a0 a1 < Pl.qI a1 := hl.2
      have hcase : (-Pl.hI a1 ≤ a0 ∧ a0 < Pl.hI a1) ∨ a0 < -Pl.hI a1 ∨ (-Pl.hI a1 ≤ a0 ∧ Pl.hI a1 ≤ a0) := by omega
      rcases hcase with ⟨c1, c2⟩ | c1 | ⟨c1, c2⟩
      · have hs : (Pl.signI a0 a1 == a0) = true := by simpa using hf.out.2 ⟨c1, c2⟩
        go_enter Try.func8, Try.ntmps8
        go_wp2_with (first | (go_at_call 9; refine (awake_any _).mono ?_; rintro e w1 ⟨rfl, hb⟩) | (go_at_call 11; refine (HC _).mono ?_; rintro e w2 ⟨rfl, hw⟩; obtain rfl := hw.symm; clear hw) | (go_at_call 14; refine (HS _).mono ?_; rintro e w2 ⟨rfl, hw⟩; obtain rfl := hw.symm; clear hw))
        go_ret
        exact ⟨rfl, hb⟩
      · have hs : (Pl.signI a0 a1 == a0) = false := by
          have := mt hf.out.1 (by omega); simpa using this
        go_enter Try.func8, Try.ntmps8
        go_wp2_with (first | (go_at_call 9; refine (awake_any _).mono ?_; rintro e w1 ⟨rfl, hb⟩) | (go_at_call 11; refine (HC _).mono ?_; rintro e w2 ⟨rfl, hw⟩; obtain rfl := hw.symm; clear hw) | (go_at_call 14; refine (HS _).mono ?_; rintro e w2 ⟨rfl, hw⟩; obtain rfl := hw.symm; clear hw))
        go_ret
        exact ⟨rfl, hb⟩
      · have hs : (Pl.signI a0 a1 == a0) = false := by
          have := mt hf.out.1 (by omega); simpa using this
        go_enter Try.func8, Try.ntmps8
        go_wp2_with (first | (go_at_call 9; refine (awake_any _).mono ?_; rintro e w1 ⟨rfl, hb⟩) | (go_at_call 11; refine (HC _).mono ?_; rintro e w2 ⟨rfl, hw⟩; obtain rfl := hw.symm; clear hw) | (go_at_call 14; refine (HS _).mono ?_; rintro e w2 ⟨rfl, hw⟩; obtain rfl := hw.symm; clear hw))
        go_ret
        exact ⟨by simp [c2], hb⟩
    · go_enter Try.func8, Try.ntmps8
      go_wp2_with (go_at_call 9; refine (awake_any _).mono ?_; rintro e w1 ⟨rfl, hb⟩)
      go_ret
      exact ⟨rfl, hb⟩
  · go_enter Try.func8, Try.ntmps8
    go_wp2_with (go_at_call 9; refine (awake_any _).mono ?_; rintro e w1 ⟨rfl, hb⟩)
    go_ret
    exact ⟨rfl, hb⟩

/-! ### THE ROW's STEP: WRITTEN OUT: LEAVE IT -/
set_option maxRecDepth 100000 in
theorem lifted (os : Os) (started : os.Started) (H : Type) (enc : TypeId × Value → H) :
    ReturnsInHanded {} Try.checked os 8 .any (Rows.bitsCutsSpec.pre6 enc Try.prog Try.f8 Rows.bitsCutsRow.domain false) (Rows.bitsCutsSpec.post enc Try.prog Try.f8 false true false false) := by
  refine returnsInHanded_of_change (C := Try.checked) own started (by kernel_rfl) Try.func8
    (ChangeSpec.witness6 (enc := enc) (C := Try.checked) false ⟨#[], #[.int .i64 0, .int .i64 0], []⟩ 8 (by kernel_rfl) (by kernel_rfl) (by kernel_rfl) (by kernel_rfl)) ?_
  intro W base args ds gs before hval0 hW hcnd _
  have hval : ∀ (j : Nat) t v, Try.f8.params[j]? = some t → args[j]? = some v → Value.okWide Try.prog W .any base t v := hval0
  have hW' := hW
  obtain ⟨p, q, hA0, hV, rfl, hfz, hnd⟩ := hW
  have hA : DataW.TrodAll enc Try.prog W 0 (fun _ => true) true Try.f8.params.toList args.toList ds p := hA0
  rw [Try.params8] at hA hval
  obtain ⟨v0, vs0, d0, ds0, p0, q0, hargs, rfl, rfl, h0, r0⟩ := trodAll_cons hA
  obtain ⟨v1, vs1, d1, ds1, p1, q1, rfl, rfl, rfl, h1, r1⟩ := trodAll_cons r0
  obtain ⟨rfl, rfl, rfl⟩ := trodAll_nil r1
  obtain rfl : args = #[v0, v1] := by cases args; simp_all
  obtain ⟨rfl, rfl⟩ := trodVars_none hV
  obtain ⟨a0, rfl, rfl, rfl, w0⟩ := open_int Try.underlying2 (hval 0 2 v0 rfl rfl) h0
  obtain ⟨a1, rfl, rfl, rfl, w1⟩ := open_int Try.underlying3 (hval 1 3 v1 rfl rfl) h1
  clear hA0 hval0
  refine (walk a0 a1 w0 w1 W).mono fun e W' ⟨he, hg⟩ => ?_
  subst he
  exact ⟨_, rfl, _, _, _, [], _, [], hW', trodAll_mk1 (shut_bool Try.underlying4 _), (trodAll_cons_mk (shut_int Try.underlying2 w0) (trodAll_cons_mk (shut_int Try.underlying3 w1) trodAll_mk0)), rfl, hg.frame _, fun h => by cases h⟩

theorem over : Rows.bitsCutsRow.holds Try.pinned (OpenSpec.ofChange Rows.bitsCutsSpec) :=
  OpenClaim.holds_of_wide 8 Try.f8 rfl rfl rfl rfl rfl rfl rfl ⟨rfl, rfl, rfl, rfl, rfl⟩ rfl rfl rfl rfl rfl (by kernel_rfl) Try.func8 (by kernel_rfl)
    (of_decide_eq_true (by kernel_rfl)) (by unfold Func.isWrapper; first | (rw [if_pos (by decide +kernel)]; kernel_rfl) | (rw [if_neg (by decide +kernel)]; exact ⟨rfl, rfl⟩))
    (fun os started H enc _ => lifted os started H enc)

/-- ████ THE STATEMENT ████ -/
theorem proved : Rows.BitsCutsSaid :=
  over
#print axioms proved
end Go.Proofs.Ytpbjdhinogphfaa.bitsCuts
namespace Go.Proofs.Ytpbjdhinogphfaa
/-- BitsCuts, as given. -/
theorem bitsCuts_holds : Rows.BitsCutsSaid := bitsCuts.proved
end Go.Proofs.Ytpbjdhinogphfaa
