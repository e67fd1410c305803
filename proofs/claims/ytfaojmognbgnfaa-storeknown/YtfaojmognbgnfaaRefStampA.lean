/-
  What the document's own stamps (hourglassref6: Good, Cmp, Pack, Unpack, Max, Digits, Text) answer.
-/
import Derived.Test.YtfaojmognbgnfaaPa
import Derived.Test.YtfaojmognbgnfaaBase
import Derived.Deep.RegionHeld3
namespace Go.Proofs.Ytfaojmognbgnfaa
open Go.RowKit
set_option linter.unusedVariables false

theorem rcmp6_any (t n t' n' : Int) (w : World) :
    Calls Try.prog 22 #[.agg #[.int .i64 t, .int .u8 n], .agg #[.int .i64 t', .int .u8 n']] w fun e w' => e = .returned (.int .i64 (cmpS t n t' n')) ∧ Below w.heap.size w w' := by
  have HB : Hid (Below w.heap.size w ((w.alloc (.cells #[.int .i64 t, .int .u8 n] 28)).alloc (.cells #[.int .i64 t', .int .u8 n'] 28))) := ((Below.refl _ _).alloc (Nat.le_refl _) _).alloc (by simp) _
  by_cases h1 : t < t'
  · have b1 : decide (t < t') = true := decide_eq_true h1
    rw [cmp_lt (.inl h1)]
    go_enter Try.func22, Try.ntmps22
    go_wp2
    go_ret
    exact ⟨rfl, HB.out⟩
  · have b1 : decide (t < t') = false := decide_eq_false h1
    by_cases h2 : t = t'
    · subst h2
      by_cases h3 : n < n'
      · have b3 : decide (n < n') = true := decide_eq_true h3
        rw [cmp_lt (.inr ⟨rfl, h3⟩)]
        go_enter Try.func22, Try.ntmps22
        go_wp2
        go_ret
        exact ⟨rfl, HB.out⟩
      · have b3 : decide (n < n') = false := decide_eq_false h3
        by_cases h4 : n = n'
        · subst h4
          rw [cmp_eq]
          go_enter Try.func22, Try.ntmps22
          go_wp2
          go_ret
          exact ⟨rfl, HB.out⟩
        · have b4 : (n == n') = false := by simpa using h4
          rw [cmp_gt (.inr ⟨rfl, by omega⟩)]
          go_enter Try.func22, Try.ntmps22
          go_wp2
          go_ret
          exact ⟨rfl, HB.out⟩
    · have b2 : (t == t') = false := by simpa using h2
      rw [cmp_gt (.inl (by omega))]
      go_enter Try.func22, Try.ntmps22
      go_wp2
      go_ret
      exact ⟨rfl, HB.out⟩
end Go.Proofs.Ytfaojmognbgnfaa
