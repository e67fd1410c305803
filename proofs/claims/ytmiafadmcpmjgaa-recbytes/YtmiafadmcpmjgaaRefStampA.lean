/-
  What the document's own stamps (hourglassref6: Good, Cmp, Pack, Unpack, Max, Digits, Text) answer.
-/
import Derived.Test.YtmiafadmcpmjgaaPa
import Derived.Test.YtmiafadmcpmjgaaRowBase
import Derived.Deep.RegionHeld3
namespace Go.Proofs.Ytmiafadmcpmjgaa
open Go.RowKit
set_option linter.unusedVariables false

theorem rgood6_any (t n : Int) (w : World) :
    Calls Try.prog 56 #[.agg #[.int .i64 t, .int .u8 n]] w fun e w' => e = .returned (.bool (decide (okS t))) ∧ Below w.heap.size w w' := by
  have HB : Hid (Below w.heap.size w (w.alloc (.cells #[.int .i64 t, .int .u8 n] 24))) := (Below.refl _ _).alloc (Nat.le_refl _) _
  by_cases h0 : 0 ≤ t
  · have b0 : decide (0 ≤ t) = true := decide_eq_true h0
    by_cases h1 : t ≤ 36028797018963967
    · have b1 : decide (t ≤ 36028797018963967) = true := decide_eq_true h1
      rw [decide_eq_true (show okS t from ⟨h0, h1⟩)]
      go_enter Try.func56, Try.ntmps56
      go_wp2
      go_ret
      exact ⟨rfl, HB.out⟩
    · have b1 : decide (t ≤ 36028797018963967) = false := decide_eq_false h1
      rw [decide_eq_false (show ¬ okS t from fun h => h1 h.2)]
      go_enter Try.func56, Try.ntmps56
      go_wp2
      go_ret
      exact ⟨rfl, HB.out⟩
  · have b0 : decide (0 ≤ t) = false := decide_eq_false h0
    rw [decide_eq_false (show ¬ okS t from fun h => h0 h.1)]
    go_enter Try.func56, Try.ntmps56
    go_wp2
    go_ret
    exact ⟨rfl, HB.out⟩
theorem rcmp6_any (t n t' n' : Int) (w : World) :
    Calls Try.prog 83 #[.agg #[.int .i64 t, .int .u8 n], .agg #[.int .i64 t', .int .u8 n']] w fun e w' => e = .returned (.int .i64 (cmpS t n t' n')) ∧ Below w.heap.size w w' := by
  have HB : Hid (Below w.heap.size w ((w.alloc (.cells #[.int .i64 t, .int .u8 n] 24)).alloc (.cells #[.int .i64 t', .int .u8 n'] 24))) := ((Below.refl _ _).alloc (Nat.le_refl _) _).alloc (by simp) _
  by_cases h1 : t < t'
  · have b1 : decide (t < t') = true := decide_eq_true h1
    rw [cmp_lt (.inl h1)]
    go_enter Try.func83, Try.ntmps83
    go_wp2
    go_ret
    exact ⟨rfl, HB.out⟩
  · have b1 : decide (t < t') = false := decide_eq_false h1
    by_cases h2 : t = t'
    · subst h2
      by_cases h3 : n < n'
      · have b3 : decide (n < n') = true := decide_eq_true h3
        rw [cmp_lt (.inr ⟨rfl, h3⟩)]
        go_enter Try.func83, Try.ntmps83
        go_wp2
        go_ret
        exact ⟨rfl, HB.out⟩
      · have b3 : decide (n < n') = false := decide_eq_false h3
        by_cases h4 : n = n'
        · subst h4
          rw [cmp_eq]
          go_enter Try.func83, Try.ntmps83
          go_wp2
          go_ret
          exact ⟨rfl, HB.out⟩
        · have b4 : (n == n') = false := by simpa using h4
          rw [cmp_gt (.inr ⟨rfl, by omega⟩)]
          go_enter Try.func83, Try.ntmps83
          go_wp2
          go_ret
          exact ⟨rfl, HB.out⟩
    · have b2 : (t == t') = false := by simpa using h2
      rw [cmp_gt (.inl (by omega))]
      go_enter Try.func83, Try.ntmps83
      go_wp2
      go_ret
      exact ⟨rfl, HB.out⟩
end Go.Proofs.Ytmiafadmcpmjgaa
