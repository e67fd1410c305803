/-
  What the landed stamps' Good and Cmp answer (no variable of the library is asked).
  What the landed stamps' Pack and Unpack answer (no variable of the library is asked).
-/
import Derived.Test.YtmiafadmcpmjgaaRefStampA
import Derived.Deep.RegionHeld3
import Derived.Test.YtmiafadmcpmjgaaRefStamp
import Derived.Laws.BitsLemmas
namespace Go.Proofs.Ytmiafadmcpmjgaa
open Go.RowKit
set_option linter.unusedVariables false

theorem sgood_any (t n : Int) (w : World) :
    Calls Try.prog 34 #[.agg #[.int .i64 t, .int .u8 n]] w fun e w' => e = .returned (.bool (decide (okS t))) ∧ Below w.heap.size w w' := by
  have HB : Hid (Below w.heap.size w (w.alloc (.cells #[.int .i64 t, .int .u8 n] 24))) := (Below.refl _ _).alloc (Nat.le_refl _) _
  by_cases h0 : 0 ≤ t
  · have b0 : decide (0 ≤ t) = true := decide_eq_true h0
    by_cases h1 : t ≤ 36028797018963967
    · have b1 : decide (t ≤ 36028797018963967) = true := decide_eq_true h1
      rw [decide_eq_true (show okS t from ⟨h0, h1⟩)]
      go_enter Try.func34, Try.ntmps34
      go_wp2
      go_ret
      exact ⟨rfl, HB.out⟩
    · have b1 : decide (t ≤ 36028797018963967) = false := decide_eq_false h1
      rw [decide_eq_false (show ¬ okS t from fun h => h1 h.2)]
      go_enter Try.func34, Try.ntmps34
      go_wp2
      go_ret
      exact ⟨rfl, HB.out⟩
  · have b0 : decide (0 ≤ t) = false := decide_eq_false h0
    rw [decide_eq_false (show ¬ okS t from fun h => h0 h.1)]
    go_enter Try.func34, Try.ntmps34
    go_wp2
    go_ret
    exact ⟨rfl, HB.out⟩
theorem scmp_any (t n t' n' : Int) (w : World) :
    Calls Try.prog 35 #[.agg #[.int .i64 t, .int .u8 n], .agg #[.int .i64 t', .int .u8 n']] w fun e w' => e = .returned (.int .i64 (cmpS t n t' n')) ∧ Below w.heap.size w w' := by
  have HB : Hid (Below w.heap.size w ((w.alloc (.cells #[.int .i64 t, .int .u8 n] 24)).alloc (.cells #[.int .i64 t', .int .u8 n'] 24))) := ((Below.refl _ _).alloc (Nat.le_refl _) _).alloc (by simp) _
  by_cases h1 : t < t'
  · have b1 : decide (t < t') = true := decide_eq_true h1
    rw [cmp_lt (.inl h1)]
    go_enter Try.func35, Try.ntmps35
    go_wp2
    go_ret
    exact ⟨rfl, HB.out⟩
  · have b1 : decide (t < t') = false := decide_eq_false h1
    by_cases h2 : t' < t
    · have b2 : decide (t' < t) = true := decide_eq_true h2
      rw [cmp_gt (.inl h2)]
      go_enter Try.func35, Try.ntmps35
      go_wp2
      go_ret
      exact ⟨rfl, HB.out⟩
    · have b2 : decide (t' < t) = false := decide_eq_false h2
      have e : t = t' := by omega
      subst e
      by_cases h3 : n < n'
      · have b3 : decide (n < n') = true := decide_eq_true h3
        rw [cmp_lt (.inr ⟨rfl, h3⟩)]
        go_enter Try.func35, Try.ntmps35
        go_wp2
        go_ret
        exact ⟨rfl, HB.out⟩
      · have b3 : decide (n < n') = false := decide_eq_false h3
        by_cases h4 : n' < n
        · have b4 : decide (n' < n) = true := decide_eq_true h4
          rw [cmp_gt (.inr ⟨rfl, h4⟩)]
          go_enter Try.func35, Try.ntmps35
          go_wp2
          go_ret
          exact ⟨rfl, HB.out⟩
        · have b4 : decide (n' < n) = false := decide_eq_false h4
          have e : n = n' := by omega
          subst e
          rw [cmp_eq]
          go_enter Try.func35, Try.ntmps35
          go_wp2
          go_ret
          exact ⟨rfl, HB.out⟩
end Go.Proofs.Ytmiafadmcpmjgaa

namespace Go.Proofs.Ytmiafadmcpmjgaa
open Go.RowKit
set_option linter.unusedVariables false

theorem wraps_u64 : ∀ n : Int, 0 ≤ n → n < 2 ^ 64 → IntKind.u64.wrap n = n := fun n h0 h1 => by rw [IntKind.wrap_u64]; omega
theorem or_low (t n : Int) (h0 : 0 ≤ t) (h1 : t ≤ 36028797018963967) (hn : 0 ≤ n ∧ n ≤ 255) : bits .or .u64 (t * 256) n = t * 256 + n :=
  bits_join .u64 64 (by decide) wraps_u64 8 (t * 256) n (by omega) (by omega) (by omega) hn.1 (by omega) (by omega)
theorem spack_any (t n : Int) (w : World) (hn : 0 ≤ n ∧ n ≤ 255) :
    Calls Try.prog 74 #[.agg #[.int .i64 t, .int .u8 n]] w fun e w' => e = .returned (.tuple #[.int .u64 (if okS t then t * 256 + n else 0), .int .i64 (if okS t then 0 else 1)]) ∧ Below w.heap.size w w' := by
  have CG : Hid (∀ w, Calls Try.prog 34 #[.agg #[.int .i64 t, .int .u8 n]] w fun e w' => e = .returned (.bool (decide (okS t))) ∧ Below w.heap.size w w') := fun w => sgood_any t n w
  have HB : Hid (Below w.heap.size w (w.alloc (.cells #[.int .i64 t, .int .u8 n] 24))) := (Below.refl _ _).alloc (Nat.le_refl _) _
  have q0 : (w.alloc (.cells #[.int .i64 t, .int .u8 n] 24)).cell? ⟨w.heap.size, 0, none⟩ = some (.int .i64 t) := by rw [World.cell?_alloc_new]; rfl
  have q1 : (w.alloc (.cells #[.int .i64 t, .int .u8 n] 24)).cell? ⟨w.heap.size, 1, none⟩ = some (.int .u8 n) := by rw [World.cell?_alloc_new]; rfl
  have HQ : Hid (∀ u, Below (w.heap.size + 1) (w.alloc (.cells #[.int .i64 t, .int .u8 n] 24)) u → u.cell? ⟨w.heap.size, 0, none⟩ = some (.int .i64 t) ∧ u.cell? ⟨w.heap.size, 1, none⟩ = some (.int .u8 n)) := fun u hb => ⟨by rw [hb.cell (p := ⟨w.heap.size, 0, none⟩) (by simp)]; exact q0, by rw [hb.cell (p := ⟨w.heap.size, 1, none⟩) (by simp)]; exact q1⟩
  clear q0 q1
  by_cases h : okS t
  · rw [decide_eq_true h] at CG
    rw [if_pos h, if_pos h]
    obtain ⟨h0, h1⟩ := h
    go_enter Try.func74, Try.ntmps74
    go_wp2_with (go_at_call 34; refine (CG.out _).mono ?_; rintro e w1 ⟨rfl, hb1⟩; have B1 : Hid (Below w.heap.size w w1) := HB.out.trans (hb1.mono HB.out.size); have c0 := (HQ.out w1 (hb1.mono (by simp))).1; have c1 := (HQ.out w1 (hb1.mono (by simp))).2; clear hb1)
    have hor := or_low t n h0 h1 hn
    go_ret2
    exact ⟨by rw [← hor]; rfl, B1.out⟩
  · rw [decide_eq_false h] at CG
    rw [if_neg h, if_neg h]
    clear h
    go_enter Try.func74, Try.ntmps74
    go_wp2_with (go_at_call 34; refine (CG.out _).mono ?_; rintro e w1 ⟨rfl, hb1⟩; have B1 : Hid (Below w.heap.size w w1) := HB.out.trans (hb1.mono HB.out.size); clear hb1)
    go_ret2
    exact ⟨rfl, B1.out⟩
theorem sunpack_any (v : Int) (w : World) (hv : 0 ≤ v ∧ v ≤ 18446744073709551615) :
    Calls Try.prog 86 #[.int .u64 v] w fun e w' => e = .returned (.tuple #[.agg #[.int .i64 (if v < 9223372036854775808 then v / 256 else 0), .int .u8 (if v < 9223372036854775808 then v % 256 else 0)], .int .i64 (if v < 9223372036854775808 then 0 else 1)]) ∧ Below w.heap.size w w' := by
  by_cases h : v < 9223372036854775808
  · rw [if_pos h, if_pos h, if_pos h]
    have hb : (v / 9223372036854775808 != 0) = false := by simp; omega
    go_enter Try.func86, Try.ntmps86
    go_wp2
    go_returns
    exact ⟨rfl, (Below.refl _ _).alloc (Nat.le_refl _) _⟩
  · rw [if_neg h, if_neg h, if_neg h]
    have hb : (v / 9223372036854775808 != 0) = true := by simp; omega
    go_enter Try.func86, Try.ntmps86
    go_wp2
    go_returns
    exact ⟨rfl, (Below.refl _ _).alloc (Nat.le_refl _) _⟩
end Go.Proofs.Ytmiafadmcpmjgaa

