/-
  The document's own reader: Num, Byte, Bytes, End, for every reader.
  What the document's own stamps (hourglassref6: Good, Cmp, Pack, Unpack, Max, Digits, Text) answer.
  What the document reads next: a flag, a stamp, a text, a count, a key.
  What the document's own stamps (hourglassref6: Good, Cmp, Pack, Unpack, Max, Digits, Text) answer.
-/
import Derived.Test.YtcppihpehipelaaRefRd
import Derived.Deep.QuietTactic
import Derived.BigQuiet
import Derived.Test.YtcppihpehipelaaAu55
import Derived.Test.YtcppihpehipelaaAu50
import Derived.Deep.RegionHeld3
namespace Go.Proofs.Ytcppihpehipelaa
open Go.RowKit
set_option linter.unusedVariables false

end Go.Proofs.Ytcppihpehipelaa

namespace Go.Proofs.Ytcppihpehipelaa
open Go.RowKit
set_option linter.unusedVariables false

theorem rcmp6_any (t n t' n' : Int) (w : World) :
    Calls Try.prog 34 #[.agg #[.int .i64 t, .int .u8 n], .agg #[.int .i64 t', .int .u8 n']] w fun e w' => e = .returned (.int .i64 (cmpS t n t' n')) ∧ Below w.heap.size w w' := by
  have HB : Hid (Below w.heap.size w ((w.alloc (.cells #[.int .i64 t, .int .u8 n] 28)).alloc (.cells #[.int .i64 t', .int .u8 n'] 28))) := ((Below.refl _ _).alloc (Nat.le_refl _) _).alloc (by simp) _
  by_cases h1 : t < t'
  · have b1 : decide (t < t') = true := decide_eq_true h1
    rw [cmp_lt (.inl h1)]
    go_enter Try.func34, Try.ntmps34
    go_wp2
    go_ret
    exact ⟨rfl, HB.out⟩
  · have b1 : decide (t < t') = false := decide_eq_false h1
    by_cases h2 : t = t'
    · subst h2
      by_cases h3 : n < n'
      · have b3 : decide (n < n') = true := decide_eq_true h3
        rw [cmp_lt (.inr ⟨rfl, h3⟩)]
        go_enter Try.func34, Try.ntmps34
        go_wp2
        go_ret
        exact ⟨rfl, HB.out⟩
      · have b3 : decide (n < n') = false := decide_eq_false h3
        by_cases h4 : n = n'
        · subst h4
          rw [cmp_eq]
          go_enter Try.func34, Try.ntmps34
          go_wp2
          go_ret
          exact ⟨rfl, HB.out⟩
        · have b4 : (n == n') = false := by simpa using h4
          rw [cmp_gt (.inr ⟨rfl, by omega⟩)]
          go_enter Try.func34, Try.ntmps34
          go_wp2
          go_ret
          exact ⟨rfl, HB.out⟩
    · have b2 : (t == t') = false := by simpa using h2
      rw [cmp_gt (.inl (by omega))]
      go_enter Try.func34, Try.ntmps34
      go_wp2
      go_ret
      exact ⟨rfl, HB.out⟩
end Go.Proofs.Ytcppihpehipelaa

namespace Go.Proofs.Ytcppihpehipelaa
open Go.RowKit
set_option linter.unusedVariables false

theorem Rds.bool {o o1 o2 : Option (List Int)} {c : Int} (h : Rds byteP o o1 c) (h2 : (1 < c ∧ o2 = none) ∨ (¬ 1 < c ∧ o2 = o1)) : Rds boolP o o2 (decide (c = 1)) := by
  refine h.seq ?_
  rcases h2 with ⟨hc, rfl⟩ | ⟨hc, rfl⟩
  · rw [if_pos hc]; exact .non _ _
  · rw [if_neg hc]; exact .ret _ _
theorem Rds.count {o o1 o2 : Option (List Int)} {c v n : Int} (h : Rds numP o o1 c) (h2 : (n < c ∧ o2 = none) ∨ (¬ n < c ∧ o2 = o1 ∧ v = c)) : Rds (countP n) o o2 v := by
  refine h.seq ?_
  rcases h2 with ⟨hc, rfl⟩ | ⟨hc, rfl, rfl⟩
  · rw [if_pos hc]; exact .non _ _
  · rw [if_neg hc]; exact .ret _ _
end Go.Proofs.Ytcppihpehipelaa

namespace Go.Proofs.Ytcppihpehipelaa
open Go.RowKit
set_option linter.unusedVariables false

theorem set_two {w : World} {g : Nat} {a b : Value} (h0 : w.cell? ⟨g, 0, none⟩ = some a) (h1 : w.cell? ⟨g, 1, none⟩ = some b) : (∀ x y, ((w.setCell ⟨g, 0, none⟩ x).setCell ⟨g, 1, none⟩ y).cell? ⟨g, 1, none⟩ = some y) ∧ (∀ x y, ((w.setCell ⟨g, 0, none⟩ x).setCell ⟨g, 1, none⟩ y).cell? ⟨g, 0, none⟩ = some x) :=
  ⟨fun x y => World.cell?_setCell_same _ _ _ ((World.cell?_setCell_other _ _ _ _ (by intro h'; injection h' with _ h2; omega)).trans h1), fun x y => (World.cell?_setCell_other _ _ _ _ (by intro h'; injection h' with _ h2; omega)).trans (World.cell?_setCell_same _ _ _ h0)⟩
/-- Two stamps that came in and a third that is to go out, each in a block of its own. -/
structure Three (w u : World) (t n t' n' : Int) : Prop where
  a0 : u.cell? ⟨w.heap.size, 0, none⟩ = some (.int .i64 t)
  a1 : u.cell? ⟨w.heap.size, 1, none⟩ = some (.int .u8 n)
  b0 : u.cell? ⟨w.heap.size + 1, 0, none⟩ = some (.int .i64 t')
  b1 : u.cell? ⟨w.heap.size + 1, 1, none⟩ = some (.int .u8 n')
  c0 : u.cell? ⟨w.heap.size + 2, 0, none⟩ = some (.int .i64 0)
  c1 : u.cell? ⟨w.heap.size + 2, 1, none⟩ = some (.int .u8 0)
  free : ∀ j, u.frozen? ⟨w.heap.size + 2, j, none⟩ = false
  below : Below w.heap.size w u
  lt : w.heap.size + 2 < u.heap.size
theorem Three.made (w : World) (T : TypeId) (t n t' n' : Int) : Three w (((w.alloc (.cells #[.int .i64 t, .int .u8 n] T)).alloc (.cells #[.int .i64 t', .int .u8 n'] T)).alloc (.cells #[.int .i64 0, .int .u8 0] T)) t n t' n' := by
  obtain ⟨u1, h1⟩ : ∃ u, u = w.alloc (.cells #[.int .i64 t, .int .u8 n] T) := ⟨_, rfl⟩
  obtain ⟨u2, h2⟩ : ∃ u, u = u1.alloc (.cells #[.int .i64 t', .int .u8 n'] T) := ⟨_, rfl⟩
  have s1 : u1.heap.size = w.heap.size + 1 := by rw [h1]; simp
  have s2 : u2.heap.size = w.heap.size + 2 := by rw [h2]; simp [s1]
  have a0 : u1.cell? ⟨w.heap.size, 0, none⟩ = some (.int .i64 t) := by rw [h1, World.cell?_alloc_new]; rfl
  have a1 : u1.cell? ⟨w.heap.size, 1, none⟩ = some (.int .u8 n) := by rw [h1, World.cell?_alloc_new]; rfl
  have b0 : u2.cell? ⟨w.heap.size + 1, 0, none⟩ = some (.int .i64 t') := by rw [h2, ← s1, World.cell?_alloc_new]; rfl
  have b1 : u2.cell? ⟨w.heap.size + 1, 1, none⟩ = some (.int .u8 n') := by rw [h2, ← s1, World.cell?_alloc_new]; rfl
  rw [← h1, ← h2]
  refine ⟨?_, ?_, ?_, ?_, ?_, ?_, fun j => ?_, ?_, by simp [s2]⟩
  · rw [World.cell?_alloc_lt _ _ _ (by show w.heap.size < _; omega), h2, World.cell?_alloc_lt _ _ _ (by show w.heap.size < _; omega)]; exact a0
  · rw [World.cell?_alloc_lt _ _ _ (by show w.heap.size < _; omega), h2, World.cell?_alloc_lt _ _ _ (by show w.heap.size < _; omega)]; exact a1
  · rw [World.cell?_alloc_lt _ _ _ (by show w.heap.size + 1 < _; omega)]; exact b0
  · rw [World.cell?_alloc_lt _ _ _ (by show w.heap.size + 1 < _; omega)]; exact b1
  · rw [← s2, World.cell?_alloc_new]; rfl
  · rw [← s2, World.cell?_alloc_new]; rfl
  · rw [← s2]; exact World.frozen?_alloc_new _ _ _ _
  · rw [h2, h1]; exact (((Below.refl _ _).alloc (Nat.le_refl _) _).alloc (by simp) _).alloc (by simp; omega) _
theorem Three.step {w u u' : World} {t n t' n' : Int} (h : Three w u t n t' n') (hb : Below u.heap.size u u') : Three w u' t n t' n' := by
  have l := h.lt
  refine ⟨?_, ?_, ?_, ?_, ?_, ?_, fun j => (hb.frozen (p := ⟨w.heap.size + 2, j, none⟩) (by show w.heap.size + 2 < _; omega)).trans (h.free j), h.below.trans (hb.mono h.below.size), Nat.lt_of_lt_of_le h.lt hb.size⟩
  · rw [hb.cell (p := ⟨w.heap.size, 0, none⟩) (by show w.heap.size < _; omega)]; exact h.a0
  · rw [hb.cell (p := ⟨w.heap.size, 1, none⟩) (by show w.heap.size < _; omega)]; exact h.a1
  · rw [hb.cell (p := ⟨w.heap.size + 1, 0, none⟩) (by show w.heap.size + 1 < _; omega)]; exact h.b0
  · rw [hb.cell (p := ⟨w.heap.size + 1, 1, none⟩) (by show w.heap.size + 1 < _; omega)]; exact h.b1
  · rw [hb.cell (p := ⟨w.heap.size + 2, 0, none⟩) (by show w.heap.size + 2 < _; omega)]; exact h.c0
  · rw [hb.cell (p := ⟨w.heap.size + 2, 1, none⟩) (by show w.heap.size + 2 < _; omega)]; exact h.c1
theorem rmax6_any (t n t' n' : Int) (w : World) :
    Calls Try.prog 33 #[.agg #[.int .i64 t, .int .u8 n], .agg #[.int .i64 t', .int .u8 n']] w fun e w' => e = .returned (.agg #[.int .i64 (mxS t n t' n').1, .int .u8 (mxS t n t' n').2]) ∧ Below w.heap.size w w' := by
  have H0 : Hid (Three w (((w.alloc (.cells #[.int .i64 t, .int .u8 n] 28)).alloc (.cells #[.int .i64 t', .int .u8 n'] 28)).alloc (.cells #[.int .i64 0, .int .u8 0] 28)) t n t' n') := Three.made w 28 t n t' n'
  by_cases h : ltS t n t' n'
  · have CC : Hid (∀ w, Calls Try.prog 34 #[.agg #[.int .i64 t, .int .u8 n], .agg #[.int .i64 t', .int .u8 n']] w fun e w' => e = .returned (.int .i64 (-1)) ∧ Below w.heap.size w w') := fun w => by
      have c := rcmp6_any t n t' n' w
      rw [cmp_lt h] at c
      exact c
    have e : mxS t n t' n' = (t', n') := if_pos h
    rw [e]
    clear e h
    go_enter Try.func33, Try.ntmps33
    go_wp2_with (go_at_call 34; refine (CC.out _).mono ?_; rintro e w1 ⟨rfl, hb1⟩; have H1 : Hid (Three w w1 t n t' n') := H0.out.step hb1; have q0 := H1.out.b0; have q1 := H1.out.b1; have z0 := H1.out.c0; have z1 := H1.out.c1; have f0 := H1.out.free 0; have f1 := H1.out.free 1; clear hb1)
    obtain ⟨r1, r2⟩ := set_two z0 z1
    (try simp only [Exit.inBlock, Exit.then])
    refine bodyPost_ret (v := .agg #[.int .i64 t', .int .u8 n']) (by simp [results, Try.results33, go_sem, r1, r2]) rfl ?_
    exact ⟨rfl, (H1.out.below.setCell (by show w.heap.size ≤ w.heap.size + 2; omega) _).setCell (by show w.heap.size ≤ w.heap.size + 2; omega) _⟩
  · have CC : Hid (∀ w, Calls Try.prog 34 #[.agg #[.int .i64 t, .int .u8 n], .agg #[.int .i64 t', .int .u8 n']] w fun e w' => (∃ k : Int, e = .returned (.int .i64 k) ∧ 0 ≤ k) ∧ Below w.heap.size w w') := fun w => by
      refine (rcmp6_any t n t' n' w).mono ?_
      rintro e w' ⟨rfl, hb⟩
      refine ⟨⟨_, rfl, ?_⟩, hb⟩
      unfold cmpS
      rw [if_neg h]
      split <;> omega
    have e : mxS t n t' n' = (t, n) := if_neg h
    rw [e]
    clear e h
    go_enter Try.func33, Try.ntmps33
    go_wp2_with (go_at_call 34; refine (CC.out _).mono ?_; rintro e w1 ⟨⟨k, rfl, hk⟩, hb1⟩; have H1 : Hid (Three w w1 t n t' n') := H0.out.step hb1; have q0 := H1.out.a0; have q1 := H1.out.a1; have z0 := H1.out.c0; have z1 := H1.out.c1; have f0 := H1.out.free 0; have f1 := H1.out.free 1; clear hb1)
    obtain ⟨r1, r2⟩ := set_two z0 z1
    (try simp only [Exit.inBlock, Exit.then])
    refine bodyPost_ret (v := .agg #[.int .i64 t, .int .u8 n]) (by simp [results, Try.results33, go_sem, r1, r2]) rfl ?_
    exact ⟨rfl, (H1.out.below.setCell (by show w.heap.size ≤ w.heap.size + 2; omega) _).setCell (by show w.heap.size ≤ w.heap.size + 2; omega) _⟩
end Go.Proofs.Ytcppihpehipelaa

