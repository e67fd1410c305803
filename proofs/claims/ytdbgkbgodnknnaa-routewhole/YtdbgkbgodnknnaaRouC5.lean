/-
  What the landed route answers: Parts, Cover.
-/
import Derived.Test.YtdbgkbgodnknnaaRouC4
namespace Go.Proofs.Ytdbgkbgodnknnaa
open Go.RowKit
set_option linter.unusedVariables false
set_option linter.unusedSimpArgs false

theorem nums_nextR (q : Nat → Bool) (n : Nat) (h : q n = true) : (numsR q (n + 1)).map (Value.int .i64) = (numsR q n).map (Value.int .i64) ++ [.int .i64 (n : Int)] := by rw [numsR_next, if_pos h, List.map_append]; rfl
theorem nums_skipR (q : Nat → Bool) (n : Nat) (h : q n = false) : numsR q (n + 1) = numsR q n := by rw [numsR_next, h]; simp
theorem nums_len1 (q : Nat → Bool) (n : Nat) (h : q n = true) : (numsR q (n + 1)).length = (numsR q n).length + 1 := by rw [numsR_next, if_pos h, List.length_append]; rfl
/-- A list of numbers that grows as a walk goes over the nodes. -/
structure GrowR (w0 u : World) (q : Nat → Bool) (i : Nat) (a : Option Addr) (m c : Nat) : Prop where
  own : OwnB 3 1 w0 u (.slice a m c) m ((numsR q i).map (Value.int .i64))
  len : (numsR q i).length = m
theorem GrowR.start (w : World) (q : Nat → Bool) : GrowR w w q 0 none 0 0 := ⟨⟨World.ownsRow_nil _ _ _ _, Below.refl _ _⟩, rfl⟩
theorem GrowR.past {w0 u u' : World} {q : Nat → Bool} {i m c : Nat} {a : Option Addr} (h : GrowR w0 u q i a m c) (hb : Below u.heap.size u u') : GrowR w0 u' q i a m c := ⟨h.own.past hb, h.len⟩
theorem GrowR.skip {w0 u : World} {q : Nat → Bool} {i m c : Nat} {a : Option Addr} (h : GrowR w0 u q i a m c) (hq : q i = false) : GrowR w0 u q (i + 1) a m c := ⟨by rw [nums_skipR q i hq]; exact h.own, by rw [nums_skipR q i hq]; exact h.len⟩
theorem GrowR.few {w0 u : World} {q : Nat → Bool} {i m c : Nat} {a : Option Addr} (h : GrowR w0 u q i a m c) : m ≤ i := by rw [← h.len]; exact numsR_len q i
theorem GrowR.more {w0 u : World} {q : Nat → Bool} {i m c : Nat} {a : Option Addr} (hq : q i = true) (hl : (numsR q i).length = m) (h : OwnB 3 1 w0 u (.slice a (m + 1) c) (m + 1) ((numsR q (i + 1)).map (Value.int .i64))) : GrowR w0 u q (i + 1) a (m + 1) c := ⟨h, by rw [nums_len1 q i hq, hl]⟩
theorem GrowR.done {w0 u : World} {q : Nat → Bool} {i m c : Nat} {a : Option Addr} (h : GrowR w0 u q i a m c) : NumsR u a (numsR q i) ∧ m ≤ c := own_numsR h.own.own h.len
end Go.Proofs.Ytdbgkbgodnknnaa
