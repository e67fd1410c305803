/-
  Appends to lists of the call's own whose elements have several cells, and where the list lies behind it.
-/
import Derived.Test.YtdbgkbgodnknnaaEls
import Derived.Maps.AppendAt
import Derived.Deep.RegionHeld3
namespace Go.Proofs.Ytdbgkbgodnknnaa
open Go.RowKit
set_option linter.unusedVariables false
set_option linter.unusedSimpArgs false

theorem run_append_els_at {t e : TypeId} {size bytes : Nat} (E : ElT t e size bytes) (w : World) (B : Nat) (v : Value) (n : Nat) (xs : List Value) (hown : w.ownsRow B e size v n xs) (sa : Addr) (m c : Nat) (news : List Value) (hl : news.length = m * size) (hsrc : Lies w (some sa) news) (h1 : ∀ u ∈ news, u.oneCell' = true) (hn : n + m ≤ 1000000) (hB : B ≤ w.heap.size) (ty : TypeId) :
    ∃ a' cap' w', (Builtin.append_ #[t, t] ty #[v, .slice (some sa) m c]).run Try.prog w = .ok (.slice a' (n + m) cap') w' ∧ w'.ownsRow B e size (.slice a' (n + m) cap') (n + m) (xs ++ news) ∧ w.grownBy w' v.ownBlock ∧ ((Value.slice a' (n + m) cap').ownBlock = v.ownBlock ∨ (Value.slice a' (n + m) cap').ownBlock = some w.heap.size) := by
  obtain ⟨i0, z, hi, hz0, hz1, hz2, hz3⟩ := E.info
  have hbig : (n + m) * bytes ≤ 140737488355328 := Nat.le_trans (Nat.mul_le_mul hn E.small) (by decide)
  obtain ⟨v', w', hrun, h2, h3, _, h4⟩ := run_append_own_at (P := Try.prog) w B t ty e i0 z size bytes E.ht hi hz0 hz1 hz2 hz3 E.pos v n xs hown sa m c news hl (hsrc sa rfl).2 h1 (by unfold maxLen; omega) hbig hB
  obtain ⟨a', cap', rfl⟩ := own_form h2
  exact ⟨a', cap', w', hrun, h2, h3, h4⟩
theorem step_append_els_at {t e : TypeId} {size bytes : Nat} (E : ElT t e size bytes) {w : World} {ops : Array Oper} {o : Oper} {a : Act} {K : Act → World → Prop} {Q : Exit → Act → World → Prop} {X : Prop} (B : Nat) (hB : B ≤ w.heap.size) (hgd : o.guard = none) (s x : Operand)
    (ho : o.op = .call { callee := .builtin .append, args := #[s, x], argTypes := #[t, t] })
    (v : Value) (n : Nat) (xs news : List Value) (hs : a.eval s = v) (hown : w.ownsRow B e size v n xs) (sa : Addr) (m c : Nat) (hx : a.eval x = .slice (some sa) m c) (hl : news.length = m * size) (hsrc : Lies w (some sa) news) (h1 : ∀ u ∈ news, u.oneCell' = true) (hn : n + m ≤ 1000000)
    (h : ∀ a' cap' w', w'.ownsRow B e size (.slice a' (n + m) cap') (n + m) (xs ++ news) → w.grownBy w' v.ownBlock → ((Value.slice a' (n + m) cap').ownBlock = v.ownBlock ∨ (Value.slice a' (n + m) cap').ownBlock = some w.heap.size) → K (a.put o.dst (.slice a' (n + m) cap')) w') :
    if Region.wanted o (yielded ops a.tmps) = true then Oper.wp Try.prog o a w K Q else X := by
  have hw : Region.wanted o (yielded ops a.tmps) = true := by simp [Region.wanted, hgd]
  rw [if_pos hw]
  obtain ⟨a', cap', w', hrun, h2, h3, h4⟩ := run_append_els_at E w B v n xs hown sa m c news hl hsrc h1 hn hB o.type
  unfold Oper.wp
  simp [execOp, ho, resolve, invoke, builtin, hs, hx, hrun, Result.andThen]
  exact h a' cap' w' h2 h3 h4
end Go.Proofs.Ytdbgkbgodnknnaa
