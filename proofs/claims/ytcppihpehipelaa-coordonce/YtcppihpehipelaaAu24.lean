/-
  Lists whose elements have several cells, in memory of their own: what copy, append of zeros and clear leave of them; and what becomes of the cells when one element is put in, or the first ones go. No function of the program is named here.
  Appends to lists of the call's own whose elements have several cells, and where the list lies behind it.
-/
import Derived.Test.YtcppihpehipelaaEls
import Derived.Laws.CopyRow
import Derived.Maps.AppendAt
import Derived.Lib.Overlaps
import Derived.Deep.RegionHeld3
namespace Go.Proofs.Ytcppihpehipelaa
open Go.RowKit
set_option linter.unusedVariables false

/-- clear(s) of a list of one's own: zeros are there. -/
theorem run_clear_els {t e : TypeId} {size bytes : Nat} (E : ElT t e size bytes) (hz : ∀ i z, Try.prog.info? e = some i → i.zero = some z → ∀ u ∈ z.cells, u.oneCell' = true) (w : World) (ty : TypeId) (g o n c : Nat) (cur : Array Value)
    (hg : w.heap[g]? = some (.cells cur e (0, 0))) (hn : 0 < n) (hfit : o + n * size ≤ cur.size) :
    ∃ zs, zs.length = n * size ∧ (Builtin.clear_ #[t] ty #[.slice (some ⟨g, o, none⟩) n c]).run Try.prog w = .ok (.tuple #[]) (w.setRow g (cur.toList.take o ++ zs ++ cur.toList.drop (o + zs.length)).toArray) := by
  obtain ⟨i0, z, hi, hz0, hz1, hz2, hz3⟩ := E.info
  have hl : (Builtin.zeroCells z.cells n).toList.length = n * size := by rw [Array.length_toList, size_zeroCells, hz3]
  have h1 : ∀ u ∈ (Builtin.zeroCells z.cells n).toList, u.oneCell' = true := by
    intro u hu
    simp [Builtin.zeroCells] at hu
    obtain ⟨k, hk, rfl⟩ := hu
    have hp : 0 < z.cells.size := by rw [hz3]; exact E.pos
    have hlt := Nat.mod_lt k hp
    refine hz i0 z hi hz0 _ ?_
    rw [getElem!_pos z.cells (k % z.cells.size) hlt]
    exact Array.getElem_mem hlt
  have hst := run_storeCells_at Try.prog g o e (Builtin.zeroCells z.cells n).toList 0 cur w hg (by rw [hl]; simpa using hfit) h1
  simp only [Nat.add_zero] at hst
  refine ⟨(Builtin.zeroCells z.cells n).toList, hl, ?_⟩
  obtain ⟨m, rfl⟩ : ∃ m, n = m + 1 := ⟨n - 1, by omega⟩
  simp [Builtin.clear_, run_underlying E.ht, zeroValue, typeInfo, hi, hz0, hst]
section
variable {α : Type}
end
end Go.Proofs.Ytcppihpehipelaa

namespace Go.Proofs.Ytcppihpehipelaa
open Go.RowKit
set_option linter.unusedVariables false
set_option linter.unusedSimpArgs false

theorem run_append_els_at {t e : TypeId} {size bytes : Nat} (E : ElT t e size bytes) (w : World) (B : Nat) (v : Value) (n : Nat) (xs : List Value) (hown : w.ownsRow B e size v n xs) (sa : Addr) (m c : Nat) (news : List Value) (hl : news.length = m * size) (hsrc : Lies w (some sa) news) (h1 : ∀ u ∈ news, u.oneCell' = true) (hn : n + m ≤ 1000000) (hB : B ≤ w.heap.size) (ty : TypeId) :
    ∃ a' cap' w', (Builtin.append_ #[t, t] ty #[v, .slice (some sa) m c]).run Try.prog w = .ok (.slice a' (n + m) cap') w' ∧ w'.ownsRow B e size (.slice a' (n + m) cap') (n + m) (xs ++ news) ∧ w.grownBy w' v.ownBlock ∧ ((Value.slice a' (n + m) cap').ownBlock = v.ownBlock ∨ (Value.slice a' (n + m) cap').ownBlock = some w.heap.size) := by
  obtain ⟨i0, z, hi, hz0, hz1, hz2, hz3⟩ := E.info
  have hbig : (n + m) * bytes ≤ 140737488355328 := Nat.le_trans (Nat.mul_le_mul hn E.small) (by decide)
  obtain ⟨v', w', hrun, h2, h3, _, h4⟩ := run_append_own_at (P := Try.prog) w B t ty e i0 z size bytes E.ht hi hz0 hz1 hz2 hz3 E.pos v n xs hown sa m c news hl (hsrc sa rfl).2 h1 (by unfold maxLen; omega) hbig hB
  obtain ⟨a', cap', rfl⟩ := own_form h2
  exact ⟨a', cap', w', hrun, h2, h3, h4⟩
theorem wpList_append_els_at {t e : TypeId} {size bytes : Nat} (E : ElT t e size bytes) {w : World} {ops : Array Oper} {rest : List Oper} {o : Oper} {a : Act} {Q : Exit → Act → World → Prop} (B : Nat) (hB : B ≤ w.heap.size) (hgd : o.guard = none) (s x : Operand)
    (ho : o.op = .call { callee := .builtin .append, args := #[s, x], argTypes := #[t, t] })
    (v : Value) (n : Nat) (xs news : List Value) (hs : a.eval s = v) (hown : w.ownsRow B e size v n xs) (sa : Addr) (m c : Nat) (hx : a.eval x = .slice (some sa) m c) (hl : news.length = m * size) (hsrc : Lies w (some sa) news) (h1 : ∀ u ∈ news, u.oneCell' = true) (hn : n + m ≤ 1000000)
    (h : ∀ a' cap' w', w'.ownsRow B e size (.slice a' (n + m) cap') (n + m) (xs ++ news) → w.grownBy w' v.ownBlock → ((Value.slice a' (n + m) cap').ownBlock = v.ownBlock ∨ (Value.slice a' (n + m) cap').ownBlock = some w.heap.size) → wpList Try.prog ops Q rest (a.put o.dst (.slice a' (n + m) cap')) w') : wpList Try.prog ops Q (o :: rest) a w := by
  refine wpList_plain hgd fun K hK => ?_
  obtain ⟨a', cap', w', hrun, h2, h3, h4⟩ := run_append_els_at E w B v n xs hown sa m c news hl hsrc h1 hn hB o.type
  unfold Oper.wp
  simp [execOp, ho, resolve, invoke, builtin, hs, hx, hrun, Result.andThen]
  exact hK _ _ (h a' cap' w' h2 h3 h4)
end Go.Proofs.Ytcppihpehipelaa

