/-
  Lists of 64-bit numbers that the call made itself, and one more list behind them.
-/
import Derived.Test.YtmibmblgaofikaaRowOne
import Derived.Laws.AppendOwnNone
import Derived.Deep.RegionLaw
namespace Go.Proofs.Ytmibmblgaofikaa
open Go.RowKit
set_option linter.unusedVariables false

def is (zs : List Int) : List Value := zs.map (Value.int .i64)
theorem is_len (zs : List Int) : (is zs).length = zs.length := by simp [is]
theorem is_app (xs ys : List Int) : is (xs ++ ys) = is xs ++ is ys := by simp [is]
theorem is_one (zs : List Int) : ∀ u ∈ is zs, u.oneCell' = true := by
  intro u hu
  obtain ⟨z, _, rfl⟩ := List.mem_map.1 hu
  rfl
theorem is_at (zs : List Int) (j : Nat) (v : Value) (h : (is zs)[j]? = some v) : j < zs.length ∧ v = .int .i64 (zs.getD j 0) := by
  unfold is at h
  rw [List.getElem?_map] at h
  cases hz : zs[j]? with
  | none => rw [hz] at h; cases h
  | some z =>
    rw [hz] at h
    simp at h
    exact ⟨(List.getElem?_eq_some_iff.1 hz).1, by rw [← h]; simp [List.getD, hz]⟩
theorem info2 : (Try.prog.info? 2).map (fun i => (i.zero, i.size, i.bytes)) = some (some (.int .i64 0), 1, 8) := by kernel_rfl
/-- Numbers that lie somewhere. -/
def Src (w : World) (ao : Option Addr) (zs : List Int) : Prop := ∀ sa, ao = some sa → ∀ j, j < zs.length → w.cell? (sa.add j) = some (.int .i64 (zs.getD j 0))
theorem run_append_nums (w : World) (B : Nat) (v : Value) (n : Nat) (xs zs : List Int) (hown : w.ownsRow B 2 1 v n (is xs)) (ao : Option Addr) (m c : Nat) (hsrc : Src w ao zs) (hm : zs.length = m) (hnil : ao = none → m = 0 ∧ c = 0) (hn : n + m ≤ 1000000) (hB : B ≤ w.heap.size) (ty : TypeId) :
    ∃ a' cap' w', (Builtin.append_ #[28, 28] ty #[v, .slice ao m c]).run Try.prog w = .ok (.slice a' (n + m) cap') w' ∧ w'.ownsRow B 2 1 (.slice a' (n + m) cap') (n + m) (is (xs ++ zs)) ∧ w.grownBy w' v.ownBlock := by
  obtain ⟨i0, hi, hz0, hz1, hz2⟩ := info_of info2
  cases ao with
  | none =>
    obtain ⟨rfl, rfl⟩ := hnil rfl
    have hz : zs = [] := List.eq_nil_of_length_eq_zero hm
    subst hz
    obtain ⟨ao, cap, rfl⟩ : ∃ ao cap, v = .slice ao n cap := by
      rcases hown.2 with ⟨hv, h0⟩ | ⟨g, cap, cur, hv, _⟩
      · exact ⟨_, _, by rw [h0]; exact hv⟩
      · exact ⟨_, _, hv⟩
    have hrun := run_append_owned_none (P := Try.prog) (w := w) B 28 ty 2 i0 1 Try.underlying28 hi _ n (is xs) hown
    refine ⟨ao, cap, w, ?_, by simpa using hown, ⟨rfl, rfl, rfl, Nat.le_refl _, fun _ _ _ => rfl⟩⟩
    simpa using hrun
  | some sa =>
    have hbig : (n + m) * 8 ≤ 140737488355328 := by omega
    obtain ⟨v', w', hrun, h2, h3, _⟩ := run_append_own (P := Try.prog) w B 28 ty 2 i0 (.int .i64 0) 1 8 Try.underlying28 hi hz0 hz1 hz2 rfl (by decide) v n (is xs) hown sa m c (is zs) (by rw [is_len]; omega) (fun j u hj => by obtain ⟨h1, rfl⟩ := is_at zs j u hj; exact hsrc sa rfl j h1) (is_one zs) (by unfold maxLen; omega) hbig hB
    obtain ⟨a', cap', rfl⟩ : ∃ a' cap', v' = .slice a' (n + m) cap' := by
      rcases h2.2 with ⟨hv, h0⟩ | ⟨g, cap, cur, hv, _⟩
      · exact ⟨_, _, by rw [h0]; exact hv⟩
      · exact ⟨_, _, hv⟩
    rw [← is_app] at h2
    exact ⟨a', cap', w', hrun, h2, h3⟩
/-- The same as one step of a region that draws its order. -/
theorem step_append_nums {w0 w : World} {ops : Array Oper} {o : Oper} {a : Act} {K : Act → World → Prop} {Q : Exit → Act → World → Prop} {E : Prop} (hgd : o.guard = none) (s x : Operand)
    (ho : o.op = .call { callee := .builtin .append, args := #[s, x], argTypes := #[28, 28] }) (hb : Below w0.heap.size w0 w)
    (v : Value) (n : Nat) (xs zs : List Int) (hs : a.eval s = v) (hown : w.ownsRow w0.heap.size 2 1 v n (is xs)) (ao : Option Addr) (m c : Nat) (hx : a.eval x = .slice ao m c) (hsrc : Src w ao zs) (hm : zs.length = m) (hnil : ao = none → m = 0 ∧ c = 0) (hn : n + m ≤ 1000000)
    (h : ∀ a' cap' w', w'.ownsRow w0.heap.size 2 1 (.slice a' (n + m) cap') (n + m) (is (xs ++ zs)) → w.grownBy w' v.ownBlock → Below w0.heap.size w0 w' → K (a.put o.dst (.slice a' (n + m) cap')) w') :
    if Region.wanted o (yielded ops a.tmps) = true then Oper.wp Try.prog o a w K Q else E := by
  have hw : Region.wanted o (yielded ops a.tmps) = true := by simp [Region.wanted, hgd]
  rw [if_pos hw]
  obtain ⟨a', cap', w', hrun, h1, h2⟩ := run_append_nums w w0.heap.size v n xs zs hown ao m c hsrc hm hnil hn hb.size o.type
  unfold Oper.wp
  simp [execOp, ho, resolve, invoke, builtin, hs, hx, hrun, Result.andThen]
  exact h a' cap' w' h1 h2 (hb.grown h2 hb.size (fun k hk => (hown.lt k hk).1))
end Go.Proofs.Ytmibmblgaofikaa
