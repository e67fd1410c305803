/-
  How a list of bytes that came in is read, and what a read number may be.
-/
import Derived.Test.YtpbjdhinogphfaaAwake
import Derived.OpenShut
namespace Go.Proofs.Ytpbjdhinogphfaa
open Go.RowKit
set_option linter.unusedVariables false

theorem row_of {w : World} {a : Option Addr} {len cap : Nat} {z : List Int}
    (h : (a = none ∧ len = 0 ∧ cap = 0 ∧ z = []) ∨ ∃ x, a = some x ∧ len ≤ cap ∧ cap ≤ maxLen ∧ z.length = cap ∧ (∀ i, i < z.length → w.cell? (x.add i) = some (.int .u8 (z.getD i 0))) ∧ ∀ n ∈ z, (Lit.int .u8 n).wf = true) :
    ∃ zs : List Int, zs.length = len ∧ Row w a zs := by
  rcases h with ⟨rfl, rfl, rfl, rfl⟩ | ⟨x, rfl, hl, hm, hz, hc, hw⟩
  · exact ⟨[], rfl, Row.nil _ _⟩
  · by_cases h0 : len = 0
    · exact ⟨[], h0.symm, Row.nil _ _⟩
    · obtain ⟨b, off, spot⟩ := x
      have hc0 := hc 0 (by omega)
      have hspot : spot = none := by simpa [Addr.add] using World.cell?_spot hc0
      subst hspot
      refine ⟨z.take len, by simp; omega, fun n hn => bounds_u8 (hw n (List.mem_of_mem_take hn)), .inr ⟨b, off, rfl, fun j hj => ?_⟩⟩
      simp at hj
      have := hc j (by omega)
      rw [add_plain] at this
      rw [this]
      have e : (z.take len).getD j 0 = z.getD j 0 := by
        have hjl : j < len := by omega
        simp [List.getD, hjl]
      rw [e]
theorem get_casesF (f : Nat) : ∀ (X : Int) (k : Nat) (zs : List Int), Pl.getF f X k zs = (0, 0, 3) ∨ ∃ V N, Pl.getF f X k zs = (V, N, 0) ∧ 1 ≤ N := by
  induction f with
  | zero => intro X k zs; exact .inl rfl
  | succ f ih =>
    intro X k zs
    cases zs with
    | nil => exact .inl rfl
    | cons c r =>
      by_cases hc : c < 128
      · by_cases hg : Pl.goodB c k = true
        · exact .inr ⟨_, _, Pl.get_end hc hg, by omega⟩
        · exact .inl (Pl.get_bad hc (by simpa using hg))
      · rw [Pl.get_more (by omega)]
        exact ih _ _ _
theorem get_cases (zs : List Int) : Pl.getI zs = (0, 0, 3) ∨ ∃ V N, Pl.getI zs = (V, N, 0) ∧ 1 ≤ N := get_casesF 10 0 0 zs
end Go.Proofs.Ytpbjdhinogphfaa
