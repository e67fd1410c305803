/-
  A struct of two integers that came in, by value.
-/
import Derived.Test.YthgkbabikeknlaaProg
import Derived.ProofKit
import Derived.OpenShut
import Derived.ChangeSame
import Derived.Below
namespace Go.Proofs.Ythgkbabikeknlaa
open Go.RowKit Go.ChangeShapes Go.WideShapes Go.ChangeAt
set_option linter.unusedVariables false
section
variable {H : Type} {enc : TypeId × Value → H} {w : World} {base : Nat} {held : Bool}
theorem struct2_open {P : Program} {t : TypeId} {f0 f1 : Field} {k0 k1 : IntKind} {sp : Nat → Bool} {v : Value} {r : Reach} {b0 : Nat} {d : DataW H} {ps : List MemPlace} (ht : P.underlying t = some (.struct #[f0, f1]))
    (u0 : P.underlying f0.type = some (.int k0)) (u1 : P.underlying f1.type = some (.int k1)) (o0 : f0.offset = 0) (o1 : f1.offset = 1)
    (c0 : P.cellsOf f0.type = 1) (c1 : P.cellsOf f1.type = 1) (ct : P.cellsOf t = 2)
    (hval : Value.okWide P w r b0 t v) (hd : DataW.Trod enc P w base sp held t v d ps) : ∃ a b : Int, v = .agg #[.int k0 a, .int k1 b] ∧ (Lit.int k0 a).wf = true ∧ (Lit.int k1 b).wf = true := by
  obtain ⟨cs, rfl, hsz⟩ := okWide_struct ht hval
  rw [ct] at hsz
  obtain ⟨fuel, hf⟩ := hd
  obtain ⟨y0, y1, n, _, _, h0, h1⟩ := trod_struct2 ht hf
  obtain ⟨a, ha, _, wa⟩ := DataW.trod_int u0 h0
  obtain ⟨b, hb, _, wb⟩ := DataW.trod_int u1 h1
  rw [o0, c0] at ha
  rw [o1, c1] at hb
  refine ⟨a, b, ?_, wa, wb⟩
  obtain ⟨l⟩ := cs
  simp only [Value.cells] at ha hb
  match l, hsz with
  | [x, y], _ =>
    simp at ha hb
    rw [ha, hb]
end
end Go.Proofs.Ythgkbabikeknlaa
