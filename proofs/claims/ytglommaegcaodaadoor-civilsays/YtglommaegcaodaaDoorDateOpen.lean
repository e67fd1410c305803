/-
  A struct of three integers that came in, by value.
-/
import Derived.Test.YtglommaegcaodaaDoorProg
import Derived.ProofKit
import Derived.OpenShut
import Derived.Deep.Strs
import Derived.Below
namespace Go.Proofs.YtglommaegcaodaaDoor
open Go.RowKit Go.ChangeShapes Go.WideShapes Go.ChangeAt Go.Deep
set_option linter.unusedVariables false
section
variable {H : Type} {enc : TypeId × Value → H} {w : World} {base : Nat} {held : Bool}
theorem struct3_open {P : Program} {t : TypeId} {f0 f1 f2 : Field} {k0 k1 k2 : IntKind} {sp : Nat → Bool} {v : Value} {r : Reach} {b0 : Nat} {d : DataW H} {ps : List MemPlace} (ht : P.underlying t = some (.struct #[f0, f1, f2]))
    (u0 : P.underlying f0.type = some (.int k0)) (u1 : P.underlying f1.type = some (.int k1)) (u2 : P.underlying f2.type = some (.int k2)) (o0 : f0.offset = 0) (o1 : f1.offset = 1) (o2 : f2.offset = 2)
    (c0 : P.cellsOf f0.type = 1) (c1 : P.cellsOf f1.type = 1) (c2 : P.cellsOf f2.type = 1) (ct : P.cellsOf t = 3)
    (hval : Value.okWide P w r b0 t v) (hd : DataW.Trod enc P w base sp held t v d ps) : ∃ a b c : Int, v = .agg #[.int k0 a, .int k1 b, .int k2 c] ∧ (Lit.int k0 a).wf = true ∧ (Lit.int k1 b).wf = true ∧ (Lit.int k2 c).wf = true := by
  obtain ⟨cs, rfl, hsz⟩ := okWide_struct ht hval
  rw [ct] at hsz
  obtain ⟨fuel, hf⟩ := hd
  obtain ⟨y0, y1, y2, n, _, _, h0, h1, h2⟩ := trod_struct3 ht hf
  obtain ⟨a, ha, _, wa⟩ := DataW.trod_int u0 h0
  obtain ⟨b, hb, _, wb⟩ := DataW.trod_int u1 h1
  obtain ⟨c, hc, _, wc⟩ := DataW.trod_int u2 h2
  rw [o0, c0] at ha
  rw [o1, c1] at hb
  rw [o2, c2] at hc
  refine ⟨a, b, c, ?_, wa, wb, wc⟩
  obtain ⟨l⟩ := cs
  simp only [Value.cells] at ha hb hc
  match l, hsz with
  | [x, y, z], _ =>
    simp at ha hb hc
    rw [ha, hb, hc]
end
end Go.Proofs.YtglommaegcaodaaDoor
