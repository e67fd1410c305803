/-
  One decision alone: what calls make of it; lists of acts at a place.
  A struct of two integers that came in, by value.
-/
import Derived.Test.YtcppihpehipelaaAu44
import Derived.Test.YtcppihpehipelaaCdActs
import Derived.Test.YtcppihpehipelaaProg
import Derived.ProofKit
import Derived.OpenShut
import Derived.ChangeSame
import Derived.Below
namespace Go.Proofs.Ytcppihpehipelaa
open Go.RowKit
set_option linter.unusedVariables false
set_option linter.unusedSimpArgs false

theorem begin_one (st sn : Int) (l : List Int) : beginC [] 5 st sn l = (1, []) ∨ (beginC [] 5 st sn l = (0, [newC 5 st sn l]) ∧ partsB l = true) := by
  unfold beginC
  split
  · exact .inl rfl
  · next h =>
    refine .inr ⟨rfl, ?_⟩
    cases e : partsB l with
    | true => rfl
    | false => exact absurd (.inr (.inr e)) h
theorem voteD_parts (d : DecC) (p : Int) (y : Bool) (t n : Int) : (voteD d p y t n).2.parts = d.parts ∧ (voteD d p y t n).2.id = d.id := by
  unfold voteD
  split
  · exact ⟨rfl, rfl⟩
  split
  · exact ⟨rfl, rfl⟩
  split
  · exact ⟨rfl, rfl⟩
  split <;> exact ⟨rfl, rfl⟩
theorem ackD_parts (d : DecC) (p : Int) : (ackD d p).2.parts = d.parts := by
  unfold ackD
  split
  · rfl
  · split <;> rfl
theorem vote_one {d : DecC} {id : Int} (h : d.id = id) (p : Int) (y : Bool) (t n : Int) : voteC [d] id p y t n = ((voteD d p y t n).1, [(voteD d p y t n).2]) := by
  subst h
  unfold voteC
  rw [getC_one]
  simp only
  rw [putC_one d _ (voteD_parts d p y t n).2]
theorem ack_one {d : DecC} {id : Int} (h : d.id = id) (p : Int) : ackC [d] id p = ((ackD d p).1, [(ackD d p).2]) := by
  subst h
  unfold ackC
  rw [getC_one]
  simp only
  rw [putC_one d _ (ackD_id d p)]
/-- An act at its place: what a walk reads of it. -/
theorem DActsOf.look {w : World} {a : Option Addr} {cap : Nat} {ys : List DAct} (h : DActsOf w a cap ys) {i : Nat} (hi : i < ys.length) : ∃ y b off, ys[i]? = some y ∧ a = some ⟨b, off, none⟩ ∧ DActOk w y ∧ ∀ u, Below w.heap.size w u → DActAt u b (off + i * 16) y := by
  obtain ⟨y, hy⟩ : ∃ y, ys[i]? = some y := ⟨_, List.getElem?_eq_getElem hi⟩
  obtain ⟨b, off, e, h1, h2⟩ := h.act hy
  exact ⟨y, b, off, hy, e, h2, fun u hu => h1.past hu⟩
end Go.Proofs.Ytcppihpehipelaa

namespace Go.Proofs.Ytcppihpehipelaa
open Go.RowKit Go.ChangeShapes Go.WideShapes Go.ChangeAt
set_option linter.unusedVariables false
section
variable {H : Type} {enc : TypeId × Value → H} {w : World} {base : Nat} {held : Bool}
theorem struct2_open {P : Program} {t : TypeId} {f0 f1 : Field} {k0 k1 : IntKind} {sp : Nat → Bool} {v : Value} {r : Reach} {b0 : Nat} {d : DataW H} {ps : List MemPlace} (ht : P.underlying t = some (.struct #[f0, f1]))
    (u0 : P.underlying f0.type = some (.int k0)) (u1 : P.underlying f1.type = some (.int k1)) (o0 : f0.offset = 0) (o1 : f1.offset = 1)
    (c0 : P.cellsOf f0.type = 1) (c1 : P.cellsOf f1.type = 1) (ct : P.cellsOf t = 2)
    (hval : Value.okWide P w r b0 t v) (hd : DataW.Trod enc P w base sp held t v d ps) : ∃ a b : Int, v = .agg #[.int k0 a, .int k1 b] ∧ (Lit.int k0 a).wf = true ∧ (Lit.int k1 b).wf = true := by
  obtain ⟨cs, rfl, hsz⟩ := okWide_struct ht hval
  rw [ct] at hsz
  obtain ⟨fuel, hf⟩ := hd
  obtain ⟨y0, y1, n, _, _, h0, h1⟩ := trod_struct2 ht hf
  obtain ⟨a, ha, _, wa⟩ := DataW.trod_int u0 h0
  obtain ⟨b, hb, _, wb⟩ := DataW.trod_int u1 h1
  rw [o0, c0] at ha
  rw [o1, c1] at hb
  refine ⟨a, b, ?_, wa, wb⟩
  obtain ⟨l⟩ := cs
  simp only [Value.cells] at ha hb
  match l, hsz with
  | [x, y], _ =>
    simp at ha hb
    rw [ha, hb]
end
end Go.Proofs.Ytcppihpehipelaa

