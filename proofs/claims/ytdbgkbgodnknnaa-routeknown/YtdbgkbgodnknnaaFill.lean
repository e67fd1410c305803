/-
  Parts laid into a row of cells.
-/
import Derived.Test.YtdbgkbgodnknnaaKeyEnc
namespace Go.Proofs.Ytdbgkbgodnknnaa
open Go.RowKit
set_option linter.unusedVariables false

theorem fold_off : ∀ (vs : List Value) (off o : Nat) (C : Array Value), List.foldl (fun (cs : Array Value) (x : Value × Nat) => cs.setIfInBounds (off + x.snd) x.fst) C (vs.zipIdx o) = List.foldl (fun (cs : Array Value) (x : Value × Nat) => cs.setIfInBounds x.snd x.fst) C (vs.zipIdx (off + o))
  | [], off, o, C => rfl
  | v :: r, off, o, C => by
    rw [List.zipIdx_cons, List.zipIdx_cons, List.foldl_cons, List.foldl_cons, fold_off r off (o + 1)]
    rfl
theorem fill_step (place : Nat → Option (Nat × Nat)) (C : List Value) (i off n : Nat) (vs : List Value) (hp : place i = some (off, n)) (hv : vs.length = n) (hs : off + n ≤ C.length) (rest : List (Nat × Value)) :
    Instr.fill place C.toArray ((i, .agg vs.toArray) :: rest) = Instr.fill place (C.take off ++ vs ++ C.drop (off + n)).toArray rest := by
  have h0 : ¬ (decide (vs.toArray.size ≠ n) || decide (off + vs.toArray.size > C.toArray.size)) = true := by simp; omega
  have hf : Array.foldl (fun (cs : Array Value) (x : Value × Nat) => cs.setIfInBounds (off + x.snd) x.fst) C.toArray vs.toArray.zipIdx = (C.take off ++ vs ++ C.drop (off + n)).toArray := by
    rw [← Array.foldl_toList]
    apply Array.toList_inj.1
    have e : vs.toArray.zipIdx.toList = vs.zipIdx := by simp
    rw [e, fold_off vs off 0, Nat.add_zero, fold_set vs off C.toArray (by simp; omega)]
    simp [hv]
  rw [← hf]
  conv => lhs; unfold Instr.fill
  simp only [hp, Value.cells]
  exact if_neg h0
end Go.Proofs.Ytdbgkbgodnknnaa
