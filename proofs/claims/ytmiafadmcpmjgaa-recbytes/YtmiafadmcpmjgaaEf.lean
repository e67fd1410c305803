/-
  Keys' cells; cells laid one by one.
  Parts laid into a row of cells.
-/
import Derived.Test.YtmiafadmcpmjgaaKb
import Derived.Test.YtmiafadmcpmjgaaEls
namespace Go.Proofs.Ytmiafadmcpmjgaa
open Go.RowKit
set_option linter.unusedVariables false

/-- A key's cells, as a list. -/
def kc (k : List Int) : List Value := k.map (Value.int .u8)
def Kys (l : List (List Int)) : Prop := ∀ k ∈ l, Ky k
theorem kc_len {k : List Int} (h : Ky k) : (kc k).length = 16 := by unfold kc; rw [List.length_map]; exact h.len
theorem Kys.len {l : List (List Int)} (h : Kys l) : ∀ k ∈ l, (kc k).length = 16 := fun k hk => kc_len (h k hk)
theorem Kys.one {l : List (List Int)} : ∀ u ∈ l.flatMap kc, u.oneCell' = true := flat_one fun k _ => ints_oneCell _ _
theorem Kys.get {l : List (List Int)} (h : Kys l) {i : Nat} (hi : i < l.length) : Ky (l.getD i []) := by
  have e : l.getD i [] = l[i] := by simp [List.getD, hi]
  rw [e]; exact h _ (List.getElem_mem hi)
theorem Kys.take {l : List (List Int)} (h : Kys l) (n : Nat) : Kys (l.take n) := fun k hk => h k (List.mem_of_mem_take hk)
theorem Kys.sort {l : List (List Int)} (h : Kys l) : Kys (sortK l) := fun k hk => h k (((sortK_facts l).2.1 k).1 hk)
/-- Cells laid one by one. -/
theorem fold_set : ∀ (vs : List Value) (o : Nat) (C : Array Value), o + vs.length ≤ C.size → (List.foldl (fun (cs : Array Value) (x : Value × Nat) => cs.setIfInBounds x.snd x.fst) C (vs.zipIdx o)).toList = C.toList.take o ++ vs ++ C.toList.drop (o + vs.length)
  | [], o, C, h => by simp
  | v :: r, o, C, h => by
    rw [List.zipIdx_cons, List.foldl_cons, fold_set r (o + 1) (C.setIfInBounds o v) (by simp at h ⊢; omega)]
    simp only [Array.toList_setIfInBounds]
    have ho : o < C.toList.length := by simp at h ⊢; omega
    have e1 : (C.toList.set o v).take (o + 1) = C.toList.take o ++ [v] := by
      rw [List.take_succ_eq_append_getElem (by simpa using ho), List.take_set_of_le (Nat.le_refl _)]
      simp
    have e2 : (C.toList.set o v).drop (o + 1 + r.length) = C.toList.drop (o + (v :: r).length) := by
      rw [List.drop_set_of_lt (by omega), List.length_cons]
      congr 1
      omega
    rw [e1, e2]
    simp
theorem fold_key (X : List Int) (h : Ky X) : List.foldl (fun (cs : Array Value) (x : Value × Nat) => cs.setIfInBounds x.snd x.fst) #[.int .u8 0, .int .u8 0, .int .u8 0, .int .u8 0, .int .u8 0, .int .u8 0, .int .u8 0, .int .u8 0, .int .u8 0, .int .u8 0, .int .u8 0, .int .u8 0, .int .u8 0, .int .u8 0, .int .u8 0, .int .u8 0] (List.map (Value.int .u8) X).zipIdx = (List.map (Value.int .u8) X).toArray := by
  have hl : (List.map (Value.int .u8) X).length = 16 := by rw [List.length_map]; exact h.len
  apply Array.toList_inj.1
  rw [fold_set _ 0 _ (by rw [hl]; decide), hl]
  simp
theorem info_keyl (k : List Int) (h : Ky k) : (Try.prog.info? 34).map (·.size) = some (k.map (Value.int .u8)).length := by rw [info_key, List.length_map, h.len]
end Go.Proofs.Ytmiafadmcpmjgaa

namespace Go.Proofs.Ytmiafadmcpmjgaa
open Go.RowKit
set_option linter.unusedVariables false

theorem fold_off : ∀ (vs : List Value) (off o : Nat) (C : Array Value), List.foldl (fun (cs : Array Value) (x : Value × Nat) => cs.setIfInBounds (off + x.snd) x.fst) C (vs.zipIdx o) = List.foldl (fun (cs : Array Value) (x : Value × Nat) => cs.setIfInBounds x.snd x.fst) C (vs.zipIdx (off + o))
  | [], off, o, C => rfl
  | v :: r, off, o, C => by
    rw [List.zipIdx_cons, List.zipIdx_cons, List.foldl_cons, List.foldl_cons, fold_off r off (o + 1)]
    rfl
theorem fill_step (place : Nat → Option (Nat × Nat)) (C : List Value) (i off n : Nat) (vs : List Value) (hp : place i = some (off, n)) (hv : vs.length = n) (hs : off + n ≤ C.length) (rest : List (Nat × Value)) :
    Instr.fill place C.toArray ((i, .agg vs.toArray) :: rest) = Instr.fill place (C.take off ++ vs ++ C.drop (off + n)).toArray rest := by
  have h0 : ¬ (decide (vs.toArray.size ≠ n) || decide (off + vs.toArray.size > C.toArray.size)) = true := by simp; omega
  have hf : Array.foldl (fun (cs : Array Value) (x : Value × Nat) => cs.setIfInBounds (off + x.snd) x.fst) C.toArray vs.toArray.zipIdx = (C.take off ++ vs ++ C.drop (off + n)).toArray := by
    rw [← Array.foldl_toList]
    apply Array.toList_inj.1
    have e : vs.toArray.zipIdx.toList = vs.zipIdx := by simp
    rw [e, fold_off vs off 0, Nat.add_zero, fold_set vs off C.toArray (by simp; omega)]
    simp [hv]
  rw [← hf]
  conv => lhs; unfold Instr.fill
  simp only [hp, Value.cells]
  exact if_neg h0
end Go.Proofs.Ytmiafadmcpmjgaa

