/-
  Chapter 17 in plain words: whose a key is. No program is named here.
-/
import Derived.Test.YtdbgkbgodnknnaaStoreAt
namespace Go.Proofs.Ytdbgkbgodnknnaa
open Go.RowKit
set_option linter.unusedVariables false

/-- Does each point lie above the one ahead? -/
def riseR (P : List (List Int)) : Bool := decide (∀ j, j < P.length - 1 → lexC (P.getD j []) (P.getD (j + 1) []) < 0)
/-- May points be? -/
def mayR (P : List (List Int)) : Bool := decide (P.length ≤ 7) && (P.all goodK && riseR P)
/-- How many points are not above a key; whose it is. -/
def ofN (P : List (List Int)) (k : List Int) : Nat := P.countP (fun p => decide (lexC p k ≤ 0))
def ofR (P : List (List Int)) (k : List Int) : Int := if goodK k then (ofN P k : Int) else -1
def mineR (P : List (List Int)) (i : Nat) (W : Wrt) : Bool := decide (ofR P W.k = (i : Int))
def nodeW (P : List (List Int)) (l : List Wrt) (i : Nat) : List Wrt := l.filter (mineR P i)
def splitR (P : List (List Int)) (l : List Wrt) : List (List Wrt) := (List.range (P.length + 1)).map (nodeW P l)
def hasR (P : List (List Int)) (l : List Wrt) (i : Nat) : Bool := decide (0 < (nodeW P l i).length)
def numsR (q : Nat → Bool) (n : Nat) : List Int := ((List.range n).filter q).map Int.ofNat
def partsR (P : List (List Int)) (l : List Wrt) : List Int := numsR (hasR P l) (P.length + 1)
def aboveR (P : List (List Int)) (a : List Int) (i : Nat) : Bool := decide (i = P.length) || decide (0 < lexC (P.getD i []) a)
def belowR (P : List (List Int)) (b : List Int) (i : Nat) : Bool := decide (i = 0) || decide (b = zeroK) || decide (lexC (P.getD (i - 1) []) b < 0)
def someR (a b : List Int) : Bool := decide (b = zeroK) || decide (0 < lexC b a)
def coverR (P : List (List Int)) (a b : List Int) : List Int := if someR a b then numsR (fun i => aboveR P a i && belowR P b i) (P.length + 1) else []

theorem getD_of {P : List (List Int)} {j : Nat} {x : List Int} (h : P[j]? = some x) : P.getD j [] = x := by simp [List.getD, h]
theorem lt_of_get {α : Type} {L : List α} {j : Nat} {x : α} (h : L[j]? = some x) : j < L.length := (List.getElem?_eq_some_iff.1 h).1
theorem ofN_le (P : List (List Int)) (k : List Int) : ofN P k ≤ P.length := List.countP_le_length
theorem ofN_next {P : List (List Int)} {n : Nat} {p : List Int} (hp : P[n]? = some p) (k : List Int) : (P.take (n + 1)).countP (fun p => decide (lexC p k ≤ 0)) = (P.take n).countP (fun p => decide (lexC p k ≤ 0)) + if lexC p k ≤ 0 then 1 else 0 := by
  rw [List.take_add_one, hp, Option.toList_some, List.countP_append]
  simp [List.countP_cons]
theorem ofR_range (P : List (List Int)) (k : List Int) : -1 ≤ ofR P k ∧ ofR P k ≤ (P.length : Int) := by
  have := ofN_le P k
  unfold ofR
  split <;> omega
/- Lists of the numbers below n that have something. -/
theorem numsR_next (q : Nat → Bool) (n : Nat) : numsR q (n + 1) = numsR q n ++ (if q n then [(n : Int)] else []) := by
  unfold numsR
  rw [List.range_succ, List.filter_append, List.map_append]
  cases h : q n <;> simp [h]
theorem numsR_len (q : Nat → Bool) (n : Nat) : (numsR q n).length ≤ n := by
  unfold numsR
  rw [List.length_map]
  exact Nat.le_trans (List.length_filter_le _ _) (by simp)
/- Whose a write is. -/
theorem split_len (P : List (List Int)) (l : List Wrt) : (splitR P l).length = P.length + 1 := by simp [splitR]
theorem split_at {P : List (List Int)} {l : List Wrt} {i : Nat} (hi : i < P.length + 1) : (splitR P l)[i]? = some (nodeW P l i) := by
  unfold splitR
  rw [List.getElem?_map, List.getElem?_range hi]
  rfl
theorem nodeW_next {P : List (List Int)} {l : List Wrt} {n : Nat} {W : Wrt} (hW : l[n]? = some W) (i : Nat) : nodeW P (l.take (n + 1)) i = nodeW P (l.take n) i ++ if mineR P i W then [W] else [] := by
  unfold nodeW
  rw [List.take_add_one, hW, Option.toList_some, List.filter_append]
  cases h : mineR P i W <;> simp [h]
theorem nodeW_len (P : List (List Int)) (l : List Wrt) (i : Nat) : (nodeW P l i).length ≤ l.length := List.length_filter_le _ _
theorem split_next {P : List (List Int)} {l : List Wrt} {n : Nat} {W : Wrt} (hW : l[n]? = some W) {i : Nat} (hi : ofR P W.k = (i : Int)) (hil : i < P.length + 1) : splitR P (l.take (n + 1)) = (splitR P (l.take n)).set i (nodeW P (l.take n) i ++ [W]) := by
  refine List.ext_getElem? (fun j => ?_)
  rw [List.getElem?_set, split_len]
  by_cases hj : j < P.length + 1
  · rw [split_at hj, split_at hj, nodeW_next hW]
    by_cases e : i = j
    · subst e
      rw [if_pos rfl, if_pos hil, if_pos (show mineR P i W = true from decide_eq_true hi)]
    · rw [if_neg e, if_neg (by simp [mineR, hi]; omega), List.append_nil]
  · rw [List.getElem?_eq_none (by rw [split_len]; omega), if_neg (by omega), List.getElem?_eq_none (by rw [split_len]; omega)]
theorem split_skip {P : List (List Int)} {l : List Wrt} {n : Nat} {W : Wrt} (hW : l[n]? = some W) (hi : ofR P W.k < 0) : splitR P (l.take (n + 1)) = splitR P (l.take n) := by
  refine List.ext_getElem? (fun j => ?_)
  by_cases hj : j < P.length + 1
  · rw [split_at hj, split_at hj, nodeW_next hW, if_neg (by simp [mineR]; omega), List.append_nil]
  · rw [List.getElem?_eq_none (by rw [split_len]; omega), List.getElem?_eq_none (by rw [split_len]; omega)]
theorem split_none (P : List (List Int)) (l : List Wrt) : splitR P (l.take 0) = List.replicate (P.length + 1) [] := by
  refine List.ext_getElem? (fun j => ?_)
  by_cases hj : j < P.length + 1
  · rw [split_at hj, List.getElem?_replicate, if_pos hj]; rfl
  · rw [List.getElem?_eq_none (by rw [split_len]; omega), List.getElem?_eq_none (by simp; omega)]
/- Stretches. -/
end Go.Proofs.Ytdbgkbgodnknnaa
