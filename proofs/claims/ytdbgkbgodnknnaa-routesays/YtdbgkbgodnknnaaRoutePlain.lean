/-
  Chapter 17 in plain words: whose a key is. No program is named here.
-/
import Derived.Test.YtdbgkbgodnknnaaStoreAt
namespace Go.Proofs.Ytdbgkbgodnknnaa
open Go.RowKit
set_option linter.unusedVariables false

/-- Does each point lie above the one ahead? -/
def riseR (P : List (List Int)) : Bool := decide (∀ j, j < P.length - 1 → lexC (P.getD j []) (P.getD (j + 1) []) < 0)
/-- May points be? -/
def mayR (P : List (List Int)) : Bool := decide (P.length ≤ 7) && (P.all goodK && riseR P)
/-- How many points are not above a key; whose it is. -/
def ofN (P : List (List Int)) (k : List Int) : Nat := P.countP (fun p => decide (lexC p k ≤ 0))
def ofR (P : List (List Int)) (k : List Int) : Int := if goodK k then (ofN P k : Int) else -1
def mineR (P : List (List Int)) (i : Nat) (W : Wrt) : Bool := decide (ofR P W.k = (i : Int))
def nodeW (P : List (List Int)) (l : List Wrt) (i : Nat) : List Wrt := l.filter (mineR P i)
def splitR (P : List (List Int)) (l : List Wrt) : List (List Wrt) := (List.range (P.length + 1)).map (nodeW P l)
def hasR (P : List (List Int)) (l : List Wrt) (i : Nat) : Bool := decide (0 < (nodeW P l i).length)
def numsR (q : Nat → Bool) (n : Nat) : List Int := ((List.range n).filter q).map Int.ofNat
def partsR (P : List (List Int)) (l : List Wrt) : List Int := numsR (hasR P l) (P.length + 1)
def aboveR (P : List (List Int)) (a : List Int) (i : Nat) : Bool := decide (i = P.length) || decide (0 < lexC (P.getD i []) a)
def belowR (P : List (List Int)) (b : List Int) (i : Nat) : Bool := decide (i = 0) || decide (b = zeroK) || decide (lexC (P.getD (i - 1) []) b < 0)
def someR (a b : List Int) : Bool := decide (b = zeroK) || decide (0 < lexC b a)
def coverR (P : List (List Int)) (a b : List Int) : List Int := if someR a b then numsR (fun i => aboveR P a i && belowR P b i) (P.length + 1) else []

theorem rise_lt {P : List (List Int)} (h : riseR P = true) : ∀ j i, i < j → j < P.length → lexC (P.getD i []) (P.getD j []) < 0 := by
  have h := of_decide_eq_true h
  intro j
  induction j with
  | zero => intro i hi; omega
  | succ j ih =>
    intro i hi hj
    have h1 := h j (by omega)
    by_cases e : i = j
    · subst e; exact h1
    · exact lex_lt_le (ih i (by omega) (by omega)) (by omega)
theorem count_at {α : Type} {L : List α} {p : α → Bool} {m : Nat} (hm : m ≤ L.length) (h1 : ∀ j x, j < m → L[j]? = some x → p x = true) (h2 : ∀ j x, m ≤ j → L[j]? = some x → p x = false) : L.countP p = m := by
  have e : L = L.take m ++ L.drop m := (List.take_append_drop m L).symm
  rw [e, List.countP_append]
  have a : (L.take m).countP p = (L.take m).length := List.countP_eq_length.2 (fun x hx => by
    obtain ⟨j, hj⟩ := List.mem_iff_getElem?.1 hx
    have hjm : j < m := by
      rcases Nat.lt_or_ge j m with h | h
      · exact h
      · rw [List.getElem?_eq_none (by simp; omega)] at hj; cases hj
    rw [List.getElem?_take_of_lt hjm] at hj
    exact h1 j x hjm hj)
  have b : (L.drop m).countP p = 0 := List.countP_eq_zero.2 (fun x hx => by
    obtain ⟨j, hj⟩ := List.mem_iff_getElem?.1 hx
    rw [List.getElem?_drop] at hj
    rw [h2 (m + j) x (by omega) hj]; decide)
  rw [a, b, List.length_take]
  omega
theorem getD_of {P : List (List Int)} {j : Nat} {x : List Int} (h : P[j]? = some x) : P.getD j [] = x := by simp [List.getD, h]
theorem lt_of_get {α : Type} {L : List α} {j : Nat} {x : α} (h : L[j]? = some x) : j < L.length := (List.getElem?_eq_some_iff.1 h).1
theorem ofN_le (P : List (List Int)) (k : List Int) : ofN P k ≤ P.length := List.countP_le_length
theorem ofN_next {P : List (List Int)} {n : Nat} {p : List Int} (hp : P[n]? = some p) (k : List Int) : (P.take (n + 1)).countP (fun p => decide (lexC p k ≤ 0)) = (P.take n).countP (fun p => decide (lexC p k ≤ 0)) + if lexC p k ≤ 0 then 1 else 0 := by
  rw [List.take_add_one, hp, Option.toList_some, List.countP_append]
  simp [List.countP_cons]
theorem ofR_range (P : List (List Int)) (k : List Int) : -1 ≤ ofR P k ∧ ofR P k ≤ (P.length : Int) := by
  have := ofN_le P k
  unfold ofR
  split <;> omega
/-- Points of a list that has been walked: what a walk that stops at the first one above the key counts. -/
theorem ofN_stop {P : List (List Int)} (h : riseR P = true) {k : List Int} {n : Nat} (hn : n ≤ P.length) (h1 : ∀ j, j < n → lexC (P.getD j []) k ≤ 0) (h2 : n = P.length ∨ ¬ lexC (P.getD n []) k ≤ 0) : ofN P k = n := by
  rcases h2 with h2 | h2
  · refine count_at hn (fun j x hj hx => decide_eq_true (by have := h1 j hj; rwa [getD_of hx] at this)) (fun j x hj hx => ?_)
    have := lt_of_get hx
    omega
  · refine count_at hn (fun j x hj hx => decide_eq_true (by have := h1 j hj; rwa [getD_of hx] at this)) (fun j x hj hx => decide_eq_false (fun e => h2 ?_))
    rw [← getD_of hx] at e
    by_cases e2 : j = n
    · rw [← e2]; exact e
    · exact lex_le_trans (by have := rise_lt h j n (by omega) (lt_of_get hx); omega) e
/- Lists of the numbers below n that have something. -/
theorem numsR_next (q : Nat → Bool) (n : Nat) : numsR q (n + 1) = numsR q n ++ (if q n then [(n : Int)] else []) := by
  unfold numsR
  rw [List.range_succ, List.filter_append, List.map_append]
  cases h : q n <;> simp [h]
theorem numsR_len (q : Nat → Bool) (n : Nat) : (numsR q n).length ≤ n := by
  unfold numsR
  rw [List.length_map]
  exact Nat.le_trans (List.length_filter_le _ _) (by simp)
theorem numsR_congr {q r : Nat → Bool} : ∀ {n : Nat}, (∀ i, i < n → q i = r i) → numsR q n = numsR r n
  | 0, _ => rfl
  | n + 1, h => by rw [numsR_next, numsR_next, numsR_congr (fun i hi => h i (by omega)), h n (by omega)]
theorem numsR_none {q : Nat → Bool} {n : Nat} (h : ∀ i, i < n → q i = false) : numsR q n = [] := by
  rw [numsR_congr (r := fun _ => false) h]
  induction n with
  | zero => rfl
  | succ n ih => rw [numsR_next, ih (fun i hi => h i (by omega))]; rfl
/- Whose a write is. -/
theorem split_len (P : List (List Int)) (l : List Wrt) : (splitR P l).length = P.length + 1 := by simp [splitR]
theorem split_at {P : List (List Int)} {l : List Wrt} {i : Nat} (hi : i < P.length + 1) : (splitR P l)[i]? = some (nodeW P l i) := by
  unfold splitR
  rw [List.getElem?_map, List.getElem?_range hi]
  rfl
theorem nodeW_next {P : List (List Int)} {l : List Wrt} {n : Nat} {W : Wrt} (hW : l[n]? = some W) (i : Nat) : nodeW P (l.take (n + 1)) i = nodeW P (l.take n) i ++ if mineR P i W then [W] else [] := by
  unfold nodeW
  rw [List.take_add_one, hW, Option.toList_some, List.filter_append]
  cases h : mineR P i W <;> simp [h]
theorem nodeW_len (P : List (List Int)) (l : List Wrt) (i : Nat) : (nodeW P l i).length ≤ l.length := List.length_filter_le _ _
theorem split_next {P : List (List Int)} {l : List Wrt} {n : Nat} {W : Wrt} (hW : l[n]? = some W) {i : Nat} (hi : ofR P W.k = (i : Int)) (hil : i < P.length + 1) : splitR P (l.take (n + 1)) = (splitR P (l.take n)).set i (nodeW P (l.take n) i ++ [W]) := by
  refine List.ext_getElem? (fun j => ?_)
  rw [List.getElem?_set, split_len]
  by_cases hj : j < P.length + 1
  · rw [split_at hj, split_at hj, nodeW_next hW]
    by_cases e : i = j
    · subst e
      rw [if_pos rfl, if_pos hil, if_pos (show mineR P i W = true from decide_eq_true hi)]
    · rw [if_neg e, if_neg (by simp [mineR, hi]; omega), List.append_nil]
  · rw [List.getElem?_eq_none (by rw [split_len]; omega), if_neg (by omega), List.getElem?_eq_none (by rw [split_len]; omega)]
theorem split_skip {P : List (List Int)} {l : List Wrt} {n : Nat} {W : Wrt} (hW : l[n]? = some W) (hi : ofR P W.k < 0) : splitR P (l.take (n + 1)) = splitR P (l.take n) := by
  refine List.ext_getElem? (fun j => ?_)
  by_cases hj : j < P.length + 1
  · rw [split_at hj, split_at hj, nodeW_next hW, if_neg (by simp [mineR]; omega), List.append_nil]
  · rw [List.getElem?_eq_none (by rw [split_len]; omega), List.getElem?_eq_none (by rw [split_len]; omega)]
theorem split_none (P : List (List Int)) (l : List Wrt) : splitR P (l.take 0) = List.replicate (P.length + 1) [] := by
  refine List.ext_getElem? (fun j => ?_)
  by_cases hj : j < P.length + 1
  · rw [split_at hj, List.getElem?_replicate, if_pos hj]; rfl
  · rw [List.getElem?_eq_none (by rw [split_len]; omega), List.getElem?_eq_none (by simp; omega)]
/- Stretches. -/
theorem cover_len (P : List (List Int)) (a b : List Int) : (coverR P a b).length ≤ P.length + 1 := by
  unfold coverR
  split
  · exact numsR_len _ _
  · simp
/-- As the document tells it: the stretch is asked at each node. -/
theorem cover_each (P : List (List Int)) (a b : List Int) : coverR P a b = numsR (fun i => aboveR P a i && belowR P b i && someR a b) (P.length + 1) := by
  unfold coverR
  cases h : someR a b with
  | true => rw [if_pos rfl]; exact numsR_congr (fun i _ => by simp)
  | false => rw [if_neg (by decide)]; exact (numsR_none (fun i _ => by simp)).symm
theorem mayR_few {P : List (List Int)} (h : mayR P = true) : P.length ≤ 7 ∧ riseR P = true := by
  unfold mayR at h
  rw [Bool.and_eq_true, Bool.and_eq_true] at h
  exact ⟨of_decide_eq_true h.1, h.2.2⟩
end Go.Proofs.Ytdbgkbgodnknnaa
