/-
  Versions of keys, as chapters 11 and 12 tell them: one list, by keys, then stamps. No program is named here.
-/
import Derived.Test.YtdbgkbgodnknnaaKeyPlain
import Derived.Test.YtdbgkbgodnknnaaStampPlain
namespace Go.Proofs.Ytdbgkbgodnknnaa
open Go.RowKit
set_option linter.unusedVariables false

/-- A version: its key, its stamp (time, node), its value, whether it is gone. -/
structure Ver where
  k : List Int
  t : Int
  n : Int
  v : List Int
  g : Bool
/-- What a version is made of. -/
structure VerOk (V : Ver) : Prop where
  key : Ky V.k
  t0 : -9223372036854775808 ≤ V.t
  t1 : V.t ≤ 9223372036854775807
  n0 : 0 ≤ V.n
  n1 : V.n ≤ 255
  val : ∀ z ∈ V.v, 0 ≤ z ∧ z ≤ 255
  few : V.v.length ≤ 1000000
def mayV (V : Ver) : Bool := decide (okS V.t) && decide (V.v.length ≤ 200) && (!V.g || decide (V.v = []))
/-- Where a key's versions begin, and how many there are. -/
def kFrom (L : List Ver) (k : List Int) : Nat := (L.takeWhile (fun V => decide (lexC V.k k < 0))).length
def kMany (L : List Ver) (k : List Int) : Nat := ((L.drop (kFrom L k)).takeWhile (fun V => decide (V.k = k))).length
def chainV (L : List Ver) (k : List Int) : List Ver := (L.drop (kFrom L k)).take (kMany L k)
/-- How many of its key's are below its stamp; is there one at its stamp? -/
def putR (L : List Ver) (V : Ver) : Nat := ((chainV L V.k).takeWhile (fun X => decide (cmpS X.t X.n V.t V.n < 0))).length
def clashV (L : List Ver) (V : Ver) : Bool := match (chainV L V.k)[putR L V]? with
  | none => false
  | some X => decide (X.t = V.t ∧ X.n = V.n)
def putAt (L : List Ver) (V : Ver) : Nat := kFrom L V.k + putR L V
def putV (L : List Ver) (V : Ver) : Int × List Ver :=
  if mayV V = false then (1, L) else
  if clashV L V = true then (5, L) else
  if 50 ≤ kMany L V.k then (6, L) else (0, L.take (putAt L V) ++ V :: L.drop (putAt L V))
/-- The last one of a key not above a stamp. -/
def atV (L : List Ver) (k : List Int) (t n : Int) : Option Ver := (chainV L k).reverse.find? (fun X => decide (cmpS X.t X.n t n ≤ 0))
def goesV (L : List Ver) (t n : Int) (V : Ver) : Bool := match atV L V.k t n with
  | none => false
  | some X => decide (cmpS V.t V.n X.t X.n < 0) || (decide (cmpS V.t V.n X.t X.n = 0) && X.g)
def restV (L : List Ver) (t n : Int) : List Ver := L.filter (fun V => !goesV L t n V)
theorem tw_len {α : Type} {p : α → Bool} : ∀ {L : List α} {i : Nat}, i ≤ L.length → (∀ j V, j < i → L[j]? = some V → p V = true) → (i = L.length ∨ ∃ V, L[i]? = some V ∧ p V = false) → (L.takeWhile p).length = i
  | [], i, hi, h, hx => by simp at hi; subst hi; rfl
  | X :: R, 0, hi, h, hx => by
    rcases hx with hx | ⟨V, hV, hp⟩
    · simp at hx
    · simp at hV
      subst hV
      simp [List.takeWhile, hp]
  | X :: R, i + 1, hi, h, hx => by
    have hX : p X = true := h 0 X (Nat.succ_pos _) rfl
    have := tw_len (L := R) (i := i) (p := p) (by simp at hi; exact hi) (fun j V hj hV => h (j + 1) V (by omega) (by simpa using hV)) (by
      rcases hx with hx | ⟨V, hV, hp⟩
      · left; simp at hx; exact hx
      · right; exact ⟨V, by simpa using hV, hp⟩)
    simp [List.takeWhile, hX, this]
theorem kFrom_le (L : List Ver) (k : List Int) : kFrom L k ≤ L.length := List.Sublist.length_le (List.takeWhile_sublist _)
theorem kMany_le (L : List Ver) (k : List Int) : kFrom L k + kMany L k ≤ L.length := by
  have h : kMany L k ≤ (L.drop (kFrom L k)).length := List.Sublist.length_le (List.takeWhile_sublist _)
  rw [List.length_drop] at h
  have := kFrom_le L k
  omega
theorem chain_len (L : List Ver) (k : List Int) : (chainV L k).length = kMany L k := by
  have := kMany_le L k
  unfold chainV
  rw [List.length_take, List.length_drop]
  omega
theorem chain_at (L : List Ver) (k : List Int) (j : Nat) (h : j < kMany L k) : (chainV L k)[j]? = L[kFrom L k + j]? := by
  unfold chainV
  rw [List.getElem?_take_of_lt h, List.getElem?_drop]
theorem kFrom_is {L : List Ver} {k : List Int} {i : Nat} (hi : i ≤ L.length) (h : ∀ j V, j < i → L[j]? = some V → lexC V.k k < 0) (hx : i = L.length ∨ ∃ V, L[i]? = some V ∧ ¬ lexC V.k k < 0) : kFrom L k = i :=
  tw_len hi (fun j V hj hV => decide_eq_true (h j V hj hV)) (hx.imp id (fun ⟨V, hV, hp⟩ => ⟨V, hV, decide_eq_false hp⟩))
theorem kMany_is {L : List Ver} {k : List Int} {m : Nat} (hm : kFrom L k + m ≤ L.length) (h : ∀ j V, j < m → L[kFrom L k + j]? = some V → V.k = k) (hx : kFrom L k + m = L.length ∨ ∃ V, L[kFrom L k + m]? = some V ∧ V.k ≠ k) : kMany L k = m :=
  tw_len (by rw [List.length_drop]; omega) (fun j V hj hV => decide_eq_true (h j V hj (by rw [List.getElem?_drop] at hV; exact hV))) (by
    rcases hx with hx | ⟨V, hV, hp⟩
    · left; rw [List.length_drop]; omega
    · right; exact ⟨V, by rw [List.getElem?_drop]; exact hV, decide_eq_false hp⟩)
end Go.Proofs.Ytdbgkbgodnknnaa
