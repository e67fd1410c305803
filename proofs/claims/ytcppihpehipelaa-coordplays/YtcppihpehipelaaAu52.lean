/-
  Plain facts on chapter 10: keys of sixteen bytes, their texts, their order, lists of them in order.
  Plain facts on chapter 4's calendar: long years, months' lengths, a date's day; days are in the order of their dates.
  Plain facts on chapter 4's texts: a date's bytes, their order, and back.
  What layer 4's walks lean on besides: a date's cells, Go's own division, bytes of a text. No function of the program is named here.
  Plain facts on chapter 6: stamps, their order, the greater one, their texts.
  Versions of keys, as chapters 11 and 12 tell them: one list, by keys, then stamps. No program is named here.
-/
import Derived.Test.YtcppihpehipelaaProg
import Derived.Laws.BytesArg
import Derived.WalkKit
import Derived.WalkSpells
import Derived.WalkLawsBesides
import Derived.Below
import Derived.Deep.QuietTactic
import Derived.BigQuiet
import Derived.Handy
import Derived.Lib.ItoaMem
import Derived.Lib.ItoaLen
namespace Go.Proofs.Ytcppihpehipelaa
set_option linter.unusedVariables false

/-- A key's sixteen bytes. -/
structure Ky (k : List Int) : Prop where
  len : k.length = 16
  bytes : ∀ z ∈ k, 0 ≤ z ∧ z ≤ 255
/-- How two rows of numbers lie, the first that differ deciding. -/
def lexC : List Int → List Int → Int
  | [], [] => 0
  | [], _ :: _ => -1
  | _ :: _, [] => 1
  | a :: r, b :: s => if a < b then -1 else if b < a then 1 else lexC r s
theorem lexC_self : ∀ a, lexC a a = 0
  | [] => rfl
  | a :: r => by unfold lexC; rw [if_neg (by omega), if_neg (by omega)]; exact lexC_self r
theorem lexC_eq : ∀ {a b : List Int}, lexC a b = 0 → a = b
  | [], [], _ => rfl
  | [], _ :: _, h => by simp [lexC] at h
  | _ :: _, [], h => by simp [lexC] at h
  | a :: r, b :: s, h => by
    unfold lexC at h
    split at h
    · simp at h
    · split at h
      · simp at h
      · rw [show a = b by omega, lexC_eq h]
theorem lexC_ways : ∀ a b : List Int, lexC a b = -1 ∨ lexC a b = 0 ∨ lexC a b = 1
  | [], [] => .inr (.inl rfl)
  | [], _ :: _ => .inl rfl
  | _ :: _, [] => .inr (.inr rfl)
  | a :: r, b :: s => by
    unfold lexC
    split
    · exact .inl rfl
    · split
      · exact .inr (.inr rfl)
      · exact lexC_ways r s
theorem lexC_swap : ∀ a b : List Int, lexC b a = -lexC a b
  | [], [] => rfl
  | [], _ :: _ => rfl
  | _ :: _, [] => rfl
  | a :: r, b :: s => by
    unfold lexC
    by_cases h1 : a < b
    · rw [if_pos h1, if_neg (by omega), if_pos h1]; rfl
    · by_cases h2 : b < a
      · rw [if_pos h2, if_neg h1, if_pos h2]
      · rw [if_neg h1, if_neg h2, if_neg h2, if_neg h1]; exact lexC_swap r s
theorem lexC_trans : ∀ {a b c : List Int}, lexC a b = -1 → lexC b c = -1 → lexC a c = -1
  | [], [], _, h, _ => by simp [lexC] at h
  | [], _ :: _, [], _, h => by simp [lexC] at h
  | [], _ :: _, _ :: _, _, _ => rfl
  | _ :: _, [], _, h, _ => by simp [lexC] at h
  | _ :: _, _ :: _, [], _, h => by simp [lexC] at h
  | a :: r, b :: s, c :: t, h1, h2 => by
    unfold lexC at h1 h2 ⊢
    by_cases x1 : a < b
    · by_cases x2 : b < c
      · rw [if_pos (by omega)]
      · rw [if_neg x2] at h2
        by_cases x3 : c < b
        · rw [if_pos x3] at h2; simp at h2
        · rw [if_pos (by omega)]
    · rw [if_neg x1] at h1
      by_cases y1 : b < a
      · rw [if_pos y1] at h1; simp at h1
      · rw [if_neg y1] at h1
        have e : a = b := by omega
        subst e
        by_cases x2 : a < c
        · rw [if_pos x2]
        · rw [if_neg x2] at h2 ⊢
          by_cases x3 : c < a
          · rw [if_pos x3] at h2; simp at h2
          · rw [if_neg x3] at h2 ⊢; exact lexC_trans h1 h2
/-- A key's text: what stands ahead of its first 0. -/
def txK (k : List Int) : List Int := k.takeWhile fun z => z != 0
/-- May a key be? -/
def goodK (k : List Int) : Bool := decide (k.getD 0 0 ≠ 0 ∧ ∀ z ∈ k.drop (txK k).length, z = 0)
def zeroK : List Int := List.replicate 16 0
theorem zeroK_ky : Ky zeroK := ⟨by decide, by decide⟩
theorem txK_none (k : List Int) : ∀ z ∈ txK k, z ≠ 0 := by
  intro z hz
  have : (k.takeWhile fun z => z != 0).all (fun z => z != 0) = true := by
    have h : ∀ l : List Int, (l.takeWhile fun z => z != 0).all (fun z => z != 0) = true := by
      intro l
      induction l with
      | nil => rfl
      | cons a r ih => rw [List.takeWhile_cons]; split <;> simp_all
    exact h k
  simpa using List.all_eq_true.1 this z hz
theorem txK_le (k : List Int) : (txK k).length ≤ k.length := (List.takeWhile_sublist _).length_le
theorem txK_split (k : List Int) : k = txK k ++ k.drop (txK k).length := by
  have h : ∀ l : List Int, l = (l.takeWhile fun z => z != 0) ++ l.drop (l.takeWhile fun z => z != 0).length := by
    intro l
    induction l with
    | nil => rfl
    | cons a r ih =>
      rw [List.takeWhile_cons]
      split
      · rw [List.length_cons, List.drop_succ_cons, List.cons_append, ← ih]
      · rfl
  exact h k
/-- Rising, each once. -/
def Rising : List (List Int) → Prop
  | [] => True
  | [_] => True
  | a :: b :: r => lexC a b < 0 ∧ Rising (b :: r)
theorem Rising.tail {a : List Int} {r : List (List Int)} (h : Rising (a :: r)) : Rising r := by
  cases r with
  | nil => trivial
  | cons b r => exact h.2
end Go.Proofs.Ytcppihpehipelaa

namespace Go.Proofs.Ytcppihpehipelaa
set_option linter.unusedVariables false

/-- A long year. -/
def lp (y : Int) : Bool := y % 4 == 0 && (y % 100 != 0 || y % 400 == 0)
/-- A month's days. -/
def ml (y m : Int) : Int := if m = 2 then (if lp y = true then 29 else 28) else if m = 4 ∨ m = 6 ∨ m = 9 ∨ m = 11 then 30 else if 1 ≤ m ∧ m ≤ 12 then 31 else 0
theorem ml_none {y m : Int} (h : m < 1 ∨ 12 < m) : ml y m = 0 := by
  unfold ml
  rw [if_neg (by omega), if_neg (by omega), if_neg (by omega)]
theorem ml_pos {y m : Int} (h1 : 1 ≤ m) (h2 : m ≤ 12) : 28 ≤ ml y m ∧ ml y m ≤ 31 := by
  unfold ml
  split
  · split <;> omega
  · split
    · omega
    · rw [if_pos ⟨h1, h2⟩]; omega
theorem ml_le (y m : Int) : 0 ≤ ml y m ∧ ml y m ≤ 31 := by
  by_cases h : 1 ≤ m ∧ m ≤ 12
  · have := ml_pos (y := y) h.1 h.2; omega
  · rw [ml_none (by omega)]; omega
theorem ml_month {y m : Int} (h : 1 ≤ ml y m) : 1 ≤ m ∧ m ≤ 12 := by
  apply Classical.byContradiction
  intro hn
  rw [ml_none (by omega)] at h
  omega
/-- A date. -/
abbrev Gd (y m d : Int) : Prop := -9999 ≤ y ∧ y ≤ 9999 ∧ 1 ≤ d ∧ d ≤ ml y m
theorem Gd.month {y m d : Int} (h : Gd y m d) : 1 ≤ m ∧ m ≤ 12 := ml_month (y := y) (by have := h.2.2; omega)
theorem Gd.day {y m d : Int} (h : Gd y m d) : 1 ≤ d ∧ d ≤ 31 := by have := ml_le y m; have := h.2.2; omega

/-- The days of a year ahead of a month. -/
def md (y m : Int) : Int := (367 * m - 362) / 12 - (if m ≤ 2 then 0 else if lp y = true then 1 else 2)
end Go.Proofs.Ytcppihpehipelaa

namespace Go.Proofs.Ytcppihpehipelaa
set_option linter.unusedVariables false

def rest (xs : List Int) : List Int := if xs.head? = some 45 then xs.tail else xs
end Go.Proofs.Ytcppihpehipelaa

namespace Go.Proofs.Ytcppihpehipelaa
open Go.RowKit
set_option linter.unusedVariables false

theorem below_dN {B : Nat} {a w : World} (h : Below B a w) (n : Nat) : Below B a (w.drewN n) := ⟨h.os, h.tape, h.output, h.size, h.block⟩
/-- A date's cells, in a block of its own. -/
structure DateAt (w : World) (g : Nat) (y m d : Int) : Prop where
  c0 : w.cell? ⟨g, 0, none⟩ = some (.int .i64 y)
  c1 : w.cell? ⟨g, 1, none⟩ = some (.int .i64 m)
  c2 : w.cell? ⟨g, 2, none⟩ = some (.int .i64 d)
theorem DateAt.made (w : World) (t : TypeId) (y m d : Int) : DateAt (w.alloc (.cells #[.int .i64 y, .int .i64 m, .int .i64 d] t)) w.heap.size y m d :=
  ⟨by rw [World.cell?_alloc_new]; rfl, by rw [World.cell?_alloc_new]; rfl, by rw [World.cell?_alloc_new]; rfl⟩
theorem DateAt.below {w w' : World} {g B : Nat} {y m d : Int} (h : DateAt w g y m d) (hb : Below B w w') (hg : g < B) : DateAt w' g y m d :=
  ⟨by rw [hb.cell (p := ⟨g, 0, none⟩) hg]; exact h.c0, by rw [hb.cell (p := ⟨g, 1, none⟩) hg]; exact h.c1, by rw [hb.cell (p := ⟨g, 2, none⟩) hg]; exact h.c2⟩

end Go.Proofs.Ytcppihpehipelaa

namespace Go.Proofs.Ytcppihpehipelaa
open Go.RowKit
set_option linter.unusedVariables false

/-- May a stamp of this time be? -/
abbrev okS (t : Int) : Prop := 0 ≤ t ∧ t ≤ 36028797018963967
/-- One stamp ahead of another. -/
abbrev ltS (t n t' n' : Int) : Prop := t < t' ∨ t = t' ∧ n < n'
/-- How two stamps lie. -/
def cmpS (t n t' n' : Int) : Int := if ltS t n t' n' then -1 else if t = t' ∧ n = n' then 0 else 1
theorem cmp_lt {t n t' n' : Int} (h : ltS t n t' n') : cmpS t n t' n' = -1 := if_pos h
theorem cmp_eq (t n : Int) : cmpS t n t n = 0 := by
  unfold cmpS
  rw [if_neg (by unfold ltS; omega), if_pos ⟨rfl, rfl⟩]
theorem cmp_gt {t n t' n' : Int} (h : ltS t' n' t n) : cmpS t n t' n' = 1 := by
  unfold cmpS
  rw [if_neg (by unfold ltS at *; omega), if_neg (by unfold ltS at h; omega)]
theorem cmp_ways (t n t' n' : Int) : (ltS t n t' n' ∧ cmpS t n t' n' = -1 ∧ cmpS t' n' t n = 1) ∨ (t = t' ∧ n = n' ∧ cmpS t n t' n' = 0 ∧ cmpS t' n' t n = 0) ∨ (ltS t' n' t n ∧ cmpS t n t' n' = 1 ∧ cmpS t' n' t n = -1) := by
  by_cases h1 : ltS t n t' n'
  · exact .inl ⟨h1, cmp_lt h1, cmp_gt h1⟩
  · by_cases h2 : ltS t' n' t n
    · exact .inr (.inr ⟨h2, cmp_gt h2, cmp_lt h2⟩)
    · unfold ltS at h1 h2
      have e1 : t = t' := by omega
      have e2 : n = n' := by omega
      subst e1; subst e2
      exact .inr (.inl ⟨rfl, rfl, cmp_eq _ _, cmp_eq _ _⟩)
/-- The greater one. -/
def mxS (t n t' n' : Int) : Int × Int := if ltS t n t' n' then (t', n') else (t, n)
end Go.Proofs.Ytcppihpehipelaa

namespace Go.Proofs.Ytcppihpehipelaa
open Go.RowKit
set_option linter.unusedVariables false

/-- A version: its key, its stamp (time, node), its value, whether it is gone. -/
structure Ver where
  k : List Int
  t : Int
  n : Int
  v : List Int
  g : Bool
/-- What a version is made of. -/
structure VerOk (V : Ver) : Prop where
  key : Ky V.k
  t0 : -9223372036854775808 ≤ V.t
  t1 : V.t ≤ 9223372036854775807
  n0 : 0 ≤ V.n
  n1 : V.n ≤ 255
  val : ∀ z ∈ V.v, 0 ≤ z ∧ z ≤ 255
  few : V.v.length ≤ 1000000
def mayV (V : Ver) : Bool := decide (okS V.t) && decide (V.v.length ≤ 200) && (!V.g || decide (V.v = []))
/-- Where a key's versions begin, and how many there are. -/
def kFrom (L : List Ver) (k : List Int) : Nat := (L.takeWhile (fun V => decide (lexC V.k k < 0))).length
def kMany (L : List Ver) (k : List Int) : Nat := ((L.drop (kFrom L k)).takeWhile (fun V => decide (V.k = k))).length
def chainV (L : List Ver) (k : List Int) : List Ver := (L.drop (kFrom L k)).take (kMany L k)
/-- How many of its key's are below its stamp; is there one at its stamp? -/
def putR (L : List Ver) (V : Ver) : Nat := ((chainV L V.k).takeWhile (fun X => decide (cmpS X.t X.n V.t V.n < 0))).length
def clashV (L : List Ver) (V : Ver) : Bool := match (chainV L V.k)[putR L V]? with
  | none => false
  | some X => decide (X.t = V.t ∧ X.n = V.n)
def putAt (L : List Ver) (V : Ver) : Nat := kFrom L V.k + putR L V
def putV (L : List Ver) (V : Ver) : Int × List Ver :=
  if mayV V = false then (1, L) else
  if clashV L V = true then (5, L) else
  if 50 ≤ kMany L V.k then (6, L) else (0, L.take (putAt L V) ++ V :: L.drop (putAt L V))
/-- The last one of a key not above a stamp. -/
def atV (L : List Ver) (k : List Int) (t n : Int) : Option Ver := (chainV L k).reverse.find? (fun X => decide (cmpS X.t X.n t n ≤ 0))
def goesV (L : List Ver) (t n : Int) (V : Ver) : Bool := match atV L V.k t n with
  | none => false
  | some X => decide (cmpS V.t V.n X.t X.n < 0) || (decide (cmpS V.t V.n X.t X.n = 0) && X.g)
def restV (L : List Ver) (t n : Int) : List Ver := L.filter (fun V => !goesV L t n V)
theorem tw_len {α : Type} {p : α → Bool} : ∀ {L : List α} {i : Nat}, i ≤ L.length → (∀ j V, j < i → L[j]? = some V → p V = true) → (i = L.length ∨ ∃ V, L[i]? = some V ∧ p V = false) → (L.takeWhile p).length = i
  | [], i, hi, h, hx => by simp at hi; subst hi; rfl
  | X :: R, 0, hi, h, hx => by
    rcases hx with hx | ⟨V, hV, hp⟩
    · simp at hx
    · simp at hV
      subst hV
      simp [List.takeWhile, hp]
  | X :: R, i + 1, hi, h, hx => by
    have hX : p X = true := h 0 X (Nat.succ_pos _) rfl
    have := tw_len (L := R) (i := i) (p := p) (by simp at hi; exact hi) (fun j V hj hV => h (j + 1) V (by omega) (by simpa using hV)) (by
      rcases hx with hx | ⟨V, hV, hp⟩
      · left; simp at hx; exact hx
      · right; exact ⟨V, by simpa using hV, hp⟩)
    simp [List.takeWhile, hX, this]
theorem kFrom_le (L : List Ver) (k : List Int) : kFrom L k ≤ L.length := List.Sublist.length_le (List.takeWhile_sublist _)
theorem kMany_le (L : List Ver) (k : List Int) : kFrom L k + kMany L k ≤ L.length := by
  have h : kMany L k ≤ (L.drop (kFrom L k)).length := List.Sublist.length_le (List.takeWhile_sublist _)
  rw [List.length_drop] at h
  have := kFrom_le L k
  omega
theorem chain_len (L : List Ver) (k : List Int) : (chainV L k).length = kMany L k := by
  have := kMany_le L k
  unfold chainV
  rw [List.length_take, List.length_drop]
  omega
theorem chain_at (L : List Ver) (k : List Int) (j : Nat) (h : j < kMany L k) : (chainV L k)[j]? = L[kFrom L k + j]? := by
  unfold chainV
  rw [List.getElem?_take_of_lt h, List.getElem?_drop]
theorem kFrom_is {L : List Ver} {k : List Int} {i : Nat} (hi : i ≤ L.length) (h : ∀ j V, j < i → L[j]? = some V → lexC V.k k < 0) (hx : i = L.length ∨ ∃ V, L[i]? = some V ∧ ¬ lexC V.k k < 0) : kFrom L k = i :=
  tw_len hi (fun j V hj hV => decide_eq_true (h j V hj hV)) (hx.imp id (fun ⟨V, hV, hp⟩ => ⟨V, hV, decide_eq_false hp⟩))
theorem kMany_is {L : List Ver} {k : List Int} {m : Nat} (hm : kFrom L k + m ≤ L.length) (h : ∀ j V, j < m → L[kFrom L k + j]? = some V → V.k = k) (hx : kFrom L k + m = L.length ∨ ∃ V, L[kFrom L k + m]? = some V ∧ V.k ≠ k) : kMany L k = m :=
  tw_len (by rw [List.length_drop]; omega) (fun j V hj hV => decide_eq_true (h j V hj (by rw [List.getElem?_drop] at hV; exact hV))) (by
    rcases hx with hx | ⟨V, hV, hp⟩
    · left; rw [List.length_drop]; omega
    · right; exact ⟨V, by rw [List.getElem?_drop]; exact hV, decide_eq_false hp⟩)
end Go.Proofs.Ytcppihpehipelaa

