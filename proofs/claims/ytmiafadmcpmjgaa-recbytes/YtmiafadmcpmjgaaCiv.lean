/-
  Plain facts on chapter 4's calendar: long years, months' lengths, a date's day; days are in the order of their dates.
  Plain facts on chapter 4's texts: a date's bytes, their order, and back.
  What layer 4's walks lean on besides: a date's cells, Go's own division, bytes of a text. No function of the program is named here.
-/
import Derived.Test.YtmiafadmcpmjgaaProg
import Derived.Laws.BytesArg
import Derived.WalkKit
import Derived.WalkSpells
import Derived.WalkLawsBesides
import Derived.Below
import Derived.Deep.QuietTactic
import Derived.BigQuiet
import Derived.Handy
namespace Go.Proofs.Ytmiafadmcpmjgaa
set_option linter.unusedVariables false

/-- A long year. -/
def lp (y : Int) : Bool := y % 4 == 0 && (y % 100 != 0 || y % 400 == 0)
/-- A month's days. -/
def ml (y m : Int) : Int := if m = 2 then (if lp y = true then 29 else 28) else if m = 4 ∨ m = 6 ∨ m = 9 ∨ m = 11 then 30 else if 1 ≤ m ∧ m ≤ 12 then 31 else 0
theorem ml_none {y m : Int} (h : m < 1 ∨ 12 < m) : ml y m = 0 := by
  unfold ml
  rw [if_neg (by omega), if_neg (by omega), if_neg (by omega)]
theorem ml_pos {y m : Int} (h1 : 1 ≤ m) (h2 : m ≤ 12) : 28 ≤ ml y m ∧ ml y m ≤ 31 := by
  unfold ml
  split
  · split <;> omega
  · split
    · omega
    · rw [if_pos ⟨h1, h2⟩]; omega
theorem ml_le (y m : Int) : 0 ≤ ml y m ∧ ml y m ≤ 31 := by
  by_cases h : 1 ≤ m ∧ m ≤ 12
  · have := ml_pos (y := y) h.1 h.2; omega
  · rw [ml_none (by omega)]; omega
theorem ml_month {y m : Int} (h : 1 ≤ ml y m) : 1 ≤ m ∧ m ≤ 12 := by
  apply Classical.byContradiction
  intro hn
  rw [ml_none (by omega)] at h
  omega
/-- A date. -/
abbrev Gd (y m d : Int) : Prop := -9999 ≤ y ∧ y ≤ 9999 ∧ 1 ≤ d ∧ d ≤ ml y m
theorem Gd.month {y m d : Int} (h : Gd y m d) : 1 ≤ m ∧ m ≤ 12 := ml_month (y := y) (by have := h.2.2; omega)
theorem Gd.day {y m d : Int} (h : Gd y m d) : 1 ≤ d ∧ d ≤ 31 := by have := ml_le y m; have := h.2.2; omega

/-- The days of a year ahead of a month. -/
def md (y m : Int) : Int := (367 * m - 362) / 12 - (if m ≤ 2 then 0 else if lp y = true then 1 else 2)
/-- The order of dates. -/
abbrev Ahead (y m d y' m' d' : Int) : Prop := y < y' ∨ y = y' ∧ (m < m' ∨ m = m' ∧ d < d')
end Go.Proofs.Ytmiafadmcpmjgaa

namespace Go.Proofs.Ytmiafadmcpmjgaa
set_option linter.unusedVariables false

/-- The year's digits. -/
def ab (y : Int) : Int := if y < 0 then -y else y
theorem Gd.ab {y m d : Int} (h : Gd y m d) : 0 ≤ ab y ∧ ab y ≤ 9999 := by
  have := h.1; have := h.2.1
  unfold Go.Proofs.Ytmiafadmcpmjgaa.ab; split <;> omega
def rest (xs : List Int) : List Int := if xs.head? = some 45 then xs.tail else xs
end Go.Proofs.Ytmiafadmcpmjgaa

namespace Go.Proofs.Ytmiafadmcpmjgaa
open Go.RowKit
set_option linter.unusedVariables false

theorem below_dN {B : Nat} {a w : World} (h : Below B a w) (n : Nat) : Below B a (w.drewN n) := ⟨h.os, h.tape, h.output, h.size, h.block⟩
theorem ret_bool {a b : Bool} (h : a = b) : Ending.returned (.bool a) = .returned (.bool b) := by rw [h]
/-- A date's cells, in a block of its own. -/
structure DateAt (w : World) (g : Nat) (y m d : Int) : Prop where
  c0 : w.cell? ⟨g, 0, none⟩ = some (.int .i64 y)
  c1 : w.cell? ⟨g, 1, none⟩ = some (.int .i64 m)
  c2 : w.cell? ⟨g, 2, none⟩ = some (.int .i64 d)
theorem DateAt.made (w : World) (t : TypeId) (y m d : Int) : DateAt (w.alloc (.cells #[.int .i64 y, .int .i64 m, .int .i64 d] t)) w.heap.size y m d :=
  ⟨by rw [World.cell?_alloc_new]; rfl, by rw [World.cell?_alloc_new]; rfl, by rw [World.cell?_alloc_new]; rfl⟩
theorem DateAt.below {w w' : World} {g B : Nat} {y m d : Int} (h : DateAt w g y m d) (hb : Below B w w') (hg : g < B) : DateAt w' g y m d :=
  ⟨by rw [hb.cell (p := ⟨g, 0, none⟩) hg]; exact h.c0, by rw [hb.cell (p := ⟨g, 1, none⟩) hg]; exact h.c1, by rw [hb.cell (p := ⟨g, 2, none⟩) hg]; exact h.c2⟩

theorem tm_pos {n k : Int} (h : 0 ≤ n) : n.tmod k = n % k := Int.tmod_eq_emod_of_nonneg h
theorem td_pos {n k : Int} (h : 0 ≤ n) : n.tdiv k = n / k := Int.tdiv_eq_ediv_of_nonneg h
end Go.Proofs.Ytmiafadmcpmjgaa

