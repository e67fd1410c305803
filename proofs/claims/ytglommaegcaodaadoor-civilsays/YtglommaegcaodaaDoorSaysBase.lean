/-
  Plain facts for CivilSays: every day of these years has a date; four operations of its last statement.
-/
import Derived.Test.YtglommaegcaodaaDoorCivilOwn
import Derived.Test.YtglommaegcaodaaDoorRefCivil5
import Derived.Test.YtglommaegcaodaaDoorRefWeek
import Derived.Deep.RegionHeld3
namespace Go.Proofs.YtglommaegcaodaaDoor
open Go.RowKit
set_option linter.unusedVariables false

theorem year_exists (n : Int) (h1 : -4371587 ≤ n) : ∀ k : Nat, n < fy (-9999 + k) → ∃ y : Int, -9999 ≤ y ∧ y < -9999 + k ∧ fy y ≤ n ∧ n < fy (y + 1) := by
  intro k
  induction k with
  | zero => intro h; simp at h; rw [fy_lo] at h; omega
  | succ k ih =>
    intro h
    by_cases hk : n < fy (-9999 + k)
    · obtain ⟨y, a, b, c⟩ := ih hk
      exact ⟨y, a, by omega, c⟩
    · exact ⟨-9999 + k, by omega, by omega, by omega, by have e : (-9999 : Int) + ((k + 1 : Nat) : Int) = -9999 + k + 1 := by omega
                                                         rw [e] at h; exact h⟩
theorem month_exists (y r : Int) (h1 : 0 ≤ r) : ∀ k : Nat, k ≤ 12 → r < md y (1 + k) → ∃ m, 1 ≤ m ∧ m ≤ 12 ∧ md y m ≤ r ∧ r < md y (m + 1) := by
  intro k
  induction k with
  | zero => intro _ h; simp [md_one] at h; omega
  | succ k ih =>
    intro hk h
    by_cases hk2 : r < md y (1 + k)
    · exact ih (by omega) hk2
    · exact ⟨1 + k, by omega, by omega, by omega, by have e : (1 : Int) + ((k + 1 : Nat) : Int) = 1 + k + 1 := by omega
                                                     rw [e] at h; exact h⟩
theorem day_exists (n : Int) (h1 : -4371587 ≤ n) (h2 : n ≤ 2932896) : ∃ y m d, Gd y m d ∧ dayN y m d = n := by
  obtain ⟨y, a, b, c, e⟩ := year_exists n h1 19999 (by show n < fy 10000; rw [fy_hi]; omega)
  have hs := fy_step y
  have hend := md_end y
  obtain ⟨m, m1, m2, m3, m4⟩ := month_exists y (n - fy y) (by omega) 12 (by omega) (by show _ < md y 13; rw [hend]; omega)
  have hms := md_step (y := y) m1 m2
  have hd := day_of (y := y) (m := m) (n := n) a (by omega) m1 m2 (by omega) (by omega)
  exact ⟨y, m, _, hd⟩
/-- Four operations of the last statement that a date, a day that is there leave out. -/
def opA (p : String) : Oper := { dst := some 62, op := Op.move (Operand.tmp 6), type := 23, pos := p, after := #[{ on := 11, ground := Ground.guard }], guard := some (11, false) }
def opB (p : String) : Oper := { dst := some 63, op := Op.binOp BinOp.eql 23 (Operand.tmp 62) (Operand.const (Value.int IntKind.i64 1)) 23, type := 4, pos := p, after := #[{ on := 12, ground := Ground.data }, { on := 11, ground := Ground.guard }], guard := some (11, false) }
def opC (p : String) : Oper := { dst := some 81, op := Op.move (Operand.tmp 10), type := 23, pos := p, after := #[{ on := 30, ground := Ground.guard }], guard := some (30, false) }
def opD (p : String) : Oper := { dst := some 82, op := Op.binOp BinOp.eql 23 (Operand.tmp 81) (Operand.const (Value.int IntKind.i64 1)) 23, type := 4, pos := p, after := #[{ on := 31, ground := Ground.data }, { on := 30, ground := Ground.guard }], guard := some (30, false) }
end Go.Proofs.YtglommaegcaodaaDoor
