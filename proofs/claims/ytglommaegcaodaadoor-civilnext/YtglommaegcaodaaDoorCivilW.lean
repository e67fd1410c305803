/-
  What the landed Weekday (civil) answers.
-/
import Derived.Test.YtglommaegcaodaaDoorCivilBase
namespace Go.Proofs.YtglommaegcaodaaDoor
open Go.RowKit
set_option linter.unusedVariables false

theorem weekday_same (n : Int) (w : World) (h1 : -9223372036854775808 ≤ n) (h2 : n ≤ 9223372036854775807) :
    Calls Tryd.prog 15 #[.int .i64 n] w fun e w' => e = .returned (.int .i64 (wd n)) ∧ w' = w := by
  have hb := tm_7 n
  have ht := wd_t n
  go_enter Tryd.func15, Tryd.ntmps15
  go_wp2
  go_ret
  exact ⟨rfl, rfl⟩
theorem weekday_any (n : Int) (w : World) (h1 : -9223372036854775808 ≤ n) (h2 : n ≤ 9223372036854775807) :
    Calls Tryd.prog 15 #[.int .i64 n] w fun e w' => e = .returned (.int .i64 (wd n)) ∧ Below w.heap.size w w' :=
  (weekday_same n w h1 h2).mono (by rintro e w' ⟨rfl, rfl⟩; exact ⟨rfl, Below.refl _ _⟩)
end Go.Proofs.YtglommaegcaodaaDoor
