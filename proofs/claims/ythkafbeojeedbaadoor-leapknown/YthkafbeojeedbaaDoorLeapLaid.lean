/-
  What layer 5's rows list of the library's errors, as the readings of tables want it.
-/
import Derived.Test.YthkafbeojeedbaaDoorCivilLaidE
import Derived.Test.YthkafbeojeedbaaDoorLeapRd
namespace Go.Proofs.YthkafbeojeedbaaDoor
open Go.RowKit Go.Shelf
set_option linter.unusedVariables false

theorem gER : Tryd.prog.globalNamed "strconv.ErrRange" = some 3 := by kernel_rfl
theorem gERType : (Tryd.prog.globals[3]?).map (·.type) = some 67 := by kernel_rfl
theorem le_of {W : World} (h : laidMet Tryd.prog laid5 W) : LE W := by
  obtain ⟨a0, s0, hv0, -, -, -⟩ := laid_sentinel h.tail.tail.tail gER gERType Tryd.underlying67 rowES Tryd.underlying122 Tryd.underlying124 rfl rfl Tryd.underlying9 (by kernel_rfl) (by kernel_rfl)
  exact ⟨errsyn_of h, _, _, hv0⟩
end Go.Proofs.YthkafbeojeedbaaDoor
