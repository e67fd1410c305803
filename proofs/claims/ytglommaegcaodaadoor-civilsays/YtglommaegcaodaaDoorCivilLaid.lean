/-
  What layer 4's rows list of the library's tables, and a start that fits.
-/
import Derived.Test.YtglommaegcaodaaDoorRows
import Derived.Test.YtglommaegcaodaaDoorCivilC
import Derived.Lib.LaidTab
import Derived.LaidLaws
import Derived.Stop.LaidErr
namespace Go.Proofs.YtglommaegcaodaaDoor
open Go.RowKit Go.Shelf
set_option linter.unusedVariables false

abbrev laid3 : List (String × DataW Unit) := [("math/bits.deBruijn32tab", Rows.laid_math_bits_deBruijn32tab), ("math/bits.deBruijn64tab", Rows.laid_math_bits_deBruijn64tab), ("internal/strconv.uint64pow10", Rows.laid_internal_strconv_uint64pow10)]
/-- The number that a literal is. -/
def litNum : DataW Unit → Int
  | .lit (.int _ n) => n
  | _ => 0
def litNums : DataW Unit → List Int
  | .agg l => l.map litNum
  | _ => []
/-- A block with other cells. -/
def reCells (cs : Array Value) : Obj → Obj
  | .cells _ t frozen => .cells cs t frozen
  | o => o
/-- The settled world, the three tables as their text lays them. -/
noncomputable def laidWorld3 (os : Os) : World :=
  { World.holding Tryd.prog os ⟨#[], #[], []⟩ with heap := (((World.holding Tryd.prog os ⟨#[], #[], []⟩).heap.modify 4 (reCells ((litNums Rows.laid_math_bits_deBruijn32tab).map fun z => Value.int .u8 z).toArray)).modify 5 (reCells ((litNums Rows.laid_math_bits_deBruijn64tab).map fun z => Value.int .u8 z).toArray)).modify 2 (reCells (Lib.pow10Tab.map fun z => Value.int .u64 z).toArray) }
theorem laid3_met (os : Os) (args : Array Value) : laidMet Tryd.prog laid3 ((laidWorld3 os).forCall (fun _ _ => 0) ⟨#[], args, []⟩).memory :=
  laidMet_of_run' 8 (by kernel_rfl) (by kernel_rfl)
theorem gP : Tryd.prog.globalNamed "internal/strconv.uint64pow10" = some 2 := by kernel_rfl
theorem gPType : (Tryd.prog.globals[2]?).map (·.type) = some 103 := by kernel_rfl
theorem pow_laid : (Rows.laid_internal_strconv_uint64pow10 : DataW Unit) = Lib.tabData .u64 Lib.pow10Tab := by kernel_rfl
theorem ready_of {r : List (String × DataW Unit)} {W : World} (h : laidMet Tryd.prog (("math/bits.deBruijn32tab", Rows.laid_math_bits_deBruijn32tab) :: ("math/bits.deBruijn64tab", Rows.laid_math_bits_deBruijn64tab) :: ("internal/strconv.uint64pow10", Rows.laid_internal_strconv_uint64pow10) :: r) W) : Ready W := by
  have h2 := h.tail.tail
  rw [pow_laid] at h2
  exact Lib.tabIs_of_head gP gPType Tryd.underlying103 Tryd.underlying79 (by kernel_rfl) (by kernel_rfl) h2
end Go.Proofs.YtglommaegcaodaaDoor
