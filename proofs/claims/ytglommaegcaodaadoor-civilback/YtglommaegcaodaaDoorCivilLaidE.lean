/-
  What layer 4's rows list of the library's tables and errors, and a start that fits.
-/
import Derived.Test.YtglommaegcaodaaDoorCivilLaid
import Derived.Test.YtglommaegcaodaaDoorCivilP
namespace Go.Proofs.YtglommaegcaodaaDoor
open Go.RowKit Go.Shelf
set_option linter.unusedVariables false

abbrev laid5 : List (String × DataW Unit) := [("math/bits.deBruijn32tab", Rows.laid_math_bits_deBruijn32tab), ("math/bits.deBruijn64tab", Rows.laid_math_bits_deBruijn64tab), ("internal/strconv.uint64pow10", Rows.laid_internal_strconv_uint64pow10), ("strconv.ErrRange", Rows.laid_strconv_ErrRange), ("strconv.ErrSyntax", Rows.laid_strconv_ErrSyntax)]
abbrev synS : ByteArray := { data := #[105, 110, 118, 97, 108, 105, 100, 32, 115, 121, 110, 116, 97, 120] }
abbrev rngS : ByteArray := { data := #[118, 97, 108, 117, 101, 32, 111, 117, 116, 32, 111, 102, 32, 114, 97, 110, 103, 101] }
/-- So many blocks has the settled world. -/
noncomputable def low : Nat := (World.holding Tryd.prog default ⟨#[], #[], []⟩).heap.size
/-- The settled world with two blocks more, the three tables and the two errors as their text lays them. -/
noncomputable def laidWorld5 (os : Os) : World :=
  { World.holding Tryd.prog os ⟨#[.cells #[.string synS] 100, .cells #[.string rngS] 100], #[], []⟩ with heap := (((((World.holding Tryd.prog os ⟨#[.cells #[.string synS] 100, .cells #[.string rngS] 100], #[], []⟩).heap.modify 4 (reCells ((litNums Rows.laid_math_bits_deBruijn32tab).map fun z => Value.int .u8 z).toArray)).modify 5 (reCells ((litNums Rows.laid_math_bits_deBruijn64tab).map fun z => Value.int .u8 z).toArray)).modify 2 (reCells (Lib.pow10Tab.map fun z => Value.int .u64 z).toArray)).modify 0 (reCells #[.iface 98 (.pointer (some ⟨low, 0, none⟩))])).modify 1 (reCells #[.iface 98 (.pointer (some ⟨low + 1, 0, none⟩))]) }
theorem laid5_met (os : Os) (args : Array Value) : laidMet Tryd.prog laid5 ((laidWorld5 os).forCall (fun _ _ => 0) ⟨#[], args, []⟩).memory :=
  laidMet_of_run' 8 (by kernel_rfl) (by kernel_rfl)
theorem gES : Tryd.prog.globalNamed "strconv.ErrSyntax" = some 0 := by kernel_rfl
theorem gESType : (Tryd.prog.globals[0]?).map (·.type) = some 52 := by kernel_rfl
theorem star : "*" ++ "errors.errorString" = "*errors.errorString" := by decide
theorem rowES (u : TypeId) (h : Tryd.prog.typeName? 3 u = some "*errors.errorString") : u = 98 :=
  typeName_ptr_named (nm := "errors.errorString") (by rw [star]; kernel_rfl) (by kernel_rfl) (by decide) u (by rw [star]; exact h)
theorem errsyn_of {W : World} (h : laidMet Tryd.prog laid5 W) : ErrSyn W := by
  obtain ⟨a0, s0, hv0, -, -, -⟩ := laid_sentinel h.tail.tail.tail.tail gES gESType Tryd.underlying52 rowES Tryd.underlying98 Tryd.underlying100 rfl rfl Tryd.underlying9 (by kernel_rfl) (by kernel_rfl)
  exact ⟨_, _, hv0⟩
end Go.Proofs.YtglommaegcaodaaDoor
