/-
  The library's table of powers of ten, as its text lays it.
-/
import Derived.Test.YtmokepjemplfgaaDoorShelf
import Derived.Lib.AppendIntMem
import Derived.Below
namespace Go.Proofs.YtmokepjemplfgaaDoor
open Go.RowKit
set_option linter.unusedVariables false

/-- The library's table of powers of ten reads as its text lays it. -/
def Ready (w : World) : Prop := Lib.TabIs Tryd.prog w "internal/strconv.uint64pow10" .u64 Lib.pow10Tab
theorem Ready.on {w w' : World} (h : Ready w) (hb : Below w.heap.size w w') : Ready w' := Lib.tabBelow_of_tabIs h w' hb
end Go.Proofs.YtmokepjemplfgaaDoor
