/-
  Regions whose last operation waits for the others by way of others: who comes first may be taken first.
-/
import Derived.Test.YtfaojmognbgnfaaGreatRegLast
namespace Go.Proofs.YtfaojmognbgnfaaGreat
open Go Go.RowKit
set_option linter.unusedVariables false

section
variable {P : Program} {ops : Array Oper} {Q : Exit → Act → World → Prop} {md : Region.Mode} {S : World → Prop} {z : Nat}
end
end Go.Proofs.YtfaojmognbgnfaaGreat
