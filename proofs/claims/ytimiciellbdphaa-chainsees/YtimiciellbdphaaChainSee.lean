/-
  A chain of the call's own beside two variables for versions.
-/
import Derived.Test.YtimiciellbdphaaChainKeep
import Derived.Test.YtimiciellbdphaaChainBtw
namespace Go.Proofs.Ytimiciellbdphaa
open Go.RowKit
set_option linter.unusedVariables false

theorem sees_two {W0 u w6 : World} {p bx : Nat} {L : List Ver} {tx nx : Int} {X1 : ByteArray} {gx : Bool} (h : ChW W0 u p L) (hb : Below u.heap.size u w6) (e : BxA u bx tx nx X1 gx) (ty ny : Int) (Y1 : ByteArray) (gy : Bool) (T : TypeId) :
    ∃ W7, Hid (w6.alloc (.cells #[.int .i64 ty, .int .u8 ny, .string Y1, .bool gy] T) = W7) ∧ Hid (ChW W0 W7 p L) ∧ Hid (BxA W7 bx tx nx X1 gx) ∧ Hid (BxA W7 w6.heap.size ty ny Y1 gy) :=
  ⟨_, rfl, (h.past hb).past ((Below.refl _ _).alloc (Nat.le_refl _) _), (e.past hb).past ((Below.refl _ _).alloc (Nat.le_refl _) _), BxA.made w6 T ty ny Y1 gy⟩
end Go.Proofs.Ytimiciellbdphaa
