/-
  A store of the call's own beside the document's; a copy that goes its own way.
-/
import Derived.Test.YtfaojmognbgnfaaGreatStoL3
import Derived.Test.YtfaojmognbgnfaaGreatStoL4
namespace Go.Proofs.YtfaojmognbgnfaaGreat
open Go.RowKit
set_option linter.unusedVariables false

theorem xsto_any {w u : World} {p : Nat} {L : List Ver} (h : StX w u p L) :
    Calls Tryz.prog 23 #[.pointer (some ⟨p, 0, none⟩)] u fun e w' => ∃ q, e = .returned (.pointer (some ⟨q, 0, none⟩)) ∧ StoreR w' u.heap.size q L ∧ Below u.heap.size u w' := by
  obtain ⟨X, h1, _⟩ := h
  exact lsto_any p L X u h1
theorem rsame_is (p q : Nat) (L M : List Ver) (w : World) (h : StoreL w p L) (h' : StoreL w q M) (he : L = M) :
    Calls Tryz.prog 22 #[.pointer (some ⟨p, 0, none⟩), .pointer (some ⟨q, 0, none⟩)] w fun e w' => e = .returned (.bool true) ∧ Below w.heap.size w w' := by
  subst he
  exact (rsame10_any p q L L w h h').mono fun e w' ⟨h1, h2⟩ => ⟨by rw [h1]; simp, h2⟩
end Go.Proofs.YtfaojmognbgnfaaGreat
