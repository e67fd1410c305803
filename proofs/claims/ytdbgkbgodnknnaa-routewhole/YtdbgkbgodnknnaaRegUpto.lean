/-
  Regions that draw their order and one of whose operations writes what the others ahead of it read: what holds behind every operation is asked until that one has come.
-/
import Derived.Test.YtdbgkbgodnknnaaRegLast
namespace Go.Proofs.Ytdbgkbgodnknnaa
open Go Go.RowKit
set_option linter.unusedVariables false

section
variable {P : Program} {ops : Array Oper} {Q : Exit → Act → World → Prop} {md : Region.Mode} {S : World → Prop} {z : Nat}
/-- Whatever order is picked from here on; S holds behind each operation that comes ahead of number z. -/
def wpUp (P : Program) (md : Region.Mode) (ops : Array Oper) (Q : Exit → Act → World → Prop) (S : World → Prop) (z : Nat) : Nat → Array Bool → Act → World → Prop
  | 0, l, a, w => Region.ready md ops l = [] ∧ Q .normal a w
  | n + 1, l, a, w => (Region.ready md ops l = [] → Q .normal a w) ∧
    ∀ i ∈ Region.ready md ops l, wpOp P ops Q i (fun a' w' => (l.getD z false = false → i ≠ z → S w') ∧ wpUp P md ops Q S z n (l.setIfInBounds i true) a' w') a w
/-- Each of those that may come up comes up. -/
def AllUp (P : Program) (md : Region.Mode) (ops : Array Oper) (Q : Exit → Act → World → Prop) (S : World → Prop) (z : Nat) (n : Nat) (l : Array Bool) (a : Act) (w : World) (rs : List Nat) : Prop :=
  ∀ i ∈ rs, wpOp P ops Q i (fun a' w' => (l.getD z false = false → i ≠ z → S w') ∧ wpUp P md ops Q S z n (l.setIfInBounds i true) a' w') a w
theorem AllUp.nil {n : Nat} {l : Array Bool} {a : Act} {w : World} : AllUp P md ops Q S z n l a w [] := fun _ h => by cases h
theorem AllUp.cons {n : Nat} {l : Array Bool} {a : Act} {w : World} {i : Nat} {o : Oper} {rs : List Nat} (ho : ops[i]? = some o)
    (h : ∀ K : Act → World → Prop, Hid (∀ a w, S w → (S w → wpUp P md ops Q S z n (l.setIfInBounds i true) a w) → K a w) → if Region.wanted o (yielded ops a.tmps) = true then Oper.wp P o a w K Q else K (a.put o.dst undef) w)
    (hs : AllUp P md ops Q S z n l a w rs) : AllUp P md ops Q S z n l a w (i :: rs) := fun j hj => by
  rcases List.mem_cons.1 hj with rfl | hj
  · exact wpOp_step ho (fun K hK => h K (fun a w hS hW => hK a w ⟨fun _ _ => hS, hW hS⟩))
  · exact hs j hj
/-- Number z itself: nothing is asked behind it. -/
theorem AllUp.that {n : Nat} {l : Array Bool} {a : Act} {w : World} {o : Oper} {rs : List Nat} (ho : ops[z]? = some o)
    (h : ∀ K : Act → World → Prop, Hid (∀ a w, wpUp P md ops Q S z n (l.setIfInBounds z true) a w → K a w) → if Region.wanted o (yielded ops a.tmps) = true then Oper.wp P o a w K Q else K (a.put o.dst undef) w)
    (hs : AllUp P md ops Q S z n l a w rs) : AllUp P md ops Q S z n l a w (z :: rs) := fun j hj => by
  rcases List.mem_cons.1 hj with rfl | hj
  · exact wpOp_step ho (fun K hK => h K (fun a w hW => hK a w ⟨fun _ hne => absurd rfl hne, hW⟩))
  · exact hs j hj
end
end Go.Proofs.Ytdbgkbgodnknnaa
