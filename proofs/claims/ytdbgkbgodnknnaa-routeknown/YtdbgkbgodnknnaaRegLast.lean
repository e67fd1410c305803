/-
  Regions that draw their order and whose last operation writes what the others read: what holds behind every operation is asked as long as one is left.
-/
import Derived.Test.YtdbgkbgodnknnaaProg
import Derived.WalkKit
import Derived.Deep.RegionHeld3
namespace Go.Proofs.Ytdbgkbgodnknnaa
open Go Go.RowKit
set_option linter.unusedVariables false

section
variable {P : Program} {ops : Array Oper} {Q : Exit → Act → World → Prop} {md : Region.Mode} {S : World → Prop} {z : Nat}
/-- Whatever order is picked from here on; S holds behind each operation but number z. -/
def wpTill (P : Program) (md : Region.Mode) (ops : Array Oper) (Q : Exit → Act → World → Prop) (S : World → Prop) (z : Nat) : Nat → Array Bool → Act → World → Prop
  | 0, l, a, w => Region.ready md ops l = [] ∧ Q .normal a w
  | n + 1, l, a, w => (Region.ready md ops l = [] → Q .normal a w) ∧
    ∀ i ∈ Region.ready md ops l, wpOp P ops Q i (fun a' w' => (i ≠ z → S w') ∧ wpTill P md ops Q S z n (l.setIfInBounds i true) a' w') a w
/-- Does number z wait for number i? -/
def waits (md : Region.Mode) (ops : Array Oper) (z i : Nat) : Bool := match ops[z]? with | none => false | some o => o.after.any fun e => Region.binds md e && e.on == i
theorem waits_listed {z i : Nat} {oz : Oper} {l : Array Bool} (h : waits md ops z i = true) (ho : ops[z]? = some oz) (hall : ∀ e ∈ oz.after, Region.binds md e = true → l.getD e.on false = true) : l.getD i false = true := by
  unfold waits at h
  rw [ho] at h
  simp only [Array.any_eq_true] at h
  obtain ⟨k, hk, hb⟩ := h
  simp at hb
  have := hall oz.after[k] (Array.getElem_mem hk) hb.1
  rw [hb.2] at this
  exact this
/-- Each of those that may come up comes up. -/
def AllTill (P : Program) (md : Region.Mode) (ops : Array Oper) (Q : Exit → Act → World → Prop) (S : World → Prop) (z : Nat) (n : Nat) (l : Array Bool) (a : Act) (w : World) (rs : List Nat) : Prop :=
  ∀ i ∈ rs, wpOp P ops Q i (fun a' w' => (i ≠ z → S w') ∧ wpTill P md ops Q S z n (l.setIfInBounds i true) a' w') a w
theorem AllTill.nil {n : Nat} {l : Array Bool} {a : Act} {w : World} : AllTill P md ops Q S z n l a w [] := fun _ h => by cases h
theorem AllTill.cons {n : Nat} {l : Array Bool} {a : Act} {w : World} {i : Nat} {o : Oper} {rs : List Nat} (ho : ops[i]? = some o)
    (h : ∀ K : Act → World → Prop, Hid (∀ a w, S w → (S w → wpTill P md ops Q S z n (l.setIfInBounds i true) a w) → K a w) → if Region.wanted o (yielded ops a.tmps) = true then Oper.wp P o a w K Q else K (a.put o.dst undef) w)
    (hs : AllTill P md ops Q S z n l a w rs) : AllTill P md ops Q S z n l a w (i :: rs) := fun j hj => by
  rcases List.mem_cons.1 hj with rfl | hj
  · exact wpOp_step ho (fun K hK => h K (fun a w hS hW => hK a w ⟨fun _ => hS, hW hS⟩))
  · exact hs j hj
end
end Go.Proofs.Ytdbgkbgodnknnaa
