/-
  Regions that draw their order and one of whose operations writes what the others ahead of it read: what holds behind every operation is asked until that one has come.
  Two of the landed stores side by side, apart in memory: what is done to the one leaves the other.
-/
import Derived.Test.YtpnjcflfnoamoaaGreatAu32
import Derived.Test.YtpnjcflfnoamoaaGreatCk
import Derived.Test.YtpnjcflfnoamoaaGreatAu14
import Derived.Deep.DeepCutAuto
namespace Go.Proofs.YtpnjcflfnoamoaaGreat
open Go Go.RowKit
set_option linter.unusedVariables false

section
variable {P : Program} {ops : Array Oper} {Q : Exit → Act → World → Prop} {md : Region.Mode} {S : World → Prop} {z : Nat}
/-- Whatever order is picked from here on; S holds behind each operation that comes ahead of number z. -/
def wpUp (P : Program) (md : Region.Mode) (ops : Array Oper) (Q : Exit → Act → World → Prop) (S : World → Prop) (z : Nat) : Nat → Array Bool → Act → World → Prop
  | 0, l, a, w => Region.ready md ops l = [] ∧ Q .normal a w
  | n + 1, l, a, w => (Region.ready md ops l = [] → Q .normal a w) ∧
    ∀ i ∈ Region.ready md ops l, wpOp P ops Q i (fun a' w' => (l.getD z false = false → i ≠ z → S w') ∧ wpUp P md ops Q S z n (l.setIfInBounds i true) a' w') a w
/-- Each of those that may come up comes up. -/
def AllUp (P : Program) (md : Region.Mode) (ops : Array Oper) (Q : Exit → Act → World → Prop) (S : World → Prop) (z : Nat) (n : Nat) (l : Array Bool) (a : Act) (w : World) (rs : List Nat) : Prop :=
  ∀ i ∈ rs, wpOp P ops Q i (fun a' w' => (l.getD z false = false → i ≠ z → S w') ∧ wpUp P md ops Q S z n (l.setIfInBounds i true) a' w') a w
theorem AllUp.nil {n : Nat} {l : Array Bool} {a : Act} {w : World} : AllUp P md ops Q S z n l a w [] := fun _ h => by cases h
theorem AllUp.cons {n : Nat} {l : Array Bool} {a : Act} {w : World} {i : Nat} {o : Oper} {rs : List Nat} (ho : ops[i]? = some o)
    (h : ∀ K : Act → World → Prop, Hid (∀ a w, S w → (S w → wpUp P md ops Q S z n (l.setIfInBounds i true) a w) → K a w) → if Region.wanted o (yielded ops a.tmps) = true then Oper.wp P o a w K Q else K (a.put o.dst undef) w)
    (hs : AllUp P md ops Q S z n l a w rs) : AllUp P md ops Q S z n l a w (i :: rs) := fun j hj => by
  rcases List.mem_cons.1 hj with rfl | hj
  · exact wpOp_step ho (fun K hK => h K (fun a w hS hW => hK a w ⟨fun _ _ => hS, hW hS⟩))
  · exact hs j hj
/-- Number z itself: nothing is asked behind it. -/
theorem AllUp.that {n : Nat} {l : Array Bool} {a : Act} {w : World} {o : Oper} {rs : List Nat} (ho : ops[z]? = some o)
    (h : ∀ K : Act → World → Prop, Hid (∀ a w, wpUp P md ops Q S z n (l.setIfInBounds z true) a w → K a w) → if Region.wanted o (yielded ops a.tmps) = true then Oper.wp P o a w K Q else K (a.put o.dst undef) w)
    (hs : AllUp P md ops Q S z n l a w rs) : AllUp P md ops Q S z n l a w (z :: rs) := fun j hj => by
  rcases List.mem_cons.1 hj with rfl | hj
  · exact wpOp_step ho (fun K hK => h K (fun a w hW => hK a w ⟨fun _ hne => absurd rfl hne, hW⟩))
  · exact hs j hj
end
end Go.Proofs.YtpnjcflfnoamoaaGreat

namespace Go.Proofs.YtpnjcflfnoamoaaGreat
open Go.RowKit
set_option linter.unusedVariables false

/-- Two stores that have come since W, apart. -/
def Twin (W u : World) (p q : Nat) (L M : List Ver) : Prop := ∃ X Y, StD u p L X ∧ StD u q M Y ∧ Below W.heap.size W u ∧ (∀ k, X k → W.heap.size ≤ k) ∧ (∀ k, Y k → W.heap.size ≤ k) ∧ ∀ k, X k → ¬ Y k
theorem Twin.below {W u : World} {p q : Nat} {L M : List Ver} (h : Twin W u p q L M) : Below W.heap.size W u := by obtain ⟨X, Y, _, _, h, _⟩ := h; exact h
theorem Twin.fst {W u : World} {p q : Nat} {L M : List Ver} (h : Twin W u p q L M) : StX W u p L := by obtain ⟨X, Y, h1, _, h3, h4, _⟩ := h; exact ⟨X, h1, h3, h4⟩
theorem Twin.swap {W u : World} {p q : Nat} {L M : List Ver} (h : Twin W u p q L M) : Twin W u q p M L := by obtain ⟨X, Y, h1, h2, h3, h4, h5, h6⟩ := h; exact ⟨Y, X, h2, h1, h3, h5, h4, fun k hy hx => h6 k hx hy⟩
theorem Twin.snd {W u : World} {p q : Nat} {L M : List Ver} (h : Twin W u p q L M) : StX W u q M := h.swap.fst
theorem Twin.past {W u u' : World} {p q : Nat} {L M : List Ver} (h : Twin W u p q L M) (hb : Below u.heap.size u u') : Twin W u' p q L M := by
  obtain ⟨X, Y, h1, h2, h3, h4, h5, h6⟩ := h
  exact ⟨X, Y, h1.past hb, h2.past hb, h3.trans (hb.mono h3.size), h4, h5, h6⟩
theorem Twin.turn {W u : World} {p q : Nat} {L M : List Ver} (h : Twin W u p q L M) : ∃ X, StD u p L X ∧ (∀ k, X k → W.heap.size ≤ k) ∧ ∀ u' L' X', StD u' p L' X' → Did u u' X X' → Twin W u' p q L' M := by
  obtain ⟨X, Y, h1, h2, h3, h4, h5, h6⟩ := h
  refine ⟨X, h1, h4, fun u' L' X' j1 j2 => ⟨X', Y, j1, h2.kept j2.chg.size (fun k hk => j2.chg.block k (h2.lt k hk) (fun hx => h6 k hx hk)), h3.trans (j2.chg.below h3.size h4), fun k hk => ?_, h5, fun k hx hy => ?_⟩⟩
  · rcases (j2.new k hk).1 with e | e
    · exact h4 k e
    · exact Nat.le_trans h3.size e
  · rcases (j2.new k hx).1 with e | e
    · exact h6 k e hy
    · have := h2.lt k hy; omega
end Go.Proofs.YtpnjcflfnoamoaaGreat

