/-
  Counts of each node's writes, in a list of the call's own (for layer 17's laws on Split).
-/
import Derived.Test.YtdbgkbgodnknnaaRouL1
namespace Go.Proofs.Ytdbgkbgodnknnaa
open Go.RowKit
set_option linter.unusedVariables false
set_option linter.unusedSimpArgs false

/-- Block h counts each node's writes of a list. -/
structure CntR (u : World) (h : Nat) (P : List (List Int)) (L : List Wrt) : Prop where
  each : ∀ j, j < P.length + 1 → u.cell? ⟨h, j, none⟩ = some (.int .i64 ((nodeW P L j).length : Int)) ∧ u.frozen? ⟨h, j, none⟩ = false
theorem CntR.past {u u' : World} {h : Nat} {P : List (List Int)} {L : List Wrt} (c : CntR u h P L) (hb : Below u.heap.size u u') : CntR u' h P L := ⟨fun j hj => by
  obtain ⟨h1, h2⟩ := c.each j hj
  have hl := lt_of_cell h1
  exact ⟨(hb.cell (p := ⟨h, j, none⟩) hl).trans h1, (hb.frozen (p := ⟨h, j, none⟩) hl).trans h2⟩⟩
theorem CntR.made (u : World) (P : List (List Int)) (l : List Wrt) : CntR (u.alloc (.cells (madeCells #[Value.int .i64 0] (P.length + 1)) 3)) u.heap.size P (l.take 0) := ⟨fun j hj => by
  refine ⟨?_, World.frozen?_alloc_new _ _ _ _⟩
  rw [World.cell?_alloc_new]
  unfold madeCells nodeW
  simp [hj, Nat.mod_one]⟩
theorem CntR.next {u : World} {h i m n : Nat} {P : List (List Int)} {l : List Wrt} {W : Wrt} (c : CntR u h P (l.take i)) (hW : l[i]? = some W) (hm : ofR P W.k = (m : Int)) (hml : m < P.length + 1) (hn : (nodeW P (l.take i) m).length = n) : CntR (u.setCell ⟨h, m, none⟩ (.int .i64 ((n : Int) + 1))) h P (l.take (i + 1)) := ⟨fun j hj => by
  obtain ⟨h1, h2⟩ := c.each j hj
  refine ⟨?_, by rw [World.frozen?_setCell]; exact h2⟩
  rw [nodeW_next hW]
  by_cases e : m = j
  · subst e
    rw [World.cell?_setCell_same _ _ _ h1, if_pos (show mineR P m W = true from decide_eq_true hm), List.length_append, hn]
    rfl
  · rw [World.cell?_setCell_other _ _ _ _ (by intro h'; injection h' with _ h3; exact e h3), h1, if_neg (by simp [mineR, hm]; omega), List.append_nil]⟩
theorem CntR.skip {u : World} {h i : Nat} {P : List (List Int)} {l : List Wrt} {W : Wrt} (c : CntR u h P (l.take i)) (hW : l[i]? = some W) (hm : ofR P W.k < 0) : CntR u h P (l.take (i + 1)) := ⟨fun j hj => by
  rw [nodeW_next hW, if_neg (by simp [mineR]; omega), List.append_nil]
  exact c.each j hj⟩
end Go.Proofs.Ytdbgkbgodnknnaa
