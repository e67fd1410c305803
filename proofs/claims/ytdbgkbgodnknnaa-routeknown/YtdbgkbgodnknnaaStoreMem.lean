/-
  The document's own stores (hourglassref10: Store) in memory: a list of versions of twenty cells each.
-/
import Derived.Test.YtdbgkbgodnknnaaStorePlain
import Derived.Test.YtdbgkbgodnknnaaFill
import Derived.Test.YtdbgkbgodnknnaaFoot
import Derived.Test.YtdbgkbgodnknnaaNested
namespace Go.Proofs.Ytdbgkbgodnknnaa
open Go.RowKit
set_option linter.unusedVariables false

/-- A version's cells. -/
def encV (V : Ver) : List Value := kc V.k ++ [.int .i64 V.t, .int .u8 V.n, .string (strOfNums V.v), .bool V.g]
def OkL (L : List Ver) : Prop := ∀ V ∈ L, VerOk V
theorem enc_len {V : Ver} (h : Ky V.k) : (encV V).length = 20 := by unfold encV; rw [List.length_append, kc_len h]; rfl
theorem OkL.len {L : List Ver} (h : OkL L) : ∀ V ∈ L, (encV V).length = 20 := fun V hV => enc_len (h V hV).key
/-- One version at a place. -/
structure VerAt (w : World) (b o : Nat) (V : Ver) : Prop where
  lies : Lies w (some ⟨b, o, none⟩) (encV V)
theorem VerAt.key {w : World} {b o : Nat} {V : Ver} (h : VerAt w b o V) (hk : Ky V.k) : KeyAt w b o V.k := by
  refine ⟨fun j hj => h.lies.at j _ ?_⟩
  have hl := hk.len
  unfold encV
  rw [List.getElem?_append_left (by rw [kc_len hk]; exact hj)]
  simp [kc, List.getD, show j < V.k.length by omega]
theorem VerAt.cells {w : World} {b o : Nat} {V : Ver} (h : VerAt w b o V) (hk : Ky V.k) : w.cell? ⟨b, o + 16, none⟩ = some (.int .i64 V.t) ∧ w.cell? ⟨b, o + 17, none⟩ = some (.int .u8 V.n) ∧ w.cell? ⟨b, o + 18, none⟩ = some (.string (strOfNums V.v)) ∧ w.cell? ⟨b, o + 19, none⟩ = some (.bool V.g) := by
  have hl := kc_len hk
  refine ⟨h.lies.at 16 _ ?_, h.lies.at 17 _ ?_, h.lies.at 18 _ ?_, h.lies.at 19 _ ?_⟩ <;> (unfold encV; rw [List.getElem?_append_right (by omega), hl]; rfl)
theorem VerAt.past {w w' : World} {b o : Nat} {V : Ver} (h : VerAt w b o V) (hb : Below w.heap.size w w') : VerAt w' b o V := ⟨h.lies.past hb⟩
end Go.Proofs.Ytdbgkbgodnknnaa
