/-
  Versions that are loaded, stored and answered whole.
-/
import Derived.Test.YtdbgkbgodnknnaaStoreMem
import Derived.Deep.MidRow
namespace Go.Proofs.Ytdbgkbgodnknnaa
open Go.RowKit
set_option linter.unusedVariables false

/-- One version in memory of the call's own. -/
structure VerMine (w : World) (b o : Nat) (V : Ver) : Prop where
  at_ : VerAt w b o V
  free : ∀ i, i < 20 → w.frozen? ⟨b, o + i, none⟩ = false
  key : Ky V.k
theorem VerAt.lt {w : World} {b o : Nat} {V : Ver} (h : VerAt w b o V) (hk : Ky V.k) : b < w.heap.size := cell_lt (h.cells hk).1
theorem VerMine.made (w : World) (T : TypeId) (V : Ver) (hk : Ky V.k) : VerMine (w.alloc (.cells (encV V).toArray T)) w.heap.size 0 V :=
  ⟨⟨lies_made w (encV V).toArray T⟩, fun i hi => World.frozen?_alloc_new _ _ _ _, hk⟩
theorem VerMine.past {w w' : World} {b o : Nat} {V : Ver} (h : VerMine w b o V) (hb : Below w.heap.size w w') : VerMine w' b o V :=
  ⟨h.at_.past hb, fun i hi => by rw [hb.frozen (p := ⟨b, o + i, none⟩) (h.at_.lt h.key)]; exact h.free i hi, h.key⟩
theorem VerAt.range {w : World} {b o : Nat} {V : Ver} (h : VerAt w b o V) : w.rangeAt b o (encV V) := h.lies.range
theorem VerMine.there {w : World} {b o : Nat} {V : Ver} (h : VerMine w b o V) : w.there b o 20 := fun j hj => by
  have hl := enc_len h.key
  obtain ⟨u, hu⟩ : ∃ u, (encV V)[j]? = some u := ⟨_, List.getElem?_eq_getElem (by omega)⟩
  exact ⟨by rw [h.at_.lies.at j u hu]; rfl, h.free j hj⟩
theorem VerMine.store {w : World} {b o : Nat} {V V' : Ver} (h : VerMine w b o V) (hk : Ky V'.k) : VerMine (w.setCells b o (encV V')) b o V' := by
  have ht := h.there
  rw [← enc_len hk] at ht
  exact ⟨⟨lies_of (World.rangeAt_setCells_same w b o (encV V') ht)⟩, fun i hi => by rw [World.frozen?_setCells]; exact h.free i hi, hk⟩
end Go.Proofs.Ytdbgkbgodnknnaa
