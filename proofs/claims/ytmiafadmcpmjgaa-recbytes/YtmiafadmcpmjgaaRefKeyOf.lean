/-
  What the document's own keys of texts (hourglassref10: Of) answer.
-/
import Derived.Test.YtmiafadmcpmjgaaRefKey
namespace Go.Proofs.Ytmiafadmcpmjgaa
open Go.RowKit
set_option linter.unusedVariables false

/-- What Of's rounds hold: what is answered, what is made. -/
structure OfR (w u : World) (K : List Int) : Prop where
  below : Below w.heap.size w u
  res : KeyMine u w.heap.size 0 zeroK
  key : KeyMine u (w.heap.size + 1) 0 K
theorem zero_cells : (kcs zeroK) = #[.int .u8 0, .int .u8 0, .int .u8 0, .int .u8 0, .int .u8 0, .int .u8 0, .int .u8 0, .int .u8 0, .int .u8 0, .int .u8 0, .int .u8 0, .int .u8 0, .int .u8 0, .int .u8 0, .int .u8 0, .int .u8 0] := rfl
theorem OfR.made (w : World) (T : TypeId) : OfR w ((w.alloc (.cells (kcs zeroK) T)).alloc (.cells (kcs zeroK) T)) zeroK := by
  have e1 := KeyMine.made w T zeroK zeroK_ky
  have e2 := KeyMine.made (w.alloc (.cells (kcs zeroK) T)) T zeroK zeroK_ky
  rw [World.size_alloc] at e2
  exact ⟨((Below.refl _ _).alloc (Nat.le_refl _) _).alloc (by simp) _, e1.alloc _, e2⟩
theorem OfR.store {w u : World} {K : List Int} (h : OfR w u K) {k : List Int} (hk : Ky k) : OfR w (u.setCells (w.heap.size + 1) 0 (k.map (Value.int .u8))) k :=
  ⟨below_cells (by omega) h.below, h.res.other (by omega), h.key.store hk⟩
theorem OfR.set {w u : World} {K : List Int} (h : OfR w u K) (n : Nat) (z : Int) (hn : n < 16) (h0 : 0 ≤ z) (h1 : z ≤ 255) : OfR w (u.setCell ⟨w.heap.size + 1, n, none⟩ (.int .u8 z)) (K.set n z) :=
  ⟨h.below.setCell (by show w.heap.size ≤ w.heap.size + 1; omega) _, h.res.aside (by show w.heap.size ≠ w.heap.size + 1; omega), h.key.set n z hn h0 h1⟩
/-- What is answered is laid. -/
structure OfD (w u : World) (K : List Int) : Prop where
  below : Below w.heap.size w u
  lies : KeyAt u w.heap.size 0 K
  ky : Ky K
theorem OfR.done {w u : World} {K : List Int} (h : OfR w u K) {k : List Int} (hk : Ky k) : OfD w (u.setCells w.heap.size 0 (k.map (Value.int .u8))) k :=
  ⟨below_cells (Nat.le_refl _) h.below, (h.res.store hk).lies, hk⟩
end Go.Proofs.Ytmiafadmcpmjgaa
