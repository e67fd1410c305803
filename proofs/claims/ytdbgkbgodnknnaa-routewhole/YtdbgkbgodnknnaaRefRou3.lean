/-
  The document's own routes: Cover.
-/
import Derived.Test.YtdbgkbgodnknnaaRefRou2
namespace Go.Proofs.Ytdbgkbgodnknnaa
open Go.RowKit
set_option linter.unusedVariables false
set_option linter.unusedSimpArgs false

/-- Three keys in boxes. -/
theorem boxes3R (w : World) {a b z : List Int} (ha : Ky a) (hb : Ky b) (hz : Ky z) (u : World) (hu : Below (((w.alloc (.cells (kcs a) 28)).alloc (.cells (kcs b) 28)).alloc (.cells (kcs z) 28)).heap.size (((w.alloc (.cells (kcs a) 28)).alloc (.cells (kcs b) 28)).alloc (.cells (kcs z) 28)) u) : KeyAt u w.heap.size 0 a ∧ KeyAt u (w.heap.size + 1) 0 b ∧ KeyAt u (w.heap.size + 2) 0 z := by
  have h1 : KeyAt (((w.alloc (.cells (kcs a) 28)).alloc (.cells (kcs b) 28)).alloc (.cells (kcs z) 28)) w.heap.size 0 a := ((KeyAt.made w 28 a ha).alloc _).alloc _
  have h2 := (KeyAt.made (w.alloc (.cells (kcs a) 28)) 28 b hb).alloc (.cells (kcs z) 28)
  have h3 := KeyAt.made ((w.alloc (.cells (kcs a) 28)).alloc (.cells (kcs b) 28)) 28 z hz
  rw [World.size_alloc] at h2
  rw [World.size_alloc, World.size_alloc] at h3
  exact ⟨h1.past hu, h2.past hu, h3.past hu⟩
end Go.Proofs.Ytdbgkbgodnknnaa
