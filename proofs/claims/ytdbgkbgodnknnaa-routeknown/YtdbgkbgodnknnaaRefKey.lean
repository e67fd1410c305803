/-
  What the document's own keys (hourglassref10: Good, Cmp, Text, Within, Sum, Of) answer.
-/
import Derived.Test.YtdbgkbgodnknnaaKeyMem
import Derived.Test.YtdbgkbgodnknnaaRefKeyCmp
import Derived.BigRegion
namespace Go.Proofs.Ytdbgkbgodnknnaa
open Go.RowKit
set_option linter.unusedVariables false

/-- Three keys, each in a block of its own. -/
structure Three3 (w u : World) (k a b : List Int) : Prop where
  below : Below w.heap.size w u
  k : KeyAt u w.heap.size 0 k
  a : KeyAt u (w.heap.size + 1) 0 a
  b : KeyAt u (w.heap.size + 2) 0 b
theorem Three3.made (w : World) (T : TypeId) {k a b : List Int} (hk : Ky k) (ha : Ky a) (hb : Ky b) : Three3 w (((w.alloc (.cells (kcs k) T)).alloc (.cells (kcs a) T)).alloc (.cells (kcs b) T)) k a b := by
  have e1 := KeyAt.made w T k hk
  have e2 := KeyAt.made (w.alloc (.cells (kcs k) T)) T a ha
  have e3 := KeyAt.made ((w.alloc (.cells (kcs k) T)).alloc (.cells (kcs a) T)) T b hb
  rw [World.size_alloc] at e2
  rw [World.size_alloc, World.size_alloc] at e3
  exact ⟨(((Below.refl _ _).alloc (Nat.le_refl _) _).alloc (by simp) _).alloc (by simp; omega) _, (e1.alloc _).alloc _, e2.alloc _, e3⟩
theorem Three3.past {w u v : World} {k a b : List Int} (h : Three3 w u k a b) (hb : Below u.heap.size u v) : Three3 w v k a b :=
  ⟨h.below.trans (hb.mono h.below.size), h.k.past hb, h.a.past hb, h.b.past hb⟩
end Go.Proofs.Ytdbgkbgodnknnaa
