/-
  What layer 4's walks lean on besides: a date's cells, Go's own division, bytes of a text. No function of the program is named here.
-/
import Derived.Test.YtdbgkbgodnknnaaCivilPlain
import Derived.Test.YtdbgkbgodnknnaaCivilText
import Derived.WalkKit
import Derived.WalkSpells
import Derived.WalkLawsBesides
import Derived.Laws.BytesArg
import Derived.Below
import Derived.Deep.QuietTactic
import Derived.BigQuiet
import Derived.Handy
namespace Go.Proofs.Ytdbgkbgodnknnaa
open Go.RowKit
set_option linter.unusedVariables false

theorem byte_at {zs : List Int} (h : ∀ z ∈ zs, 0 ≤ z ∧ z ≤ 255) (k : Nat) : 0 ≤ zs[k]?.getD 0 ∧ zs[k]?.getD 0 ≤ 255 := by
  by_cases hk : k < zs.length
  · have := h zs[k] (List.getElem_mem hk); simpa [hk] using this
  · have : zs[k]? = none := by simp; omega
    simp [this]
theorem below_dN {B : Nat} {a w : World} (h : Below B a w) (n : Nat) : Below B a (w.drewN n) := ⟨h.os, h.tape, h.output, h.size, h.block⟩
/-- A date's cells, in a block of its own. -/
structure DateAt (w : World) (g : Nat) (y m d : Int) : Prop where
  c0 : w.cell? ⟨g, 0, none⟩ = some (.int .i64 y)
  c1 : w.cell? ⟨g, 1, none⟩ = some (.int .i64 m)
  c2 : w.cell? ⟨g, 2, none⟩ = some (.int .i64 d)
theorem DateAt.made (w : World) (t : TypeId) (y m d : Int) : DateAt (w.alloc (.cells #[.int .i64 y, .int .i64 m, .int .i64 d] t)) w.heap.size y m d :=
  ⟨by rw [World.cell?_alloc_new]; rfl, by rw [World.cell?_alloc_new]; rfl, by rw [World.cell?_alloc_new]; rfl⟩
theorem DateAt.below {w w' : World} {g B : Nat} {y m d : Int} (h : DateAt w g y m d) (hb : Below B w w') (hg : g < B) : DateAt w' g y m d :=
  ⟨by rw [hb.cell (p := ⟨g, 0, none⟩) hg]; exact h.c0, by rw [hb.cell (p := ⟨g, 1, none⟩) hg]; exact h.c1, by rw [hb.cell (p := ⟨g, 2, none⟩) hg]; exact h.c2⟩

theorem nums_at (xs : List Int) (hb : ∀ z ∈ xs, 0 ≤ z ∧ z ≤ 255) (k : Nat) (h : k < (strOfNums xs).size) : (((strOfNums xs)[k]'h).toNat : Int) = xs[k]?.getD 0 := by
  have hk : k < xs.length := by rw [strOfNums_size] at h; exact h
  have e : (strOfNums xs)[k]'h = UInt8.ofNat (xs[k]).toNat := by simp [strOfNums, ByteArray.getElem_eq_getElem_data]
  have hx := hb xs[k] (List.getElem_mem hk)
  rw [e]
  simp [hk]
  omega
end Go.Proofs.Ytdbgkbgodnknnaa
