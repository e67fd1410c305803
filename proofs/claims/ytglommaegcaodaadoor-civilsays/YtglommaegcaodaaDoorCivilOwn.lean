/-
  Layer 4's own turning of a date into the document's own (own), and a text as a list of bytes.
-/
import Derived.Test.YtglommaegcaodaaDoorCivilAwake
namespace Go.Proofs.YtglommaegcaodaaDoor
open Go.RowKit
set_option linter.unusedVariables false

theorem own_any (y m d : Int) (w : World) : Calls Tryd.prog 18 #[.agg #[.int .i64 y, .int .i64 m, .int .i64 d]] w fun e w' => e = .returned (.agg #[.int .i64 y, .int .i64 m, .int .i64 d]) ∧ Below w.heap.size w w' := by
  go_enter Tryd.func18, Tryd.ntmps18
  go_wp2
  go_returns
  exact ⟨rfl, ((Below.refl _ _).alloc (Nat.le_refl _) _).alloc (by simp) _⟩
theorem str_nums (s : ByteArray) : ∃ xs : List Int, s = strOfNums xs ∧ (∀ z ∈ xs, 0 ≤ z ∧ z ≤ 255) ∧ xs.length = s.size := by
  refine ⟨s.data.toList.map fun b => (b.toNat : Int), ?_, ?_, ?_⟩
  · apply ByteArray.ext
    apply Array.ext'
    simp [strOfNums]
    rw [List.map_congr_left (g := id) (fun b _ => by simp)]
    simp
  · intro z hz
    simp only [List.mem_map] at hz
    obtain ⟨b, _, rfl⟩ := hz
    have := b.toNat_lt
    omega
  · rw [List.length_map, Array.length_toList]; rfl
end Go.Proofs.YtglommaegcaodaaDoor
