/-
  The document's own reader: Num, Byte, Bytes, End, for every reader.
  What the document's own stamps (hourglassref6: Good, Cmp, Pack, Unpack, Max, Digits, Text) answer.
  What the document reads next: a flag, a stamp, a text, a count, a key.
  What the document's own stamps (hourglassref6: Good, Cmp, Pack, Unpack, Max, Digits, Text) answer.
  What the document reads next: a stamp.
-/
import Derived.Test.YtcppihpehipelaaRefRd
import Derived.Deep.QuietTactic
import Derived.BigQuiet
import Derived.Test.YtcppihpehipelaaAu56
import Derived.Test.YtcppihpehipelaaAu52
import Derived.Deep.RegionHeld3
namespace Go.Proofs.Ytcppihpehipelaa
open Go.RowKit
set_option linter.unusedVariables false

end Go.Proofs.Ytcppihpehipelaa

namespace Go.Proofs.Ytcppihpehipelaa
open Go.RowKit
set_option linter.unusedVariables false

end Go.Proofs.Ytcppihpehipelaa

namespace Go.Proofs.Ytcppihpehipelaa
open Go.RowKit
set_option linter.unusedVariables false

theorem Rds.bool {o o1 o2 : Option (List Int)} {c : Int} (h : Rds byteP o o1 c) (h2 : (1 < c ∧ o2 = none) ∨ (¬ 1 < c ∧ o2 = o1)) : Rds boolP o o2 (decide (c = 1)) := by
  refine h.seq ?_
  rcases h2 with ⟨hc, rfl⟩ | ⟨hc, rfl⟩
  · rw [if_pos hc]; exact .non _ _
  · rw [if_neg hc]; exact .ret _ _
theorem Rds.count {o o1 o2 : Option (List Int)} {c v n : Int} (h : Rds numP o o1 c) (h2 : (n < c ∧ o2 = none) ∨ (¬ n < c ∧ o2 = o1 ∧ v = c)) : Rds (countP n) o o2 v := by
  refine h.seq ?_
  rcases h2 with ⟨hc, rfl⟩ | ⟨hc, rfl, rfl⟩
  · rw [if_pos hc]; exact .non _ _
  · rw [if_neg hc]; exact .ret _ _
end Go.Proofs.Ytcppihpehipelaa

namespace Go.Proofs.Ytcppihpehipelaa
open Go.RowKit
set_option linter.unusedVariables false

theorem set_two {w : World} {g : Nat} {a b : Value} (h0 : w.cell? ⟨g, 0, none⟩ = some a) (h1 : w.cell? ⟨g, 1, none⟩ = some b) : (∀ x y, ((w.setCell ⟨g, 0, none⟩ x).setCell ⟨g, 1, none⟩ y).cell? ⟨g, 1, none⟩ = some y) ∧ (∀ x y, ((w.setCell ⟨g, 0, none⟩ x).setCell ⟨g, 1, none⟩ y).cell? ⟨g, 0, none⟩ = some x) :=
  ⟨fun x y => World.cell?_setCell_same _ _ _ ((World.cell?_setCell_other _ _ _ _ (by intro h'; injection h' with _ h2; omega)).trans h1), fun x y => (World.cell?_setCell_other _ _ _ _ (by intro h'; injection h' with _ h2; omega)).trans (World.cell?_setCell_same _ _ _ h0)⟩
/-- Two stamps that came in and a third that is to go out, each in a block of its own. -/
structure Three (w u : World) (t n t' n' : Int) : Prop where
  a0 : u.cell? ⟨w.heap.size, 0, none⟩ = some (.int .i64 t)
  a1 : u.cell? ⟨w.heap.size, 1, none⟩ = some (.int .u8 n)
  b0 : u.cell? ⟨w.heap.size + 1, 0, none⟩ = some (.int .i64 t')
  b1 : u.cell? ⟨w.heap.size + 1, 1, none⟩ = some (.int .u8 n')
  c0 : u.cell? ⟨w.heap.size + 2, 0, none⟩ = some (.int .i64 0)
  c1 : u.cell? ⟨w.heap.size + 2, 1, none⟩ = some (.int .u8 0)
  free : ∀ j, u.frozen? ⟨w.heap.size + 2, j, none⟩ = false
  below : Below w.heap.size w u
  lt : w.heap.size + 2 < u.heap.size
theorem Three.made (w : World) (T : TypeId) (t n t' n' : Int) : Three w (((w.alloc (.cells #[.int .i64 t, .int .u8 n] T)).alloc (.cells #[.int .i64 t', .int .u8 n'] T)).alloc (.cells #[.int .i64 0, .int .u8 0] T)) t n t' n' := by
  obtain ⟨u1, h1⟩ : ∃ u, u = w.alloc (.cells #[.int .i64 t, .int .u8 n] T) := ⟨_, rfl⟩
  obtain ⟨u2, h2⟩ : ∃ u, u = u1.alloc (.cells #[.int .i64 t', .int .u8 n'] T) := ⟨_, rfl⟩
  have s1 : u1.heap.size = w.heap.size + 1 := by rw [h1]; simp
  have s2 : u2.heap.size = w.heap.size + 2 := by rw [h2]; simp [s1]
  have a0 : u1.cell? ⟨w.heap.size, 0, none⟩ = some (.int .i64 t) := by rw [h1, World.cell?_alloc_new]; rfl
  have a1 : u1.cell? ⟨w.heap.size, 1, none⟩ = some (.int .u8 n) := by rw [h1, World.cell?_alloc_new]; rfl
  have b0 : u2.cell? ⟨w.heap.size + 1, 0, none⟩ = some (.int .i64 t') := by rw [h2, ← s1, World.cell?_alloc_new]; rfl
  have b1 : u2.cell? ⟨w.heap.size + 1, 1, none⟩ = some (.int .u8 n') := by rw [h2, ← s1, World.cell?_alloc_new]; rfl
  rw [← h1, ← h2]
  refine ⟨?_, ?_, ?_, ?_, ?_, ?_, fun j => ?_, ?_, by simp [s2]⟩
  · rw [World.cell?_alloc_lt _ _ _ (by show w.heap.size < _; omega), h2, World.cell?_alloc_lt _ _ _ (by show w.heap.size < _; omega)]; exact a0
  · rw [World.cell?_alloc_lt _ _ _ (by show w.heap.size < _; omega), h2, World.cell?_alloc_lt _ _ _ (by show w.heap.size < _; omega)]; exact a1
  · rw [World.cell?_alloc_lt _ _ _ (by show w.heap.size + 1 < _; omega)]; exact b0
  · rw [World.cell?_alloc_lt _ _ _ (by show w.heap.size + 1 < _; omega)]; exact b1
  · rw [← s2, World.cell?_alloc_new]; rfl
  · rw [← s2, World.cell?_alloc_new]; rfl
  · rw [← s2]; exact World.frozen?_alloc_new _ _ _ _
  · rw [h2, h1]; exact (((Below.refl _ _).alloc (Nat.le_refl _) _).alloc (by simp) _).alloc (by simp; omega) _
theorem Three.step {w u u' : World} {t n t' n' : Int} (h : Three w u t n t' n') (hb : Below u.heap.size u u') : Three w u' t n t' n' := by
  have l := h.lt
  refine ⟨?_, ?_, ?_, ?_, ?_, ?_, fun j => (hb.frozen (p := ⟨w.heap.size + 2, j, none⟩) (by show w.heap.size + 2 < _; omega)).trans (h.free j), h.below.trans (hb.mono h.below.size), Nat.lt_of_lt_of_le h.lt hb.size⟩
  · rw [hb.cell (p := ⟨w.heap.size, 0, none⟩) (by show w.heap.size < _; omega)]; exact h.a0
  · rw [hb.cell (p := ⟨w.heap.size, 1, none⟩) (by show w.heap.size < _; omega)]; exact h.a1
  · rw [hb.cell (p := ⟨w.heap.size + 1, 0, none⟩) (by show w.heap.size + 1 < _; omega)]; exact h.b0
  · rw [hb.cell (p := ⟨w.heap.size + 1, 1, none⟩) (by show w.heap.size + 1 < _; omega)]; exact h.b1
  · rw [hb.cell (p := ⟨w.heap.size + 2, 0, none⟩) (by show w.heap.size + 2 < _; omega)]; exact h.c0
  · rw [hb.cell (p := ⟨w.heap.size + 2, 1, none⟩) (by show w.heap.size + 2 < _; omega)]; exact h.c1
end Go.Proofs.Ytcppihpehipelaa

namespace Go.Proofs.Ytcppihpehipelaa
open Go.RowKit
set_option linter.unusedVariables false

theorem cell_of_block {w w' : World} {q : Nat} (h : w'.heap[q]? = w.heap[q]?) (i : Nat) : w'.cell? ⟨q, i, none⟩ = w.cell? ⟨q, i, none⟩ ∧ w'.frozen? ⟨q, i, none⟩ = w.frozen? ⟨q, i, none⟩ := by
  refine ⟨?_, ?_⟩
  · unfold World.cell?; rw [h]
  · unfold World.frozen?; rw [h]
/-- A world in which, but for the reader and what is new, nothing has turned, and the reader is as in another world. -/
theorem Rd.as {w u u' : World} {g : Nat} {a : Option Addr} {cap : Nat} {zs : List Int} {k k' : Nat} {b b' : Bool} (h : Rd w g a cap zs k b) (hc : Chg w u' (fun j => j = g)) (h1 : Rd u g a cap zs k' b') (hb : u'.heap[g]? = u.heap[g]?) : Rd u' g a cap zs k' b' :=
  ⟨(cell_of_block hb 0).1.trans h1.c0, (cell_of_block hb 1).1.trans h1.c1, (cell_of_block hb 2).1.trans h1.c2, fun i => (cell_of_block hb i).2.trans (h1.free i), h.row.chg hc h.far, h.far, h1.len, h.few, h.most⟩
theorem Rds.stamp {o o1 o2 : Option (List Int)} {v t n : Int} (h : Rds numP o o1 v) (h2 : (¬ v < 9223372036854775808 ∧ o2 = none) ∨ (v < 9223372036854775808 ∧ o2 = o1 ∧ t = v / 256 ∧ n = v % 256)) : Rds stampP o o2 (t, n) := by
  refine h.seq ?_
  rcases h2 with ⟨hc, rfl⟩ | ⟨hc, rfl, rfl, rfl⟩
  · rw [if_neg hc]; exact .non _ _
  · rw [if_pos hc]; exact .ret _ _
end Go.Proofs.Ytcppihpehipelaa

