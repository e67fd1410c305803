/-
  Stretches that a store tells, side by side.
-/
import Derived.Test.YtfaojmognbgnfaaGreatStoL4
namespace Go.Proofs.YtfaojmognbgnfaaGreat
open Go.RowKit
set_option linter.unusedVariables false

/-- Three keys and a stamp in boxes. -/
structure KsB (w u : World) (a m b : List Int) (t n : Int) : Prop where
  a : KeyAt u w.heap.size 0 a
  m : KeyAt u (w.heap.size + 1) 0 m
  b : KeyAt u (w.heap.size + 1 + 1) 0 b
  c0 : u.cell? ⟨w.heap.size + 1 + 1 + 1, 0, none⟩ = some (.int .i64 t)
  c1 : u.cell? ⟨w.heap.size + 1 + 1 + 1, 1, none⟩ = some (.int .u8 n)
theorem KsB.made (w : World) {a m b : List Int} (ha : Ky a) (hm : Ky m) (hb : Ky b) (t n : Int) (T T' : TypeId) : KsB w ((((w.alloc (.cells (kcs a) T)).alloc (.cells (kcs m) T)).alloc (.cells (kcs b) T)).alloc (.cells #[.int .i64 t, .int .u8 n] T')) a m b t n := by
  obtain ⟨u1, h1⟩ : ∃ u, u = w.alloc (.cells (kcs a) T) := ⟨_, rfl⟩
  obtain ⟨u2, h2⟩ : ∃ u, u = u1.alloc (.cells (kcs m) T) := ⟨_, rfl⟩
  obtain ⟨u3, h3⟩ : ∃ u, u = u2.alloc (.cells (kcs b) T) := ⟨_, rfl⟩
  have e1 : u1.heap.size = w.heap.size + 1 := by rw [h1]; simp
  have e2 : u2.heap.size = w.heap.size + 1 + 1 := by rw [h2, World.size_alloc, e1]
  have e3 : u3.heap.size = w.heap.size + 1 + 1 + 1 := by rw [h3, World.size_alloc, e2]
  have k1 : KeyAt u1 w.heap.size 0 a := by rw [h1]; exact KeyAt.made w T a ha
  have k2 : KeyAt u2 (w.heap.size + 1) 0 m := by rw [h2, ← e1]; exact KeyAt.made u1 T m hm
  have k3 : KeyAt u3 (w.heap.size + 1 + 1) 0 b := by rw [h3, ← e2]; exact KeyAt.made u2 T b hb
  have b2 : Below u1.heap.size u1 u2 := by rw [h2]; exact (Below.refl _ _).alloc (Nat.le_refl _) _
  have b3 : Below u2.heap.size u2 u3 := by rw [h3]; exact (Below.refl _ _).alloc (Nat.le_refl _) _
  have b4 : Below u3.heap.size u3 (u3.alloc (.cells #[.int .i64 t, .int .u8 n] T')) := (Below.refl _ _).alloc (Nat.le_refl _) _
  have f0 := range_made u3 [.int .i64 t, .int .u8 n] T' 0 _ rfl
  have f1 := range_made u3 [.int .i64 t, .int .u8 n] T' 1 _ rfl
  rw [e3] at f0 f1
  rw [← h1, ← h2, ← h3]
  exact ⟨((k1.past b2).past b3).past b4, (k2.past b3).past b4, k3.past b4, f0, f1⟩
theorem KsB.past {w u u' : World} {a m b : List Int} {t n : Int} (h : KsB w u a m b t n) (hb : Below u.heap.size u u') : KsB w u' a m b t n :=
  ⟨h.a.past hb, h.m.past hb, h.b.past hb, (hb.cell (p := ⟨w.heap.size + 1 + 1 + 1, 0, none⟩) (cell_lt h.c0)).trans h.c0, (hb.cell (p := ⟨w.heap.size + 1 + 1 + 1, 1, none⟩) (cell_lt h.c0)).trans h.c1⟩
/-- Items that lie in a list all new since U. -/
structure ScA (U u : World) (a : Option Addr) (N c : Nat) (R : List Itm) : Prop where
  own : OwnB 86 17 U u (.slice a N c) N (R.flatMap encI)
  len : R.length = N
  oks : ∀ x ∈ R, ItmOk x
theorem ScA.past {U u u' : World} {a : Option Addr} {N c : Nat} {R : List Itm} (h : ScA U u a N c R) (hb : Below u.heap.size u u') : ScA U u' a N c R := ⟨h.own.past hb, h.len, h.oks⟩
end Go.Proofs.YtfaojmognbgnfaaGreat
