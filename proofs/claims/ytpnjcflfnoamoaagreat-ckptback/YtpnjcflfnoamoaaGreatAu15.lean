/-
  A store of the call's own beside items that it has told; a list of acts applied to it.
  A store of the call's own beside the document's; a copy that goes its own way.
-/
import Derived.Test.YtpnjcflfnoamoaaGreatAu30
import Derived.Test.YtpnjcflfnoamoaaGreatOp
import Derived.Test.YtpnjcflfnoamoaaGreatAu18
import Derived.Test.YtpnjcflfnoamoaaGreatStoL3
namespace Go.Proofs.YtpnjcflfnoamoaaGreat
open Go.RowKit
set_option linter.unusedVariables false

/-- A store that has come since w, and items that it told, in blocks that are none of its own. -/
def StB (w u : World) (p : Nat) (L : List Ver) (a : Option Addr) (R : List Itm) : Prop := ∃ X, StD u p L X ∧ Below w.heap.size w u ∧ (∀ k, X k → w.heap.size ≤ k) ∧ ItmsAt u a R ∧ (R ≠ [] → Far a X)
theorem StB.past {w u u' : World} {p : Nat} {L : List Ver} {a : Option Addr} {R : List Itm} (h : StB w u p L a R) (hb : Below u.heap.size u u') : StB w u' p L a R := by
  obtain ⟨X, h1, h2, h3, h4, h5⟩ := h
  exact ⟨X, h1.past hb, h2.trans (hb.mono h2.size), h3, h4.past hb, h5⟩
theorem ItmsAt.kept {u u' : World} {a : Option Addr} {R : List Itm} (h : ItmsAt u a R) (hk : R ≠ [] → ∀ b o, a = some ⟨b, o, none⟩ → u'.heap[b]? = u.heap[b]?) : ItmsAt u' a R := by
  refine ⟨?_, h.oks⟩
  rcases h.cells with e | ⟨b, o, e, hc⟩
  · exact .inl e
  · by_cases hn : R = []
    · exact .inl hn
    · refine .inr ⟨b, o, e, fun i x hx => ⟨?_⟩⟩
      have hb := hk hn b o e
      exact lies_of fun j v hj => (cell_kept hb _).trans (by have := ((hc i x hx).lies _ rfl).2 j v hj; rw [add_atV] at this; exact this)
theorem ItmsAt.blt {u : World} {a : Option Addr} {R : List Itm} (h : ItmsAt u a R) (hn : R ≠ []) {b o : Nat} (e : a = some ⟨b, o, none⟩) : b < u.heap.size := by
  cases R with
  | nil => exact absurd rfl hn
  | cons x r =>
    obtain ⟨b', o', e', hx, hok⟩ := h.itm (i := 0) (x := x) rfl
    rw [e] at e'
    cases e'
    exact lt_of_cell (((hx.lies _ rfl).2 0 _ (List.getElem?_eq_getElem (by rw [encI_len hok.key]; omega))))
theorem StB.turn {w u u' : World} {p : Nat} {L L' : List Ver} {a : Option Addr} {R : List Itm} {X X' : Foot} (h1 : StD u p L X) (h2 : Below w.heap.size w u) (h3 : ∀ k, X k → w.heap.size ≤ k) (h4 : ItmsAt u a R) (h5 : R ≠ [] → Far a X) (j1 : StD u' p L' X') (j2 : Did u u' X X') : StB w u' p L' a R := by
  refine ⟨X', j1, h2.trans (j2.chg.below h2.size h3), fun k hk => (j2.new k hk).1.elim (h3 k) (fun e => Nat.le_trans h2.size e), h4.kept (fun hn b o e => j2.chg.block b (h4.blt hn e) (h5 hn b o e)), fun hn b o e hx => ?_⟩
  rcases (j2.new b hx).1 with e1 | e1
  · exact h5 hn b o e e1
  · have := h4.blt hn e
    omega
theorem wrts_far {w : World} {a : Option Addr} {l : List Wrt} {X : Foot} (hat : WrtsAt w a l) (h3 : ∀ k, X k → w.heap.size ≤ k) : l ≠ [] → Far a X := fun hne b o e hx => by
  have hlt : b < w.heap.size := by
    rcases hat.cells with e2 | ⟨b2, o2, e2, hc2⟩
    · exact absurd e2 hne
    · rw [e] at e2
      cases e2
      cases l with
      | nil => exact absurd rfl hne
      | cons W r => exact (hc2 0 W rfl).lt (hat.oks W (by simp)).key
  have := h3 b hx
  omega
/-- Two stamps and a key in boxes. -/
structure TrB (w u : World) (t n t' n' : Int) (k : List Int) : Prop where
  c0 : u.cell? ⟨w.heap.size, 0, none⟩ = some (.int .i64 t)
  c1 : u.cell? ⟨w.heap.size, 1, none⟩ = some (.int .u8 n)
  d0 : u.cell? ⟨w.heap.size + 1, 0, none⟩ = some (.int .i64 t')
  d1 : u.cell? ⟨w.heap.size + 1, 1, none⟩ = some (.int .u8 n')
  ky : KeyAt u (w.heap.size + 1 + 1) 0 k
theorem TrB.made (w : World) (t n t' n' : Int) {k : List Int} (hk : Ky k) (T T' : TypeId) : TrB w (((w.alloc (.cells #[.int .i64 t, .int .u8 n] T)).alloc (.cells #[.int .i64 t', .int .u8 n'] T)).alloc (.cells (kcs k) T')) t n t' n' k := by
  obtain ⟨u1, h1⟩ : ∃ u, u = w.alloc (.cells #[.int .i64 t, .int .u8 n] T) := ⟨_, rfl⟩
  obtain ⟨u2, h2⟩ : ∃ u, u = u1.alloc (.cells #[.int .i64 t', .int .u8 n'] T) := ⟨_, rfl⟩
  have e1 : u1.heap.size = w.heap.size + 1 := by rw [h1]; simp
  have e2 : u2.heap.size = w.heap.size + 2 := by rw [h2]; simp; omega
  have b2 : Below u1.heap.size u1 u2 := by rw [h2]; exact (Below.refl _ _).alloc (Nat.le_refl _) _
  have b3 : Below u2.heap.size u2 (u2.alloc (.cells (kcs k) T')) := (Below.refl _ _).alloc (Nat.le_refl _) _
  rw [← h1, ← h2]
  have f0 := range_made w [.int .i64 t, .int .u8 n] T 0 _ rfl
  have f1 := range_made w [.int .i64 t, .int .u8 n] T 1 _ rfl
  have g0 := range_made u1 [.int .i64 t', .int .u8 n'] T 0 _ rfl
  have g1 := range_made u1 [.int .i64 t', .int .u8 n'] T 1 _ rfl
  rw [← h1] at f0 f1
  rw [← h2, e1] at g0 g1
  refine ⟨?_, ?_, ?_, ?_, ?_⟩
  · exact (b3.cell (p := ⟨w.heap.size, 0, none⟩) (by rw [e2]; show w.heap.size < _; omega)).trans ((b2.cell (p := ⟨w.heap.size, 0, none⟩) (by rw [e1]; show w.heap.size < _; omega)).trans f0)
  · exact (b3.cell (p := ⟨w.heap.size, 1, none⟩) (by rw [e2]; show w.heap.size < _; omega)).trans ((b2.cell (p := ⟨w.heap.size, 1, none⟩) (by rw [e1]; show w.heap.size < _; omega)).trans f1)
  · exact (b3.cell (p := ⟨w.heap.size + 1, 0, none⟩) (by rw [e2]; show w.heap.size + 1 < _; omega)).trans g0
  · exact (b3.cell (p := ⟨w.heap.size + 1, 1, none⟩) (by rw [e2]; show w.heap.size + 1 < _; omega)).trans g1
  · show KeyAt _ (w.heap.size + 2) 0 k; rw [← e2]; exact KeyAt.made u2 T' k hk
theorem TrB.past {w u u' : World} {t n t' n' : Int} {k : List Int} (h : TrB w u t n t' n' k) (hb : Below u.heap.size u u') : TrB w u' t n t' n' k :=
  ⟨(hb.cell (p := ⟨w.heap.size, 0, none⟩) (cell_lt h.c0)).trans h.c0, (hb.cell (p := ⟨w.heap.size, 1, none⟩) (cell_lt h.c0)).trans h.c1, (hb.cell (p := ⟨w.heap.size + 1, 0, none⟩) (cell_lt h.d0)).trans h.d0, (hb.cell (p := ⟨w.heap.size + 1, 1, none⟩) (cell_lt h.d0)).trans h.d1, h.ky.past hb⟩
/-- A stamp and a key in boxes. -/
structure SkB (w u : World) (t n : Int) (k : List Int) : Prop where
  c0 : u.cell? ⟨w.heap.size, 0, none⟩ = some (.int .i64 t)
  c1 : u.cell? ⟨w.heap.size, 1, none⟩ = some (.int .u8 n)
  ky : KeyAt u (w.heap.size + 1) 0 k
theorem SkB.made (w : World) (t n : Int) {k : List Int} (hk : Ky k) (T T' : TypeId) : SkB w ((w.alloc (.cells #[.int .i64 t, .int .u8 n] T)).alloc (.cells (kcs k) T')) t n k := by
  obtain ⟨u1, h1⟩ : ∃ u, u = w.alloc (.cells #[.int .i64 t, .int .u8 n] T) := ⟨_, rfl⟩
  have e1 : u1.heap.size = w.heap.size + 1 := by rw [h1]; simp
  have b2 : Below u1.heap.size u1 (u1.alloc (.cells (kcs k) T')) := (Below.refl _ _).alloc (Nat.le_refl _) _
  rw [← h1]
  have f0 := range_made w [.int .i64 t, .int .u8 n] T 0 _ rfl
  have f1 := range_made w [.int .i64 t, .int .u8 n] T 1 _ rfl
  rw [← h1] at f0 f1
  refine ⟨?_, ?_, ?_⟩
  · exact (b2.cell (p := ⟨w.heap.size, 0, none⟩) (by rw [e1]; show w.heap.size < _; omega)).trans f0
  · exact (b2.cell (p := ⟨w.heap.size, 1, none⟩) (by rw [e1]; show w.heap.size < _; omega)).trans f1
  · rw [← e1]; exact KeyAt.made u1 T' k hk
theorem SkB.past {w u u' : World} {t n : Int} {k : List Int} (h : SkB w u t n k) (hb : Below u.heap.size u u') : SkB w u' t n k :=
  ⟨(hb.cell (p := ⟨w.heap.size, 0, none⟩) (cell_lt h.c0)).trans h.c0, (hb.cell (p := ⟨w.heap.size, 1, none⟩) (cell_lt h.c0)).trans h.c1, h.ky.past hb⟩
end Go.Proofs.YtpnjcflfnoamoaaGreat

namespace Go.Proofs.YtpnjcflfnoamoaaGreat
open Go.RowKit
set_option linter.unusedVariables false

end Go.Proofs.YtpnjcflfnoamoaaGreat

