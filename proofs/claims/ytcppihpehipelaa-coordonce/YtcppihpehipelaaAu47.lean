/-
  Entries loaded, stored and answered whole; what the document's own tables answer: Has, holder, Holder, Blocks (hourglassref10: Table).
  What the document's own tables answer: Holder, Blocks, Least (hourglassref10: Table).
  What the document's own tables answer: Drop (hourglassref10: Table).
  Lists of entries cut in two; one entry as a list; a list of writes copied.
  Writes, and lists of one to three writes, made of their parts.
-/
import Derived.Test.YtcppihpehipelaaAu39
import Derived.Deep.MidRow
import Derived.Deep.Slices
import Derived.Test.YtcppihpehipelaaWrtMem
import Derived.Test.YtcppihpehipelaaAu44
namespace Go.Proofs.Ytcppihpehipelaa
open Go.RowKit
set_option linter.unusedVariables false

/-- One entry in memory of the call's own. -/
structure EntMine (w : World) (b : Nat) (x : EntM) : Prop where
  at_ : EntAt w b 0 x
  free : ∀ i, i < 6 → w.frozen? ⟨b, 0 + i, none⟩ = false
theorem EntAt.lt {w : World} {b o : Nat} {x : EntM} (h : EntAt w b o x) : b < w.heap.size := cell_lt h.cells.1
theorem EntMine.made (w : World) (T : TypeId) (x : EntM) : EntMine (w.alloc (.cells (encE x).toArray T)) w.heap.size x :=
  ⟨⟨lies_made w (encE x).toArray T⟩, fun i hi => World.frozen?_alloc_new _ _ _ _⟩
theorem EntMine.past {w w' : World} {b : Nat} {x : EntM} (h : EntMine w b x) (hb : Below w.heap.size w w') : EntMine w' b x :=
  ⟨h.at_.past hb, fun i hi => by rw [hb.frozen (p := ⟨b, 0 + i, none⟩) h.at_.lt]; exact h.free i hi⟩
theorem EntMine.there {w : World} {b : Nat} {x : EntM} (h : EntMine w b x) : w.there b 0 6 := fun j hj => by
  obtain ⟨u, hu⟩ : ∃ u, (encE x)[j]? = some u := ⟨_, List.getElem?_eq_getElem (by rw [encE_len]; exact hj)⟩
  exact ⟨by rw [h.at_.lies.at j u hu]; rfl, h.free j hj⟩
theorem EntMine.store {w : World} {b : Nat} {x x' : EntM} (h : EntMine w b x) : EntMine (w.setCells b 0 (encE x')) b x' := by
  have ht := h.there
  rw [← encE_len x'] at ht
  exact ⟨⟨lies_of (World.rangeAt_setCells_same w b 0 (encE x') ht)⟩, fun i hi => by rw [World.frozen?_setCells]; exact h.free i hi⟩
end Go.Proofs.Ytcppihpehipelaa

namespace Go.Proofs.Ytcppihpehipelaa
open Go.RowKit
set_option linter.unusedVariables false

/-- A stamp in memory of the call's own. -/
structure StMine (w : World) (b : Nat) (t n : Int) : Prop where
  c0 : w.cell? ⟨b, 0, none⟩ = some (.int .i64 t)
  c1 : w.cell? ⟨b, 1, none⟩ = some (.int .u8 n)
  free : ∀ i, i < 2 → w.frozen? ⟨b, 0 + i, none⟩ = false
theorem StMine.made (w : World) (T : TypeId) (t n : Int) : StMine (w.alloc (.cells #[.int .i64 t, .int .u8 n] T)) w.heap.size t n :=
  ⟨by rw [World.cell?_alloc_new]; rfl, by rw [World.cell?_alloc_new]; rfl, fun i hi => World.frozen?_alloc_new _ _ _ _⟩
theorem StMine.past {w w' : World} {b : Nat} {t n : Int} (h : StMine w b t n) (hb : Below w.heap.size w w') : StMine w' b t n :=
  have hl := cell_lt h.c0
  ⟨(hb.cell (p := ⟨b, 0, none⟩) hl).trans h.c0, (hb.cell (p := ⟨b, 1, none⟩) hl).trans h.c1, fun i hi => (hb.frozen (p := ⟨b, 0 + i, none⟩) hl).trans (h.free i hi)⟩
theorem StMine.there {w : World} {b : Nat} {t n : Int} (h : StMine w b t n) : w.there b 0 2 := fun j hj => by
  refine ⟨?_, h.free j hj⟩
  have : j = 0 ∨ j = 1 := by omega
  rcases this with rfl | rfl
  · rw [Nat.zero_add, h.c0]; rfl
  · rw [Nat.zero_add, h.c1]; rfl
theorem StMine.store {w : World} {b : Nat} {t n t' n' : Int} (h : StMine w b t n) : StMine (w.setCells b 0 [.int .i64 t', .int .u8 n']) b t' n' := by
  have hr := World.rangeAt_setCells_same w b 0 [.int .i64 t', .int .u8 n'] h.there
  exact ⟨hr 0 _ rfl, hr 1 _ rfl, fun i hi => by rw [World.frozen?_setCells]; exact h.free i hi⟩
/-- What Least's rounds hold. -/
structure LsB (w u : World) (t n : Int) : Prop where
  r : StMine u w.heap.size 0 0
  b : StMine u (w.heap.size + 1) t n
  below : Below w.heap.size w u
theorem LsB.made (w : World) (T : TypeId) : LsB w ((w.alloc (.cells #[.int .i64 0, .int .u8 0] T)).alloc (.cells #[.int .i64 0, .int .u8 0] T)) 0 0 := by
  obtain ⟨u1, h1⟩ : ∃ u, u = w.alloc (.cells #[.int .i64 0, .int .u8 0] T) := ⟨_, rfl⟩
  have e1 : u1.heap.size = w.heap.size + 1 := by rw [h1]; simp
  have r1 : StMine u1 w.heap.size 0 0 := by rw [h1]; exact StMine.made w T 0 0
  have b1 : Below w.heap.size w u1 := by rw [h1]; exact (Below.refl _ _).alloc (Nat.le_refl _) _
  rw [← h1]
  have b2 : Below u1.heap.size u1 (u1.alloc (.cells #[.int .i64 0, .int .u8 0] T)) := (Below.refl _ _).alloc (Nat.le_refl _) _
  have m2 := StMine.made u1 T 0 0
  rw [e1] at m2
  exact ⟨r1.past b2, m2, b1.trans (b2.mono b1.size)⟩
theorem LsB.past {w u u' : World} {t n : Int} (h : LsB w u t n) (hb : Below u.heap.size u u') : LsB w u' t n := ⟨h.r.past hb, h.b.past hb, h.below.trans (hb.mono h.below.size)⟩
theorem cells_else {w : World} {b c : Nat} (hne : c ≠ b) : ∀ (vs : List Value) (o : Nat) (w : World), (w.setCells b o vs).heap[c]? = w.heap[c]?
  | [], o, w => rfl
  | v :: r, o, w => by
    show ((w.setCell ⟨b, o, none⟩ v).setCells b (o + 1) r).heap[c]? = _
    rw [cells_else (w := w) hne r (o + 1) (w.setCell ⟨b, o, none⟩ v)]
    exact Below.heap_setCell _ ⟨b, o, none⟩ _ c hne
theorem StMine.else_ {w : World} {b c : Nat} {t n : Int} (h : StMine w c t n) (hne : c ≠ b) (vs : List Value) : StMine (w.setCells b 0 vs) c t n :=
  have hk := cells_else (w := w) hne vs 0 w
  ⟨(cell_kept hk 0).trans h.c0, (cell_kept hk 1).trans h.c1, fun i hi => by rw [World.frozen?_setCells]; exact h.free i hi⟩
theorem LsB.store {w u : World} {t n t' n' : Int} (h : LsB w u t n) : LsB w (u.setCells (w.heap.size + 1) 0 [.int .i64 t', .int .u8 n']) t' n' :=
  ⟨h.r.else_ (by omega) _, h.b.store, below_cells (by omega) h.below⟩
end Go.Proofs.Ytcppihpehipelaa

namespace Go.Proofs.Ytcppihpehipelaa
open Go.RowKit
set_option linter.unusedVariables false

/-- The list of a table in q lies where it lay, or in a block that is new. -/
def RowedT (w w' : World) (q : Nat) : Prop := ∀ v, w'.cell? ⟨q, 0, none⟩ = some v → ∀ g, v.ownBlock = some g → w.heap.size ≤ g ∨ ∃ v0, w.cell? ⟨q, 0, none⟩ = some v0 ∧ v0.ownBlock = some g
theorem row_keptT {u u' : World} {B e size : Nat} {v : Value} {n : Nat} {xs : List Value} (h : u.ownsRow B e size v n xs) (hk : ∀ k, v.ownBlock = some k → u'.heap[k]? = u.heap[k]?) : u'.ownsRow B e size v n xs := by
  refine ⟨h.1, ?_⟩
  rcases h.2 with e | ⟨g, cap, cur, e1, e2, hh, r⟩
  · exact .inl e
  · exact .inr ⟨g, cap, cur, e1, e2, (hk g (by rw [e1]; rfl)).trans hh, r⟩
theorem own_downT {u : World} {B B' : Nat} {e : TypeId} {size : Nat} {v : Value} {n : Nat} {xs : List Value} (h : u.ownsRow B e size v n xs) (hB : B' ≤ B) : u.ownsRow B' e size v n xs :=
  ⟨h.1, h.2.imp (fun h => h) (fun ⟨g, cap, cur, h1, h2, h3⟩ => ⟨g, cap, cur, h1, Nat.le_trans hB h2, h3⟩)⟩
/-- A list that is all new is laid into the table; behind it the call's own blocks from w on may turn, but not the list's. -/
theorem TabR.lay {w u u' : World} {B q : Nat} {M M' : List EntM} (h : TabR w B q M) (hB : B ≤ w.heap.size) (hb : Below w.heap.size w u) {a : Option Addr} {N c b : Nat} (hN : M'.length = N) (hrow : u.ownsRow b 107 6 (.slice a N c) N (M'.flatMap encE)) (hbw : w.heap.size < b) (hsub : ∀ x ∈ M', x ∈ M) (hfew : M'.length ≤ 1000)
    (hs : u.heap.size ≤ u'.heap.size) (hq : u'.cell? ⟨q, 0, none⟩ = some (.slice a N c)) (hfz : u'.frozen? ⟨q, 0, none⟩ = false) (hk : ∀ k, k ≠ q → k ≠ w.heap.size → u'.heap[k]? = u.heap[k]?) (ho : u'.os = u.os ∧ u'.tape = u.tape ∧ u'.output = u.output) :
    TabR u' B q M' ∧ Chg w u' (fun k => k = q) ∧ RowedT w u' q := by
  subst hN
  have hlt := h.lt
  refine ⟨⟨Nat.lt_of_lt_of_le (Nat.lt_of_lt_of_le hlt hb.size) hs, h.lo, ⟨a, c, hq, row_keptT (own_downT hrow (by omega)) (fun k e => hk k (by have := (hrow.lt k e).1; omega) (by have := (hrow.lt k e).1; omega)), fun k e => by have := (hrow.lt k e).1; omega⟩, hfz, fun x hx => ?_, fun x hx => h.far x (hsub x hx), hfew⟩, ⟨ho.1.trans hb.os, ho.2.1.trans hb.tape, ho.2.2.trans hb.output, Nat.le_trans hb.size hs, fun k hkw hn => (hk k hn (by omega)).trans (hb.block k hkw)⟩, fun v hv g hg => .inl ?_⟩
  · refine (h.wrs x (hsub x hx)).kept (fun hl b o e => ?_)
    have h1 := (h.wrs x (hsub x hx)).wr.blt hl e
    rw [hk b (h.far x (hsub x hx) hl b o e) (by omega)]
    exact hb.block b h1
  · rw [hq] at hv
    injection hv with hv
    rw [← hv] at hg
    have := (hrow.lt g hg).1
    omega
theorem EntAt.kept {u u' : World} {b o : Nat} {x : EntM} (h : EntAt u b o x) (hk : u'.heap[b]? = u.heap[b]?) : EntAt u' b o x := ⟨lies_of fun j v hv => by rw [cell_kept hk]; exact h.lies.at j v hv⟩
theorem EntMine.kept {u u' : World} {b : Nat} {x : EntM} (h : EntMine u b x) (hk : u'.heap[b]? = u.heap[b]?) : EntMine u' b x := ⟨h.at_.kept hk, fun i hi => by rw [frozen_kept hk]; exact h.free i hi⟩
end Go.Proofs.Ytcppihpehipelaa

namespace Go.Proofs.Ytcppihpehipelaa
open Go.RowKit
set_option linter.unusedVariables false

theorem lies_flat {α : Type} {enc : α → List Value} {size : Nat} {w : World} {b : Nat} : ∀ (l : List α) (o : Nat), (∀ x ∈ l, (enc x).length = size) → (∀ i x, l[i]? = some x → Lies w (some ⟨b, o + i * size, none⟩) (enc x)) → Lies w (some ⟨b, o, none⟩) (l.flatMap enc)
  | [], o, _, _ => lies_empty _ _ _
  | x :: r, o, hl, h => by
    have hx : (enc x).length = size := hl x (by simp)
    have h0 := h 0 x rfl
    rw [Nat.zero_mul, Nat.add_zero] at h0
    have hr := lies_flat r (o + size) (fun y hy => hl y (by simp [hy])) (fun i y hy => by
      have := h (i + 1) y (by simpa using hy)
      rwa [Nat.succ_mul, Nat.add_comm (i * size), ← Nat.add_assoc] at this)
    refine lies_of fun j u hj => ?_
    rw [List.flatMap_cons] at hj
    by_cases hjs : j < size
    · rw [List.getElem?_append_left (by omega)] at hj
      exact h0.at j u hj
    · rw [List.getElem?_append_right (by omega), hx] at hj
      have := hr.at (j - size) u hj
      rwa [show o + size + (j - size) = o + j by omega] at this
theorem WrtsAt.lies {w : World} {a : Option Addr} {l : List Wrt} (h : WrtsAt w a l) : Lies w a (l.flatMap encW) := by
  rcases h.cells with rfl | ⟨b, o, rfl, hc⟩
  · exact lies_nil _ _
  · exact lies_flat l o (fun W hW => encW_len (h.oks W hW).key) (fun i W hW => (hc i W hW).lies)
end Go.Proofs.Ytcppihpehipelaa

namespace Go.Proofs.Ytcppihpehipelaa
open Go.RowKit
set_option linter.unusedVariables false

end Go.Proofs.Ytcppihpehipelaa

