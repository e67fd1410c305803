/-
  Where a key's versions stand in the document's own stores (hourglassref10: Store.chain).
  May a version be; the newest one of a key (hourglassref10: MayVersion, Store.Newest).
  The last version of a key not above a stamp (hourglassref10: Store.At).
-/
import Derived.Test.YtfaojmognbgnfaaStoreMem
import Derived.Test.YtfaojmognbgnfaaRefKeyCmp
import Derived.Deep.RegionHeld3
import Derived.Deep.MidRow
import Derived.Test.YtfaojmognbgnfaaRefStampA
import Derived.Test.YtfaojmognbgnfaaVerMem
namespace Go.Proofs.Ytfaojmognbgnfaa
open Go.RowKit
set_option linter.unusedVariables false

end Go.Proofs.Ytfaojmognbgnfaa

namespace Go.Proofs.Ytfaojmognbgnfaa
open Go.RowKit
set_option linter.unusedVariables false

theorem VerAt.made (w : World) (T : TypeId) (V : Ver) : VerAt (w.alloc (.cells (encV V).toArray T)) w.heap.size 0 V := by
  have h := lies_made w (encV V).toArray T
  exact ⟨h⟩
theorem VerAt.cells0 {w : World} {b : Nat} {V : Ver} (h : VerAt w b 0 V) (hk : Ky V.k) : w.cell? ⟨b, 16, none⟩ = some (.int .i64 V.t) ∧ w.cell? ⟨b, 17, none⟩ = some (.int .u8 V.n) ∧ w.cell? ⟨b, 18, none⟩ = some (.string (strOfNums V.v)) ∧ w.cell? ⟨b, 19, none⟩ = some (.bool V.g) := by
  have := h.cells hk
  simpa using this
/-- A key and an empty stamp, each in a block of its own. -/
structure KeyNil (w u : World) (k : List Int) : Prop where
  key : KeyAt u w.heap.size 0 k
  c0 : u.cell? ⟨w.heap.size + 1, 0, none⟩ = some (.int .i64 0)
  c1 : u.cell? ⟨w.heap.size + 1, 1, none⟩ = some (.int .u8 0)
  free : ∀ j, u.frozen? ⟨w.heap.size + 1, j, none⟩ = false
  below : Below w.heap.size w u
  lt : w.heap.size + 1 < u.heap.size
theorem KeyNil.made (w : World) (k : List Int) (hk : Ky k) (T T' : TypeId) : KeyNil w ((w.alloc (.cells (kcs k) T)).alloc (.cells #[.int .i64 0, .int .u8 0] T')) k := by
  obtain ⟨u1, h1⟩ : ∃ u, u = w.alloc (.cells (kcs k) T) := ⟨_, rfl⟩
  have e1 : u1.heap.size = w.heap.size + 1 := by rw [h1]; simp
  have b1 : Below w.heap.size w u1 := by rw [h1]; exact (Below.refl _ _).alloc (Nat.le_refl _) _
  have k1 : KeyAt u1 w.heap.size 0 k := by rw [h1]; exact KeyAt.made w T k hk
  rw [← h1]
  refine ⟨k1.past ((Below.refl _ _).alloc (Nat.le_refl _) _), ?_, ?_, fun j => ?_, b1.alloc (by omega) _, by simp; omega⟩
  · rw [← e1, World.cell?_alloc_new]; rfl
  · rw [← e1, World.cell?_alloc_new]; rfl
  · rw [← e1]; exact World.frozen?_alloc_new _ _ _ _
theorem KeyNil.step {w u v : World} {k : List Int} (h : KeyNil w u k) (hb : Below u.heap.size u v) : KeyNil w v k := by
  have hl := h.lt
  exact ⟨h.key.past hb, (hb.cell (p := ⟨w.heap.size + 1, 0, none⟩) hl).trans h.c0, (hb.cell (p := ⟨w.heap.size + 1, 1, none⟩) hl).trans h.c1, fun j => (hb.frozen (p := ⟨w.heap.size + 1, j, none⟩) hl).trans (h.free j), h.below.trans (hb.mono h.below.size), Nat.lt_of_lt_of_le hl hb.size⟩
theorem newest_none {L : List Ver} {k : List Int} (h : kMany L k = 0) : newestV L k = none := by
  have : chainV L k = [] := List.eq_nil_of_length_eq_zero (by rw [chain_len, h])
  unfold newestV
  rw [this]
  rfl
theorem newest_some {L : List Ver} {k : List Int} {m : Nat} {V : Ver} (h : kMany L k = m + 1) (hV : L[kFrom L k + m]? = some V) : newestV L k = some V := by
  unfold newestV
  rw [List.getLast?_eq_getElem?, chain_len, h, Nat.add_sub_cancel, chain_at L k m (by omega), hV]
theorem set2 {u : World} {b : Nat} {x y : Value} (x' y' : Value) (h0 : u.cell? ⟨b, 0, none⟩ = some x) (h1 : u.cell? ⟨b, 1, none⟩ = some y) : ((u.setCell ⟨b, 0, none⟩ x').setCell ⟨b, 1, none⟩ y').cell? ⟨b, 0, none⟩ = some x' ∧ ((u.setCell ⟨b, 0, none⟩ x').setCell ⟨b, 1, none⟩ y').cell? ⟨b, 1, none⟩ = some y' := by
  refine ⟨(World.cell?_setCell_other _ _ _ _ (by intro e; injection e with _ e2; omega)).trans (World.cell?_setCell_same _ _ _ h0), World.cell?_setCell_same _ _ _ ((World.cell?_setCell_other _ _ _ _ (by intro e; injection e with _ e2; omega)).trans h1)⟩
def newT (o : Option Ver) : Int := match o with | none => 0 | some V => V.t
def newN (o : Option Ver) : Int := match o with | none => 0 | some V => V.n
end Go.Proofs.Ytfaojmognbgnfaa

namespace Go.Proofs.Ytfaojmognbgnfaa
open Go.RowKit
set_option linter.unusedVariables false

/-- A key, a stamp, an empty version, each in a block of its own. -/
structure KeyStV (w u : World) (k : List Int) (t n : Int) (V : Ver) : Prop where
  key : KeyAt u w.heap.size 0 k
  s0 : u.cell? ⟨w.heap.size + 1, 0, none⟩ = some (.int .i64 t)
  s1 : u.cell? ⟨w.heap.size + 1, 1, none⟩ = some (.int .u8 n)
  ver : VerMine u (w.heap.size + 2) 0 V
  below : Below w.heap.size w u
theorem KeyStV.made (w : World) (k : List Int) (hk : Ky k) (t n : Int) (T T' T'' : TypeId) : KeyStV w (((w.alloc (.cells (kcs k) T)).alloc (.cells #[.int .i64 t, .int .u8 n] T')).alloc (.cells (encV zeroV).toArray T'')) k t n zeroV := by
  obtain ⟨u1, h1⟩ : ∃ u, u = w.alloc (.cells (kcs k) T) := ⟨_, rfl⟩
  have e1 : u1.heap.size = w.heap.size + 1 := by rw [h1]; simp
  have b1 : Below w.heap.size w u1 := by rw [h1]; exact (Below.refl _ _).alloc (Nat.le_refl _) _
  have k1 : KeyAt u1 w.heap.size 0 k := by rw [h1]; exact KeyAt.made w T k hk
  rw [← h1]
  obtain ⟨u2, h2⟩ : ∃ u, u = u1.alloc (.cells #[.int .i64 t, .int .u8 n] T') := ⟨_, rfl⟩
  have e2 : u2.heap.size = w.heap.size + 2 := by rw [h2]; simp; omega
  have b2 : Below u1.heap.size u1 u2 := by rw [h2]; exact (Below.refl _ _).alloc (Nat.le_refl _) _
  have c0 : u2.cell? ⟨w.heap.size + 1, 0, none⟩ = some (.int .i64 t) := by rw [h2, ← e1, World.cell?_alloc_new]; rfl
  have c1 : u2.cell? ⟨w.heap.size + 1, 1, none⟩ = some (.int .u8 n) := by rw [h2, ← e1, World.cell?_alloc_new]; rfl
  rw [← h2]
  have b3 : Below u2.heap.size u2 (u2.alloc (.cells (encV zeroV).toArray T'')) := (Below.refl _ _).alloc (Nat.le_refl _) _
  refine ⟨(k1.past b2).past b3, (b3.cell (p := ⟨w.heap.size + 1, 0, none⟩) (by rw [e2]; exact Nat.lt_succ_self _)).trans c0, (b3.cell (p := ⟨w.heap.size + 1, 1, none⟩) (by rw [e2]; exact Nat.lt_succ_self _)).trans c1, ?_, b1.trans ((b2.trans (b3.mono b2.size)).mono b1.size)⟩
  rw [← e2]
  exact VerMine.made u2 T'' zeroV zeroV_ky
theorem KeyStV.step {w u v : World} {k : List Int} {t n : Int} {V : Ver} (h : KeyStV w u k t n V) (hb : Below u.heap.size u v) : KeyStV w v k t n V :=
  ⟨h.key.past hb, (hb.cell (p := ⟨w.heap.size + 1, 0, none⟩) (cell_lt h.s0)).trans h.s0, (hb.cell (p := ⟨w.heap.size + 1, 1, none⟩) (cell_lt h.s1)).trans h.s1, h.ver.past hb, h.below.trans (hb.mono h.below.size)⟩
theorem at_none {L : List Ver} {k : List Int} {t n : Int} (h : ∀ j V, j < kMany L k → L[kFrom L k + j]? = some V → ¬ cmpS V.t V.n t n ≤ 0) : atV L k t n = none := by
  unfold atV
  rw [List.find?_eq_none]
  intro V hV
  rw [List.mem_reverse] at hV
  obtain ⟨j, hj, e⟩ := List.getElem_of_mem hV
  rw [chain_len] at hj
  have e2 : (chainV L k)[j]? = some V := by rw [List.getElem?_eq_getElem (by rw [chain_len]; exact hj), e]
  rw [chain_at L k j hj] at e2
  simpa using h j V hj e2
theorem find_last {α : Type} {p : α → Bool} : ∀ (l : List α) (j : Nat) (V : α), l[j]? = some V → p V = true → (∀ i X, j < i → l[i]? = some X → p X = false) → l.reverse.find? p = some V := by
  intro l
  induction l with
  | nil => intro j V h; simp at h
  | cons Y r ih =>
    intro j V h hp hx
    rw [List.reverse_cons, List.find?_append]
    cases j with
    | zero =>
      simp at h
      subst h
      have : r.reverse.find? p = none := by
        rw [List.find?_eq_none]
        intro X hX
        rw [List.mem_reverse] at hX
        obtain ⟨i, hi, e⟩ := List.getElem_of_mem hX
        have := hx (i + 1) X (by omega) (by simp [hi, e])
        simp [this]
      rw [this]
      simp [hp]
    | succ j =>
      rw [ih j V (by simpa using h) hp (fun i X hi hX => hx (i + 1) X (by omega) (by simpa using hX))]
      rfl
theorem at_some {L : List Ver} {k : List Int} {t n : Int} {j : Nat} {V : Ver} (hj : j < kMany L k) (hV : L[kFrom L k + j]? = some V) (hc : cmpS V.t V.n t n ≤ 0) (h : ∀ i X, j < i → i < kMany L k → L[kFrom L k + i]? = some X → ¬ cmpS X.t X.n t n ≤ 0) : atV L k t n = some V := by
  unfold atV
  refine find_last _ j V (by rw [chain_at L k j hj]; exact hV) (decide_eq_true hc) (fun i X hi hX => decide_eq_false ?_)
  have hil : i < kMany L k := by
    have := (List.getElem?_eq_some_iff.1 hX).1
    rwa [chain_len] at this
  rw [chain_at L k i hil] at hX
  exact h i X hi hil hX
def orZero (o : Option Ver) : Ver := match o with | none => zeroV | some V => V
end Go.Proofs.Ytfaojmognbgnfaa

