/-
  The document's own stores (hourglassref10: Store) in memory: a list of versions of twenty cells each.
-/
import Derived.Test.YtfaojmognbgnfaaPa
import Derived.Test.YtfaojmognbgnfaaFill
import Derived.Test.YtfaojmognbgnfaaBase
namespace Go.Proofs.Ytfaojmognbgnfaa
open Go.RowKit
set_option linter.unusedVariables false

/-- A version's cells. -/
def encV (V : Ver) : List Value := kc V.k ++ [.int .i64 V.t, .int .u8 V.n, .string (strOfNums V.v), .bool V.g]
abbrev vv (V : Ver) : Value := .agg (encV V).toArray
def OkL (L : List Ver) : Prop := ∀ V ∈ L, VerOk V
theorem enc_len {V : Ver} (h : Ky V.k) : (encV V).length = 20 := by unfold encV; rw [List.length_append, kc_len h]; rfl
theorem OkL.len {L : List Ver} (h : OkL L) : ∀ V ∈ L, (encV V).length = 20 := fun V hV => enc_len (h V hV).key
theorem enc_one (V : Ver) : ∀ u ∈ encV V, u.oneCell' = true := by
  intro u hu
  unfold encV at hu
  rcases List.mem_append.1 hu with e | e
  · exact ints_oneCell _ _ u e
  · simp at e
    rcases e with rfl | rfl | rfl | rfl <;> rfl
theorem encs_one (L : List Ver) : ∀ u ∈ L.flatMap encV, u.oneCell' = true := flat_one (fun V _ => enc_one V)
theorem verEl : ElT 55 89 20 56 := ElT.mk' (z := vv ⟨zeroK, 0, 0, [], false⟩) Try.underlying55 (by kernel_rfl) (by kernel_rfl) (by decide) (by decide)
/-- One version at a place. -/
structure VerAt (w : World) (b o : Nat) (V : Ver) : Prop where
  lies : Lies w (some ⟨b, o, none⟩) (encV V)
theorem VerAt.key {w : World} {b o : Nat} {V : Ver} (h : VerAt w b o V) (hk : Ky V.k) : KeyAt w b o V.k := by
  refine ⟨fun j hj => h.lies.at j _ ?_⟩
  have hl := hk.len
  unfold encV
  rw [List.getElem?_append_left (by rw [kc_len hk]; exact hj)]
  simp [kc, List.getD, show j < V.k.length by omega]
theorem VerAt.cells {w : World} {b o : Nat} {V : Ver} (h : VerAt w b o V) (hk : Ky V.k) : w.cell? ⟨b, o + 16, none⟩ = some (.int .i64 V.t) ∧ w.cell? ⟨b, o + 17, none⟩ = some (.int .u8 V.n) ∧ w.cell? ⟨b, o + 18, none⟩ = some (.string (strOfNums V.v)) ∧ w.cell? ⟨b, o + 19, none⟩ = some (.bool V.g) := by
  have hl := kc_len hk
  refine ⟨h.lies.at 16 _ ?_, h.lies.at 17 _ ?_, h.lies.at 18 _ ?_, h.lies.at 19 _ ?_⟩ <;> (unfold encV; rw [List.getElem?_append_right (by omega), hl]; rfl)
theorem VerAt.past {w w' : World} {b o : Nat} {V : Ver} (h : VerAt w b o V) (hb : Below w.heap.size w w') : VerAt w' b o V := ⟨h.lies.past hb⟩
/-- A store in block p, all of it made by the call (at B or above). -/
structure StoreR (u : World) (B p : Nat) (L : List Ver) : Prop where
  lt : p < u.heap.size
  lo : B ≤ p
  list : ∃ a c, u.cell? ⟨p, 0, none⟩ = some (.slice a L.length c) ∧ u.ownsRow B 89 20 (.slice a L.length c) L.length (L.flatMap encV) ∧ (∀ k, (Value.slice a L.length c).ownBlock = some k → k ≠ p)
  free : u.frozen? ⟨p, 0, none⟩ = false
  oks : OkL L
  few : L.length ≤ 1000000
theorem StoreR.past {u u' : World} {B p : Nat} {L : List Ver} (h : StoreR u B p L) (hb : Below u.heap.size u u') : StoreR u' B p L := by
  obtain ⟨a, c, h1, h2, h3⟩ := h.list
  exact ⟨Nat.lt_of_lt_of_le h.lt hb.size, h.lo, ⟨a, c, (hb.cell (p := ⟨p, 0, none⟩) h.lt).trans h1, own_below h2 hb (Nat.le_refl _), h3⟩, (hb.frozen (p := ⟨p, 0, none⟩) h.lt).trans (h.free), h.oks, h.few⟩
/-- The list's cell, and each version of it. -/
theorem StoreR.open {u : World} {B p : Nat} {L : List Ver} (h : StoreR u B p L) : ∃ a c, L.length ≤ c ∧ (∀ v, Below u.heap.size u v → v.cell? ⟨p, 0, none⟩ = some (.slice a L.length c)) ∧ (L = [] ∨ ∃ g, a = some ⟨g, 0, none⟩ ∧ g < u.heap.size ∧ B ≤ g ∧ ∀ v, Below u.heap.size u v → ∀ i V, L[i]? = some V → VerAt v g (i * 20) V) := by
  obtain ⟨a, c, h1, h2, h3⟩ := h.list
  refine ⟨a, c, ?_, fun v hb => (hb.cell (p := ⟨p, 0, none⟩) h.lt).trans h1, ?_⟩
  · rcases h2.2 with ⟨e1, e2⟩ | ⟨g, cap, cur, e1, _, _, e5, _⟩
    · omega
    · cases e1; exact e5
  · rcases h2.2 with ⟨e1, e2⟩ | ⟨g, cap, cur, e1, hg, hh, e5, _⟩
    · exact .inl (List.eq_nil_of_length_eq_zero e2)
    · cases e1
      have hlt := (Array.getElem?_eq_some_iff.1 hh).1
      refine .inr ⟨g, rfl, hlt, hg, fun v hb i V hV => ⟨?_⟩⟩
      have hl : Lies u (some ⟨g, 0, none⟩) (L.flatMap encV) := own_lies h2
      have := (hl.el h.oks.len hV).past hb
      rwa [Nat.zero_add] at this
end Go.Proofs.Ytfaojmognbgnfaa
