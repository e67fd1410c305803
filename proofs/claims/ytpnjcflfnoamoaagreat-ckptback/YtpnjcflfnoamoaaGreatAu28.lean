/-
  Parts laid into a row of cells.
  The document's own stores (hourglassref10: Store) in memory: a list of versions of twenty cells each.
  The document's own order of keys (hourglassref10: Cmp).
  Where a key's versions stand in the document's own stores (hourglassref10: Store.chain).
  May a version be; the newest one of a key (hourglassref10: MayVersion, Store.Newest).
  Versions that are loaded, stored and answered whole.
  The last version of a key not above a stamp (hourglassref10: Store.At).
-/
import Derived.Test.YtpnjcflfnoamoaaGreatBase
import Derived.Test.YtpnjcflfnoamoaaGreatPa
import Derived.BigRegion
import Derived.Deep.RegionHeld3
import Derived.Deep.MidRow
import Derived.Test.YtpnjcflfnoamoaaGreatAu24
namespace Go.Proofs.YtpnjcflfnoamoaaGreat
open Go.RowKit
set_option linter.unusedVariables false

theorem fold_off : ∀ (vs : List Value) (off o : Nat) (C : Array Value), List.foldl (fun (cs : Array Value) (x : Value × Nat) => cs.setIfInBounds (off + x.snd) x.fst) C (vs.zipIdx o) = List.foldl (fun (cs : Array Value) (x : Value × Nat) => cs.setIfInBounds x.snd x.fst) C (vs.zipIdx (off + o))
  | [], off, o, C => rfl
  | v :: r, off, o, C => by
    rw [List.zipIdx_cons, List.zipIdx_cons, List.foldl_cons, List.foldl_cons, fold_off r off (o + 1)]
    rfl
theorem fill_step (place : Nat → Option (Nat × Nat)) (C : List Value) (i off n : Nat) (vs : List Value) (hp : place i = some (off, n)) (hv : vs.length = n) (hs : off + n ≤ C.length) (rest : List (Nat × Value)) :
    Instr.fill place C.toArray ((i, .agg vs.toArray) :: rest) = Instr.fill place (C.take off ++ vs ++ C.drop (off + n)).toArray rest := by
  have h0 : ¬ (decide (vs.toArray.size ≠ n) || decide (off + vs.toArray.size > C.toArray.size)) = true := by simp; omega
  have hf : Array.foldl (fun (cs : Array Value) (x : Value × Nat) => cs.setIfInBounds (off + x.snd) x.fst) C.toArray vs.toArray.zipIdx = (C.take off ++ vs ++ C.drop (off + n)).toArray := by
    rw [← Array.foldl_toList]
    apply Array.toList_inj.1
    have e : vs.toArray.zipIdx.toList = vs.zipIdx := by simp
    rw [e, fold_off vs off 0, Nat.add_zero, fold_set vs off C.toArray (by simp; omega)]
    simp [hv]
  rw [← hf]
  conv => lhs; unfold Instr.fill
  simp only [hp, Value.cells]
  exact if_neg h0
end Go.Proofs.YtpnjcflfnoamoaaGreat

namespace Go.Proofs.YtpnjcflfnoamoaaGreat
open Go.RowKit
set_option linter.unusedVariables false

/-- A version's cells. -/
def encV (V : Ver) : List Value := kc V.k ++ [.int .i64 V.t, .int .u8 V.n, .string (strOfNums V.v), .bool V.g]
def OkL (L : List Ver) : Prop := ∀ V ∈ L, VerOk V
theorem enc_len {V : Ver} (h : Ky V.k) : (encV V).length = 20 := by unfold encV; rw [List.length_append, kc_len h]; rfl
theorem OkL.len {L : List Ver} (h : OkL L) : ∀ V ∈ L, (encV V).length = 20 := fun V hV => enc_len (h V hV).key
/-- One version at a place. -/
structure VerAt (w : World) (b o : Nat) (V : Ver) : Prop where
  lies : Lies w (some ⟨b, o, none⟩) (encV V)
theorem VerAt.key {w : World} {b o : Nat} {V : Ver} (h : VerAt w b o V) (hk : Ky V.k) : KeyAt w b o V.k := by
  refine ⟨fun j hj => h.lies.at j _ ?_⟩
  have hl := hk.len
  unfold encV
  rw [List.getElem?_append_left (by rw [kc_len hk]; exact hj)]
  simp [kc, List.getD, show j < V.k.length by omega]
theorem VerAt.cells {w : World} {b o : Nat} {V : Ver} (h : VerAt w b o V) (hk : Ky V.k) : w.cell? ⟨b, o + 16, none⟩ = some (.int .i64 V.t) ∧ w.cell? ⟨b, o + 17, none⟩ = some (.int .u8 V.n) ∧ w.cell? ⟨b, o + 18, none⟩ = some (.string (strOfNums V.v)) ∧ w.cell? ⟨b, o + 19, none⟩ = some (.bool V.g) := by
  have hl := kc_len hk
  refine ⟨h.lies.at 16 _ ?_, h.lies.at 17 _ ?_, h.lies.at 18 _ ?_, h.lies.at 19 _ ?_⟩ <;> (unfold encV; rw [List.getElem?_append_right (by omega), hl]; rfl)
theorem VerAt.past {w w' : World} {b o : Nat} {V : Ver} (h : VerAt w b o V) (hb : Below w.heap.size w w') : VerAt w' b o V := ⟨h.lies.past hb⟩
/-- A store in block p, all of it made by the call (at B or above). -/
structure StoreR (u : World) (B p : Nat) (L : List Ver) : Prop where
  lt : p < u.heap.size
  lo : B ≤ p
  list : ∃ a c, u.cell? ⟨p, 0, none⟩ = some (.slice a L.length c) ∧ u.ownsRow B 67 20 (.slice a L.length c) L.length (L.flatMap encV) ∧ (∀ k, (Value.slice a L.length c).ownBlock = some k → k ≠ p)
  free : u.frozen? ⟨p, 0, none⟩ = false
  oks : OkL L
  few : L.length ≤ 1000000
theorem StoreR.past {u u' : World} {B p : Nat} {L : List Ver} (h : StoreR u B p L) (hb : Below u.heap.size u u') : StoreR u' B p L := by
  obtain ⟨a, c, h1, h2, h3⟩ := h.list
  exact ⟨Nat.lt_of_lt_of_le h.lt hb.size, h.lo, ⟨a, c, (hb.cell (p := ⟨p, 0, none⟩) h.lt).trans h1, own_below h2 hb (Nat.le_refl _), h3⟩, (hb.frozen (p := ⟨p, 0, none⟩) h.lt).trans (h.free), h.oks, h.few⟩
/-- The list's cell, and each version of it. -/
theorem StoreR.open {u : World} {B p : Nat} {L : List Ver} (h : StoreR u B p L) : ∃ a c, L.length ≤ c ∧ (∀ v, Below u.heap.size u v → v.cell? ⟨p, 0, none⟩ = some (.slice a L.length c)) ∧ (L = [] ∨ ∃ g, a = some ⟨g, 0, none⟩ ∧ g < u.heap.size ∧ B ≤ g ∧ ∀ v, Below u.heap.size u v → ∀ i V, L[i]? = some V → VerAt v g (i * 20) V) := by
  obtain ⟨a, c, h1, h2, h3⟩ := h.list
  refine ⟨a, c, ?_, fun v hb => (hb.cell (p := ⟨p, 0, none⟩) h.lt).trans h1, ?_⟩
  · rcases h2.2 with ⟨e1, e2⟩ | ⟨g, cap, cur, e1, _, _, e5, _⟩
    · omega
    · cases e1; exact e5
  · rcases h2.2 with ⟨e1, e2⟩ | ⟨g, cap, cur, e1, hg, hh, e5, _⟩
    · exact .inl (List.eq_nil_of_length_eq_zero e2)
    · cases e1
      have hlt := (Array.getElem?_eq_some_iff.1 hh).1
      refine .inr ⟨g, rfl, hlt, hg, fun v hb i V hV => ⟨?_⟩⟩
      have hl : Lies u (some ⟨g, 0, none⟩) (L.flatMap encV) := own_lies h2
      have := (hl.el h.oks.len hV).past hb
      rwa [Nat.zero_add] at this
end Go.Proofs.YtpnjcflfnoamoaaGreat

namespace Go.Proofs.YtpnjcflfnoamoaaGreat
open Go.RowKit
set_option linter.unusedVariables false

end Go.Proofs.YtpnjcflfnoamoaaGreat

namespace Go.Proofs.YtpnjcflfnoamoaaGreat
open Go.RowKit
set_option linter.unusedVariables false

end Go.Proofs.YtpnjcflfnoamoaaGreat

namespace Go.Proofs.YtpnjcflfnoamoaaGreat
open Go.RowKit
set_option linter.unusedVariables false

theorem VerAt.made (w : World) (T : TypeId) (V : Ver) : VerAt (w.alloc (.cells (encV V).toArray T)) w.heap.size 0 V := by
  have h := lies_made w (encV V).toArray T
  exact ⟨h⟩
/-- A key and an empty stamp, each in a block of its own. -/
structure KeyNil (w u : World) (k : List Int) : Prop where
  key : KeyAt u w.heap.size 0 k
  c0 : u.cell? ⟨w.heap.size + 1, 0, none⟩ = some (.int .i64 0)
  c1 : u.cell? ⟨w.heap.size + 1, 1, none⟩ = some (.int .u8 0)
  free : ∀ j, u.frozen? ⟨w.heap.size + 1, j, none⟩ = false
  below : Below w.heap.size w u
  lt : w.heap.size + 1 < u.heap.size
theorem KeyNil.made (w : World) (k : List Int) (hk : Ky k) (T T' : TypeId) : KeyNil w ((w.alloc (.cells (kcs k) T)).alloc (.cells #[.int .i64 0, .int .u8 0] T')) k := by
  obtain ⟨u1, h1⟩ : ∃ u, u = w.alloc (.cells (kcs k) T) := ⟨_, rfl⟩
  have e1 : u1.heap.size = w.heap.size + 1 := by rw [h1]; simp
  have b1 : Below w.heap.size w u1 := by rw [h1]; exact (Below.refl _ _).alloc (Nat.le_refl _) _
  have k1 : KeyAt u1 w.heap.size 0 k := by rw [h1]; exact KeyAt.made w T k hk
  rw [← h1]
  refine ⟨k1.past ((Below.refl _ _).alloc (Nat.le_refl _) _), ?_, ?_, fun j => ?_, b1.alloc (by omega) _, by simp; omega⟩
  · rw [← e1, World.cell?_alloc_new]; rfl
  · rw [← e1, World.cell?_alloc_new]; rfl
  · rw [← e1]; exact World.frozen?_alloc_new _ _ _ _
theorem KeyNil.step {w u v : World} {k : List Int} (h : KeyNil w u k) (hb : Below u.heap.size u v) : KeyNil w v k := by
  have hl := h.lt
  exact ⟨h.key.past hb, (hb.cell (p := ⟨w.heap.size + 1, 0, none⟩) hl).trans h.c0, (hb.cell (p := ⟨w.heap.size + 1, 1, none⟩) hl).trans h.c1, fun j => (hb.frozen (p := ⟨w.heap.size + 1, j, none⟩) hl).trans (h.free j), h.below.trans (hb.mono h.below.size), Nat.lt_of_lt_of_le hl hb.size⟩
theorem set2 {u : World} {b : Nat} {x y : Value} (x' y' : Value) (h0 : u.cell? ⟨b, 0, none⟩ = some x) (h1 : u.cell? ⟨b, 1, none⟩ = some y) : ((u.setCell ⟨b, 0, none⟩ x').setCell ⟨b, 1, none⟩ y').cell? ⟨b, 0, none⟩ = some x' ∧ ((u.setCell ⟨b, 0, none⟩ x').setCell ⟨b, 1, none⟩ y').cell? ⟨b, 1, none⟩ = some y' := by
  refine ⟨(World.cell?_setCell_other _ _ _ _ (by intro e; injection e with _ e2; omega)).trans (World.cell?_setCell_same _ _ _ h0), World.cell?_setCell_same _ _ _ ((World.cell?_setCell_other _ _ _ _ (by intro e; injection e with _ e2; omega)).trans h1)⟩
def newT (o : Option Ver) : Int := match o with | none => 0 | some V => V.t
def newN (o : Option Ver) : Int := match o with | none => 0 | some V => V.n
end Go.Proofs.YtpnjcflfnoamoaaGreat

namespace Go.Proofs.YtpnjcflfnoamoaaGreat
open Go.RowKit
set_option linter.unusedVariables false

/-- One version in memory of the call's own. -/
structure VerMine (w : World) (b o : Nat) (V : Ver) : Prop where
  at_ : VerAt w b o V
  free : ∀ i, i < 20 → w.frozen? ⟨b, o + i, none⟩ = false
  key : Ky V.k
theorem VerAt.lt {w : World} {b o : Nat} {V : Ver} (h : VerAt w b o V) (hk : Ky V.k) : b < w.heap.size := cell_lt (h.cells hk).1
theorem VerMine.made (w : World) (T : TypeId) (V : Ver) (hk : Ky V.k) : VerMine (w.alloc (.cells (encV V).toArray T)) w.heap.size 0 V :=
  ⟨⟨lies_made w (encV V).toArray T⟩, fun i hi => World.frozen?_alloc_new _ _ _ _, hk⟩
theorem VerMine.past {w w' : World} {b o : Nat} {V : Ver} (h : VerMine w b o V) (hb : Below w.heap.size w w') : VerMine w' b o V :=
  ⟨h.at_.past hb, fun i hi => by rw [hb.frozen (p := ⟨b, o + i, none⟩) (h.at_.lt h.key)]; exact h.free i hi, h.key⟩
theorem VerAt.range {w : World} {b o : Nat} {V : Ver} (h : VerAt w b o V) : w.rangeAt b o (encV V) := h.lies.range
theorem VerMine.there {w : World} {b o : Nat} {V : Ver} (h : VerMine w b o V) : w.there b o 20 := fun j hj => by
  have hl := enc_len h.key
  obtain ⟨u, hu⟩ : ∃ u, (encV V)[j]? = some u := ⟨_, List.getElem?_eq_getElem (by omega)⟩
  exact ⟨by rw [h.at_.lies.at j u hu]; rfl, h.free j hj⟩
theorem VerMine.store {w : World} {b o : Nat} {V V' : Ver} (h : VerMine w b o V) (hk : Ky V'.k) : VerMine (w.setCells b o (encV V')) b o V' := by
  have ht := h.there
  rw [← enc_len hk] at ht
  exact ⟨⟨lies_of (World.rangeAt_setCells_same w b o (encV V') ht)⟩, fun i hi => by rw [World.frozen?_setCells]; exact h.free i hi, hk⟩
def zeroV : Ver := ⟨zeroK, 0, 0, [], false⟩
theorem zeroV_ky : Ky zeroV.k := zeroK_ky
end Go.Proofs.YtpnjcflfnoamoaaGreat

namespace Go.Proofs.YtpnjcflfnoamoaaGreat
open Go.RowKit
set_option linter.unusedVariables false

/-- A key, a stamp, an empty version, each in a block of its own. -/
structure KeyStV (w u : World) (k : List Int) (t n : Int) (V : Ver) : Prop where
  key : KeyAt u w.heap.size 0 k
  s0 : u.cell? ⟨w.heap.size + 1, 0, none⟩ = some (.int .i64 t)
  s1 : u.cell? ⟨w.heap.size + 1, 1, none⟩ = some (.int .u8 n)
  ver : VerMine u (w.heap.size + 2) 0 V
  below : Below w.heap.size w u
theorem KeyStV.made (w : World) (k : List Int) (hk : Ky k) (t n : Int) (T T' T'' : TypeId) : KeyStV w (((w.alloc (.cells (kcs k) T)).alloc (.cells #[.int .i64 t, .int .u8 n] T')).alloc (.cells (encV zeroV).toArray T'')) k t n zeroV := by
  obtain ⟨u1, h1⟩ : ∃ u, u = w.alloc (.cells (kcs k) T) := ⟨_, rfl⟩
  have e1 : u1.heap.size = w.heap.size + 1 := by rw [h1]; simp
  have b1 : Below w.heap.size w u1 := by rw [h1]; exact (Below.refl _ _).alloc (Nat.le_refl _) _
  have k1 : KeyAt u1 w.heap.size 0 k := by rw [h1]; exact KeyAt.made w T k hk
  rw [← h1]
  obtain ⟨u2, h2⟩ : ∃ u, u = u1.alloc (.cells #[.int .i64 t, .int .u8 n] T') := ⟨_, rfl⟩
  have e2 : u2.heap.size = w.heap.size + 2 := by rw [h2]; simp; omega
  have b2 : Below u1.heap.size u1 u2 := by rw [h2]; exact (Below.refl _ _).alloc (Nat.le_refl _) _
  have c0 : u2.cell? ⟨w.heap.size + 1, 0, none⟩ = some (.int .i64 t) := by rw [h2, ← e1, World.cell?_alloc_new]; rfl
  have c1 : u2.cell? ⟨w.heap.size + 1, 1, none⟩ = some (.int .u8 n) := by rw [h2, ← e1, World.cell?_alloc_new]; rfl
  rw [← h2]
  have b3 : Below u2.heap.size u2 (u2.alloc (.cells (encV zeroV).toArray T'')) := (Below.refl _ _).alloc (Nat.le_refl _) _
  refine ⟨(k1.past b2).past b3, (b3.cell (p := ⟨w.heap.size + 1, 0, none⟩) (by rw [e2]; exact Nat.lt_succ_self _)).trans c0, (b3.cell (p := ⟨w.heap.size + 1, 1, none⟩) (by rw [e2]; exact Nat.lt_succ_self _)).trans c1, ?_, b1.trans ((b2.trans (b3.mono b2.size)).mono b1.size)⟩
  rw [← e2]
  exact VerMine.made u2 T'' zeroV zeroV_ky
theorem KeyStV.step {w u v : World} {k : List Int} {t n : Int} {V : Ver} (h : KeyStV w u k t n V) (hb : Below u.heap.size u v) : KeyStV w v k t n V :=
  ⟨h.key.past hb, (hb.cell (p := ⟨w.heap.size + 1, 0, none⟩) (cell_lt h.s0)).trans h.s0, (hb.cell (p := ⟨w.heap.size + 1, 1, none⟩) (cell_lt h.s1)).trans h.s1, h.ver.past hb, h.below.trans (hb.mono h.below.size)⟩
def orZero (o : Option Ver) : Ver := match o with | none => zeroV | some V => V
end Go.Proofs.YtpnjcflfnoamoaaGreat

