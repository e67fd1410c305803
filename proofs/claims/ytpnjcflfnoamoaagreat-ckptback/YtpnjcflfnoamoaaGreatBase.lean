/-
  Things that live on in memory: which blocks are theirs, what a call that works on one of them leaves of the others. No function of the program is named here.
  Maps from texts to pointers at whole blocks: what a look-up, a store, a delete and a range over one of them give. No function of the program is named here.
  Lists of bytes that lie somewhere, and lists of the call's own: what later layers' walks lean on. No function of the program is named here.
  Lists of lists of bytes, and arrays of integers, that came in: what the walk is told of them. No function of the program is named here.
  Keys in memory: a key's block, a key as a value.
  Keys that a call makes and writes: the laws of its block.
  'l = append(l, x)' for a list of the call's own whose elements take so many cells each; a list of texts; a list of pairs of integers.
  Lists whose elements have several cells each: lists that the call made itself, lists that lie somewhere, one put behind the other.
  Keys' cells; cells laid one by one.
-/
import Derived.Test.YtpnjcflfnoamoaaGreatProg
import Derived.Below
import Derived.WalkKit
import Derived.Maps.RangeWalk
import Derived.WalkSpells
import Derived.WalkLawsBesides
import Derived.Laws.CopyOwn
import Derived.Laws.MakeOwn
import Derived.Laws.BytesArg
import Derived.OpenShut
import Derived.Laws.AppendOwnNone
import Derived.ProofKit
import Derived.Deep.Matrix
import Derived.ChangeKeysEq
import Derived.Test.YtpnjcflfnoamoaaGreatAu27
import Derived.Deep.MidRow
import Derived.Deep.RegionHeld3
import Derived.Laws.AppendOwn
import Derived.Deep.RegionLaw
namespace Go.Proofs.YtpnjcflfnoamoaaGreat
open Go.RowKit
set_option linter.unusedVariables false

/-- Some blocks. -/
abbrev Foot := Nat → Prop
/-- A world that has come of another: of what was there, the blocks of X alone may have turned. -/
structure Chg (u u' : World) (X : Foot) : Prop where
  os : u'.os = u.os
  tape : u'.tape = u.tape
  output : u'.output = u.output
  size : u.heap.size ≤ u'.heap.size
  block : ∀ k, k < u.heap.size → ¬ X k → u'.heap[k]? = u.heap[k]?
theorem Chg.refl (u : World) (X : Foot) : Chg u u X := ⟨rfl, rfl, rfl, Nat.le_refl _, fun _ _ _ => rfl⟩
theorem Chg.mono {u u' : World} {X Y : Foot} (h : Chg u u' X) (hXY : ∀ k, k < u.heap.size → X k → Y k) : Chg u u' Y := ⟨h.os, h.tape, h.output, h.size, fun k hk hn => h.block k hk (fun hx => hn (hXY k hk hx))⟩
theorem Chg.trans {u u' u'' : World} {X Y : Foot} (h : Chg u u' X) (k : Chg u' u'' Y) (hY : ∀ j, j < u.heap.size → Y j → X j) : Chg u u'' X :=
  ⟨k.os.trans h.os, k.tape.trans h.tape, k.output.trans h.output, Nat.le_trans h.size k.size, fun j hj hn => (k.block j (Nat.lt_of_lt_of_le hj h.size) (fun hy => hn (hY j hj hy))).trans (h.block j hj hn)⟩
theorem Chg.of_below {u u' : World} (h : Below u.heap.size u u') (X : Foot) : Chg u u' X := ⟨h.os, h.tape, h.output, h.size, fun k hk _ => h.block k hk⟩
theorem Chg.of_grown {u u' : World} {row : Option Nat} (h : u.grownBy u' row) {X : Foot} (hX : ∀ k, row = some k → X k) : Chg u u' X :=
  ⟨h.os, h.tape, h.output, h.size, fun k hk hn => h.block k hk (fun e => hn (hX k e.symm))⟩
theorem Chg.below {u u' : World} {X : Foot} (h : Chg u u' X) {B : Nat} (hB : B ≤ u.heap.size) (hX : ∀ k, X k → B ≤ k) : Below B u u' :=
  ⟨h.os, h.tape, h.output, h.size, fun k hk => h.block k (by omega) (fun hx => by have := hX k hx; omega)⟩
theorem Chg.set (u : World) (a : Addr) (v : Value) {X : Foot} (h : X a.block) : Chg u (u.setCell a v) X :=
  ⟨rfl, rfl, rfl, by rw [World.size_setCell]; exact Nat.le_refl _, fun k hk hn => Below.heap_setCell _ a _ k (fun e => hn (by rw [e]; exact h))⟩
theorem Chg.drew {u u' : World} {X : Foot} (h : Chg u u' X) : Chg u u'.drew X := ⟨h.os, h.tape, h.output, h.size, h.block⟩
theorem Chg.alloc {u u' : World} {X : Foot} (h : Chg u u' X) (o : Obj) : Chg u (u'.alloc o) X :=
  h.trans (Chg.of_below ((Below.refl _ _).alloc (Nat.le_refl _) o) X) (fun _ _ x => x)
/-- What a call that works on X leaves: nothing else of what was there has turned; what is X now was X, or is new. -/
structure Did (u u' : World) (X X' : Foot) : Prop where
  chg : Chg u u' X
  new : ∀ k, X' k → (X k ∨ u.heap.size ≤ k) ∧ k < u'.heap.size
theorem Did.trans {u u' u'' : World} {X X' X'' : Foot} (h : Did u u' X X') (k : Did u' u'' X' X'') : Did u u'' X X'' :=
  ⟨h.chg.trans k.chg (fun j hj hx => by rcases (h.new j hx).1 with h1 | h1; exact h1; omega), fun j hj => by
    refine ⟨?_, (k.new j hj).2⟩
    rcases (k.new j hj).1 with h1 | h1
    · exact (h.new j h1).1
    · exact .inr (Nat.le_trans h.chg.size h1)⟩
theorem Did.stay {u u' : World} {X : Foot} (h : Below u.heap.size u u') (hX : ∀ k, X k → k < u.heap.size) : Did u u' X X := ⟨Chg.of_below h X, fun k hk => ⟨.inl hk, Nat.lt_of_lt_of_le (hX k hk) h.size⟩⟩
theorem Did.same {u u' : World} {X : Foot} (h : Chg u u' X) (hX : ∀ k, X k → k < u.heap.size) : Did u u' X X := ⟨h, fun k hk => ⟨.inl hk, Nat.lt_of_lt_of_le (hX k hk) h.size⟩⟩
/-- No blocks. -/
def noFoot : Foot := fun _ => False
/-- The things of a call, each with blocks of its own, all made since w. -/
structure Apart (w u : World) (Xs : Nat → Foot) : Prop where
  below : Below w.heap.size w u
  lo : ∀ i k, Xs i k → w.heap.size ≤ k ∧ k < u.heap.size
  dis : ∀ i j k, Xs i k → Xs j k → i = j
/-- One of them has other blocks now. -/
def upd (Xs : Nat → Foot) (i : Nat) (X : Foot) : Nat → Foot := fun j => if j = i then X else Xs j
theorem Apart.start (w : World) : Apart w w (fun _ => noFoot) := ⟨Below.refl _ _, fun i k h => h.elim, fun i j k h => h.elim⟩
theorem Apart.past {w u u' : World} {Xs : Nat → Foot} (h : Apart w u Xs) (hb : Below u.heap.size u u') : Apart w u' Xs :=
  ⟨h.below.trans (hb.mono h.below.size), fun i k hk => ⟨(h.lo i k hk).1, Nat.lt_of_lt_of_le (h.lo i k hk).2 hb.size⟩, h.dis⟩
theorem Apart.step {w u u' : World} {Xs : Nat → Foot} {X' : Foot} (h : Apart w u Xs) (i : Nat) (d : Did u u' (Xs i) X') : Apart w u' (upd Xs i X') := by
  have hnew : ∀ k, X' k → w.heap.size ≤ k ∧ k < u'.heap.size := fun k hk => by
    refine ⟨?_, (d.new k hk).2⟩
    rcases (d.new k hk).1 with h1 | h1
    · exact (h.lo i k h1).1
    · exact Nat.le_trans h.below.size h1
  have hfar : ∀ j k, j ≠ i → Xs j k → ¬ X' k := fun j k hj hk hx => by
    rcases (d.new k hx).1 with h1 | h1
    · exact hj (h.dis j i k hk h1)
    · have := (h.lo j k hk).2; omega
  refine ⟨h.below.trans (d.chg.below h.below.size (fun k hk => (h.lo i k hk).1)), fun j k hk => ?_, fun a b k ha hb => ?_⟩
  · unfold upd at hk
    split at hk
    · exact hnew k hk
    · exact ⟨(h.lo j k hk).1, Nat.lt_of_lt_of_le (h.lo j k hk).2 d.chg.size⟩
  · unfold upd at ha hb
    split at ha
    · rename_i e1
      split at hb
      · rename_i e2; rw [e1, e2]
      · rename_i e2; exact absurd ha (hfar b k e2 hb)
    · rename_i e1
      split at hb
      · rename_i e2; exact absurd hb (hfar a k e1 ha)
      · exact h.dis a b k ha hb
theorem Apart.kept {w u u' : World} {Xs : Nat → Foot} {i : Nat} (h : Apart w u Xs) (d : Chg u u' (Xs i)) {j : Nat} (hj : j ≠ i) : ∀ k, Xs j k → u'.heap[k]? = u.heap[k]? :=
  fun k hk => d.block k (h.lo j k hk).2 (fun hx => hj (h.dis j i k hk hx))
theorem Apart.still {w u u' : World} {Xs : Nat → Foot} (h : Apart w u Xs) (hb : Below u.heap.size u u') (j : Nat) : ∀ k, Xs j k → u'.heap[k]? = u.heap[k]? := fun k hk => hb.block k (h.lo j k hk).2
/-- One more thing, all new. -/
theorem Apart.add {w u u' : World} {Xs : Nat → Foot} {X' : Foot} (h : Apart w u Xs) (i : Nat) (hb : Below u.heap.size u u') (hX : ∀ k, X' k → u.heap.size ≤ k ∧ k < u'.heap.size) : Apart w u' (upd Xs i X') :=
  h.step i ⟨Chg.of_below hb _, fun k hk => ⟨.inr (hX k hk).1, (hX k hk).2⟩⟩
theorem cell_kept {u u' : World} {b : Nat} (h : u'.heap[b]? = u.heap[b]?) (o : Nat) : u'.cell? ⟨b, o, none⟩ = u.cell? ⟨b, o, none⟩ := World.cell?_of_block (a := ⟨b, o, none⟩) h
theorem frozen_kept {u u' : World} {b : Nat} (h : u'.heap[b]? = u.heap[b]?) (o : Nat) : u'.frozen? ⟨b, o, none⟩ = u.frozen? ⟨b, o, none⟩ := World.frozen?_of_block (a := ⟨b, o, none⟩) h
theorem cell_lt {u : World} {b o : Nat} {v : Value} (h : u.cell? ⟨b, o, none⟩ = some v) : b < u.heap.size := by
  rcases Nat.lt_or_ge b u.heap.size with h' | h'
  · exact h'
  · simp [World.cell?, Array.getElem?_eq_none h'] at h
end Go.Proofs.YtpnjcflfnoamoaaGreat

namespace Go.Proofs.YtpnjcflfnoamoaaGreat
open Go.RowKit
open Go.Maps (Keyed)
set_option linter.unusedVariables false

/-- How a pointer at a whole block reads: as the block's number. -/
def ptrE (v : Value) : Option (DataW Unit × List MemPlace) :=
  match v with
  | .pointer none => some (.nil, [])
  | .pointer (some ⟨g, 0, none⟩) => some (.lit (.int .i64 (g : Int)), [])
  | _ => none
def ptrV : Option Nat → Value
  | none => .pointer none
  | some g => .pointer (some ⟨g, 0, none⟩)
def ptrD (z : DataW Unit) : Option Nat → DataW Unit
  | none => z
  | some g => .lit (.int .i64 (g : Int))
theorem ptrE_inv {v : Value} {z : DataW Unit × List MemPlace} (h : ptrE v = some z) : ∃ o, v = ptrV o ∧ z = (ptrD .nil o, []) := by
  unfold ptrE at h
  split at h
  · injection h with h; exact ⟨none, rfl, h.symm⟩
  · rename_i g; injection h with h; exact ⟨some g, rfl, h.symm⟩
  · cases h
theorem ptrD_inj {o o' : Option Nat} (h : ptrD .nil o = ptrD .nil o') : o = o' := by
  cases o <;> cases o' <;> simp [ptrD] at h
  · rfl
  · rename_i a b; have : a = b := by omega
    rw [this]
/-- A text as a key. -/
def kyL (x : ByteArray) : Lit := .string x.data.toList
theorem kyL_inj {x y : ByteArray} (h : kyL x = kyL y) : x = y := by
  unfold kyL at h
  injection h with h
  exact ByteArray.ext (Array.toList_inj.1 h)
theorem kyL_key (x : ByteArray) : WideAt.IsKeyLit (kyL x) := trivial
theorem kyLaw : Keyed Tryz.prog 9 := Maps.string_keyed Tryz.underlying9
theorem key_mk (x : ByteArray) (h : x.size ≤ 1000000) : keyOf Tryz.prog 9 (.string x) = some (kyL x) := WideMaps.keyOf_string_mk Tryz.underlying9 (by unfold maxLen; omega)
/-- Block m holds a map of c entries: at text x a pointer at the block G x. -/
def PMap (u : World) (m c : Nat) (G : ByteArray → Option Nat) : Prop :=
  ∃ D : DataW Unit, u.ownsMap Tryz.prog 9 ptrE m c D ∧ Maps.size D = c ∧ ∀ x z, D.atKey (kyL x) z = ptrD z (G x)
theorem has_at {D : DataW Unit} {x : ByteArray} {o : Option Nat} (h : ∀ z, D.atKey (kyL x) z = ptrD z o) : Maps.has D (kyL x) = o.isSome := by
  cases o with
  | none => exact Maps.has_false_of_atKey h
  | some g => exact Maps.has_true_of_atKey h
theorem PMap.lt {u : World} {m c : Nat} {G : ByteArray → Option Nat} (h : PMap u m c G) : m < u.heap.size := by obtain ⟨D, h1, _⟩ := h; exact h1.lt
theorem PMap.kept {u u' : World} {m c : Nat} {G : ByteArray → Option Nat} (h : PMap u m c G) (hb : u'.heap[m]? = u.heap[m]?) : PMap u' m c G := by
  obtain ⟨D, ⟨es, clock, h1, h2⟩, h3⟩ := h
  exact ⟨D, ⟨es, clock, hb.trans h1, h2⟩, h3⟩
theorem PMap.made (u : World) : PMap (u.alloc (.map #[] 0)) u.heap.size 0 (fun _ => none) :=
  ⟨.map [], World.ownsMap_made _ _ _ _, rfl, fun _ _ => rfl⟩
/-- As many as there are. -/
theorem owns_size {u : World} {m n : Nat} {D : DataW Unit} (h : u.ownsMap Tryz.prog 9 ptrE m n D) : u.ownsMap Tryz.prog 9 ptrE m (Maps.size D) D := by
  obtain ⟨es, clock, h1, h2, h3, rfl⟩ := h
  exact ⟨es, clock, h1, h2, by simp [Maps.size, length_sorted], rfl⟩
theorem PMap.of {u : World} {m n : Nat} {D : DataW Unit} {G : ByteArray → Option Nat} (h : u.ownsMap Tryz.prog 9 ptrE m n D) (ha : ∀ x z, D.atKey (kyL x) z = ptrD z (G x)) : PMap u m (Maps.size D) G := ⟨D, owns_size h, rfl, ha⟩

/-- 'm[k]'. -/
theorem PMap.look {u : World} {m c : Nat} {G : ByteArray → Option Nat} (h : PMap u m c G) {t e : TypeId} (ht : Tryz.prog.underlying t = some (.map 9 e)) (hz : (zeroValue e).run Tryz.prog u = .ok (.pointer none) u) (k : ByteArray) (hk : k.size ≤ 1000000) :
    (Instr.lookup t (.map (some m)) (.string k) false).run Tryz.prog u = .ok (ptrV (G k)) u := by
  obtain ⟨D, h1, _, h3⟩ := h
  obtain ⟨v, ps, hrun, hv⟩ := h1.lookup kyLaw ht hz (zd := .nil) (zp := []) rfl (key_mk k hk)
  obtain ⟨o, rfl, hq⟩ := ptrE_inv hv
  have hz2 := congrArg Prod.fst hq
  have e1 := ptrD_inj ((h3 k .nil).symm.trans hz2)
  subst e1
  exact hrun
/-- What a store lays at a key. -/
def putG (G : ByteArray → Option Nat) (k : ByteArray) (o : Option Nat) : ByteArray → Option Nat := fun x => if x = k then o else G x
theorem putG_same (G : ByteArray → Option Nat) (k : ByteArray) (o : Option Nat) : putG G k o k = o := if_pos rfl
theorem putG_other {G : ByteArray → Option Nat} {k x : ByteArray} {o : Option Nat} (h : x ≠ k) : putG G k o x = G x := if_neg h
theorem turned_chg {u u' : World} {m : Nat} (h : u.mapTurned u' m) {X : Foot} (hX : X m) : Chg u u' X := Chg.of_grown h.grown (fun k e => by injection e with e; subst e; exact hX)
/-- 'm[k] = v'. -/
theorem PMap.store {u : World} {m c : Nat} {G : ByteArray → Option Nat} (h : PMap u m c G) (hc : c ≤ 1000000) {t e : TypeId} (ht : Tryz.prog.underlying t = some (.map 9 e)) (k : ByteArray) (hk : k.size ≤ 1000000) (g : Nat) :
    ∃ u', (Instr.mapUpdate t (.map (some m)) (.string k) (.pointer (some ⟨g, 0, none⟩))).run Tryz.prog u = .ok () u' ∧ PMap u' m (if (G k).isSome then c else c + 1) (putG G k (some g)) ∧ u.mapTurned u' m := by
  obtain ⟨D, h1, h2, h3⟩ := h
  obtain ⟨u', hrun, h4, h5⟩ := h1.store kyLaw ht (by unfold maxLen; omega) (key_mk k hk) (val := .pointer (some ⟨g, 0, none⟩)) (d := .lit (.int .i64 (g : Int))) (ps := []) rfl
  refine ⟨u', hrun, ?_, h5⟩
  have hs : Maps.size (D.put (kyL k) (.lit (.int .i64 (g : Int)))) = if (G k).isSome then c else c + 1 := by rw [Maps.size_put (h1.tidy kyLaw), has_at (h3 k), h2]
  rw [← hs]
  refine PMap.of h4 (fun x z => ?_)
  by_cases e : x = k
  · subst e; rw [Maps.atKey_put_same h1.isMap (kyL_key x), putG_same]; rfl
  · rw [Maps.atKey_put_other (fun e' => e (kyL_inj e')), putG_other e]; exact h3 x z
/-- 'delete(m, k)'. -/
theorem PMap.drop {u : World} {m c : Nat} {G : ByteArray → Option Nat} (h : PMap u m c G) {t e : TypeId} (ht : Tryz.prog.underlying t = some (.map 9 e)) (k : ByteArray) (hk : k.size ≤ 1000000) (ty : TypeId) :
    ∃ u', (Builtin.delete_ #[t, 9] ty #[.map (some m), .string k]).run Tryz.prog u = .ok (.tuple #[]) u' ∧ PMap u' m (if (G k).isSome then c - 1 else c) (putG G k none) ∧ u.mapTurned u' m := by
  obtain ⟨D, h1, h2, h3⟩ := h
  obtain ⟨u', hrun, h4, h5⟩ := h1.drop kyLaw ht (key_mk k hk) ty
  refine ⟨u', hrun, ?_, h5⟩
  have hs : Maps.size (D.del (kyL k)) = if (G k).isSome then c - 1 else c := by
    have := Maps.size_del (k := kyL k) (h1.tidy kyLaw)
    rw [has_at (h3 k), h2] at this
    split at this <;> rename_i hh <;> simp [hh] <;> omega
  rw [← hs]
  refine PMap.of h4 (fun x z => ?_)
  by_cases e : x = k
  · subst e; rw [Maps.atKey_del_same, putG_same]; rfl
  · rw [Maps.atKey_del_other (fun e' => e (kyL_inj e')), putG_other e]; exact h3 x z
/-- A range over such a map under way: r the iterator's block, left x: is the entry at x still to come? -/
def PRange (u : World) (m r c : Nat) (G : ByteArray → Option Nat) (left : ByteArray → Bool) (cnt : Nat) : Prop :=
  ∃ (D : DataW Unit) (L : Lit → Bool), u.ranges Tryz.prog 9 ptrE m r c D L cnt ∧ Maps.size D = c ∧ (∀ x z, D.atKey (kyL x) z = ptrD z (G x)) ∧ ∀ x, left x = L (kyL x)
theorem PRange.map {u : World} {m r c cnt : Nat} {G : ByteArray → Option Nat} {left : ByteArray → Bool} (h : PRange u m r c G left cnt) : PMap u m c G := by
  obtain ⟨D, L, h1, h2, h3, _⟩ := h
  exact ⟨D, h1.owns, h2, h3⟩
theorem PRange.lt {u : World} {m r c cnt : Nat} {G : ByteArray → Option Nat} {left : ByteArray → Bool} (h : PRange u m r c G left cnt) : r < u.heap.size := by obtain ⟨D, L, h1, _⟩ := h; exact h1.lt
theorem PRange.left_eq {u : World} {m r c cnt : Nat} {G : ByteArray → Option Nat} {left : ByteArray → Bool} (h : PRange u m r c G left cnt) : u.rangeLeft m r = cnt := by obtain ⟨D, L, h1, _⟩ := h; exact h1.left_eq
theorem PRange.kept {u u' : World} {m r c cnt : Nat} {G : ByteArray → Option Nat} {left : ByteArray → Bool} (h : PRange u m r c G left cnt) (hm : u'.heap[m]? = u.heap[m]?) (hr : u'.heap[r]? = u.heap[r]?) : PRange u' m r c G left cnt := by
  obtain ⟨D, L, ⟨es, clock, since, seen, c0, hb, F, hs, hD, hr', rest⟩, h2⟩ := h
  exact ⟨D, L, ⟨es, clock, since, seen, c0, hm.trans hb, F, hs, hD, hr.trans hr', rest⟩, h2⟩
end Go.Proofs.YtpnjcflfnoamoaaGreat

namespace Go.Proofs.YtpnjcflfnoamoaaGreat
open Go.RowKit
set_option linter.unusedVariables false

theorem ret_int {k : IntKind} {a b : Int} (h : a = b) : Ending.returned (.int k a) = .returned (.int k b) := by rw [h]
/-- A slice of bytes that lies somewhere: its bytes, and where they are. -/
structure Row (w : World) (a : Option Addr) (zs : List Int) : Prop where
  bytes : ∀ z ∈ zs, 0 ≤ z ∧ z ≤ 255
  cells : zs = [] ∨ ∃ b off, a = some ⟨b, off, none⟩ ∧ ∀ j, j < zs.length → w.cell? ⟨b, off + j, none⟩ = some (.int .u8 (zs.getD j 0))

theorem drop_at (zs : List Int) (k : Nat) (h : k < zs.length) : zs.drop k = zs[k]?.getD 0 :: zs.drop (k + 1) := by
  rw [List.drop_eq_getElem_cons h]; simp [h]
theorem at_byte {zs : List Int} (h : ∀ z ∈ zs, 0 ≤ z ∧ z ≤ 255) (k : Nat) : 0 ≤ zs[k]?.getD 0 ∧ zs[k]?.getD 0 ≤ 255 := by
  by_cases hk : k < zs.length
  · have := h zs[k] (List.getElem_mem hk); simpa [hk] using this
  · have : zs[k]? = none := by simp; omega
    simp [this]
theorem info5 : (Tryz.prog.info? 5).map (fun i => (i.zero, i.size, i.bytes)) = some (some (.int .u8 0), 1, 1) := by kernel_rfl
theorem info5s : (Tryz.prog.info? 5).map (·.size) = some 1 := by kernel_rfl

/-- The cells of a list of bytes. -/
def bs (zs : List Int) : List Value := zs.map (Value.int .u8)
theorem bs_len (zs : List Int) : (bs zs).length = zs.length := by simp [bs]
theorem bs_app (xs ys : List Int) : bs (xs ++ ys) = bs xs ++ bs ys := by simp [bs]
theorem bs_one (zs : List Int) : ∀ u ∈ bs zs, u.oneCell' = true := ints_oneCell _ _
theorem bs_at (zs : List Int) (j : Nat) (v : Value) (h : (bs zs)[j]? = some v) : j < zs.length ∧ v = .int .u8 (zs.getD j 0) := by
  unfold bs at h
  rw [List.getElem?_map] at h
  by_cases hj : j < zs.length
  · simp [hj] at h
    exact ⟨hj, by simp [hj, h]⟩
  · have : zs[j]? = none := by simp; omega
    simp [this] at h

theorem lt_of_cell {w : World} {x : Addr} {v : Value} (h : w.cell? x = some v) : x.block < w.heap.size := by
  apply Classical.byContradiction
  intro hn
  have : w.heap[x.block]? = none := by simp; omega
  simp [World.cell?, this] at h
/-- What the copy into the new row leaves. -/
theorem copy_row (w : World) (a : Option Addr) (cap : Nat) (zs : List Int) (Z : Array Value) (len n : Nat) (hrow : Row w a zs) (hzl : zs.length = len) (hZ : Z.size = len + n) (hm : len + n ≤ maxLen) :
    ∃ w1, (Builtin.copy_ #[23, 23] 3 #[.slice (some ⟨w.heap.size, 0, none⟩) len (len + n), .slice a len cap]).run Tryz.prog (w.alloc (.cells Z 5)) = .ok (.int .i64 len) w1 ∧
      w1.ownsRow w.heap.size 5 1 (.slice (some ⟨w.heap.size, 0, none⟩) len (len + n)) len (bs zs) ∧ Below w.heap.size w w1 ∧ w.heap.size < w1.heap.size := by
  have hg : (w.alloc (.cells Z 5)).heap[w.heap.size]? = some (.cells Z 5 (0, 0)) := by
    show (w.heap.push _)[w.heap.size]? = _
    simp
  have hb : Below w.heap.size w (w.alloc (.cells Z 5)) := (Below.refl _ _).alloc (Nat.le_refl _) _
  rcases hrow.2 with rfl | ⟨b, off, rfl, hc⟩
  · simp at hzl
    subst hzl
    refine ⟨_, run_copy_none (P := Tryz.prog) _ 23 23 3 5 _ _ _ _ _ _ Tryz.underlying23 info5s rfl, ?_, hb, by simp⟩
    exact ⟨by simp [bs], .inr ⟨_, _, Z, rfl, Nat.le_refl _, hg, by omega, hm, by omega, by simp [bs]⟩⟩
  · have hsrc : ∀ j v, (bs zs)[j]? = some v → (w.alloc (.cells Z 5)).cell? ((⟨b, off, none⟩ : Addr).add j) = some v := by
      intro j v hj
      obtain ⟨hj1, rfl⟩ := bs_at zs j v hj
      have := hc j hj1
      have ea : (⟨b, off, none⟩ : Addr).add j = ⟨b, off + j, none⟩ := by simp [Addr.add]
      rw [ea, World.cell?_alloc_lt _ _ _ (lt_of_cell this)]
      exact this
    have hr := run_copy_row (P := Tryz.prog) (w.alloc (.cells Z 5)) 23 23 3 5 w.heap.size 0 len (len + n) ⟨b, off, none⟩ len cap Z 5 (bs zs) Tryz.underlying23 info5s hg
      (by rw [bs_len, hzl]; exact (Nat.min_self len).symm) hsrc (by rw [bs_len]; omega) (bs_one zs)
    rw [bs_len, hzl] at hr
    refine ⟨_, hr, ?_, below_setRow hb (Nat.le_refl _) _, by simp [World.setRow]⟩
    refine ⟨by rw [bs_len]; omega, .inr ⟨_, _, _, rfl, Nat.le_refl _, setRow_heap _ _ _ _ _ _ hg, by omega, hm, ?_, ?_⟩⟩
    · simp [bs_len]; omega
    · simp [bs_len, hzl]

theorem add_plain (b off j : Nat) : (⟨b, off, none⟩ : Addr).add j = ⟨b, off + j, none⟩ := by unfold Addr.add; split <;> simp_all
theorem row_of_own {w : World} {base g n cap : Nat} {zs : List Int} (h : w.ownsRow base 5 1 (.slice (some ⟨g, 0, none⟩) n cap) n (bs zs)) (hb : ∀ z ∈ zs, 0 ≤ z ∧ z ≤ 255) : Row w (some ⟨g, 0, none⟩) zs := by
  refine ⟨hb, .inr ⟨g, 0, rfl, fun j hj => ?_⟩⟩
  have := h.cells (g := g) rfl j (.int .u8 (zs.getD j 0)) (by simp [bs, hj])
  rw [add_plain] at this
  exact this
theorem Row.below {w w' : World} {a : Option Addr} {zs : List Int} (h : Row w a zs) {B : Nat} (hb : Below B w w') (hB : w.heap.size ≤ B) : Row w' a zs := by
  refine ⟨h.1, ?_⟩
  rcases h.2 with rfl | ⟨b, off, rfl, hc⟩
  · exact .inl rfl
  · exact .inr ⟨b, off, rfl, fun j hj => by rw [hb.cell (Nat.lt_of_lt_of_le (lt_of_cell (hc j hj)) hB)]; exact hc j hj⟩
theorem Row.nil (w : World) (a : Option Addr) : Row w a [] := ⟨by simp, .inl rfl⟩
theorem str_of_row {w : World} {a : Option Addr} {zs : List Int} (h : Row w a zs) (cap : Nat) :
    (convert 23 9 (.slice a zs.length cap)).run Tryz.prog w = .ok (.string (strOfNums zs)) w := by
  rcases h.2 with rfl | ⟨b, off, rfl, hc⟩
  · cases a with
    | none => exact run_convert_bytes_nil w 23 5 Tryz.underlying23 Tryz.underlying5 0 cap 9 Tryz.underlying9
    | some ad =>
      have hl : (loadCells ad 0).run Tryz.prog w = .ok (([] : List Int).map (Value.int .u8)).toArray w := by simpa using run_loadCells_list (P := Tryz.prog) w ad [] (by simp)
      show (convert 23 9 (.slice (some ad) 0 cap)).run Tryz.prog w = _
      rw [run_convert_bytes_string w 23 9 5 _ 0 cap Tryz.underlying23 Tryz.underlying5 Tryz.underlying9, run_bytesToString w ad 0 cap [] hl]
      rfl
  · exact run_convert_bytes_arg w 23 5 Tryz.underlying23 Tryz.underlying5 b off zs.length cap zs rfl (fun i hi => hc i hi) 9 Tryz.underlying9

theorem own_shape {w : World} {base n : Nat} {v : Value} {zs : List Int} (h : w.ownsRow base 5 1 v n (bs zs)) (hb : ∀ z ∈ zs, 0 ≤ z ∧ z ≤ 255) : ∃ a cap, v = .slice a n cap ∧ Row w a zs ∧ zs.length = n := by
  have hl : zs.length = n := by have := h.1; rw [bs_len] at this; omega
  rcases h.2 with ⟨rfl, h0⟩ | ⟨g, cap, cur, rfl, _, _, _, _, _, _⟩
  · refine ⟨none, 0, by rw [h0], ?_, hl⟩
    have : zs = [] := List.eq_nil_of_length_eq_zero (by omega)
    subst this; exact Row.nil _ _
  · exact ⟨_, cap, rfl, row_of_own h hb, hl⟩

end Go.Proofs.YtpnjcflfnoamoaaGreat

namespace Go.Proofs.YtpnjcflfnoamoaaGreat
open Go.RowKit Go.ChangeShapes Go.WideShapes Go.ChangeAt Go.Deep
set_option linter.unusedVariables false

/-- A list of lists of bytes that lies somewhere: each one's bytes, and where they are. -/
structure RowsOf (w : World) (a : Option Addr) (cap : Nat) (ls : List (List Int)) : Prop where
  nil : a = none → ls = [] ∧ cap = 0
  le : ls.length ≤ cap
  cells : ls = [] ∨ ∃ b off, a = some ⟨b, off, none⟩ ∧ ∀ r, r < ls.length → ∃ (x : Option Addr) (c : Nat), w.cell? ⟨b, off + r, none⟩ = some (.slice x (ls.getD r []).length c) ∧ Row w x (ls.getD r []) ∧ (x = none → c = 0) ∧ (ls.getD r []).length ≤ c
theorem RowsOf.below {w w' : World} {a : Option Addr} {cap : Nat} {ls : List (List Int)} (h : RowsOf w a cap ls) {B : Nat} (hb : Below B w w') (hB : w.heap.size ≤ B) : RowsOf w' a cap ls := by
  refine ⟨h.nil, h.le, ?_⟩
  rcases h.cells with h0 | ⟨b, off, rfl, hc⟩
  · exact .inl h0
  · refine .inr ⟨b, off, rfl, fun r hr => ?_⟩
    obtain ⟨x, c, h1, h2, h3, h4⟩ := hc r hr
    exact ⟨x, c, by rw [hb.cell (Nat.lt_of_lt_of_le (lt_of_cell h1) hB)]; exact h1, h2.below hb hB, h3, h4⟩
theorem RowsOf.take {w : World} {a : Option Addr} {cap : Nat} {ls : List (List Int)} (h : RowsOf w a cap ls) (m : Nat) : RowsOf w a cap (ls.take m) := by
  refine ⟨fun ha => ⟨by rw [(h.nil ha).1]; simp, (h.nil ha).2⟩, Nat.le_trans (List.length_take_le' _ _) h.le, ?_⟩
  rcases h.cells with h0 | ⟨b, off, rfl, hc⟩
  · left; rw [h0]; simp
  · refine .inr ⟨b, off, rfl, fun r hr => ?_⟩
    simp at hr
    have e : (ls.take m).getD r [] = ls.getD r [] := by
      have hrm : r < m := by omega
      simp [List.getD, hrm]
    rw [e]
    exact hc r (by omega)
/-- The list at place r. -/
theorem RowsOf.at {w : World} {a : Option Addr} {cap : Nat} {ls : List (List Int)} (h : RowsOf w a cap ls) {r : Nat} (hr : r < ls.length) :
    ∃ b off x c, a = some ⟨b, off, none⟩ ∧ w.cell? ⟨b, off + r, none⟩ = some (.slice x (ls.getD r []).length c) ∧ Row w x (ls.getD r []) ∧ (x = none → (ls.getD r []).length = 0 ∧ c = 0) := by
  rcases h.cells with h0 | ⟨b, off, rfl, hc⟩
  · rw [h0] at hr; simp at hr
  · obtain ⟨x, c, h1, h2, h3, h4⟩ := hc r hr
    exact ⟨b, off, x, c, rfl, h1, h2, fun hx => ⟨by have := h3 hx; omega, h3 hx⟩⟩

theorem strs_inj {xs ys : List Int} (hx : ∀ z ∈ xs, 0 ≤ z ∧ z ≤ 255) (hy : ∀ z ∈ ys, 0 ≤ z ∧ z ≤ 255) (h : (strOfNums xs).toList = (strOfNums ys).toList) : xs = ys := by
  have e : ∀ zs : List Int, (strOfNums zs).toList = zs.map fun n => UInt8.ofNat n.toNat := fun zs => by rw [ByteArray.toList_eq]; exact strOfNums_data zs
  rw [e, e] at h
  have back : ∀ zs : List Int, (∀ z ∈ zs, 0 ≤ z ∧ z ≤ 255) → (zs.map fun n => UInt8.ofNat n.toNat).map (fun b => (b.toNat : Int)) = zs := by
    intro zs hz
    rw [List.map_map]
    conv => rhs; rw [← List.map_id zs]
    apply List.map_congr_left
    intro z hm
    have := hz z hm
    have hn : z.toNat < 256 := by omega
    simp [Nat.mod_eq_of_lt hn]
    omega
  have := congrArg (List.map fun b : UInt8 => (b.toNat : Int)) h
  rwa [back xs hx, back ys hy] at this
theorem str_eq {xs ys : List Int} (hx : ∀ z ∈ xs, 0 ≤ z ∧ z ≤ 255) (hy : ∀ z ∈ ys, 0 ≤ z ∧ z ≤ 255) : ((strOfNums xs).toList == (strOfNums ys).toList) = decide (xs = ys) := by
  by_cases h : xs = ys
  · subst h; simp
  · have : ¬ (strOfNums xs).toList = (strOfNums ys).toList := fun e => h (strs_inj hx hy e)
    simp [h, this]
theorem str_at {w : World} {a : Option Addr} {zs : List Int} {n : Nat} (hn : zs.length = n) (h : Row w a zs) (cap : Nat) :
    (convert 23 9 (.slice a n cap)).run Tryz.prog w = .ok (.string (strOfNums zs)) w := by subst hn; exact str_of_row h cap
theorem same_heap {w w' : World} (h : w'.heap = w.heap) (a : Addr) : w'.cell? a = w.cell? a := by unfold World.cell?; rw [h]
theorem Row.same {w w' : World} {a : Option Addr} {zs : List Int} (h : Row w a zs) (he : w'.heap = w.heap) : Row w' a zs := by
  refine ⟨h.1, h.2.imp id ?_⟩
  rintro ⟨b, off, h1, h2⟩
  exact ⟨b, off, h1, fun j hj => by rw [same_heap he]; exact h2 j hj⟩
theorem RowsOf.same {w w' : World} {a : Option Addr} {cap : Nat} {ls : List (List Int)} (h : RowsOf w a cap ls) (he : w'.heap = w.heap) : RowsOf w' a cap ls := by
  refine ⟨h.nil, h.le, h.cells.imp id ?_⟩
  rintro ⟨b, off, h1, h2⟩
  refine ⟨b, off, h1, fun r hr => ?_⟩
  obtain ⟨x, c, h3, h4, h5, h6⟩ := h2 r hr
  exact ⟨x, c, by rw [same_heap he]; exact h3, h4.same he, h5, h6⟩
section
variable {H : Type} {enc : TypeId × Value → H} {w : World} {base : Nat} {held : Bool}
/-- An array of integers that came in. -/
def IsArr (k : IntKind) (n : Nat) (zs : List Int) : Prop := zs.length = n ∧ ∀ z ∈ zs, (Lit.int k z).wf = true
theorem mapM_each {α β : Type} {f : α → Option β} : ∀ {l : List α} {ys : List β}, l.mapM f = some ys → ∀ i ∈ l, ∃ y, f i = some y
  | [], _, _, i, hi => by simp at hi
  | a :: l, ys, h, i, hi => by
    rw [List.mapM_cons] at h
    simp only [bind, Option.bind_eq_some_iff, pure, Option.some.injEq] at h
    obtain ⟨y, hy, zs, hzs, _⟩ := h
    rcases List.mem_cons.1 hi with rfl | hi
    · exact ⟨y, hy⟩
    · exact mapM_each hzs i hi
end
/-- Two arrays of integers, held against each other. -/
theorem eq_items {P : Program} {e : TypeId} {k : IntKind} (he : P.underlying e = some (.int k)) (ce : P.cellsOf e = 1) (d : Nat) (w : World) (A B : List Int) : ∀ m s, A.length = s + m → B.length = s + m →
    (Op.eqItems (d + 1) e (P.cellsOf e) (A.map (Value.int k)).toArray (B.map (Value.int k)).toArray (List.range' s m)).run P w = .ok (A.drop s == B.drop s) w := by
  have hpk : P.plainKey e = true := by unfold Program.plainKey; rw [he]
  intro m
  induction m with
  | zero =>
    intro s ha hb
    have e1 : A.drop s = [] := List.drop_eq_nil_of_le (by omega)
    have e2 : B.drop s = [] := List.drop_eq_nil_of_le (by omega)
    rw [e1, e2]
    simp [Op.eqItems]
  | succ m ih =>
    intro s ha hb
    have hsa : s < A.length := by omega
    have hsb : s < B.length := by omega
    have p1 := run_part_plain (P := P) w hpk (xs := (A.map (Value.int k)).toArray) (off := s * P.cellsOf e) (v := .int k A[s]) (by rw [ce, Nat.mul_one]; simp [hsa])
    have p2 := run_part_plain (P := P) w hpk (xs := (B.map (Value.int k)).toArray) (off := s * P.cellsOf e) (v := .int k B[s]) (by rw [ce, Nat.mul_one]; simp [hsb])
    have p3 := run_equalIn_int (P := P) w d e k k A[s] B[s] he
    rw [List.range'_succ]
    simp only [Op.eqItems, Sem.run_bind, p1, p2, p3, Result.andThen_ok]
    have e3 : (A.drop s == B.drop s) = (A[s] == B[s] && A.drop (s + 1) == B.drop (s + 1)) := by rw [List.drop_eq_getElem_cons hsa, List.drop_eq_getElem_cons hsb]; rfl
    rw [e3]
    by_cases h : A[s] = B[s]
    · have hb' : (A[s] == B[s]) = true := by simp [h]
      rw [hb']
      simp only [Bool.not_true, Bool.false_eq_true, if_false]
      rw [ih (s + 1) (by omega) (by omega), Bool.true_and]
    · have hb' : (A[s] == B[s]) = false := by simp [h]
      rw [hb']
      simp
theorem eq_arr {P : Program} {t e : TypeId} {k : IntKind} {n : Nat} {i : TypeInfo} (hu : P.underlying t = some (.array n e)) (he : P.underlying e = some (.int k)) (ce : P.cellsOf e = 1) (hi : P.info? e = some i) (w : World) (A B : List Int) (ha : A.length = n) (hb : B.length = n) :
    (Op.equalIn 10000 t (.agg (A.map (Value.int k)).toArray) (.agg (B.map (Value.int k)).toArray)).run P w = .ok (A == B) w := by
  rw [run_equalIn_array w 9999 _ _ hu hi, List.range_eq_range', eq_items he ce 9998 w A B n 0 (by omega) (by omega)]
  simp
end Go.Proofs.YtpnjcflfnoamoaaGreat

namespace Go.Proofs.YtpnjcflfnoamoaaGreat
open Go.RowKit
set_option linter.unusedVariables false

/-- A key's cells. -/
abbrev kcs (k : List Int) : Array Value := (k.map (Value.int .u8)).toArray
/-- A key as a value. -/
abbrev kv (k : List Int) : Value := .agg (kcs k)
theorem Ky.at {k : List Int} (h : Ky k) (i : Nat) : 0 ≤ k.getD i 0 ∧ k.getD i 0 ≤ 255 := by
  by_cases hi : i < k.length
  · have e : k.getD i 0 = k[i] := by simp [List.getD, hi]
    rw [e]; exact h.bytes _ (List.getElem_mem hi)
  · have e : k.getD i 0 = 0 := by simp [List.getD]; rw [List.getElem?_eq_none (by omega)]; rfl
    rw [e]; omega
/-- A key that lies in a block, from a place on. -/
structure KeyAt (w : World) (b o : Nat) (k : List Int) : Prop where
  cell : ∀ i, i < 16 → w.cell? ⟨b, o + i, none⟩ = some (.int .u8 (k.getD i 0))
theorem KeyAt.cell0 {w : World} {b : Nat} {k : List Int} (h : KeyAt w b 0 k) (i : Nat) (hi : i < 16) : w.cell? ⟨b, i, none⟩ = some (.int .u8 (k.getD i 0)) := by
  have := h.cell i hi
  rwa [Nat.zero_add] at this
theorem KeyAt.lt {w : World} {b o : Nat} {k : List Int} (h : KeyAt w b o k) : b < w.heap.size := lt_of_cell (h.cell 0 (by omega))
theorem KeyAt.made (w : World) (T : TypeId) (k : List Int) (hk : Ky k) : KeyAt (w.alloc (.cells (kcs k) T)) w.heap.size 0 k := by
  refine ⟨fun i hi => ?_⟩
  rw [World.cell?_alloc_new]
  have hl : i < k.length := by rw [hk.len]; exact hi
  simp [kcs, List.getD, hl]
theorem KeyAt.below {w w' : World} {b o B : Nat} {k : List Int} (h : KeyAt w b o k) (hb : Below B w w') (hB : b < B) : KeyAt w' b o k :=
  ⟨fun i hi => by rw [hb.cell (p := ⟨b, o + i, none⟩) hB]; exact h.cell i hi⟩
theorem KeyAt.past {w w' : World} {b o : Nat} {k : List Int} (h : KeyAt w b o k) (hb : Below w.heap.size w w') : KeyAt w' b o k := h.below hb h.lt
theorem KeyAt.same {w w' : World} {b o : Nat} {k : List Int} (h : KeyAt w b o k) (he : w'.heap = w.heap) : KeyAt w' b o k :=
  ⟨fun i hi => by rw [same_heap he]; exact h.cell i hi⟩
theorem KeyAt.alloc {w : World} {b o : Nat} {k : List Int} (h : KeyAt w b o k) (ob : Obj) : KeyAt (w.alloc ob) b o k :=
  h.below ((Below.refl w.heap.size _).alloc (Nat.le_refl _) ob) h.lt
theorem KeyAt.range {w : World} {b o : Nat} {k : List Int} (h : KeyAt w b o k) (hk : Ky k) : w.rangeAt b o (k.map (Value.int .u8)) := by
  intro j v hv
  rw [List.getElem?_map] at hv
  obtain ⟨z, hz, rfl⟩ := Option.map_eq_some_iff.1 hv
  have hj : j < 16 := by rw [← hk.len]; exact (List.getElem?_eq_some_iff.1 hz).1
  rw [h.cell j hj]
  simp [List.getD, hz]
theorem info_key : (Tryz.prog.info? 57).map (·.size) = some 16 := by kernel_rfl
/-- A key is read whole. -/
theorem wpList_load_key {ops : Array Oper} {rest : List Oper} {op : Oper} {a : Act} {w : World} {Q : Exit → Act → World → Prop} (hgd : op.guard = none) (x : Operand) (ho : op.op = .load 57 x)
    (b o : Nat) (hx : a.eval x = .pointer (some ⟨b, o, none⟩)) (k : List Int) (hk : Ky k) (hat : KeyAt w b o k)
    (h : wpList Tryz.prog ops Q rest (a.put op.dst (kv k)) w) : wpList Tryz.prog ops Q (op :: rest) a w :=
  wpList_load_mid hgd 57 x ho b o hx (k.map (Value.int .u8)) _ (hat.range hk) Tryz.underlying57 rfl (by rw [info_key, List.length_map, hk.len]) h
/-- As above, at a guarded operation whose guard is met. -/
theorem wpList_load_keyG {ops : Array Oper} {rest : List Oper} {op : Oper} {a : Act} {w : World} {Q : Exit → Act → World → Prop} (hw : Region.wanted op (yielded ops a.tmps) = true) (x : Operand) (ho : op.op = .load 57 x)
    (b o : Nat) (hx : a.eval x = .pointer (some ⟨b, o, none⟩)) (k : List Int) (hk : Ky k) (hat : KeyAt w b o k)
    (h : wpList Tryz.prog ops Q rest (a.put op.dst (kv k)) w) : wpList Tryz.prog ops Q (op :: rest) a w :=
  wpList_step fun K hK => by
    rw [if_pos hw]
    exact wp_load_mid 57 x ho b o hx (k.map (Value.int .u8)) _ (hat.range hk) Tryz.underlying57 rfl (by rw [info_key, List.length_map, hk.len]) (hK _ _ h)
/-- As above, at the operation that fills slot d. -/
theorem wpList_load_keyD (d : Tmp) {ops : Array Oper} {rest : List Oper} {op : Oper} {a : Act} {w : World} {Q : Exit → Act → World → Prop} (hd : op.dst = some d) (hw : Region.wanted op (yielded ops a.tmps) = true) (x : Operand) (ho : op.op = .load 57 x)
    (b o : Nat) (hx : a.eval x = .pointer (some ⟨b, o, none⟩)) (k : List Int) (hk : Ky k) (hat : KeyAt w b o k)
    (h : wpList Tryz.prog ops Q rest (a.put op.dst (kv k)) w) : wpList Tryz.prog ops Q (op :: rest) a w :=
  wpList_load_keyG hw x ho b o hx k hk hat h
theorem wpList_load_keyN (d : Tmp) {ops : Array Oper} {rest : List Oper} {op : Oper} {a : Act} {w : World} {Q : Exit → Act → World → Prop} (hd : op.dst = some d) (hgd : op.guard = none) (x : Operand) (ho : op.op = .load 57 x)
    (b o : Nat) (hx : a.eval x = .pointer (some ⟨b, o, none⟩)) (k : List Int) (hk : Ky k) (hat : KeyAt w b o k)
    (h : wpList Tryz.prog ops Q rest (a.put op.dst (kv k)) w) : wpList Tryz.prog ops Q (op :: rest) a w :=
  wpList_load_key hgd x ho b o hx k hk hat h
theorem key_parts : ∃ i, Tryz.prog.info? 5 = some i := by
  have : (Tryz.prog.info? 5).isSome = true := by kernel_rfl
  exact Option.isSome_iff_exists.1 this
/-- Two keys held against one another. -/
theorem eq_key (w : World) (a b : List Int) (ha : Ky a) (hb : Ky b) : (Op.equalIn 10000 57 (kv a) (kv b)).run Tryz.prog w = .ok (decide (a = b)) w := by
  obtain ⟨i, hi⟩ := key_parts
  rw [eq_arr Tryz.underlying57 Tryz.underlying5 (by kernel_rfl) hi w a b ha.len hb.len]
  by_cases h : a = b <;> simp [h]
end Go.Proofs.YtpnjcflfnoamoaaGreat

namespace Go.Proofs.YtpnjcflfnoamoaaGreat
open Go.RowKit
set_option linter.unusedVariables false

theorem below_cells {B : Nat} {a : World} {b : Nat} (hB : B ≤ b) : ∀ {vs : List Value} {o : Nat} {w : World}, Below B a w → Below B a (w.setCells b o vs)
  | [], _, _, h => h
  | v :: r, o, w, h => below_cells hB (vs := r) (h.setCell (p := ⟨b, o, none⟩) hB v)
theorem size_cells (b : Nat) : ∀ (vs : List Value) (o : Nat) (w : World), (w.setCells b o vs).heap.size = w.heap.size
  | [], _, _ => rfl
  | v :: r, o, w => by rw [World.setCells, size_cells b r, World.size_setCell]
/-- A key that lies in a block that may be written. -/
structure KeyMine (w : World) (b o : Nat) (k : List Int) : Prop where
  lies : KeyAt w b o k
  free : ∀ i, i < 16 → w.frozen? ⟨b, o + i, none⟩ = false
  ky : Ky k
theorem KeyMine.made (w : World) (T : TypeId) (k : List Int) (hk : Ky k) : KeyMine (w.alloc (.cells (kcs k) T)) w.heap.size 0 k :=
  ⟨KeyAt.made w T k hk, fun i hi => World.frozen?_alloc_new _ _ _ _, hk⟩
theorem KeyMine.below {w w' : World} {b o B : Nat} {k : List Int} (h : KeyMine w b o k) (hb : Below B w w') (hB : b < B) : KeyMine w' b o k :=
  ⟨h.lies.below hb hB, fun i hi => by rw [hb.frozen (p := ⟨b, o + i, none⟩) hB]; exact h.free i hi, h.ky⟩
theorem KeyMine.alloc {w : World} {b o : Nat} {k : List Int} (h : KeyMine w b o k) (ob : Obj) : KeyMine (w.alloc ob) b o k :=
  h.below ((Below.refl w.heap.size _).alloc (Nat.le_refl _) ob) h.lies.lt
theorem KeyMine.there {w : World} {b o : Nat} {k : List Int} (h : KeyMine w b o k) : w.there b o 16 :=
  fun j hj => ⟨by rw [h.lies.cell j hj]; rfl, h.free j hj⟩
theorem KeyMine.store {w : World} {b o : Nat} {k k' : List Int} (h : KeyMine w b o k) (hk : Ky k') : KeyMine (w.setCells b o (k'.map (Value.int .u8))) b o k' := by
  have ht := h.there
  have hl : (k'.map (Value.int .u8)).length = 16 := by rw [List.length_map]; exact hk.len
  rw [← hl] at ht
  have hr := World.rangeAt_setCells_same w b o (k'.map (Value.int .u8)) ht
  refine ⟨⟨fun i hi => ?_⟩, fun i hi => by rw [World.frozen?_setCells]; exact h.free i hi, hk⟩
  refine hr i _ ?_
  have hi' : i < k'.length := by rw [hk.len]; exact hi
  simp [List.getD, hi']
theorem KeyMine.other {w : World} {b o c o' : Nat} {k : List Int} {vs : List Value} (h : KeyMine w b o k) (hne : b ≠ c) : KeyMine (w.setCells c o' vs) b o k :=
  ⟨⟨fun i hi => by rw [World.cell?_setCells_out c vs o' w ⟨b, o + i, none⟩ (fun e _ => absurd e hne)]; exact h.lies.cell i hi⟩, fun i hi => by rw [World.frozen?_setCells]; exact h.free i hi, h.ky⟩
theorem KeyMine.aside {w : World} {b o : Nat} {k : List Int} {p : Addr} {v : Value} (h : KeyMine w b o k) (hne : b ≠ p.block) : KeyMine (w.setCell p v) b o k :=
  ⟨⟨fun i hi => by rw [World.cell?_setCell_other _ _ _ _ (by intro e; exact hne (by rw [e]))]; exact h.lies.cell i hi⟩, fun i hi => by rw [World.frozen?_setCell]; exact h.free i hi, h.ky⟩
theorem KeyMine.set {w : World} {b : Nat} {k : List Int} (h : KeyMine w b 0 k) (n : Nat) (z : Int) (hn : n < 16) (h0 : 0 ≤ z) (h1 : z ≤ 255) : KeyMine (w.setCell ⟨b, n, none⟩ (.int .u8 z)) b 0 (k.set n z) := by
  refine ⟨⟨fun i hi => ?_⟩, fun i hi => by rw [World.frozen?_setCell]; exact h.free i hi, ⟨by rw [List.length_set]; exact h.ky.len, fun y hy => ?_⟩⟩
  · rw [Nat.zero_add]
    by_cases e : n = i
    · subst e
      rw [World.cell?_setCell_same _ _ _ (h.lies.cell0 n hn)]
      have : n < k.length := by rw [h.ky.len]; exact hn
      simp [List.getD, this]
    · rw [World.cell?_setCell_other _ _ _ _ (by intro h'; injection h' with _ h2; exact e h2), h.lies.cell0 i hi]
      simp [List.getD, e]
  · rcases List.mem_or_eq_of_mem_set hy with h' | rfl
    · exact h.ky.bytes y h'
    · exact ⟨h0, h1⟩
theorem kcs_one (k : List Int) : (kcs k).all (·.oneCell') = true := all_oneCell_toArray (ints_oneCell _ _)
/-- A key is stored whole. -/
theorem wpList_store_key {ops : Array Oper} {rest : List Oper} {op : Oper} {a : Act} {w : World} {Q : Exit → Act → World → Prop} (hgd : op.guard = none) (x y : Operand) (ho : op.op = .store 57 x y)
    (b o : Nat) (k k' : List Int) (hx : a.eval x = .pointer (some ⟨b, o, none⟩)) (hy : a.eval y = kv k') (hk : Ky k') (hat : KeyMine w b o k)
    (h : wpList Tryz.prog ops Q rest (a.put op.dst undef) (w.setCells b o (k'.map (Value.int .u8)))) : wpList Tryz.prog ops Q (op :: rest) a w := by
  have hl : (kcs k').size = 16 := by simp [kcs, hk.len]
  refine wpList_store_mid hgd 57 x y ho b o (kcs k') hx hy (by rw [hl]; exact hat.there) (by rw [info_key, hl]) (kcs_one k') ?_
  exact h
/-- As above, the world behind it a letter. -/
theorem wpList_store_keyU {ops : Array Oper} {rest : List Oper} {op : Oper} {a : Act} {w : World} {Q : Exit → Act → World → Prop} (hgd : op.guard = none) (x y : Operand) (ho : op.op = .store 57 x y)
    (b o : Nat) (k k' : List Int) (hx : a.eval x = .pointer (some ⟨b, o, none⟩)) (hy : a.eval y = kv k') (hk : Ky k') (hat : KeyMine w b o k)
    (h : ∀ u, u = w.setCells b o (k'.map (Value.int .u8)) → wpList Tryz.prog ops Q rest (a.put op.dst undef) u) : wpList Tryz.prog ops Q (op :: rest) a w :=
  wpList_store_key hgd x y ho b o k k' hx hy hk hat (h _ rfl)
end Go.Proofs.YtpnjcflfnoamoaaGreat

namespace Go.Proofs.YtpnjcflfnoamoaaGreat
open Go.RowKit
set_option linter.unusedVariables false

theorem addr_add (b off j : Nat) : (⟨b, off, none⟩ : Addr).add j = ⟨b, off + j, none⟩ := by unfold Addr.add; split <;> simp_all
theorem info_of {e : TypeId} {z : Value} {size bytes : Nat} (h : (Tryz.prog.info? e).map (fun i => (i.zero, i.size, i.bytes)) = some (some z, size, bytes)) : ∃ i, Tryz.prog.info? e = some i ∧ i.zero = some z ∧ i.size = size ∧ i.bytes = bytes := by
  cases hi : Tryz.prog.info? e with
  | none => rw [hi] at h; cases h
  | some i =>
    rw [hi] at h
    simp only [Option.map_some, Option.some.injEq, Prod.mk.injEq] at h
    exact ⟨i, rfl, h.1, h.2.1, h.2.2⟩
/-- What is behind the call's own lists stays where a list of its own grows. -/
theorem own_below {w w' : World} {B e size n : Nat} {v : Value} {vs : List Value} (h : w.ownsRow B e size v n vs) {C : Nat} (hb : Below C w w') (hC : w.heap.size ≤ C) : w'.ownsRow B e size v n vs := by
  obtain ⟨hl, h0 | ⟨g, cap, cur, hv, hg, hh, r⟩⟩ := h
  · exact ⟨hl, .inl h0⟩
  · have hlt : g < w.heap.size := (Array.getElem?_eq_some_iff.1 hh).1
    exact ⟨hl, .inr ⟨g, cap, cur, hv, hg, by rw [hb.block g (by omega)]; exact hh, r⟩⟩
theorem own_cell {w : World} {B e size n cap g : Nat} {vs : List Value} (h : w.ownsRow B e size (.slice (some ⟨g, 0, none⟩) n cap) n vs) (j : Nat) (u : Value) (hj : vs[j]? = some u) : w.cell? ⟨g, j, none⟩ = some u := by
  obtain ⟨hl, h0 | ⟨g', cap', cur, hv, hg, hh, h1, h2, h3, h4⟩⟩ := h
  · cases h0.1
  · cases hv
    have : cur[j]? = some u := by
      have hlt : j < n * size := by rw [← hl]; exact (List.getElem?_eq_some_iff.1 hj).1
      have e : (cur.toList.take (n * size))[j]? = some u := by rw [h4]; exact hj
      rw [List.getElem?_take_of_lt hlt] at e
      simpa using e
    simp [World.cell?, hh, this]
end Go.Proofs.YtpnjcflfnoamoaaGreat

namespace Go.Proofs.YtpnjcflfnoamoaaGreat
open Go.RowKit
set_option linter.unusedVariables false

/-- A type of lists: its elements' type, their cells, their bytes. -/
structure ElT (t e : TypeId) (size bytes : Nat) : Prop where
  ht : Tryz.prog.underlying t = some (.slice e)
  info : ∃ i z, Tryz.prog.info? e = some i ∧ i.zero = some z ∧ i.size = size ∧ i.bytes = bytes ∧ z.cells.size = size
  pos : 0 < size
  small : bytes ≤ 1000
theorem ElT.mk' {t e : TypeId} {z : Value} {size bytes : Nat} (ht : Tryz.prog.underlying t = some (.slice e)) (h : (Tryz.prog.info? e).map (fun i => (i.zero, i.size, i.bytes)) = some (some z, size, bytes)) (hz : z.cells.size = size) (hp : 0 < size) (hs : bytes ≤ 1000) : ElT t e size bytes := by
  obtain ⟨i, h1, h2, h3, h4⟩ := info_of h
  exact ⟨ht, ⟨i, z, h1, h2, h3, h4, hz⟩, hp, hs⟩
/-- Cells that lie somewhere. -/
def Lies (w : World) (ao : Option Addr) (vs : List Value) : Prop := ∀ sa, ao = some sa → (vs ≠ [] → sa.spot = none) ∧ ∀ j u, vs[j]? = some u → w.cell? (sa.add j) = some u
theorem Lies.at {w : World} {b o : Nat} {vs : List Value} (h : Lies w (some ⟨b, o, none⟩) vs) (j : Nat) (u : Value) (hj : vs[j]? = some u) : w.cell? ⟨b, o + j, none⟩ = some u := by
  have := (h _ rfl).2 j u hj
  rwa [addr_add] at this
theorem lies_of {w : World} {b o : Nat} {vs : List Value} (h : ∀ j u, vs[j]? = some u → w.cell? ⟨b, o + j, none⟩ = some u) : Lies w (some ⟨b, o, none⟩) vs := by
  intro sa hsa
  injection hsa with hsa
  subst hsa
  exact ⟨fun _ => rfl, fun j u hj => by rw [addr_add]; exact h j u hj⟩
theorem lies_none (w : World) (vs : List Value) : Lies w none vs := fun sa h => by cases h
theorem lies_nil (w : World) (ao : Option Addr) : Lies w ao [] := fun sa hs => ⟨fun h => absurd rfl h, fun j u hj => by simp at hj⟩
theorem lies_empty (w : World) (b o : Nat) : Lies w (some ⟨b, o, none⟩) [] := lies_of (fun j u hj => by simp at hj)
theorem Lies.range {w : World} {b o : Nat} {vs : List Value} (h : Lies w (some ⟨b, o, none⟩) vs) : w.rangeAt b o vs := fun j v hv => h.at j v hv
theorem Lies.below {w w' : World} {b o B : Nat} {vs : List Value} (h : Lies w (some ⟨b, o, none⟩) vs) (hb : Below B w w') (hB : b < B) : Lies w' (some ⟨b, o, none⟩) vs :=
  lies_of fun j u hj => by rw [hb.cell (p := ⟨b, o + j, none⟩) hB]; exact h.at j u hj
theorem Lies.past {w w' : World} {ao : Option Addr} {vs : List Value} (h : Lies w ao vs) (hb : Below w.heap.size w w') : Lies w' ao vs := by
  intro sa hsa
  subst hsa
  obtain ⟨hs, h⟩ := h sa rfl
  refine ⟨hs, fun j u hj => ?_⟩
  have h1 := h j u hj
  have hs := hs (fun e => by rw [e] at hj; simp at hj)
  obtain ⟨b, o, sp⟩ := sa
  simp at hs
  subst hs
  rw [addr_add] at h1 ⊢
  have hlt : b < w.heap.size := by
    rcases Nat.lt_or_ge b w.heap.size with h' | h'
    · exact h'
    · simp [World.cell?, Array.getElem?_eq_none h'] at h1
  rw [hb.cell (p := ⟨b, o + j, none⟩) hlt]; exact h1
theorem Lies.kept {w w' : World} {g o : Nat} {vs : List Value} {x : Option Nat} (h : Lies w (some ⟨g, o, none⟩) vs) (hg : w.grownBy w' x) (hlt : g < w.heap.size) (hne : some g ≠ x) : Lies w' (some ⟨g, o, none⟩) vs :=
  lies_of fun j u hj => by
    rw [← h.at j u hj]
    have h2 := hg.block g hlt hne
    simp [World.cell?, h2]
theorem Lies.drew {w : World} {ao : Option Addr} {vs : List Value} (h : Lies w ao vs) : Lies w.drew ao vs := h
theorem Lies.alloc {w : World} {g o : Nat} {vs : List Value} (h : Lies w (some ⟨g, o, none⟩) vs) (hlt : g < w.heap.size) (ob : Obj) : Lies (w.alloc ob) (some ⟨g, o, none⟩) vs :=
  h.below ((Below.refl w.heap.size _).alloc (Nat.le_refl _) ob) hlt
theorem Lies.sub {w : World} {b o : Nat} {vs : List Value} (h : Lies w (some ⟨b, o, none⟩) vs) (k m : Nat) : Lies w (some ⟨b, o + k, none⟩) ((vs.drop k).take m) :=
  lies_of fun j u hj => by
    rw [Nat.add_assoc]
    refine h.at (k + j) u ?_
    have hm : j < m := by
      rcases Nat.lt_or_ge j m with h' | h'
      · exact h'
      · rw [List.getElem?_eq_none (by simp; omega)] at hj; cases hj
    rw [List.getElem?_take_of_lt hm, List.getElem?_drop] at hj
    exact hj
theorem Lies.taken {w : World} {b o : Nat} {vs : List Value} (h : Lies w (some ⟨b, o, none⟩) vs) (m : Nat) : Lies w (some ⟨b, o, none⟩) (vs.take m) := by
  have := h.sub 0 m
  rwa [Nat.add_zero, List.drop_zero] at this
theorem lies_made (w : World) (C : Array Value) (e : TypeId) : Lies (w.alloc (.cells C e)) (some ⟨w.heap.size, 0, none⟩) C.toList :=
  lies_of fun j u hj => by
    rw [Nat.zero_add, World.cell?_alloc_new]
    simpa using hj
theorem own_lies {w : World} {B e size n cap g : Nat} {vs : List Value} (h : w.ownsRow B e size (.slice (some ⟨g, 0, none⟩) n cap) n vs) : Lies w (some ⟨g, 0, none⟩) vs :=
  lies_of fun j u hj => by rw [Nat.zero_add]; exact own_cell h j u hj
theorem own_form {w : World} {B e size n : Nat} {v : Value} {vs : List Value} (h : w.ownsRow B e size v n vs) : ∃ a cap, v = .slice a n cap := by
  rcases h.2 with ⟨hv, h0⟩ | ⟨g, cap, cur, hv, _⟩
  · exact ⟨_, _, by rw [h0]; exact hv⟩
  · exact ⟨_, _, hv⟩
theorem run_append_els {t e : TypeId} {size bytes : Nat} (E : ElT t e size bytes) (w : World) (B : Nat) (v : Value) (n : Nat) (xs : List Value) (hown : w.ownsRow B e size v n xs) (ao : Option Addr) (m c : Nat) (news : List Value) (hl : news.length = m * size) (hsrc : Lies w ao news) (h1 : ∀ u ∈ news, u.oneCell' = true) (hnil : ao = none → m = 0 ∧ c = 0) (hn : n + m ≤ 1000000) (hB : B ≤ w.heap.size) (ty : TypeId) :
    ∃ a' cap' w', (Builtin.append_ #[t, t] ty #[v, .slice ao m c]).run Tryz.prog w = .ok (.slice a' (n + m) cap') w' ∧ w'.ownsRow B e size (.slice a' (n + m) cap') (n + m) (xs ++ news) ∧ w.grownBy w' v.ownBlock := by
  obtain ⟨i0, z, hi, hz0, hz1, hz2, hz3⟩ := E.info
  cases ao with
  | none =>
    obtain ⟨rfl, rfl⟩ := hnil rfl
    have hz : news = [] := List.eq_nil_of_length_eq_zero (by rw [hl]; simp)
    subst hz
    obtain ⟨ao, cap, rfl⟩ := own_form hown
    have hrun := run_append_owned_none (P := Tryz.prog) (w := w) B t ty e i0 size E.ht hi _ n xs hown
    refine ⟨ao, cap, w, ?_, by simpa using hown, ⟨rfl, rfl, rfl, Nat.le_refl _, fun _ _ _ => rfl⟩⟩
    simpa using hrun
  | some sa =>
    have hbig : (n + m) * bytes ≤ 140737488355328 := Nat.le_trans (Nat.mul_le_mul hn E.small) (by decide)
    obtain ⟨v', w', hrun, h2, h3, _⟩ := run_append_own (P := Tryz.prog) w B t ty e i0 z size bytes E.ht hi hz0 hz1 hz2 hz3 E.pos v n xs hown sa m c news hl (hsrc sa rfl).2 h1 (by unfold maxLen; omega) hbig hB
    obtain ⟨a', cap', rfl⟩ := own_form h2
    exact ⟨a', cap', w', hrun, h2, h3⟩
/-- The same in a region whose order stands. -/
theorem wpList_append_els {t e : TypeId} {size bytes : Nat} (E : ElT t e size bytes) {w0 w : World} {ops : Array Oper} {rest : List Oper} {o : Oper} {a : Act} {Q : Exit → Act → World → Prop} (hgd : o.guard = none) (s x : Operand)
    (ho : o.op = .call { callee := .builtin .append, args := #[s, x], argTypes := #[t, t] }) (hb : Below w0.heap.size w0 w)
    (v : Value) (n : Nat) (xs news : List Value) (hs : a.eval s = v) (hown : w.ownsRow w0.heap.size e size v n xs) (ao : Option Addr) (m c : Nat) (hx : a.eval x = .slice ao m c) (hl : news.length = m * size) (hsrc : Lies w ao news) (h1 : ∀ u ∈ news, u.oneCell' = true) (hnil : ao = none → m = 0 ∧ c = 0) (hn : n + m ≤ 1000000)
    (h : ∀ a' cap' w', w'.ownsRow w0.heap.size e size (.slice a' (n + m) cap') (n + m) (xs ++ news) → w.grownBy w' v.ownBlock → Below w0.heap.size w0 w' → wpList Tryz.prog ops Q rest (a.put o.dst (.slice a' (n + m) cap')) w') : wpList Tryz.prog ops Q (o :: rest) a w := by
  refine wpList_plain hgd fun K hK => ?_
  obtain ⟨a', cap', w', hrun, h2, h3⟩ := run_append_els E w w0.heap.size v n xs hown ao m c news hl hsrc h1 hnil hn hb.size o.type
  unfold Oper.wp
  simp [execOp, ho, resolve, invoke, builtin, hs, hx, hrun, Result.andThen]
  exact hK _ _ (h a' cap' w' h2 h3 (hb.grown h3 hb.size (fun k hk => (hown.lt k hk).1)))
/-- A list of the call's own, all since world w0. -/
structure OwnB (e : TypeId) (size : Nat) (w0 u : World) (v : Value) (n : Nat) (xs : List Value) : Prop where
  own : u.ownsRow w0.heap.size e size v n xs
  below : Below w0.heap.size w0 u
theorem OwnB.past {e : TypeId} {size : Nat} {w0 u u' : World} {v : Value} {n : Nat} {xs : List Value} (h : OwnB e size w0 u v n xs) (hb : Below u.heap.size u u') : OwnB e size w0 u' v n xs :=
  ⟨own_below h.own hb (Nat.le_refl _), h.below.trans (hb.mono h.below.size)⟩
theorem OwnB.alloc {e : TypeId} {size : Nat} {w0 u : World} {v : Value} {n : Nat} {xs : List Value} (h : OwnB e size w0 u v n xs) (ob : Obj) : OwnB e size w0 (u.alloc ob) v n xs :=
  h.past ((Below.refl _ _).alloc (Nat.le_refl _) ob)
/-- A block that holds one element, apart from the list. -/
structure MadeX (w0 u : World) (a : Option Addr) (v : Value) (vs : List Value) : Prop where
  lies : Lies u a vs
  far : ∃ g, a = some ⟨g, 0, none⟩ ∧ g < u.heap.size ∧ some g ≠ v.ownBlock
theorem MadeX.step {w0 u u' : World} {a : Option Addr} {v v' : Value} {vs : List Value} (h : MadeX w0 u a v vs) (hg : u.grownBy u' v.ownBlock) : Lies u' a vs := by
  obtain ⟨g, rfl, h1, h2⟩ := h.far
  exact h.lies.kept hg h1 h2
/-- Flattened lists: where an element's cells stand. -/
theorem flat_drop {α : Type} {enc : α → List Value} {size : Nat} : ∀ (l : List α) (k : Nat), (∀ x ∈ l, (enc x).length = size) → (l.flatMap enc).drop (k * size) = (l.drop k).flatMap enc
  | [], k, _ => by simp
  | a :: r, 0, _ => by simp
  | a :: r, k + 1, h => by
    have ha : (enc a).length = size := h a (by simp)
    rw [List.flatMap_cons, List.drop_succ_cons, ← flat_drop r k (fun x hx => h x (by simp [hx])), Nat.succ_mul, Nat.add_comm, ← List.drop_drop, ← ha, List.drop_left]
theorem flat_len {α : Type} {enc : α → List Value} {size : Nat} : ∀ (l : List α), (∀ x ∈ l, (enc x).length = size) → (l.flatMap enc).length = l.length * size
  | [], _ => by simp
  | a :: r, h => by rw [List.flatMap_cons, List.length_append, h a (by simp), flat_len r (fun x hx => h x (by simp [hx])), List.length_cons, Nat.succ_mul, Nat.add_comm]
theorem flat_take {α : Type} {enc : α → List Value} {size : Nat} : ∀ (l : List α) (k : Nat), (∀ x ∈ l, (enc x).length = size) → (l.flatMap enc).take (k * size) = (l.take k).flatMap enc
  | [], k, _ => by simp
  | a :: r, 0, _ => by simp
  | a :: r, k + 1, h => by
    have ha : (enc a).length = size := h a (by simp)
    rw [List.flatMap_cons, List.take_succ_cons, List.flatMap_cons, ← flat_take r k (fun x hx => h x (by simp [hx])), Nat.succ_mul, Nat.add_comm, List.take_append, List.take_of_length_le (by omega), ha, Nat.add_sub_cancel_left]
theorem flat_at {α : Type} {enc : α → List Value} {size : Nat} (l : List α) (k : Nat) (x : α) (h : ∀ x ∈ l, (enc x).length = size) (hk : l[k]? = some x) : ((l.flatMap enc).drop (k * size)).take size = enc x := by
  rw [flat_drop l k h]
  obtain ⟨hlt, rfl⟩ := List.getElem?_eq_some_iff.1 hk
  rw [List.drop_eq_getElem_cons hlt, List.flatMap_cons]
  have := h _ (List.getElem_mem hlt)
  rw [List.take_append, List.take_of_length_le (by omega), this, Nat.sub_self, List.take_zero, List.append_nil]
/-- The element at place k lies k elements on. -/
theorem Lies.el {α : Type} {enc : α → List Value} {size : Nat} {w : World} {b o : Nat} {l : List α} (h : Lies w (some ⟨b, o, none⟩) (l.flatMap enc)) (hs : ∀ x ∈ l, (enc x).length = size) {k : Nat} {x : α} (hk : l[k]? = some x) : Lies w (some ⟨b, o + k * size, none⟩) (enc x) := by
  have := h.sub (k * size) size
  rwa [flat_at l k x hs hk] at this
theorem flat_one {α : Type} {enc : α → List Value} {l : List α} (h : ∀ x ∈ l, ∀ u ∈ enc x, u.oneCell' = true) : ∀ u ∈ l.flatMap enc, u.oneCell' = true := by
  intro u hu
  obtain ⟨x, hx, hu⟩ := List.mem_flatMap.1 hu
  exact h x hx u hu
end Go.Proofs.YtpnjcflfnoamoaaGreat

namespace Go.Proofs.YtpnjcflfnoamoaaGreat
open Go.RowKit
set_option linter.unusedVariables false

/-- A key's cells, as a list. -/
def kc (k : List Int) : List Value := k.map (Value.int .u8)
def Kys (l : List (List Int)) : Prop := ∀ k ∈ l, Ky k
theorem kc_len {k : List Int} (h : Ky k) : (kc k).length = 16 := by unfold kc; rw [List.length_map]; exact h.len
theorem Kys.len {l : List (List Int)} (h : Kys l) : ∀ k ∈ l, (kc k).length = 16 := fun k hk => kc_len (h k hk)
theorem Kys.one {l : List (List Int)} : ∀ u ∈ l.flatMap kc, u.oneCell' = true := flat_one fun k _ => ints_oneCell _ _
theorem Kys.get {l : List (List Int)} (h : Kys l) {i : Nat} (hi : i < l.length) : Ky (l.getD i []) := by
  have e : l.getD i [] = l[i] := by simp [List.getD, hi]
  rw [e]; exact h _ (List.getElem_mem hi)
theorem Kys.take {l : List (List Int)} (h : Kys l) (n : Nat) : Kys (l.take n) := fun k hk => h k (List.mem_of_mem_take hk)
/-- Cells laid one by one. -/
theorem fold_set : ∀ (vs : List Value) (o : Nat) (C : Array Value), o + vs.length ≤ C.size → (List.foldl (fun (cs : Array Value) (x : Value × Nat) => cs.setIfInBounds x.snd x.fst) C (vs.zipIdx o)).toList = C.toList.take o ++ vs ++ C.toList.drop (o + vs.length)
  | [], o, C, h => by simp
  | v :: r, o, C, h => by
    rw [List.zipIdx_cons, List.foldl_cons, fold_set r (o + 1) (C.setIfInBounds o v) (by simp at h ⊢; omega)]
    simp only [Array.toList_setIfInBounds]
    have ho : o < C.toList.length := by simp at h ⊢; omega
    have e1 : (C.toList.set o v).take (o + 1) = C.toList.take o ++ [v] := by
      rw [List.take_succ_eq_append_getElem (by simpa using ho), List.take_set_of_le (Nat.le_refl _)]
      simp
    have e2 : (C.toList.set o v).drop (o + 1 + r.length) = C.toList.drop (o + (v :: r).length) := by
      rw [List.drop_set_of_lt (by omega), List.length_cons]
      congr 1
      omega
    rw [e1, e2]
    simp
theorem fold_key (X : List Int) (h : Ky X) : List.foldl (fun (cs : Array Value) (x : Value × Nat) => cs.setIfInBounds x.snd x.fst) #[.int .u8 0, .int .u8 0, .int .u8 0, .int .u8 0, .int .u8 0, .int .u8 0, .int .u8 0, .int .u8 0, .int .u8 0, .int .u8 0, .int .u8 0, .int .u8 0, .int .u8 0, .int .u8 0, .int .u8 0, .int .u8 0] (List.map (Value.int .u8) X).zipIdx = (List.map (Value.int .u8) X).toArray := by
  have hl : (List.map (Value.int .u8) X).length = 16 := by rw [List.length_map]; exact h.len
  apply Array.toList_inj.1
  rw [fold_set _ 0 _ (by rw [hl]; decide), hl]
  simp
theorem info_keyl (k : List Int) (h : Ky k) : (Tryz.prog.info? 57).map (·.size) = some (k.map (Value.int .u8)).length := by rw [info_key, List.length_map, h.len]
end Go.Proofs.YtpnjcflfnoamoaaGreat

