/-
  Things that live on in memory: which blocks are theirs, what a call that works on one of them leaves of the others. No function of the program is named here.
  Maps from texts to pointers at whole blocks: what a look-up, a store, a delete and a range over one of them give. No function of the program is named here.
  Maps from numbers to numbers, made by the call: what a look-up and a store of one of them give. No function of the program is named here.
  Plain facts on chapter 10: keys of sixteen bytes, their texts, their order, lists of them in order.
  Plain facts on chapter 4's calendar: long years, months' lengths, a date's day; days are in the order of their dates.
  Plain facts on chapter 4's texts: a date's bytes, their order, and back.
  What layer 4's walks lean on besides: a date's cells, Go's own division, bytes of a text. No function of the program is named here.
  Plain facts on chapter 6: stamps, their order, the greater one, their texts.
  Versions of keys, as chapters 11 and 12 tell them: one list, by keys, then stamps. No program is named here.
-/
import Derived.Test.YtileidbdmpeciaaGreatProg
import Derived.Below
import Derived.WalkKit
import Derived.Maps.RangeWalk
import Derived.Laws.BytesArg
import Derived.WalkSpells
import Derived.WalkLawsBesides
import Derived.Deep.QuietTactic
import Derived.BigQuiet
import Derived.Handy
import Derived.Lib.ItoaMem
import Derived.Lib.ItoaLen
namespace Go.Proofs.YtileidbdmpeciaaGreat
open Go.RowKit
set_option linter.unusedVariables false

/-- Some blocks. -/
abbrev Foot := Nat → Prop
/-- A world that has come of another: of what was there, the blocks of X alone may have turned. -/
structure Chg (u u' : World) (X : Foot) : Prop where
  os : u'.os = u.os
  tape : u'.tape = u.tape
  output : u'.output = u.output
  size : u.heap.size ≤ u'.heap.size
  block : ∀ k, k < u.heap.size → ¬ X k → u'.heap[k]? = u.heap[k]?
theorem Chg.refl (u : World) (X : Foot) : Chg u u X := ⟨rfl, rfl, rfl, Nat.le_refl _, fun _ _ _ => rfl⟩
theorem Chg.mono {u u' : World} {X Y : Foot} (h : Chg u u' X) (hXY : ∀ k, k < u.heap.size → X k → Y k) : Chg u u' Y := ⟨h.os, h.tape, h.output, h.size, fun k hk hn => h.block k hk (fun hx => hn (hXY k hk hx))⟩
theorem Chg.trans {u u' u'' : World} {X Y : Foot} (h : Chg u u' X) (k : Chg u' u'' Y) (hY : ∀ j, j < u.heap.size → Y j → X j) : Chg u u'' X :=
  ⟨k.os.trans h.os, k.tape.trans h.tape, k.output.trans h.output, Nat.le_trans h.size k.size, fun j hj hn => (k.block j (Nat.lt_of_lt_of_le hj h.size) (fun hy => hn (hY j hj hy))).trans (h.block j hj hn)⟩
theorem Chg.of_below {u u' : World} (h : Below u.heap.size u u') (X : Foot) : Chg u u' X := ⟨h.os, h.tape, h.output, h.size, fun k hk _ => h.block k hk⟩
theorem Chg.of_grown {u u' : World} {row : Option Nat} (h : u.grownBy u' row) {X : Foot} (hX : ∀ k, row = some k → X k) : Chg u u' X :=
  ⟨h.os, h.tape, h.output, h.size, fun k hk hn => h.block k hk (fun e => hn (hX k e.symm))⟩
theorem Chg.below {u u' : World} {X : Foot} (h : Chg u u' X) {B : Nat} (hB : B ≤ u.heap.size) (hX : ∀ k, X k → B ≤ k) : Below B u u' :=
  ⟨h.os, h.tape, h.output, h.size, fun k hk => h.block k (by omega) (fun hx => by have := hX k hx; omega)⟩
theorem Chg.set (u : World) (a : Addr) (v : Value) {X : Foot} (h : X a.block) : Chg u (u.setCell a v) X :=
  ⟨rfl, rfl, rfl, by rw [World.size_setCell]; exact Nat.le_refl _, fun k hk hn => Below.heap_setCell _ a _ k (fun e => hn (by rw [e]; exact h))⟩
theorem Chg.drew {u u' : World} {X : Foot} (h : Chg u u' X) : Chg u u'.drew X := ⟨h.os, h.tape, h.output, h.size, h.block⟩
theorem Chg.alloc {u u' : World} {X : Foot} (h : Chg u u' X) (o : Obj) : Chg u (u'.alloc o) X :=
  h.trans (Chg.of_below ((Below.refl _ _).alloc (Nat.le_refl _) o) X) (fun _ _ x => x)
/-- What a call that works on X leaves: nothing else of what was there has turned; what is X now was X, or is new. -/
structure Did (u u' : World) (X X' : Foot) : Prop where
  chg : Chg u u' X
  new : ∀ k, X' k → (X k ∨ u.heap.size ≤ k) ∧ k < u'.heap.size
theorem Did.trans {u u' u'' : World} {X X' X'' : Foot} (h : Did u u' X X') (k : Did u' u'' X' X'') : Did u u'' X X'' :=
  ⟨h.chg.trans k.chg (fun j hj hx => by rcases (h.new j hx).1 with h1 | h1; exact h1; omega), fun j hj => by
    refine ⟨?_, (k.new j hj).2⟩
    rcases (k.new j hj).1 with h1 | h1
    · exact (h.new j h1).1
    · exact .inr (Nat.le_trans h.chg.size h1)⟩
theorem Did.stay {u u' : World} {X : Foot} (h : Below u.heap.size u u') (hX : ∀ k, X k → k < u.heap.size) : Did u u' X X := ⟨Chg.of_below h X, fun k hk => ⟨.inl hk, Nat.lt_of_lt_of_le (hX k hk) h.size⟩⟩
theorem Did.same {u u' : World} {X : Foot} (h : Chg u u' X) (hX : ∀ k, X k → k < u.heap.size) : Did u u' X X := ⟨h, fun k hk => ⟨.inl hk, Nat.lt_of_lt_of_le (hX k hk) h.size⟩⟩
/-- No blocks. -/
def noFoot : Foot := fun _ => False
/-- The things of a call, each with blocks of its own, all made since w. -/
structure Apart (w u : World) (Xs : Nat → Foot) : Prop where
  below : Below w.heap.size w u
  lo : ∀ i k, Xs i k → w.heap.size ≤ k ∧ k < u.heap.size
  dis : ∀ i j k, Xs i k → Xs j k → i = j
/-- One of them has other blocks now. -/
def upd (Xs : Nat → Foot) (i : Nat) (X : Foot) : Nat → Foot := fun j => if j = i then X else Xs j
theorem Apart.past {w u u' : World} {Xs : Nat → Foot} (h : Apart w u Xs) (hb : Below u.heap.size u u') : Apart w u' Xs :=
  ⟨h.below.trans (hb.mono h.below.size), fun i k hk => ⟨(h.lo i k hk).1, Nat.lt_of_lt_of_le (h.lo i k hk).2 hb.size⟩, h.dis⟩
theorem Apart.step {w u u' : World} {Xs : Nat → Foot} {X' : Foot} (h : Apart w u Xs) (i : Nat) (d : Did u u' (Xs i) X') : Apart w u' (upd Xs i X') := by
  have hnew : ∀ k, X' k → w.heap.size ≤ k ∧ k < u'.heap.size := fun k hk => by
    refine ⟨?_, (d.new k hk).2⟩
    rcases (d.new k hk).1 with h1 | h1
    · exact (h.lo i k h1).1
    · exact Nat.le_trans h.below.size h1
  have hfar : ∀ j k, j ≠ i → Xs j k → ¬ X' k := fun j k hj hk hx => by
    rcases (d.new k hx).1 with h1 | h1
    · exact hj (h.dis j i k hk h1)
    · have := (h.lo j k hk).2; omega
  refine ⟨h.below.trans (d.chg.below h.below.size (fun k hk => (h.lo i k hk).1)), fun j k hk => ?_, fun a b k ha hb => ?_⟩
  · unfold upd at hk
    split at hk
    · exact hnew k hk
    · exact ⟨(h.lo j k hk).1, Nat.lt_of_lt_of_le (h.lo j k hk).2 d.chg.size⟩
  · unfold upd at ha hb
    split at ha
    · rename_i e1
      split at hb
      · rename_i e2; rw [e1, e2]
      · rename_i e2; exact absurd ha (hfar b k e2 hb)
    · rename_i e1
      split at hb
      · rename_i e2; exact absurd hb (hfar a k e1 ha)
      · exact h.dis a b k ha hb
theorem Apart.kept {w u u' : World} {Xs : Nat → Foot} {i : Nat} (h : Apart w u Xs) (d : Chg u u' (Xs i)) {j : Nat} (hj : j ≠ i) : ∀ k, Xs j k → u'.heap[k]? = u.heap[k]? :=
  fun k hk => d.block k (h.lo j k hk).2 (fun hx => hj (h.dis j i k hk hx))
theorem Apart.still {w u u' : World} {Xs : Nat → Foot} (h : Apart w u Xs) (hb : Below u.heap.size u u') (j : Nat) : ∀ k, Xs j k → u'.heap[k]? = u.heap[k]? := fun k hk => hb.block k (h.lo j k hk).2
/-- One more thing, all new. -/
theorem Apart.add {w u u' : World} {Xs : Nat → Foot} {X' : Foot} (h : Apart w u Xs) (i : Nat) (hb : Below u.heap.size u u') (hX : ∀ k, X' k → u.heap.size ≤ k ∧ k < u'.heap.size) : Apart w u' (upd Xs i X') :=
  h.step i ⟨Chg.of_below hb _, fun k hk => ⟨.inr (hX k hk).1, (hX k hk).2⟩⟩
/-- Two of them turn together. -/
theorem Apart.both {w u u' : World} {Xs : Nat → Foot} {X' Y' : Foot} (h : Apart w u Xs) (i j : Nat) (hij : i ≠ j) (c : Chg u u' (fun k => Xs i k ∨ Xs j k)) (n1 : ∀ k, X' k → (Xs i k ∨ u.heap.size ≤ k) ∧ k < u'.heap.size) (n2 : ∀ k, Y' k → (Xs j k ∨ u.heap.size ≤ k) ∧ k < u'.heap.size) (hd : ∀ k, X' k → Y' k → False) : Apart w u' (upd (upd Xs i X') j Y') := by
  have lo' : ∀ a k, upd (upd Xs i X') j Y' a k → (Xs a k ∨ u.heap.size ≤ k) ∧ k < u'.heap.size := fun a k hk => by
    unfold upd at hk
    split at hk
    · rename_i e; rw [e]; exact n2 k hk
    · split at hk
      · rename_i e; rw [e]; exact n1 k hk
      · exact ⟨.inl hk, Nat.lt_of_lt_of_le (h.lo a k hk).2 c.size⟩
  refine ⟨h.below.trans (c.below h.below.size (fun k hk => hk.elim (fun x => (h.lo i k x).1) (fun x => (h.lo j k x).1))), fun a k hk => ?_, fun a b k ha hb => ?_⟩
  · refine ⟨?_, (lo' a k hk).2⟩
    rcases (lo' a k hk).1 with h1 | h1
    · exact (h.lo a k h1).1
    · exact Nat.le_trans h.below.size h1
  · rcases (lo' a k ha).1 with h1 | h1
    · rcases (lo' b k hb).1 with h2 | h2
      · exact h.dis a b k h1 h2
      · have := (h.lo a k h1).2; omega
    · rcases (lo' b k hb).1 with h2 | h2
      · have := (h.lo b k h2).2; omega
      · have f : ∀ c, upd (upd Xs i X') j Y' c k → c = j ∧ Y' k ∨ c = i ∧ X' k := fun c hc => by
          unfold upd at hc
          split at hc
          · rename_i e; exact .inl ⟨e, hc⟩
          · split at hc
            · rename_i e; exact .inr ⟨e, hc⟩
            · have := (h.lo c k hc).2; omega
        rcases f a ha with ⟨e1, x1⟩ | ⟨e1, x1⟩ <;> rcases f b hb with ⟨e2, x2⟩ | ⟨e2, x2⟩
        · rw [e1, e2]
        · exact (hd k x2 x1).elim
        · exact (hd k x1 x2).elim
        · rw [e1, e2]
theorem cell_kept {u u' : World} {b : Nat} (h : u'.heap[b]? = u.heap[b]?) (o : Nat) : u'.cell? ⟨b, o, none⟩ = u.cell? ⟨b, o, none⟩ := World.cell?_of_block (a := ⟨b, o, none⟩) h
theorem frozen_kept {u u' : World} {b : Nat} (h : u'.heap[b]? = u.heap[b]?) (o : Nat) : u'.frozen? ⟨b, o, none⟩ = u.frozen? ⟨b, o, none⟩ := World.frozen?_of_block (a := ⟨b, o, none⟩) h
theorem cell_lt {u : World} {b o : Nat} {v : Value} (h : u.cell? ⟨b, o, none⟩ = some v) : b < u.heap.size := by
  rcases Nat.lt_or_ge b u.heap.size with h' | h'
  · exact h'
  · simp [World.cell?, Array.getElem?_eq_none h'] at h
end Go.Proofs.YtileidbdmpeciaaGreat

namespace Go.Proofs.YtileidbdmpeciaaGreat
open Go.RowKit
open Go.Maps (Keyed)
set_option linter.unusedVariables false

/-- How a pointer at a whole block reads: as the block's number. -/
def ptrE (v : Value) : Option (DataW Unit × List MemPlace) :=
  match v with
  | .pointer none => some (.nil, [])
  | .pointer (some ⟨g, 0, none⟩) => some (.lit (.int .i64 (g : Int)), [])
  | _ => none
def ptrV : Option Nat → Value
  | none => .pointer none
  | some g => .pointer (some ⟨g, 0, none⟩)
def ptrD (z : DataW Unit) : Option Nat → DataW Unit
  | none => z
  | some g => .lit (.int .i64 (g : Int))
theorem ptrE_inv {v : Value} {z : DataW Unit × List MemPlace} (h : ptrE v = some z) : ∃ o, v = ptrV o ∧ z = (ptrD .nil o, []) := by
  unfold ptrE at h
  split at h
  · injection h with h; exact ⟨none, rfl, h.symm⟩
  · rename_i g; injection h with h; exact ⟨some g, rfl, h.symm⟩
  · cases h
theorem ptrD_inj {o o' : Option Nat} (h : ptrD .nil o = ptrD .nil o') : o = o' := by
  cases o <;> cases o' <;> simp [ptrD] at h
  · rfl
  · rename_i a b; have : a = b := by omega
    rw [this]
/-- A text as a key. -/
def kyL (x : ByteArray) : Lit := .string x.data.toList
theorem kyL_inj {x y : ByteArray} (h : kyL x = kyL y) : x = y := by
  unfold kyL at h
  injection h with h
  exact ByteArray.ext (Array.toList_inj.1 h)
theorem kyL_key (x : ByteArray) : WideAt.IsKeyLit (kyL x) := trivial
theorem kyLaw : Keyed Tryz.prog 9 := Maps.string_keyed Tryz.underlying9
theorem key_mk (x : ByteArray) (h : x.size ≤ 1000000) : keyOf Tryz.prog 9 (.string x) = some (kyL x) := WideMaps.keyOf_string_mk Tryz.underlying9 (by unfold maxLen; omega)
/-- Block m holds a map of c entries: at text x a pointer at the block G x. -/
def PMap (u : World) (m c : Nat) (G : ByteArray → Option Nat) : Prop :=
  ∃ D : DataW Unit, u.ownsMap Tryz.prog 9 ptrE m c D ∧ Maps.size D = c ∧ ∀ x z, D.atKey (kyL x) z = ptrD z (G x)
theorem has_at {D : DataW Unit} {x : ByteArray} {o : Option Nat} (h : ∀ z, D.atKey (kyL x) z = ptrD z o) : Maps.has D (kyL x) = o.isSome := by
  cases o with
  | none => exact Maps.has_false_of_atKey h
  | some g => exact Maps.has_true_of_atKey h
theorem PMap.lt {u : World} {m c : Nat} {G : ByteArray → Option Nat} (h : PMap u m c G) : m < u.heap.size := by obtain ⟨D, h1, _⟩ := h; exact h1.lt
theorem PMap.kept {u u' : World} {m c : Nat} {G : ByteArray → Option Nat} (h : PMap u m c G) (hb : u'.heap[m]? = u.heap[m]?) : PMap u' m c G := by
  obtain ⟨D, ⟨es, clock, h1, h2⟩, h3⟩ := h
  exact ⟨D, ⟨es, clock, hb.trans h1, h2⟩, h3⟩
theorem PMap.made (u : World) : PMap (u.alloc (.map #[] 0)) u.heap.size 0 (fun _ => none) :=
  ⟨.map [], World.ownsMap_made _ _ _ _, rfl, fun _ _ => rfl⟩
/-- As many as there are. -/
theorem owns_size {u : World} {m n : Nat} {D : DataW Unit} (h : u.ownsMap Tryz.prog 9 ptrE m n D) : u.ownsMap Tryz.prog 9 ptrE m (Maps.size D) D := by
  obtain ⟨es, clock, h1, h2, h3, rfl⟩ := h
  exact ⟨es, clock, h1, h2, by simp [Maps.size, length_sorted], rfl⟩
theorem PMap.of {u : World} {m n : Nat} {D : DataW Unit} {G : ByteArray → Option Nat} (h : u.ownsMap Tryz.prog 9 ptrE m n D) (ha : ∀ x z, D.atKey (kyL x) z = ptrD z (G x)) : PMap u m (Maps.size D) G := ⟨D, owns_size h, rfl, ha⟩

/-- 'm[k]'. -/
theorem PMap.look {u : World} {m c : Nat} {G : ByteArray → Option Nat} (h : PMap u m c G) {t e : TypeId} (ht : Tryz.prog.underlying t = some (.map 9 e)) (hz : (zeroValue e).run Tryz.prog u = .ok (.pointer none) u) (k : ByteArray) (hk : k.size ≤ 1000000) :
    (Instr.lookup t (.map (some m)) (.string k) false).run Tryz.prog u = .ok (ptrV (G k)) u := by
  obtain ⟨D, h1, _, h3⟩ := h
  obtain ⟨v, ps, hrun, hv⟩ := h1.lookup kyLaw ht hz (zd := .nil) (zp := []) rfl (key_mk k hk)
  obtain ⟨o, rfl, hq⟩ := ptrE_inv hv
  have hz2 := congrArg Prod.fst hq
  have e1 := ptrD_inj ((h3 k .nil).symm.trans hz2)
  subst e1
  exact hrun
/-- What a store lays at a key. -/
def putG (G : ByteArray → Option Nat) (k : ByteArray) (o : Option Nat) : ByteArray → Option Nat := fun x => if x = k then o else G x
theorem putG_same (G : ByteArray → Option Nat) (k : ByteArray) (o : Option Nat) : putG G k o k = o := if_pos rfl
theorem putG_other {G : ByteArray → Option Nat} {k x : ByteArray} {o : Option Nat} (h : x ≠ k) : putG G k o x = G x := if_neg h
theorem turned_chg {u u' : World} {m : Nat} (h : u.mapTurned u' m) {X : Foot} (hX : X m) : Chg u u' X := Chg.of_grown h.grown (fun k e => by injection e with e; subst e; exact hX)
/-- 'm[k] = v'. -/
theorem PMap.store {u : World} {m c : Nat} {G : ByteArray → Option Nat} (h : PMap u m c G) (hc : c ≤ 1000000) {t e : TypeId} (ht : Tryz.prog.underlying t = some (.map 9 e)) (k : ByteArray) (hk : k.size ≤ 1000000) (g : Nat) :
    ∃ u', (Instr.mapUpdate t (.map (some m)) (.string k) (.pointer (some ⟨g, 0, none⟩))).run Tryz.prog u = .ok () u' ∧ PMap u' m (if (G k).isSome then c else c + 1) (putG G k (some g)) ∧ u.mapTurned u' m := by
  obtain ⟨D, h1, h2, h3⟩ := h
  obtain ⟨u', hrun, h4, h5⟩ := h1.store kyLaw ht (by unfold maxLen; omega) (key_mk k hk) (val := .pointer (some ⟨g, 0, none⟩)) (d := .lit (.int .i64 (g : Int))) (ps := []) rfl
  refine ⟨u', hrun, ?_, h5⟩
  have hs : Maps.size (D.put (kyL k) (.lit (.int .i64 (g : Int)))) = if (G k).isSome then c else c + 1 := by rw [Maps.size_put (h1.tidy kyLaw), has_at (h3 k), h2]
  rw [← hs]
  refine PMap.of h4 (fun x z => ?_)
  by_cases e : x = k
  · subst e; rw [Maps.atKey_put_same h1.isMap (kyL_key x), putG_same]; rfl
  · rw [Maps.atKey_put_other (fun e' => e (kyL_inj e')), putG_other e]; exact h3 x z
/-- 'delete(m, k)'. -/
theorem PMap.drop {u : World} {m c : Nat} {G : ByteArray → Option Nat} (h : PMap u m c G) {t e : TypeId} (ht : Tryz.prog.underlying t = some (.map 9 e)) (k : ByteArray) (hk : k.size ≤ 1000000) (ty : TypeId) :
    ∃ u', (Builtin.delete_ #[t, 9] ty #[.map (some m), .string k]).run Tryz.prog u = .ok (.tuple #[]) u' ∧ PMap u' m (if (G k).isSome then c - 1 else c) (putG G k none) ∧ u.mapTurned u' m := by
  obtain ⟨D, h1, h2, h3⟩ := h
  obtain ⟨u', hrun, h4, h5⟩ := h1.drop kyLaw ht (key_mk k hk) ty
  refine ⟨u', hrun, ?_, h5⟩
  have hs : Maps.size (D.del (kyL k)) = if (G k).isSome then c - 1 else c := by
    have := Maps.size_del (k := kyL k) (h1.tidy kyLaw)
    rw [has_at (h3 k), h2] at this
    split at this <;> rename_i hh <;> simp [hh] <;> omega
  rw [← hs]
  refine PMap.of h4 (fun x z => ?_)
  by_cases e : x = k
  · subst e; rw [Maps.atKey_del_same, putG_same]; rfl
  · rw [Maps.atKey_del_other (fun e' => e (kyL_inj e')), putG_other e]; exact h3 x z
/-- A range over such a map under way: r the iterator's block, left x: is the entry at x still to come? -/
def PRange (u : World) (m r c : Nat) (G : ByteArray → Option Nat) (left : ByteArray → Bool) (cnt : Nat) : Prop :=
  ∃ (D : DataW Unit) (L : Lit → Bool), u.ranges Tryz.prog 9 ptrE m r c D L cnt ∧ Maps.size D = c ∧ (∀ x z, D.atKey (kyL x) z = ptrD z (G x)) ∧ ∀ x, left x = L (kyL x)
theorem PRange.map {u : World} {m r c cnt : Nat} {G : ByteArray → Option Nat} {left : ByteArray → Bool} (h : PRange u m r c G left cnt) : PMap u m c G := by
  obtain ⟨D, L, h1, h2, h3, _⟩ := h
  exact ⟨D, h1.owns, h2, h3⟩
theorem PRange.lt {u : World} {m r c cnt : Nat} {G : ByteArray → Option Nat} {left : ByteArray → Bool} (h : PRange u m r c G left cnt) : r < u.heap.size := by obtain ⟨D, L, h1, _⟩ := h; exact h1.lt
theorem PRange.left_eq {u : World} {m r c cnt : Nat} {G : ByteArray → Option Nat} {left : ByteArray → Bool} (h : PRange u m r c G left cnt) : u.rangeLeft m r = cnt := by obtain ⟨D, L, h1, _⟩ := h; exact h1.left_eq
theorem PRange.kept {u u' : World} {m r c cnt : Nat} {G : ByteArray → Option Nat} {left : ByteArray → Bool} (h : PRange u m r c G left cnt) (hm : u'.heap[m]? = u.heap[m]?) (hr : u'.heap[r]? = u.heap[r]?) : PRange u' m r c G left cnt := by
  obtain ⟨D, L, ⟨es, clock, since, seen, c0, hb, F, hs, hD, hr', rest⟩, h2⟩ := h
  exact ⟨D, L, ⟨es, clock, since, seen, c0, hm.trans hb, F, hs, hD, hr.trans hr', rest⟩, h2⟩
end Go.Proofs.YtileidbdmpeciaaGreat

namespace Go.Proofs.YtileidbdmpeciaaGreat
open Go.RowKit
open Go.Maps (Keyed)
set_option linter.unusedVariables false

def I64 (x : Int) : Prop := -9223372036854775808 ≤ x ∧ x ≤ 9223372036854775807
/-- How a number reads. -/
def intE (v : Value) : Option (DataW Unit × List MemPlace) :=
  match v with
  | .int .i64 g => some (.lit (.int .i64 g), [])
  | _ => none
def intD (z : DataW Unit) : Option Int → DataW Unit
  | none => z
  | some g => .lit (.int .i64 g)
theorem intE_inv {v : Value} {z : DataW Unit × List MemPlace} (h : intE v = some z) : ∃ g, v = .int .i64 g ∧ z = (.lit (.int .i64 g), []) := by
  unfold intE at h
  split at h
  · rename_i g; injection h with h; exact ⟨g, rfl, h.symm⟩
  · cases h
theorem iLaw : Keyed Tryz.prog 2 := Maps.int_keyed Tryz.underlying2
theorem ikey_mk {x : Int} (h : I64 x) : keyOf Tryz.prog 2 (.int .i64 x) = some (.int .i64 x) := Maps.keyOf_int_mk Tryz.underlying2 (by
  have h1 := h.1
  have h2 := h.2
  simp [Lit.wf]
  exact ⟨h1, h2⟩)
theorem ilit_key (x : Int) : WideAt.IsKeyLit (.int .i64 x) := trivial
/-- Block m holds a map of c entries: at x the number G x. -/
def OMap (u : World) (m c : Nat) (G : Int → Option Int) : Prop :=
  ∃ D : DataW Unit, u.ownsMap Tryz.prog 2 intE m c D ∧ Maps.size D ≤ c ∧ ∀ x, I64 x → ∀ z, D.atKey (.int .i64 x) z = intD z (G x)
theorem OMap.lt {u : World} {m c : Nat} {G : Int → Option Int} (h : OMap u m c G) : m < u.heap.size := by obtain ⟨D, h1, _⟩ := h; exact h1.lt
theorem OMap.kept {u u' : World} {m c : Nat} {G : Int → Option Int} (h : OMap u m c G) (hb : u'.heap[m]? = u.heap[m]?) : OMap u' m c G := by
  obtain ⟨D, ⟨es, clock, h1, h2⟩, h3⟩ := h
  exact ⟨D, ⟨es, clock, hb.trans h1, h2⟩, h3⟩
theorem OMap.made (u : World) : OMap (u.alloc (.map #[] 0)) u.heap.size 0 (fun _ => none) :=
  ⟨.map [], World.ownsMap_made _ _ _ _, Nat.le_refl _, fun _ _ _ => rfl⟩
theorem OMap.more {u : World} {m c c' : Nat} {G : Int → Option Int} (h : OMap u m c G) (hc : c ≤ c') : OMap u m c' G := by
  obtain ⟨D, h1, h2, h3⟩ := h
  exact ⟨D, h1.mono hc, Nat.le_trans h2 hc, h3⟩
theorem OMap.congr {u : World} {m c : Nat} {G G' : Int → Option Int} (h : OMap u m c G) (hG : ∀ x, I64 x → G x = G' x) : OMap u m c G' := by
  obtain ⟨D, h1, h2, h3⟩ := h
  exact ⟨D, h1, h2, fun x hx z => by rw [← hG x hx]; exact h3 x hx z⟩
theorem zero_int (u : World) : (zeroValue 3).run Tryz.prog u = .ok (.int .i64 0) u := by kernel_rfl
theorem iowns_size {u : World} {m n : Nat} {D : DataW Unit} (h : u.ownsMap Tryz.prog 2 intE m n D) : u.ownsMap Tryz.prog 2 intE m (Maps.size D) D := by
  obtain ⟨es, clock, h1, h2, h3, rfl⟩ := h
  exact ⟨es, clock, h1, h2, by simp [Maps.size, length_sorted], rfl⟩
/-- 'm[k]'. -/
theorem OMap.look {u : World} {m c : Nat} {G : Int → Option Int} (h : OMap u m c G) {t : TypeId} (ht : Tryz.prog.underlying t = some (.map 2 3)) {k : Int} (hk : I64 k) :
    (Instr.lookup t (.map (some m)) (.int .i64 k) false).run Tryz.prog u = .ok (.int .i64 ((G k).getD 0)) u := by
  obtain ⟨D, h1, _, h3⟩ := h
  obtain ⟨v, ps, hrun, hv⟩ := h1.lookup iLaw ht (zero_int u) (zd := .lit (.int .i64 0)) (zp := []) rfl (ikey_mk hk)
  obtain ⟨g, rfl, hq⟩ := intE_inv hv
  have hz2 : D.atKey (.int .i64 k) (.lit (.int .i64 0)) = .lit (.int .i64 g) := congrArg Prod.fst hq
  rw [h3 k hk] at hz2
  have e : (G k).getD 0 = g := by
    cases hG : G k with
    | none => rw [hG] at hz2; simp [intD] at hz2; exact hz2
    | some y => rw [hG] at hz2; simp [intD] at hz2; exact hz2
  rw [e]
  exact hrun
/-- What a store lays at a number. -/
def putI2 (G : Int → Option Int) (k : Int) (o : Option Int) : Int → Option Int := fun x => if x = k then o else G x
/-- 'm[k] = v'. -/
theorem OMap.store {u : World} {m c : Nat} {G : Int → Option Int} (h : OMap u m c G) (hc : c ≤ 1000000) {t : TypeId} (ht : Tryz.prog.underlying t = some (.map 2 3)) {k : Int} (hk : I64 k) (g : Int) :
    ∃ u', (Instr.mapUpdate t (.map (some m)) (.int .i64 k) (.int .i64 g)).run Tryz.prog u = .ok () u' ∧ OMap u' m (if (G k).isSome then c else c + 1) (putI2 G k (some g)) ∧ u.mapTurned u' m := by
  obtain ⟨D, h1, h2, h3⟩ := h
  obtain ⟨u', hrun, h4, h5⟩ := h1.store iLaw ht (by unfold maxLen; omega) (ikey_mk hk) (val := .int .i64 g) (d := .lit (.int .i64 g)) (ps := []) rfl
  have hh : Maps.has D (.int .i64 k) = (G k).isSome := by
    cases hG : G k with
    | none => exact Maps.has_false_of_atKey (fun z => by rw [h3 k hk, hG]; rfl)
    | some y => exact Maps.has_true_of_atKey (fun z => by rw [h3 k hk, hG]; rfl)
  have hs : Maps.size (D.put (.int .i64 k) (.lit (.int .i64 g))) ≤ if (G k).isSome then c else c + 1 := by
    rw [Maps.size_put (h1.tidy iLaw), hh]
    split <;> omega
  refine ⟨u', hrun, ⟨_, (iowns_size h4).mono hs, hs, fun x hx z => ?_⟩, h5⟩
  by_cases e : x = k
  · subst e; rw [Maps.atKey_put_same h1.isMap (ilit_key x)]; unfold putI2; rw [if_pos rfl]; rfl
  · rw [Maps.atKey_put_other (fun e' => e (by injection e'))]; unfold putI2; rw [if_neg e]; exact h3 x hx z
theorem wpList_store_ints {w : World} {ops : Array Oper} {rest : List Oper} {o : Oper} {a : Act} {Q : Exit → Act → World → Prop} (hg : o.guard = none) (m x v : Operand) (t : TypeId) (hop : o.op = Op.mapUpdate t m x v)
    (ht : Tryz.prog.underlying t = some (.map 2 3)) (b c : Nat) (G : Int → Option Int) (hm : a.eval m = .map (some b)) (h : OMap w b c G) (hc : c ≤ 1000000) (k : Int) (hx : a.eval x = .int .i64 k) (hk : I64 k) (g : Int) (hv : a.eval v = .int .i64 g)
    (hK : ∀ w', OMap w' b (if (G k).isSome then c else c + 1) (putI2 G k (some g)) → w.mapTurned w' b → wpList Tryz.prog ops Q rest (a.put o.dst undef) w') : wpList Tryz.prog ops Q (o :: rest) a w := by
  refine wpList_plain hg fun K' hK' => ?_
  obtain ⟨w', hrun, r1, r2⟩ := h.store hc ht hk g
  unfold Oper.wp
  simp only [execOp, hop, hm, hx, hv, Sem.run_bind, hrun, Result.andThen]
  exact hK' _ _ (hK w' r1 r2)
end Go.Proofs.YtileidbdmpeciaaGreat

namespace Go.Proofs.YtileidbdmpeciaaGreat
set_option linter.unusedVariables false

/-- A key's sixteen bytes. -/
structure Ky (k : List Int) : Prop where
  len : k.length = 16
  bytes : ∀ z ∈ k, 0 ≤ z ∧ z ≤ 255
/-- How two rows of numbers lie, the first that differ deciding. -/
def lexC : List Int → List Int → Int
  | [], [] => 0
  | [], _ :: _ => -1
  | _ :: _, [] => 1
  | a :: r, b :: s => if a < b then -1 else if b < a then 1 else lexC r s
theorem lexC_self : ∀ a, lexC a a = 0
  | [] => rfl
  | a :: r => by unfold lexC; rw [if_neg (by omega), if_neg (by omega)]; exact lexC_self r
theorem lexC_eq : ∀ {a b : List Int}, lexC a b = 0 → a = b
  | [], [], _ => rfl
  | [], _ :: _, h => by simp [lexC] at h
  | _ :: _, [], h => by simp [lexC] at h
  | a :: r, b :: s, h => by
    unfold lexC at h
    split at h
    · simp at h
    · split at h
      · simp at h
      · rw [show a = b by omega, lexC_eq h]
theorem lexC_ways : ∀ a b : List Int, lexC a b = -1 ∨ lexC a b = 0 ∨ lexC a b = 1
  | [], [] => .inr (.inl rfl)
  | [], _ :: _ => .inl rfl
  | _ :: _, [] => .inr (.inr rfl)
  | a :: r, b :: s => by
    unfold lexC
    split
    · exact .inl rfl
    · split
      · exact .inr (.inr rfl)
      · exact lexC_ways r s
theorem lexC_swap : ∀ a b : List Int, lexC b a = -lexC a b
  | [], [] => rfl
  | [], _ :: _ => rfl
  | _ :: _, [] => rfl
  | a :: r, b :: s => by
    unfold lexC
    by_cases h1 : a < b
    · rw [if_pos h1, if_neg (by omega), if_pos h1]; rfl
    · by_cases h2 : b < a
      · rw [if_pos h2, if_neg h1, if_pos h2]
      · rw [if_neg h1, if_neg h2, if_neg h2, if_neg h1]; exact lexC_swap r s
theorem lexC_trans : ∀ {a b c : List Int}, lexC a b = -1 → lexC b c = -1 → lexC a c = -1
  | [], [], _, h, _ => by simp [lexC] at h
  | [], _ :: _, [], _, h => by simp [lexC] at h
  | [], _ :: _, _ :: _, _, _ => rfl
  | _ :: _, [], _, h, _ => by simp [lexC] at h
  | _ :: _, _ :: _, [], _, h => by simp [lexC] at h
  | a :: r, b :: s, c :: t, h1, h2 => by
    unfold lexC at h1 h2 ⊢
    by_cases x1 : a < b
    · by_cases x2 : b < c
      · rw [if_pos (by omega)]
      · rw [if_neg x2] at h2
        by_cases x3 : c < b
        · rw [if_pos x3] at h2; simp at h2
        · rw [if_pos (by omega)]
    · rw [if_neg x1] at h1
      by_cases y1 : b < a
      · rw [if_pos y1] at h1; simp at h1
      · rw [if_neg y1] at h1
        have e : a = b := by omega
        subst e
        by_cases x2 : a < c
        · rw [if_pos x2]
        · rw [if_neg x2] at h2 ⊢
          by_cases x3 : c < a
          · rw [if_pos x3] at h2; simp at h2
          · rw [if_neg x3] at h2 ⊢; exact lexC_trans h1 h2
/-- Alike up to place k, and less, or more, there. -/
theorem lexC_less : ∀ {a b : List Int} (k : Nat), a.take k = b.take k → k < a.length → k < b.length → a.getD k 0 < b.getD k 0 → lexC a b = -1
  | [], _, k, _, h, _, _ => by simp at h
  | _ :: _, [], k, _, _, h, _ => by simp at h
  | a :: r, b :: s, 0, _, _, _, h => by unfold lexC; rw [if_pos (by simpa using h)]
  | a :: r, b :: s, k + 1, ht, h1, h2, h => by
    simp at ht h1 h2
    obtain ⟨e, ht⟩ := ht
    subst e
    unfold lexC
    rw [if_neg (by omega), if_neg (by omega)]
    exact lexC_less k ht h1 h2 (by simpa using h)
theorem lexC_more {a b : List Int} (k : Nat) (ht : a.take k = b.take k) (h1 : k < a.length) (h2 : k < b.length) (h : b.getD k 0 < a.getD k 0) : lexC a b = 1 := by
  rw [lexC_swap b a, lexC_less k ht.symm h2 h1 h]; rfl
theorem take_next {a b : List Int} {k : Nat} (h : a.take k = b.take k) (ha : k < a.length) (hb : k < b.length) (he : a.getD k 0 = b.getD k 0) : a.take (k + 1) = b.take (k + 1) := by
  rw [List.take_succ_eq_append_getElem ha, List.take_succ_eq_append_getElem hb, h]
  have e1 : a.getD k 0 = a[k] := by simp [List.getD, ha]
  have e2 : b.getD k 0 = b[k] := by simp [List.getD, hb]
  rw [e1, e2] at he
  rw [he]
/-- A key's text: what stands ahead of its first 0. -/
def txK (k : List Int) : List Int := k.takeWhile fun z => z != 0
/-- May a key be? -/
def goodK (k : List Int) : Bool := decide (k.getD 0 0 ≠ 0 ∧ ∀ z ∈ k.drop (txK k).length, z = 0)
/-- May a text be a key's? -/
def mayK (s : List Int) : Bool := decide (1 ≤ s.length ∧ s.length ≤ 16 ∧ ∀ z ∈ s, z ≠ 0)
/-- A text's key. -/
def keyK (s : List Int) : List Int := s ++ List.replicate (16 - s.length) 0
def zeroK : List Int := List.replicate 16 0
/-- What Of answers. -/
def ofK (s : List Int) : List Int := if mayK s then keyK s else zeroK
theorem zeroK_ky : Ky zeroK := ⟨by decide, by decide⟩
theorem keyK_ky {s : List Int} (h : s.length ≤ 16) (hb : ∀ z ∈ s, 0 ≤ z ∧ z ≤ 255) : Ky (keyK s) := by
  refine ⟨by simp [keyK]; omega, fun z hz => ?_⟩
  rcases List.mem_append.1 hz with hz | hz
  · exact hb z hz
  · rw [List.eq_of_mem_replicate hz]; omega
theorem ofK_ky {s : List Int} (hb : ∀ z ∈ s, 0 ≤ z ∧ z ≤ 255) : Ky (ofK s) := by
  unfold ofK
  split
  · next h => exact keyK_ky (of_decide_eq_true h).2.1 hb
  · exact zeroK_ky
theorem txK_none (k : List Int) : ∀ z ∈ txK k, z ≠ 0 := by
  intro z hz
  have : (k.takeWhile fun z => z != 0).all (fun z => z != 0) = true := by
    have h : ∀ l : List Int, (l.takeWhile fun z => z != 0).all (fun z => z != 0) = true := by
      intro l
      induction l with
      | nil => rfl
      | cons a r ih => rw [List.takeWhile_cons]; split <;> simp_all
    exact h k
  simpa using List.all_eq_true.1 this z hz
theorem txK_le (k : List Int) : (txK k).length ≤ k.length := (List.takeWhile_sublist _).length_le
theorem txK_split (k : List Int) : k = txK k ++ k.drop (txK k).length := by
  have h : ∀ l : List Int, l = (l.takeWhile fun z => z != 0) ++ l.drop (l.takeWhile fun z => z != 0).length := by
    intro l
    induction l with
    | nil => rfl
    | cons a r ih =>
      rw [List.takeWhile_cons]
      split
      · rw [List.length_cons, List.drop_succ_cons, List.cons_append, ← ih]
      · rfl
  exact h k
/-- Is a key between two? -/
def withinK (k a b : List Int) : Bool := decide (0 ≤ lexC k a) && (decide (b = zeroK) || decide (lexC k b < 0))
theorem lex_le_trans {a b c : List Int} (h1 : lexC a b ≤ 0) (h2 : lexC b c ≤ 0) : lexC a c ≤ 0 := by
  rcases lexC_ways a b with x | x | x
  · rcases lexC_ways b c with y | y | y
    · rw [lexC_trans x y]; omega
    · rw [← lexC_eq y, x]; omega
    · omega
  · rw [lexC_eq x]; exact h2
  · omega
theorem lex_lt_le {a b c : List Int} (h1 : lexC a b < 0) (h2 : lexC b c ≤ 0) : lexC a c < 0 := by
  rcases lexC_ways a b with x | x | x
  · rcases lexC_ways b c with y | y | y
    · rw [lexC_trans x y]; omega
    · rw [← lexC_eq y, x]; omega
    · omega
  · omega
  · omega
/-- A key laid in its place, once. -/
def insK (x : List Int) : List (List Int) → List (List Int)
  | [] => [x]
  | a :: r => if lexC a x < 0 then a :: insK x r else if a = x then a :: r else x :: a :: r
def sortK (l : List (List Int)) : List (List Int) := l.foldl (fun s x => insK x s) []
theorem sortK_snoc (l : List (List Int)) (x : List Int) : sortK (l ++ [x]) = insK x (sortK l) := by simp [sortK, List.foldl_append]
/-- Rising, each once. -/
def Rising : List (List Int) → Prop
  | [] => True
  | [_] => True
  | a :: b :: r => lexC a b < 0 ∧ Rising (b :: r)
theorem Rising.tail {a : List Int} {r : List (List Int)} (h : Rising (a :: r)) : Rising r := by
  cases r with
  | nil => trivial
  | cons b r => exact h.2
theorem Rising.head {a : List Int} : ∀ {r : List (List Int)}, Rising (a :: r) → ∀ y ∈ r, lexC a y < 0
  | [], _, y, hy => by simp at hy
  | b :: r, h, y, hy => by
    rcases List.mem_cons.1 hy with rfl | hy
    · exact h.1
    · exact lex_lt_le h.1 (Int.le_of_lt (Rising.head h.2 y hy))
theorem rising_cons {a : List Int} {r : List (List Int)} (h : ∀ y ∈ r, lexC a y < 0) (hr : Rising r) : Rising (a :: r) := by
  cases r with
  | nil => trivial
  | cons b r => exact ⟨h b (by simp), hr⟩
theorem mem_insK (x : List Int) : ∀ (s : List (List Int)) (y : List Int), y ∈ insK x s ↔ y = x ∨ y ∈ s
  | [], y => by simp [insK]
  | a :: r, y => by
    unfold insK
    split
    · simp [mem_insK x r y]
      constructor
      · rintro (h | h | h) <;> simp [h]
      · rintro (h | h | h) <;> simp [h]
    · split
      · next h => subst h; simp
      · simp
theorem insK_rising (x : List Int) : ∀ {s : List (List Int)}, Rising s → Rising (insK x s)
  | [], _ => trivial
  | a :: r, h => by
    unfold insK
    split
    · next h1 =>
      refine rising_cons (fun y hy => ?_) (insK_rising x h.tail)
      rcases (mem_insK x r y).1 hy with rfl | hy
      · exact h1
      · exact h.head y hy
    · next h1 =>
      split
      · exact h
      · next h2 =>
        have hx : lexC x a < 0 := by
          have := lexC_swap a x
          rcases lexC_ways a x with e | e | e
          · omega
          · exact absurd (lexC_eq e) h2
          · omega
        exact ⟨hx, h⟩
theorem insK_length (x : List Int) : ∀ s : List (List Int), (insK x s).length ≤ s.length + 1
  | [] => by simp [insK]
  | a :: r => by
    unfold insK
    have := insK_length x r
    split
    · simp; omega
    · split <;> simp
theorem snoc_ind {α : Type} {P : List α → Prop} (h0 : P []) (h1 : ∀ l x, P l → P (l ++ [x])) (l : List α) : P l := by
  have h : ∀ r : List α, P r.reverse := fun r => by
    induction r with
    | nil => exact h0
    | cons a r ih => rw [List.reverse_cons]; exact h1 _ _ ih
  have := h l.reverse
  rwa [List.reverse_reverse] at this
theorem sortK_facts (l : List (List Int)) : Rising (sortK l) ∧ (∀ y, y ∈ sortK l ↔ y ∈ l) ∧ (sortK l).length ≤ l.length := by
  induction l using snoc_ind with
  | h0 => exact ⟨trivial, by simp [sortK], by simp [sortK]⟩
  | h1 l x ih =>
    rw [sortK_snoc]
    refine ⟨insK_rising x ih.1, fun y => ?_, ?_⟩
    · rw [mem_insK, ih.2.1 y]; simp; exact or_comm
    · have := insK_length x (sortK l); simp; omega
theorem insK_last (x : List Int) : ∀ {s : List (List Int)}, (∀ y ∈ s, lexC y x < 0) → insK x s = s ++ [x]
  | [], _ => rfl
  | a :: r, h => by
    unfold insK
    rw [if_pos (h a (by simp)), insK_last x (fun y hy => h y (by simp [hy]))]
    rfl
theorem rising_last {s : List (List Int)} {x : List Int} (h : Rising (s ++ [x])) : Rising s ∧ ∀ y ∈ s, lexC y x < 0 := by
  induction s with
  | nil => exact ⟨trivial, by simp⟩
  | cons a r ih =>
    obtain ⟨i1, i2⟩ := ih (Rising.tail h)
    refine ⟨rising_cons (fun y hy => Rising.head h y (by simp [hy])) i1, fun y hy => ?_⟩
    rcases List.mem_cons.1 hy with rfl | hy
    · exact Rising.head h x (by simp)
    · exact i2 y hy
theorem sortK_same {s : List (List Int)} (h : Rising s) : sortK s = s := by
  induction s using snoc_ind with
  | h0 => rfl
  | h1 s x ih =>
    obtain ⟨h1, h2⟩ := rising_last h
    rw [sortK_snoc, ih h1, insK_last x h2]
theorem insK_split (x : List Int) : ∀ (s : List (List Int)) (k : Nat), k ≤ s.length → (∀ j, j < k → lexC (s.getD j []) x < 0) → (k < s.length → ¬ lexC (s.getD k []) x < 0 ∧ ¬ s.getD k [] = x) → insK x s = s.take k ++ x :: s.drop k
  | [], k, hk, _, _ => by simp at hk; subst hk; rfl
  | a :: r, 0, _, _, h => by
    obtain ⟨h1, h2⟩ := h (by simp)
    unfold insK
    rw [if_neg (by simpa using h1), if_neg (by simpa using h2)]
    rfl
  | a :: r, k + 1, hk, h1, h2 => by
    have h0 := h1 0 (by omega)
    unfold insK
    rw [if_pos (by simpa using h0)]
    rw [insK_split x r k (by simpa using hk) (fun j hj => by simpa using h1 (j + 1) (by omega)) (fun hlt => by simpa using h2 (by simp; omega))]
    rfl
theorem insK_there (x : List Int) : ∀ (s : List (List Int)) (k : Nat), k < s.length → (∀ j, j < k → lexC (s.getD j []) x < 0) → s.getD k [] = x → insK x s = s
  | [], k, hk, _, _ => by simp at hk
  | a :: r, 0, _, _, h => by
    have e : a = x := by simpa using h
    subst e
    unfold insK
    rw [lexC_self, if_neg (by omega), if_pos rfl]
  | a :: r, k + 1, hk, h1, h2 => by
    have h0 := h1 0 (by omega)
    unfold insK
    rw [if_pos (by simpa using h0)]
    rw [insK_there x r k (by simpa using hk) (fun j hj => by simpa using h1 (j + 1) (by omega)) (by simpa using h2)]
theorem sortK_take (l : List (List Int)) (i : Nat) (h : i < l.length) : sortK (l.take (i + 1)) = insK (l.getD i []) (sortK (l.take i)) := by
  have e : l.take (i + 1) = l.take i ++ [l.getD i []] := by
    rw [List.take_add_one]
    simp [List.getD, h]
  rw [e, sortK_snoc]
end Go.Proofs.YtileidbdmpeciaaGreat

namespace Go.Proofs.YtileidbdmpeciaaGreat
set_option linter.unusedVariables false

/-- A long year. -/
def lp (y : Int) : Bool := y % 4 == 0 && (y % 100 != 0 || y % 400 == 0)
/-- A month's days. -/
def ml (y m : Int) : Int := if m = 2 then (if lp y = true then 29 else 28) else if m = 4 ∨ m = 6 ∨ m = 9 ∨ m = 11 then 30 else if 1 ≤ m ∧ m ≤ 12 then 31 else 0
theorem ml_none {y m : Int} (h : m < 1 ∨ 12 < m) : ml y m = 0 := by
  unfold ml
  rw [if_neg (by omega), if_neg (by omega), if_neg (by omega)]
theorem ml_pos {y m : Int} (h1 : 1 ≤ m) (h2 : m ≤ 12) : 28 ≤ ml y m ∧ ml y m ≤ 31 := by
  unfold ml
  split
  · split <;> omega
  · split
    · omega
    · rw [if_pos ⟨h1, h2⟩]; omega
theorem ml_le (y m : Int) : 0 ≤ ml y m ∧ ml y m ≤ 31 := by
  by_cases h : 1 ≤ m ∧ m ≤ 12
  · have := ml_pos (y := y) h.1 h.2; omega
  · rw [ml_none (by omega)]; omega
theorem ml_month {y m : Int} (h : 1 ≤ ml y m) : 1 ≤ m ∧ m ≤ 12 := by
  apply Classical.byContradiction
  intro hn
  rw [ml_none (by omega)] at h
  omega
/-- A date. -/
abbrev Gd (y m d : Int) : Prop := -9999 ≤ y ∧ y ≤ 9999 ∧ 1 ≤ d ∧ d ≤ ml y m
theorem Gd.month {y m d : Int} (h : Gd y m d) : 1 ≤ m ∧ m ≤ 12 := ml_month (y := y) (by have := h.2.2; omega)
theorem Gd.day {y m d : Int} (h : Gd y m d) : 1 ≤ d ∧ d ≤ 31 := by have := ml_le y m; have := h.2.2; omega

/-- The days of a year ahead of a month. -/
def md (y m : Int) : Int := (367 * m - 362) / 12 - (if m ≤ 2 then 0 else if lp y = true then 1 else 2)
end Go.Proofs.YtileidbdmpeciaaGreat

namespace Go.Proofs.YtileidbdmpeciaaGreat
set_option linter.unusedVariables false

/-- So many digits of a number. -/
def pd : Nat → Int → List Int
  | 0, _ => []
  | k + 1, n => pd k (n / 10) ++ [48 + n % 10]
/-- The year's digits. -/
def ab (y : Int) : Int := if y < 0 then -y else y
/-- What stands behind the sign. -/
def body (y m d : Int) : List Int := pd 4 (ab y) ++ (45 :: (pd 2 m ++ (45 :: pd 2 d)))
theorem Gd.ab {y m d : Int} (h : Gd y m d) : 0 ≤ ab y ∧ ab y ≤ 9999 := by
  have := h.1; have := h.2.1
  unfold Go.Proofs.YtileidbdmpeciaaGreat.ab; split <;> omega
def rest (xs : List Int) : List Int := if xs.head? = some 45 then xs.tail else xs
end Go.Proofs.YtileidbdmpeciaaGreat

namespace Go.Proofs.YtileidbdmpeciaaGreat
open Go.RowKit
set_option linter.unusedVariables false

theorem byte_at {zs : List Int} (h : ∀ z ∈ zs, 0 ≤ z ∧ z ≤ 255) (k : Nat) : 0 ≤ zs[k]?.getD 0 ∧ zs[k]?.getD 0 ≤ 255 := by
  by_cases hk : k < zs.length
  · have := h zs[k] (List.getElem_mem hk); simpa [hk] using this
  · have : zs[k]? = none := by simp; omega
    simp [this]
theorem below_dN {B : Nat} {a w : World} (h : Below B a w) (n : Nat) : Below B a (w.drewN n) := ⟨h.os, h.tape, h.output, h.size, h.block⟩
/-- A date's cells, in a block of its own. -/
structure DateAt (w : World) (g : Nat) (y m d : Int) : Prop where
  c0 : w.cell? ⟨g, 0, none⟩ = some (.int .i64 y)
  c1 : w.cell? ⟨g, 1, none⟩ = some (.int .i64 m)
  c2 : w.cell? ⟨g, 2, none⟩ = some (.int .i64 d)
theorem DateAt.made (w : World) (t : TypeId) (y m d : Int) : DateAt (w.alloc (.cells #[.int .i64 y, .int .i64 m, .int .i64 d] t)) w.heap.size y m d :=
  ⟨by rw [World.cell?_alloc_new]; rfl, by rw [World.cell?_alloc_new]; rfl, by rw [World.cell?_alloc_new]; rfl⟩
theorem DateAt.below {w w' : World} {g B : Nat} {y m d : Int} (h : DateAt w g y m d) (hb : Below B w w') (hg : g < B) : DateAt w' g y m d :=
  ⟨by rw [hb.cell (p := ⟨g, 0, none⟩) hg]; exact h.c0, by rw [hb.cell (p := ⟨g, 1, none⟩) hg]; exact h.c1, by rw [hb.cell (p := ⟨g, 2, none⟩) hg]; exact h.c2⟩

theorem nums_at (xs : List Int) (hb : ∀ z ∈ xs, 0 ≤ z ∧ z ≤ 255) (k : Nat) (h : k < (strOfNums xs).size) : (((strOfNums xs)[k]'h).toNat : Int) = xs[k]?.getD 0 := by
  have hk : k < xs.length := by rw [strOfNums_size] at h; exact h
  have e : (strOfNums xs)[k]'h = UInt8.ofNat (xs[k]).toNat := by simp [strOfNums, ByteArray.getElem_eq_getElem_data]
  have hx := hb xs[k] (List.getElem_mem hk)
  rw [e]
  simp [hk]
  omega
end Go.Proofs.YtileidbdmpeciaaGreat

namespace Go.Proofs.YtileidbdmpeciaaGreat
open Go.RowKit
set_option linter.unusedVariables false

/-- May a stamp of this time be? -/
abbrev okS (t : Int) : Prop := 0 ≤ t ∧ t ≤ 36028797018963967
/-- One stamp ahead of another. -/
abbrev ltS (t n t' n' : Int) : Prop := t < t' ∨ t = t' ∧ n < n'
/-- How two stamps lie. -/
def cmpS (t n t' n' : Int) : Int := if ltS t n t' n' then -1 else if t = t' ∧ n = n' then 0 else 1
theorem cmp_lt {t n t' n' : Int} (h : ltS t n t' n') : cmpS t n t' n' = -1 := if_pos h
theorem cmp_eq (t n : Int) : cmpS t n t n = 0 := by
  unfold cmpS
  rw [if_neg (by unfold ltS; omega), if_pos ⟨rfl, rfl⟩]
theorem cmp_gt {t n t' n' : Int} (h : ltS t' n' t n) : cmpS t n t' n' = 1 := by
  unfold cmpS
  rw [if_neg (by unfold ltS at *; omega), if_neg (by unfold ltS at h; omega)]
theorem cmp_ways (t n t' n' : Int) : (ltS t n t' n' ∧ cmpS t n t' n' = -1 ∧ cmpS t' n' t n = 1) ∨ (t = t' ∧ n = n' ∧ cmpS t n t' n' = 0 ∧ cmpS t' n' t n = 0) ∨ (ltS t' n' t n ∧ cmpS t n t' n' = 1 ∧ cmpS t' n' t n = -1) := by
  by_cases h1 : ltS t n t' n'
  · exact .inl ⟨h1, cmp_lt h1, cmp_gt h1⟩
  · by_cases h2 : ltS t' n' t n
    · exact .inr (.inr ⟨h2, cmp_gt h2, cmp_lt h2⟩)
    · unfold ltS at h1 h2
      have e1 : t = t' := by omega
      have e2 : n = n' := by omega
      subst e1; subst e2
      exact .inr (.inl ⟨rfl, rfl, cmp_eq _ _, cmp_eq _ _⟩)
end Go.Proofs.YtileidbdmpeciaaGreat

namespace Go.Proofs.YtileidbdmpeciaaGreat
open Go.RowKit
set_option linter.unusedVariables false

/-- A version: its key, its stamp (time, node), its value, whether it is gone. -/
structure Ver where
  k : List Int
  t : Int
  n : Int
  v : List Int
  g : Bool
/-- What a version is made of. -/
structure VerOk (V : Ver) : Prop where
  key : Ky V.k
  t0 : -9223372036854775808 ≤ V.t
  t1 : V.t ≤ 9223372036854775807
  n0 : 0 ≤ V.n
  n1 : V.n ≤ 255
  val : ∀ z ∈ V.v, 0 ≤ z ∧ z ≤ 255
  few : V.v.length ≤ 1000000
def mayV (V : Ver) : Bool := decide (okS V.t) && decide (V.v.length ≤ 200) && (!V.g || decide (V.v = []))
/-- Where a key's versions begin, and how many there are. -/
def kFrom (L : List Ver) (k : List Int) : Nat := (L.takeWhile (fun V => decide (lexC V.k k < 0))).length
def kMany (L : List Ver) (k : List Int) : Nat := ((L.drop (kFrom L k)).takeWhile (fun V => decide (V.k = k))).length
def chainV (L : List Ver) (k : List Int) : List Ver := (L.drop (kFrom L k)).take (kMany L k)
/-- How many of its key's are below its stamp; is there one at its stamp? -/
def putR (L : List Ver) (V : Ver) : Nat := ((chainV L V.k).takeWhile (fun X => decide (cmpS X.t X.n V.t V.n < 0))).length
def clashV (L : List Ver) (V : Ver) : Bool := match (chainV L V.k)[putR L V]? with
  | none => false
  | some X => decide (X.t = V.t ∧ X.n = V.n)
def putAt (L : List Ver) (V : Ver) : Nat := kFrom L V.k + putR L V
def putV (L : List Ver) (V : Ver) : Int × List Ver :=
  if mayV V = false then (1, L) else
  if clashV L V = true then (5, L) else
  if 50 ≤ kMany L V.k then (6, L) else (0, L.take (putAt L V) ++ V :: L.drop (putAt L V))
/-- The last one of a key not above a stamp. -/
def atV (L : List Ver) (k : List Int) (t n : Int) : Option Ver := (chainV L k).reverse.find? (fun X => decide (cmpS X.t X.n t n ≤ 0))
def newestV (L : List Ver) (k : List Int) : Option Ver := (chainV L k).getLast?
def goesV (L : List Ver) (t n : Int) (V : Ver) : Bool := match atV L V.k t n with
  | none => false
  | some X => decide (cmpS V.t V.n X.t X.n < 0) || (decide (cmpS V.t V.n X.t X.n = 0) && X.g)
def restV (L : List Ver) (t n : Int) : List Ver := L.filter (fun V => !goesV L t n V)
theorem tw_len {α : Type} {p : α → Bool} : ∀ {L : List α} {i : Nat}, i ≤ L.length → (∀ j V, j < i → L[j]? = some V → p V = true) → (i = L.length ∨ ∃ V, L[i]? = some V ∧ p V = false) → (L.takeWhile p).length = i
  | [], i, hi, h, hx => by simp at hi; subst hi; rfl
  | X :: R, 0, hi, h, hx => by
    rcases hx with hx | ⟨V, hV, hp⟩
    · simp at hx
    · simp at hV
      subst hV
      simp [List.takeWhile, hp]
  | X :: R, i + 1, hi, h, hx => by
    have hX : p X = true := h 0 X (Nat.succ_pos _) rfl
    have := tw_len (L := R) (i := i) (p := p) (by simp at hi; exact hi) (fun j V hj hV => h (j + 1) V (by omega) (by simpa using hV)) (by
      rcases hx with hx | ⟨V, hV, hp⟩
      · left; simp at hx; exact hx
      · right; exact ⟨V, by simpa using hV, hp⟩)
    simp [List.takeWhile, hX, this]
theorem kFrom_le (L : List Ver) (k : List Int) : kFrom L k ≤ L.length := List.Sublist.length_le (List.takeWhile_sublist _)
theorem kMany_le (L : List Ver) (k : List Int) : kFrom L k + kMany L k ≤ L.length := by
  have h : kMany L k ≤ (L.drop (kFrom L k)).length := List.Sublist.length_le (List.takeWhile_sublist _)
  rw [List.length_drop] at h
  have := kFrom_le L k
  omega
theorem chain_len (L : List Ver) (k : List Int) : (chainV L k).length = kMany L k := by
  have := kMany_le L k
  unfold chainV
  rw [List.length_take, List.length_drop]
  omega
theorem chain_at (L : List Ver) (k : List Int) (j : Nat) (h : j < kMany L k) : (chainV L k)[j]? = L[kFrom L k + j]? := by
  unfold chainV
  rw [List.getElem?_take_of_lt h, List.getElem?_drop]
theorem kFrom_is {L : List Ver} {k : List Int} {i : Nat} (hi : i ≤ L.length) (h : ∀ j V, j < i → L[j]? = some V → lexC V.k k < 0) (hx : i = L.length ∨ ∃ V, L[i]? = some V ∧ ¬ lexC V.k k < 0) : kFrom L k = i :=
  tw_len hi (fun j V hj hV => decide_eq_true (h j V hj hV)) (hx.imp id (fun ⟨V, hV, hp⟩ => ⟨V, hV, decide_eq_false hp⟩))
theorem kMany_is {L : List Ver} {k : List Int} {m : Nat} (hm : kFrom L k + m ≤ L.length) (h : ∀ j V, j < m → L[kFrom L k + j]? = some V → V.k = k) (hx : kFrom L k + m = L.length ∨ ∃ V, L[kFrom L k + m]? = some V ∧ V.k ≠ k) : kMany L k = m :=
  tw_len (by rw [List.length_drop]; omega) (fun j V hj hV => decide_eq_true (h j V hj (by rw [List.getElem?_drop] at hV; exact hV))) (by
    rcases hx with hx | ⟨V, hV, hp⟩
    · left; rw [List.length_drop]; omega
    · right; exact ⟨V, by rw [List.getElem?_drop]; exact hV, decide_eq_false hp⟩)
theorem putR_is {L : List Ver} {V : Ver} {r : Nat} (hr : r ≤ kMany L V.k) (h : ∀ j X, j < r → L[kFrom L V.k + j]? = some X → cmpS X.t X.n V.t V.n < 0) (hx : r = kMany L V.k ∨ ∃ X, L[kFrom L V.k + r]? = some X ∧ r < kMany L V.k ∧ ¬ cmpS X.t X.n V.t V.n < 0) : putR L V = r := by
  have hl := chain_len L V.k
  refine tw_len (by rw [hl]; exact hr) (fun j X hj hX => ?_) ?_
  · rw [chain_at L V.k j (by omega)] at hX
    exact decide_eq_true (h j X hj hX)
  · rcases hx with hx | ⟨X, hX, hlt, hp⟩
    · left; rw [hl]; exact hx
    · right
      exact ⟨X, by rw [chain_at L V.k r hlt]; exact hX, decide_eq_false hp⟩
end Go.Proofs.YtileidbdmpeciaaGreat

