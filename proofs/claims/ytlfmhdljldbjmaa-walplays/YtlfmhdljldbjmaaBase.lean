/-
  Things that live on in memory: which blocks are theirs, what a call that works on one of them leaves of the others. No function of the program is named here.
  Maps from texts to pointers at whole blocks: what a look-up, a store, a delete and a range over one of them give. No function of the program is named here.
  Lists of bytes that lie somewhere, and lists of the call's own: what later layers' walks lean on. No function of the program is named here.
  Plain facts on the sum of chapter 2, bit by bit: it goes on over parts, it is even over exclusive or, and bytes that differ within four side by side have unlike sums. No program is named here.
  What divide, Add and Of of package crc answer, at every list of bytes.
  Plain facts on chapter 3's frames: a frame's bytes, the record that a list of bytes begins with, all of them; frames behind frames; a torn end.
  Plain facts on chapters 8 and 9: disks as lists of files, logs as lists of records. No program is named here.
  Plain facts on chapter 4's calendar: long years, months' lengths, a date's day; days are in the order of their dates.
  Plain facts on chapter 4's texts: a date's bytes, their order, and back.
  What layer 4's walks lean on besides: a date's cells, Go's own division, bytes of a text. No function of the program is named here.
  Lists of lists of bytes, and arrays of integers, that came in: what the walk is told of them. No function of the program is named here.
-/
import Derived.Test.YtlfmhdljldbjmaaProg
import Derived.Below
import Derived.WalkKit
import Derived.Maps.RangeWalk
import Derived.WalkSpells
import Derived.WalkLawsBesides
import Derived.Laws.CopyOwn
import Derived.Laws.MakeOwn
import Derived.Laws.BytesArg
import Derived.OpenShut
import Derived.Laws.AppendOwnNone
import Derived.Laws.BitsAllLaws
import Derived.Deep.QuietTactic
import Derived.BigQuiet
import Derived.Handy
import Derived.ProofKit
import Derived.Deep.Matrix
import Derived.ChangeKeysEq
namespace Go.Proofs.Ytlfmhdljldbjmaa
open Go.RowKit
set_option linter.unusedVariables false

/-- Some blocks. -/
abbrev Foot := Nat → Prop
/-- A world that has come of another: of what was there, the blocks of X alone may have turned. -/
structure Chg (u u' : World) (X : Foot) : Prop where
  os : u'.os = u.os
  tape : u'.tape = u.tape
  output : u'.output = u.output
  size : u.heap.size ≤ u'.heap.size
  block : ∀ k, k < u.heap.size → ¬ X k → u'.heap[k]? = u.heap[k]?
theorem Chg.refl (u : World) (X : Foot) : Chg u u X := ⟨rfl, rfl, rfl, Nat.le_refl _, fun _ _ _ => rfl⟩
theorem Chg.mono {u u' : World} {X Y : Foot} (h : Chg u u' X) (hXY : ∀ k, k < u.heap.size → X k → Y k) : Chg u u' Y := ⟨h.os, h.tape, h.output, h.size, fun k hk hn => h.block k hk (fun hx => hn (hXY k hk hx))⟩
theorem Chg.trans {u u' u'' : World} {X Y : Foot} (h : Chg u u' X) (k : Chg u' u'' Y) (hY : ∀ j, j < u.heap.size → Y j → X j) : Chg u u'' X :=
  ⟨k.os.trans h.os, k.tape.trans h.tape, k.output.trans h.output, Nat.le_trans h.size k.size, fun j hj hn => (k.block j (Nat.lt_of_lt_of_le hj h.size) (fun hy => hn (hY j hj hy))).trans (h.block j hj hn)⟩
theorem Chg.of_below {u u' : World} (h : Below u.heap.size u u') (X : Foot) : Chg u u' X := ⟨h.os, h.tape, h.output, h.size, fun k hk _ => h.block k hk⟩
theorem Chg.of_grown {u u' : World} {row : Option Nat} (h : u.grownBy u' row) {X : Foot} (hX : ∀ k, row = some k → X k) : Chg u u' X :=
  ⟨h.os, h.tape, h.output, h.size, fun k hk hn => h.block k hk (fun e => hn (hX k e.symm))⟩
theorem Chg.below {u u' : World} {X : Foot} (h : Chg u u' X) {B : Nat} (hB : B ≤ u.heap.size) (hX : ∀ k, X k → B ≤ k) : Below B u u' :=
  ⟨h.os, h.tape, h.output, h.size, fun k hk => h.block k (by omega) (fun hx => by have := hX k hx; omega)⟩
theorem Chg.set (u : World) (a : Addr) (v : Value) {X : Foot} (h : X a.block) : Chg u (u.setCell a v) X :=
  ⟨rfl, rfl, rfl, by rw [World.size_setCell]; exact Nat.le_refl _, fun k hk hn => Below.heap_setCell _ a _ k (fun e => hn (by rw [e]; exact h))⟩
theorem Chg.drew {u u' : World} {X : Foot} (h : Chg u u' X) : Chg u u'.drew X := ⟨h.os, h.tape, h.output, h.size, h.block⟩
theorem Chg.alloc {u u' : World} {X : Foot} (h : Chg u u' X) (o : Obj) : Chg u (u'.alloc o) X :=
  h.trans (Chg.of_below ((Below.refl _ _).alloc (Nat.le_refl _) o) X) (fun _ _ x => x)
/-- What a call that works on X leaves: nothing else of what was there has turned; what is X now was X, or is new. -/
structure Did (u u' : World) (X X' : Foot) : Prop where
  chg : Chg u u' X
  new : ∀ k, X' k → (X k ∨ u.heap.size ≤ k) ∧ k < u'.heap.size
theorem Did.trans {u u' u'' : World} {X X' X'' : Foot} (h : Did u u' X X') (k : Did u' u'' X' X'') : Did u u'' X X'' :=
  ⟨h.chg.trans k.chg (fun j hj hx => by rcases (h.new j hx).1 with h1 | h1; exact h1; omega), fun j hj => by
    refine ⟨?_, (k.new j hj).2⟩
    rcases (k.new j hj).1 with h1 | h1
    · exact (h.new j h1).1
    · exact .inr (Nat.le_trans h.chg.size h1)⟩
theorem Did.stay {u u' : World} {X : Foot} (h : Below u.heap.size u u') (hX : ∀ k, X k → k < u.heap.size) : Did u u' X X := ⟨Chg.of_below h X, fun k hk => ⟨.inl hk, Nat.lt_of_lt_of_le (hX k hk) h.size⟩⟩
theorem Did.same {u u' : World} {X : Foot} (h : Chg u u' X) (hX : ∀ k, X k → k < u.heap.size) : Did u u' X X := ⟨h, fun k hk => ⟨.inl hk, Nat.lt_of_lt_of_le (hX k hk) h.size⟩⟩
/-- No blocks. -/
def noFoot : Foot := fun _ => False
/-- The things of a call, each with blocks of its own, all made since w. -/
structure Apart (w u : World) (Xs : Nat → Foot) : Prop where
  below : Below w.heap.size w u
  lo : ∀ i k, Xs i k → w.heap.size ≤ k ∧ k < u.heap.size
  dis : ∀ i j k, Xs i k → Xs j k → i = j
/-- One of them has other blocks now. -/
def upd (Xs : Nat → Foot) (i : Nat) (X : Foot) : Nat → Foot := fun j => if j = i then X else Xs j
theorem upd_same (Xs : Nat → Foot) (i : Nat) (X : Foot) : upd Xs i X i = X := if_pos rfl
theorem upd_other (Xs : Nat → Foot) (i j : Nat) (X : Foot) (h : j ≠ i) : upd Xs i X j = Xs j := if_neg h
theorem Apart.start (w : World) : Apart w w (fun _ => noFoot) := ⟨Below.refl _ _, fun i k h => h.elim, fun i j k h => h.elim⟩
theorem Apart.past {w u u' : World} {Xs : Nat → Foot} (h : Apart w u Xs) (hb : Below u.heap.size u u') : Apart w u' Xs :=
  ⟨h.below.trans (hb.mono h.below.size), fun i k hk => ⟨(h.lo i k hk).1, Nat.lt_of_lt_of_le (h.lo i k hk).2 hb.size⟩, h.dis⟩
theorem Apart.step {w u u' : World} {Xs : Nat → Foot} {X' : Foot} (h : Apart w u Xs) (i : Nat) (d : Did u u' (Xs i) X') : Apart w u' (upd Xs i X') := by
  have hnew : ∀ k, X' k → w.heap.size ≤ k ∧ k < u'.heap.size := fun k hk => by
    refine ⟨?_, (d.new k hk).2⟩
    rcases (d.new k hk).1 with h1 | h1
    · exact (h.lo i k h1).1
    · exact Nat.le_trans h.below.size h1
  have hfar : ∀ j k, j ≠ i → Xs j k → ¬ X' k := fun j k hj hk hx => by
    rcases (d.new k hx).1 with h1 | h1
    · exact hj (h.dis j i k hk h1)
    · have := (h.lo j k hk).2; omega
  refine ⟨h.below.trans (d.chg.below h.below.size (fun k hk => (h.lo i k hk).1)), fun j k hk => ?_, fun a b k ha hb => ?_⟩
  · unfold upd at hk
    split at hk
    · exact hnew k hk
    · exact ⟨(h.lo j k hk).1, Nat.lt_of_lt_of_le (h.lo j k hk).2 d.chg.size⟩
  · unfold upd at ha hb
    split at ha
    · rename_i e1
      split at hb
      · rename_i e2; rw [e1, e2]
      · rename_i e2; exact absurd ha (hfar b k e2 hb)
    · rename_i e1
      split at hb
      · rename_i e2; exact absurd hb (hfar a k e1 ha)
      · exact h.dis a b k ha hb
theorem Apart.kept {w u u' : World} {Xs : Nat → Foot} {i : Nat} (h : Apart w u Xs) (d : Chg u u' (Xs i)) {j : Nat} (hj : j ≠ i) : ∀ k, Xs j k → u'.heap[k]? = u.heap[k]? :=
  fun k hk => d.block k (h.lo j k hk).2 (fun hx => hj (h.dis j i k hk hx))
theorem Apart.still {w u u' : World} {Xs : Nat → Foot} (h : Apart w u Xs) (hb : Below u.heap.size u u') (j : Nat) : ∀ k, Xs j k → u'.heap[k]? = u.heap[k]? := fun k hk => hb.block k (h.lo j k hk).2
/-- One more thing, all new. -/
theorem Apart.add {w u u' : World} {Xs : Nat → Foot} {X' : Foot} (h : Apart w u Xs) (i : Nat) (hb : Below u.heap.size u u') (hX : ∀ k, X' k → u.heap.size ≤ k ∧ k < u'.heap.size) : Apart w u' (upd Xs i X') :=
  h.step i ⟨Chg.of_below hb _, fun k hk => ⟨.inr (hX k hk).1, (hX k hk).2⟩⟩
/-- Two of them turn together. -/
theorem Apart.both {w u u' : World} {Xs : Nat → Foot} {X' Y' : Foot} (h : Apart w u Xs) (i j : Nat) (hij : i ≠ j) (c : Chg u u' (fun k => Xs i k ∨ Xs j k)) (n1 : ∀ k, X' k → (Xs i k ∨ u.heap.size ≤ k) ∧ k < u'.heap.size) (n2 : ∀ k, Y' k → (Xs j k ∨ u.heap.size ≤ k) ∧ k < u'.heap.size) (hd : ∀ k, X' k → Y' k → False) : Apart w u' (upd (upd Xs i X') j Y') := by
  have lo' : ∀ a k, upd (upd Xs i X') j Y' a k → (Xs a k ∨ u.heap.size ≤ k) ∧ k < u'.heap.size := fun a k hk => by
    unfold upd at hk
    split at hk
    · rename_i e; rw [e]; exact n2 k hk
    · split at hk
      · rename_i e; rw [e]; exact n1 k hk
      · exact ⟨.inl hk, Nat.lt_of_lt_of_le (h.lo a k hk).2 c.size⟩
  refine ⟨h.below.trans (c.below h.below.size (fun k hk => hk.elim (fun x => (h.lo i k x).1) (fun x => (h.lo j k x).1))), fun a k hk => ?_, fun a b k ha hb => ?_⟩
  · refine ⟨?_, (lo' a k hk).2⟩
    rcases (lo' a k hk).1 with h1 | h1
    · exact (h.lo a k h1).1
    · exact Nat.le_trans h.below.size h1
  · rcases (lo' a k ha).1 with h1 | h1
    · rcases (lo' b k hb).1 with h2 | h2
      · exact h.dis a b k h1 h2
      · have := (h.lo a k h1).2; omega
    · rcases (lo' b k hb).1 with h2 | h2
      · have := (h.lo b k h2).2; omega
      · have f : ∀ c, upd (upd Xs i X') j Y' c k → c = j ∧ Y' k ∨ c = i ∧ X' k := fun c hc => by
          unfold upd at hc
          split at hc
          · rename_i e; exact .inl ⟨e, hc⟩
          · split at hc
            · rename_i e; exact .inr ⟨e, hc⟩
            · have := (h.lo c k hc).2; omega
        rcases f a ha with ⟨e1, x1⟩ | ⟨e1, x1⟩ <;> rcases f b hb with ⟨e2, x2⟩ | ⟨e2, x2⟩
        · rw [e1, e2]
        · exact (hd k x2 x1).elim
        · exact (hd k x1 x2).elim
        · rw [e1, e2]
theorem cell_kept {u u' : World} {b : Nat} (h : u'.heap[b]? = u.heap[b]?) (o : Nat) : u'.cell? ⟨b, o, none⟩ = u.cell? ⟨b, o, none⟩ := World.cell?_of_block (a := ⟨b, o, none⟩) h
theorem frozen_kept {u u' : World} {b : Nat} (h : u'.heap[b]? = u.heap[b]?) (o : Nat) : u'.frozen? ⟨b, o, none⟩ = u.frozen? ⟨b, o, none⟩ := World.frozen?_of_block (a := ⟨b, o, none⟩) h
theorem cell_lt {u : World} {b o : Nat} {v : Value} (h : u.cell? ⟨b, o, none⟩ = some v) : b < u.heap.size := by
  rcases Nat.lt_or_ge b u.heap.size with h' | h'
  · exact h'
  · simp [World.cell?, Array.getElem?_eq_none h'] at h
end Go.Proofs.Ytlfmhdljldbjmaa

namespace Go.Proofs.Ytlfmhdljldbjmaa
open Go.RowKit
open Go.Maps (Keyed)
set_option linter.unusedVariables false

/-- How a pointer at a whole block reads: as the block's number. -/
def ptrE (v : Value) : Option (DataW Unit × List MemPlace) :=
  match v with
  | .pointer none => some (.nil, [])
  | .pointer (some ⟨g, 0, none⟩) => some (.lit (.int .i64 (g : Int)), [])
  | _ => none
def ptrV : Option Nat → Value
  | none => .pointer none
  | some g => .pointer (some ⟨g, 0, none⟩)
def ptrD (z : DataW Unit) : Option Nat → DataW Unit
  | none => z
  | some g => .lit (.int .i64 (g : Int))
theorem ptrE_mk (o : Option Nat) : ptrE (ptrV o) = some (ptrD .nil o, []) := by cases o <;> rfl
theorem ptrE_inv {v : Value} {z : DataW Unit × List MemPlace} (h : ptrE v = some z) : ∃ o, v = ptrV o ∧ z = (ptrD .nil o, []) := by
  unfold ptrE at h
  split at h
  · injection h with h; exact ⟨none, rfl, h.symm⟩
  · rename_i g; injection h with h; exact ⟨some g, rfl, h.symm⟩
  · cases h
theorem ptrD_inj {o o' : Option Nat} (h : ptrD .nil o = ptrD .nil o') : o = o' := by
  cases o <;> cases o' <;> simp [ptrD] at h
  · rfl
  · rename_i a b; have : a = b := by omega
    rw [this]
/-- A text as a key. -/
def kyL (x : ByteArray) : Lit := .string x.data.toList
theorem kyL_inj {x y : ByteArray} (h : kyL x = kyL y) : x = y := by
  unfold kyL at h
  injection h with h
  exact ByteArray.ext (Array.toList_inj.1 h)
theorem kyL_key (x : ByteArray) : WideAt.IsKeyLit (kyL x) := trivial
theorem kyLaw : Keyed Try.prog 9 := Maps.string_keyed Try.underlying9
theorem key_mk (x : ByteArray) (h : x.size ≤ 1000000) : keyOf Try.prog 9 (.string x) = some (kyL x) := WideMaps.keyOf_string_mk Try.underlying9 (by unfold maxLen; omega)
theorem key_inv {key : Value} {kl : Lit} (h : keyOf Try.prog 9 key = some kl) : ∃ x, key = .string x ∧ kl = kyL x := by
  obtain ⟨x, e, h, _⟩ := WideMaps.string_of_keyOf Try.underlying9 h
  exact ⟨x, e, h⟩
theorem same_key (x y : ByteArray) : (kyL x).sameKey (kyL y) = decide (x = y) := by
  by_cases h : x = y
  · subst h; rw [WideAt.sameKey_self (kyL_key x)]; simp
  · rw [Maps.sameKey_ne (fun e => h (kyL_inj e))]; simp [h]

/-- Block m holds a map of c entries: at text x a pointer at the block G x. -/
def PMap (u : World) (m c : Nat) (G : ByteArray → Option Nat) : Prop :=
  ∃ D : DataW Unit, u.ownsMap Try.prog 9 ptrE m c D ∧ Maps.size D = c ∧ ∀ x z, D.atKey (kyL x) z = ptrD z (G x)
theorem has_at {D : DataW Unit} {x : ByteArray} {o : Option Nat} (h : ∀ z, D.atKey (kyL x) z = ptrD z o) : Maps.has D (kyL x) = o.isSome := by
  cases o with
  | none => exact Maps.has_false_of_atKey h
  | some g => exact Maps.has_true_of_atKey h
theorem PMap.lt {u : World} {m c : Nat} {G : ByteArray → Option Nat} (h : PMap u m c G) : m < u.heap.size := by obtain ⟨D, h1, _⟩ := h; exact h1.lt
theorem PMap.kept {u u' : World} {m c : Nat} {G : ByteArray → Option Nat} (h : PMap u m c G) (hb : u'.heap[m]? = u.heap[m]?) : PMap u' m c G := by
  obtain ⟨D, ⟨es, clock, h1, h2⟩, h3⟩ := h
  exact ⟨D, ⟨es, clock, hb.trans h1, h2⟩, h3⟩
theorem PMap.made (u : World) : PMap (u.alloc (.map #[] 0)) u.heap.size 0 (fun _ => none) :=
  ⟨.map [], World.ownsMap_made _ _ _ _, rfl, fun _ _ => rfl⟩
/-- As many as there are. -/
theorem owns_size {u : World} {m n : Nat} {D : DataW Unit} (h : u.ownsMap Try.prog 9 ptrE m n D) : u.ownsMap Try.prog 9 ptrE m (Maps.size D) D := by
  obtain ⟨es, clock, h1, h2, h3, rfl⟩ := h
  exact ⟨es, clock, h1, h2, by simp [Maps.size, length_sorted], rfl⟩
theorem PMap.of {u : World} {m n : Nat} {D : DataW Unit} {G : ByteArray → Option Nat} (h : u.ownsMap Try.prog 9 ptrE m n D) (ha : ∀ x z, D.atKey (kyL x) z = ptrD z (G x)) : PMap u m (Maps.size D) G := ⟨D, owns_size h, rfl, ha⟩

/-- 'm[k]'. -/
theorem PMap.look {u : World} {m c : Nat} {G : ByteArray → Option Nat} (h : PMap u m c G) {t e : TypeId} (ht : Try.prog.underlying t = some (.map 9 e)) (hz : (zeroValue e).run Try.prog u = .ok (.pointer none) u) (k : ByteArray) (hk : k.size ≤ 1000000) :
    (Instr.lookup t (.map (some m)) (.string k) false).run Try.prog u = .ok (ptrV (G k)) u := by
  obtain ⟨D, h1, _, h3⟩ := h
  obtain ⟨v, ps, hrun, hv⟩ := h1.lookup kyLaw ht hz (zd := .nil) (zp := []) rfl (key_mk k hk)
  obtain ⟨o, rfl, hq⟩ := ptrE_inv hv
  have hz2 := congrArg Prod.fst hq
  have e1 := ptrD_inj ((h3 k .nil).symm.trans hz2)
  subst e1
  exact hrun
/-- What a store lays at a key. -/
def putG (G : ByteArray → Option Nat) (k : ByteArray) (o : Option Nat) : ByteArray → Option Nat := fun x => if x = k then o else G x
theorem putG_same (G : ByteArray → Option Nat) (k : ByteArray) (o : Option Nat) : putG G k o k = o := if_pos rfl
theorem putG_other {G : ByteArray → Option Nat} {k x : ByteArray} {o : Option Nat} (h : x ≠ k) : putG G k o x = G x := if_neg h
theorem turned_chg {u u' : World} {m : Nat} (h : u.mapTurned u' m) {X : Foot} (hX : X m) : Chg u u' X := Chg.of_grown h.grown (fun k e => by injection e with e; subst e; exact hX)
/-- 'm[k] = v'. -/
theorem PMap.store {u : World} {m c : Nat} {G : ByteArray → Option Nat} (h : PMap u m c G) (hc : c ≤ 1000000) {t e : TypeId} (ht : Try.prog.underlying t = some (.map 9 e)) (k : ByteArray) (hk : k.size ≤ 1000000) (g : Nat) :
    ∃ u', (Instr.mapUpdate t (.map (some m)) (.string k) (.pointer (some ⟨g, 0, none⟩))).run Try.prog u = .ok () u' ∧ PMap u' m (if (G k).isSome then c else c + 1) (putG G k (some g)) ∧ u.mapTurned u' m := by
  obtain ⟨D, h1, h2, h3⟩ := h
  obtain ⟨u', hrun, h4, h5⟩ := h1.store kyLaw ht (by unfold maxLen; omega) (key_mk k hk) (val := .pointer (some ⟨g, 0, none⟩)) (d := .lit (.int .i64 (g : Int))) (ps := []) rfl
  refine ⟨u', hrun, ?_, h5⟩
  have hs : Maps.size (D.put (kyL k) (.lit (.int .i64 (g : Int)))) = if (G k).isSome then c else c + 1 := by rw [Maps.size_put (h1.tidy kyLaw), has_at (h3 k), h2]
  rw [← hs]
  refine PMap.of h4 (fun x z => ?_)
  by_cases e : x = k
  · subst e; rw [Maps.atKey_put_same h1.isMap (kyL_key x), putG_same]; rfl
  · rw [Maps.atKey_put_other (fun e' => e (kyL_inj e')), putG_other e]; exact h3 x z
/-- 'delete(m, k)'. -/
theorem PMap.drop {u : World} {m c : Nat} {G : ByteArray → Option Nat} (h : PMap u m c G) {t e : TypeId} (ht : Try.prog.underlying t = some (.map 9 e)) (k : ByteArray) (hk : k.size ≤ 1000000) (ty : TypeId) :
    ∃ u', (Builtin.delete_ #[t, 9] ty #[.map (some m), .string k]).run Try.prog u = .ok (.tuple #[]) u' ∧ PMap u' m (if (G k).isSome then c - 1 else c) (putG G k none) ∧ u.mapTurned u' m := by
  obtain ⟨D, h1, h2, h3⟩ := h
  obtain ⟨u', hrun, h4, h5⟩ := h1.drop kyLaw ht (key_mk k hk) ty
  refine ⟨u', hrun, ?_, h5⟩
  have hs : Maps.size (D.del (kyL k)) = if (G k).isSome then c - 1 else c := by
    have := Maps.size_del (k := kyL k) (h1.tidy kyLaw)
    rw [has_at (h3 k), h2] at this
    split at this <;> rename_i hh <;> simp [hh] <;> omega
  rw [← hs]
  refine PMap.of h4 (fun x z => ?_)
  by_cases e : x = k
  · subst e; rw [Maps.atKey_del_same, putG_same]; rfl
  · rw [Maps.atKey_del_other (fun e' => e (kyL_inj e')), putG_other e]; exact h3 x z
theorem wpList_store_ptr {w : World} {ops : Array Oper} {rest : List Oper} {o : Oper} {a : Act} {Q : Exit → Act → World → Prop} (hg : o.guard = none) (m x v : Operand) (t : TypeId) (hop : o.op = Op.mapUpdate t m x v)
    (e : TypeId) (ht : Try.prog.underlying t = some (.map 9 e)) (b c : Nat) (G : ByteArray → Option Nat) (hm : a.eval m = .map (some b)) (h : PMap w b c G) (hc : c ≤ 1000000) (k : ByteArray) (hx : a.eval x = .string k) (hk : k.size ≤ 1000000) (g : Nat) (hv : a.eval v = .pointer (some ⟨g, 0, none⟩))
    (hK : ∀ w', PMap w' b (if (G k).isSome then c else c + 1) (putG G k (some g)) → w.mapTurned w' b → wpList Try.prog ops Q rest (a.put o.dst undef) w') : wpList Try.prog ops Q (o :: rest) a w := by
  refine wpList_plain hg fun K' hK' => ?_
  obtain ⟨w', hrun, r1, r2⟩ := h.store hc ht k hk g
  unfold Oper.wp
  simp [execOp, hop, hm, hx, hv, hrun, Result.andThen]
  exact hK' _ _ (hK w' r1 r2)
theorem wpList_delete_ptr {w : World} {ops : Array Oper} {rest : List Oper} {o : Oper} {a : Act} {Q : Exit → Act → World → Prop} (hg : o.guard = none) (m x : Operand) (t : TypeId) (hop : o.op = Op.call { callee := Callee.builtin Builtin.delete, args := #[m, x], argTypes := #[t, 9] })
    (e : TypeId) (ht : Try.prog.underlying t = some (.map 9 e)) (b c : Nat) (G : ByteArray → Option Nat) (hm : a.eval m = .map (some b)) (h : PMap w b c G) (k : ByteArray) (hx : a.eval x = .string k) (hk : k.size ≤ 1000000)
    (hK : ∀ w', PMap w' b (if (G k).isSome then c - 1 else c) (putG G k none) → w.mapTurned w' b → wpList Try.prog ops Q rest (a.put o.dst (.tuple #[])) w') : wpList Try.prog ops Q (o :: rest) a w := by
  refine wpList_plain hg fun K' hK' => ?_
  obtain ⟨w', hrun, r1, r2⟩ := h.drop ht k hk o.type
  unfold Oper.wp
  simp [execOp, hop, resolve, invoke, builtin, hm, hx, hrun, Result.andThen]
  exact hK' _ _ (hK w' r1 r2)
/-- A range over such a map under way: r the iterator's block, left x: is the entry at x still to come? -/
def PRange (u : World) (m r c : Nat) (G : ByteArray → Option Nat) (left : ByteArray → Bool) (cnt : Nat) : Prop :=
  ∃ (D : DataW Unit) (L : Lit → Bool), u.ranges Try.prog 9 ptrE m r c D L cnt ∧ Maps.size D = c ∧ (∀ x z, D.atKey (kyL x) z = ptrD z (G x)) ∧ ∀ x, left x = L (kyL x)
theorem PRange.map {u : World} {m r c cnt : Nat} {G : ByteArray → Option Nat} {left : ByteArray → Bool} (h : PRange u m r c G left cnt) : PMap u m c G := by
  obtain ⟨D, L, h1, h2, h3, _⟩ := h
  exact ⟨D, h1.owns, h2, h3⟩
theorem PRange.lt {u : World} {m r c cnt : Nat} {G : ByteArray → Option Nat} {left : ByteArray → Bool} (h : PRange u m r c G left cnt) : r < u.heap.size := by obtain ⟨D, L, h1, _⟩ := h; exact h1.lt
theorem PRange.left_eq {u : World} {m r c cnt : Nat} {G : ByteArray → Option Nat} {left : ByteArray → Bool} (h : PRange u m r c G left cnt) : u.rangeLeft m r = cnt := by obtain ⟨D, L, h1, _⟩ := h; exact h1.left_eq
theorem PRange.kept {u u' : World} {m r c cnt : Nat} {G : ByteArray → Option Nat} {left : ByteArray → Bool} (h : PRange u m r c G left cnt) (hm : u'.heap[m]? = u.heap[m]?) (hr : u'.heap[r]? = u.heap[r]?) : PRange u' m r c G left cnt := by
  obtain ⟨D, L, ⟨es, clock, since, seen, c0, hb, F, hs, hD, hr', rest⟩, h2⟩ := h
  exact ⟨D, L, ⟨es, clock, since, seen, c0, hm.trans hb, F, hs, hD, hr.trans hr', rest⟩, h2⟩
theorem wpList_range_ptr {w : World} {ops : Array Oper} {rest : List Oper} {o : Oper} {a : Act} {Q : Exit → Act → World → Prop} (hg : o.guard = none) (m : Operand) (t : TypeId) (hop : o.op = Op.range t m) (e : TypeId) (ht : Try.prog.underlying t = some (.map 9 e)) (b c : Nat) (G : ByteArray → Option Nat)
    (hm : a.eval m = .map (some b)) (h : PMap w b c G)
    (hK : ∀ w', PRange w' b w.heap.size c G (fun x => (G x).isSome) c → Below w.heap.size w w' → w'.heap.size = w.heap.size + 1 → wpList Try.prog ops Q rest (a.put o.dst (.pointer (some ⟨w.heap.size, 0, none⟩))) w') : wpList Try.prog ops Q (o :: rest) a w := by
  obtain ⟨D, h1, h2, h3⟩ := h
  refine wpList_range_own w hg m t hop 9 e kyLaw ht ptrE b c D hm h1 ?_
  intro w' hr hgr hs
  rw [h2] at hr
  exact hK w' ⟨D, _, hr, h2, h3, fun x => (has_at (h3 x)).symm⟩ ⟨hgr.os, hgr.tape, hgr.output, hgr.size, fun k hk => hgr.block k hk (by simp)⟩ hs
theorem wpList_next_ptr {w : World} {ops : Array Oper} {rest : List Oper} {o : Oper} {a : Act} {Q : Exit → Act → World → Prop} (hg : o.guard = none) (it : Operand) (hop : o.op = Op.next it false) (b r c : Nat) (G : ByteArray → Option Nat) (left : ByteArray → Bool) (cnt : Nat)
    (hit : a.eval it = .pointer (some ⟨r, 0, none⟩)) (h : PRange w b r c G left cnt)
    (hDone : (∀ x, left x = false) → wpList Try.prog ops Q rest (a.put o.dst (.tuple #[.bool false])) w)
    (hMore : ∀ (x : ByteArray) (g : Nat) (w' : World) (cnt' : Nat), left x = true → G x = some g → PRange w' b r c G (fun z => left z && !decide (z = x)) cnt' → cnt' < cnt → Chg w w' (fun k => k = r) → w'.heap.size = w.heap.size →
      (Instr.entry (.pointer (some ⟨r, 0, none⟩))).run Try.prog w' = .ok (.tuple #[.string x, .pointer (some ⟨g, 0, none⟩)]) w' → wpList Try.prog ops Q rest (a.put o.dst (.tuple #[.bool true, .string x, .pointer (some ⟨g, 0, none⟩)])) w') :
    wpList Try.prog ops Q (o :: rest) a w := by
  obtain ⟨D, L, h1, h2, h3, h4⟩ := h
  refine wpList_next_ranges w hg it hop 9 kyLaw ptrE Value.string ptrV (fun key kl hk => by obtain ⟨x, e, _⟩ := key_inv hk; exact ⟨x, e⟩) (fun v y hv => by obtain ⟨x, e, _⟩ := ptrE_inv hv; exact ⟨x, e⟩) b r c D L cnt hit h1 (fun _ hl => hDone (fun x => by rw [h4, hl])) ?_
  intro x q kl y w' cnt' hkey hlk hv hat hrg hlt hgr hsz hen
  obtain ⟨x', ex, rfl⟩ := key_inv hkey
  injection ex with ex
  subst ex
  obtain ⟨q', eq, rfl⟩ := ptrE_inv hv
  have e1 : ∀ z, ptrD z (G x) = ptrD .nil q' := fun z => (h3 x z).symm.trans (hat z)
  have e2 : q' = q := by cases q <;> cases q' <;> simp [ptrV] at eq <;> first | rfl | rw [eq]
  subst e2
  obtain ⟨g, hg1, hg2⟩ : ∃ g, G x = some g ∧ q' = some g := by
    cases hG : G x with
    | none =>
      rw [hG] at e1
      have a1 := e1 .nil
      have a2 := e1 (.lit (.bool true))
      rw [← a1] at a2
      cases a2
    | some g =>
      rw [hG] at e1
      refine ⟨g, rfl, ?_⟩
      exact (ptrD_inj (e1 .nil)).symm
  subst hg2
  refine hMore x g w' cnt' (by rw [h4]; exact hlk) hg1 ⟨D, _, hrg, h2, h3, fun z => ?_⟩ hlt (Chg.of_grown hgr (fun k e => (Option.some.inj e).symm)) hsz hen
  show (left z && !decide (z = x)) = _
  rw [same_key, h4]
end Go.Proofs.Ytlfmhdljldbjmaa

namespace Go.Proofs.Ytlfmhdljldbjmaa
open Go.RowKit
set_option linter.unusedVariables false

theorem ret_int {k : IntKind} {a b : Int} (h : a = b) : Ending.returned (.int k a) = .returned (.int k b) := by rw [h]
/-- A slice of bytes that lies somewhere: its bytes, and where they are. -/
structure Row (w : World) (a : Option Addr) (zs : List Int) : Prop where
  bytes : ∀ z ∈ zs, 0 ≤ z ∧ z ≤ 255
  cells : zs = [] ∨ ∃ b off, a = some ⟨b, off, none⟩ ∧ ∀ j, j < zs.length → w.cell? ⟨b, off + j, none⟩ = some (.int .u8 (zs.getD j 0))

theorem drop_at (zs : List Int) (k : Nat) (h : k < zs.length) : zs.drop k = zs[k]?.getD 0 :: zs.drop (k + 1) := by
  rw [List.drop_eq_getElem_cons h]; simp [h]
theorem at_byte {zs : List Int} (h : ∀ z ∈ zs, 0 ≤ z ∧ z ≤ 255) (k : Nat) : 0 ≤ zs[k]?.getD 0 ∧ zs[k]?.getD 0 ≤ 255 := by
  by_cases hk : k < zs.length
  · have := h zs[k] (List.getElem_mem hk); simpa [hk] using this
  · have : zs[k]? = none := by simp; omega
    simp [this]
theorem info5 : (Try.prog.info? 5).map (fun i => (i.zero, i.size, i.bytes)) = some (some (.int .u8 0), 1, 1) := by kernel_rfl
theorem info5s : (Try.prog.info? 5).map (·.size) = some 1 := by kernel_rfl

/-- The cells of a list of bytes. -/
def bs (zs : List Int) : List Value := zs.map (Value.int .u8)
theorem bs_len (zs : List Int) : (bs zs).length = zs.length := by simp [bs]
theorem bs_app (xs ys : List Int) : bs (xs ++ ys) = bs xs ++ bs ys := by simp [bs]
theorem bs_one (zs : List Int) : ∀ u ∈ bs zs, u.oneCell' = true := ints_oneCell _ _
theorem bs_at (zs : List Int) (j : Nat) (v : Value) (h : (bs zs)[j]? = some v) : j < zs.length ∧ v = .int .u8 (zs.getD j 0) := by
  unfold bs at h
  rw [List.getElem?_map] at h
  by_cases hj : j < zs.length
  · simp [hj] at h
    exact ⟨hj, by simp [hj, h]⟩
  · have : zs[j]? = none := by simp; omega
    simp [this] at h

theorem lt_of_cell {w : World} {x : Addr} {v : Value} (h : w.cell? x = some v) : x.block < w.heap.size := by
  apply Classical.byContradiction
  intro hn
  have : w.heap[x.block]? = none := by simp; omega
  simp [World.cell?, this] at h
/-- What the copy into the new row leaves. -/
theorem copy_row (w : World) (a : Option Addr) (cap : Nat) (zs : List Int) (Z : Array Value) (len n : Nat) (hrow : Row w a zs) (hzl : zs.length = len) (hZ : Z.size = len + n) (hm : len + n ≤ maxLen) :
    ∃ w1, (Builtin.copy_ #[31, 31] 3 #[.slice (some ⟨w.heap.size, 0, none⟩) len (len + n), .slice a len cap]).run Try.prog (w.alloc (.cells Z 5)) = .ok (.int .i64 len) w1 ∧
      w1.ownsRow w.heap.size 5 1 (.slice (some ⟨w.heap.size, 0, none⟩) len (len + n)) len (bs zs) ∧ Below w.heap.size w w1 ∧ w.heap.size < w1.heap.size := by
  have hg : (w.alloc (.cells Z 5)).heap[w.heap.size]? = some (.cells Z 5 (0, 0)) := by
    show (w.heap.push _)[w.heap.size]? = _
    simp
  have hb : Below w.heap.size w (w.alloc (.cells Z 5)) := (Below.refl _ _).alloc (Nat.le_refl _) _
  rcases hrow.2 with rfl | ⟨b, off, rfl, hc⟩
  · simp at hzl
    subst hzl
    refine ⟨_, run_copy_none (P := Try.prog) _ 31 31 3 5 _ _ _ _ _ _ Try.underlying31 info5s rfl, ?_, hb, by simp⟩
    exact ⟨by simp [bs], .inr ⟨_, _, Z, rfl, Nat.le_refl _, hg, by omega, hm, by omega, by simp [bs]⟩⟩
  · have hsrc : ∀ j v, (bs zs)[j]? = some v → (w.alloc (.cells Z 5)).cell? ((⟨b, off, none⟩ : Addr).add j) = some v := by
      intro j v hj
      obtain ⟨hj1, rfl⟩ := bs_at zs j v hj
      have := hc j hj1
      have ea : (⟨b, off, none⟩ : Addr).add j = ⟨b, off + j, none⟩ := by simp [Addr.add]
      rw [ea, World.cell?_alloc_lt _ _ _ (lt_of_cell this)]
      exact this
    have hr := run_copy_row (P := Try.prog) (w.alloc (.cells Z 5)) 31 31 3 5 w.heap.size 0 len (len + n) ⟨b, off, none⟩ len cap Z 5 (bs zs) Try.underlying31 info5s hg
      (by rw [bs_len, hzl]; exact (Nat.min_self len).symm) hsrc (by rw [bs_len]; omega) (bs_one zs)
    rw [bs_len, hzl] at hr
    refine ⟨_, hr, ?_, below_setRow hb (Nat.le_refl _) _, by simp [World.setRow]⟩
    refine ⟨by rw [bs_len]; omega, .inr ⟨_, _, _, rfl, Nat.le_refl _, setRow_heap _ _ _ _ _ _ hg, by omega, hm, ?_, ?_⟩⟩
    · simp [bs_len]; omega
    · simp [bs_len, hzl]

theorem add_plain (b off j : Nat) : (⟨b, off, none⟩ : Addr).add j = ⟨b, off + j, none⟩ := by unfold Addr.add; split <;> simp_all
theorem row_of_own {w : World} {base g n cap : Nat} {zs : List Int} (h : w.ownsRow base 5 1 (.slice (some ⟨g, 0, none⟩) n cap) n (bs zs)) (hb : ∀ z ∈ zs, 0 ≤ z ∧ z ≤ 255) : Row w (some ⟨g, 0, none⟩) zs := by
  refine ⟨hb, .inr ⟨g, 0, rfl, fun j hj => ?_⟩⟩
  have := h.cells (g := g) rfl j (.int .u8 (zs.getD j 0)) (by simp [bs, hj])
  rw [add_plain] at this
  exact this
theorem Row.below {w w' : World} {a : Option Addr} {zs : List Int} (h : Row w a zs) {B : Nat} (hb : Below B w w') (hB : w.heap.size ≤ B) : Row w' a zs := by
  refine ⟨h.1, ?_⟩
  rcases h.2 with rfl | ⟨b, off, rfl, hc⟩
  · exact .inl rfl
  · exact .inr ⟨b, off, rfl, fun j hj => by rw [hb.cell (Nat.lt_of_lt_of_le (lt_of_cell (hc j hj)) hB)]; exact hc j hj⟩
theorem Row.nil (w : World) (a : Option Addr) : Row w a [] := ⟨by simp, .inl rfl⟩
theorem str_of_row {w : World} {a : Option Addr} {zs : List Int} (h : Row w a zs) (cap : Nat) :
    (convert 31 9 (.slice a zs.length cap)).run Try.prog w = .ok (.string (strOfNums zs)) w := by
  rcases h.2 with rfl | ⟨b, off, rfl, hc⟩
  · cases a with
    | none => exact run_convert_bytes_nil w 31 5 Try.underlying31 Try.underlying5 0 cap 9 Try.underlying9
    | some ad =>
      have hl : (loadCells ad 0).run Try.prog w = .ok (([] : List Int).map (Value.int .u8)).toArray w := by simpa using run_loadCells_list (P := Try.prog) w ad [] (by simp)
      show (convert 31 9 (.slice (some ad) 0 cap)).run Try.prog w = _
      rw [run_convert_bytes_string w 31 9 5 _ 0 cap Try.underlying31 Try.underlying5 Try.underlying9, run_bytesToString w ad 0 cap [] hl]
      rfl
  · exact run_convert_bytes_arg w 31 5 Try.underlying31 Try.underlying5 b off zs.length cap zs rfl (fun i hi => hc i hi) 9 Try.underlying9

theorem row_of {w : World} {a : Option Addr} {len cap : Nat} {z : List Int}
    (h : (a = none ∧ len = 0 ∧ cap = 0 ∧ z = []) ∨ ∃ x, a = some x ∧ len ≤ cap ∧ cap ≤ maxLen ∧ z.length = cap ∧ (∀ i, i < z.length → w.cell? (x.add i) = some (.int .u8 (z.getD i 0))) ∧ ∀ n ∈ z, (Lit.int .u8 n).wf = true) :
    ∃ zs : List Int, zs.length = len ∧ Row w a zs := by
  rcases h with ⟨rfl, rfl, rfl, rfl⟩ | ⟨x, rfl, hl, hm, hz, hc, hw⟩
  · exact ⟨[], rfl, Row.nil _ _⟩
  · by_cases h0 : len = 0
    · exact ⟨[], h0.symm, Row.nil _ _⟩
    · obtain ⟨b, off, spot⟩ := x
      have hc0 := hc 0 (by omega)
      have hspot : spot = none := by simpa [Addr.add] using World.cell?_spot hc0
      subst hspot
      refine ⟨z.take len, by simp; omega, fun n hn => bounds_u8 (hw n (List.mem_of_mem_take hn)), .inr ⟨b, off, rfl, fun j hj => ?_⟩⟩
      simp at hj
      have := hc j (by omega)
      rw [add_plain] at this
      rw [this]
      have e : (z.take len).getD j 0 = z.getD j 0 := by
        have hjl : j < len := by omega
        simp [List.getD, hjl]
      rw [e]
theorem own_shape {w : World} {base n : Nat} {v : Value} {zs : List Int} (h : w.ownsRow base 5 1 v n (bs zs)) (hb : ∀ z ∈ zs, 0 ≤ z ∧ z ≤ 255) : ∃ a cap, v = .slice a n cap ∧ Row w a zs ∧ zs.length = n := by
  have hl : zs.length = n := by have := h.1; rw [bs_len] at this; omega
  rcases h.2 with ⟨rfl, h0⟩ | ⟨g, cap, cur, rfl, _, _, _, _, _, _⟩
  · refine ⟨none, 0, by rw [h0], ?_, hl⟩
    have : zs = [] := List.eq_nil_of_length_eq_zero (by omega)
    subst this; exact Row.nil _ _
  · exact ⟨_, cap, rfl, row_of_own h hb, hl⟩

theorem run_append_row (w : World) (base : Nat) (v : Value) (n : Nat) (xs zs : List Int) (hown : w.ownsRow base 5 1 v n (bs xs)) (ao : Option Addr) (m c : Nat) (hrow : Row w ao zs) (hm : zs.length = m) (hnil : ao = none → m = 0 ∧ c = 0)
    (hxs : ∀ z ∈ xs, 0 ≤ z ∧ z ≤ 255) (hbytes : n + m ≤ 140737488355328) (hbase : base ≤ w.heap.size) (ty : TypeId) :
    ∃ a' cap' w', (Builtin.append_ #[31, 31] ty #[v, .slice ao m c]).run Try.prog w = .ok (.slice a' (n + m) cap') w' ∧ w'.ownsRow base 5 1 (.slice a' (n + m) cap') (n + m) (bs (xs ++ zs)) ∧ w.grownBy w' v.ownBlock := by
  obtain ⟨i0, hi, hz0, hz1, hz2⟩ := info_parts info5
  cases ao with
  | none =>
    obtain ⟨rfl, rfl⟩ := hnil rfl
    obtain rfl : zs = [] := List.eq_nil_of_length_eq_zero hm
    have hrun := run_append_owned_none (P := Try.prog) (w := w) base 31 ty 5 i0 1 Try.underlying31 hi v n (bs xs) hown
    obtain ⟨a', cap', rfl, _, _⟩ := own_shape hown hxs
    exact ⟨a', cap', w, hrun, by simpa using hown, World.grownBy.refl _ _⟩
  | some ad =>
    have hnews : ∀ j u, (bs zs)[j]? = some u → w.cell? (ad.add j) = some u := by
      intro j u hj
      obtain ⟨hj1, rfl⟩ := bs_at zs j u hj
      rcases hrow.2 with rfl | ⟨b, off, he, hc⟩
      · simp at hj1
      · simp at he; subst he
        rw [add_plain]; exact hc j hj1
    obtain ⟨v', w', hrun, h1, h2, _⟩ := run_append_own (P := Try.prog) w base 31 ty 5 i0 (.int .u8 0) 1 1 Try.underlying31 hi hz0 hz1 hz2 rfl (by decide) v n (bs xs) hown ad m c (bs zs) (by rw [bs_len]; omega) hnews (bs_one zs) (by unfold maxLen; omega) (by omega) hbase
    rw [← bs_app] at h1
    have hall : ∀ z ∈ xs ++ zs, 0 ≤ z ∧ z ≤ 255 := by
      intro z hz
      rcases List.mem_append.1 hz with h | h
      · exact hxs z h
      · exact hrow.1 z h
    obtain ⟨a', cap', rfl, _, _⟩ := own_shape h1 hall
    exact ⟨a', cap', w', hrun, h1, h2⟩

theorem wpList_append_row {w : World} {ops : Array Oper} {rest : List Oper} {o : Oper} {a : Act} {Q : Exit → Act → World → Prop} (hgd : o.guard = none) (s x : Operand)
    (ho : o.op = .call { callee := .builtin .append, args := #[s, x], argTypes := #[31, 31] })
    (base : Nat) (v : Value) (n : Nat) (xs zs : List Int) (hs : a.eval s = v) (hown : w.ownsRow base 5 1 v n (bs xs)) (ao : Option Addr) (m c : Nat) (hx : a.eval x = .slice ao m c) (hrow : Row w ao zs) (hm : zs.length = m) (hnil : ao = none → m = 0 ∧ c = 0)
    (hxs : ∀ z ∈ xs, 0 ≤ z ∧ z ≤ 255) (hbytes : n + m ≤ 140737488355328) (hbase : base ≤ w.heap.size)
    (h : ∀ a' cap' w', w'.ownsRow base 5 1 (.slice a' (n + m) cap') (n + m) (bs (xs ++ zs)) → w.grownBy w' v.ownBlock → wpList Try.prog ops Q rest (a.put o.dst (.slice a' (n + m) cap')) w') : wpList Try.prog ops Q (o :: rest) a w := by
  refine wpList_plain hgd fun K hK => ?_
  obtain ⟨a', cap', w', hrun, h1, h2⟩ := run_append_row w base v n xs zs hown ao m c hrow hm hnil hxs hbytes hbase o.type
  unfold Oper.wp
  simp [execOp, ho, resolve, invoke, builtin, hs, hx, hrun, Result.andThen]
  exact hK _ _ (h a' cap' w' h1 h2)

/-- The same as one step of a region that draws its order. -/
theorem step_append_row {w : World} {ops : Array Oper} {o : Oper} {a : Act} {K : Act → World → Prop} {Q : Exit → Act → World → Prop} {E : Prop} (hgd : o.guard = none) (s x : Operand)
    (ho : o.op = .call { callee := .builtin .append, args := #[s, x], argTypes := #[31, 31] })
    (base : Nat) (v : Value) (n : Nat) (xs zs : List Int) (hs : a.eval s = v) (hown : w.ownsRow base 5 1 v n (bs xs)) (ao : Option Addr) (m c : Nat) (hx : a.eval x = .slice ao m c) (hrow : Row w ao zs) (hm : zs.length = m) (hnil : ao = none → m = 0 ∧ c = 0)
    (hxs : ∀ z ∈ xs, 0 ≤ z ∧ z ≤ 255) (hbytes : n + m ≤ 140737488355328) (hbase : base ≤ w.heap.size)
    (h : ∀ a' cap' w', w'.ownsRow base 5 1 (.slice a' (n + m) cap') (n + m) (bs (xs ++ zs)) → w.grownBy w' v.ownBlock → K (a.put o.dst (.slice a' (n + m) cap')) w') :
    if Region.wanted o (yielded ops a.tmps) = true then Oper.wp Try.prog o a w K Q else E := by
  have hw : Region.wanted o (yielded ops a.tmps) = true := by simp [Region.wanted, hgd]
  rw [if_pos hw]
  obtain ⟨a', cap', w', hrun, h1, h2⟩ := run_append_row w base v n xs zs hown ao m c hrow hm hnil hxs hbytes hbase o.type
  unfold Oper.wp
  simp [execOp, ho, resolve, invoke, builtin, hs, hx, hrun, Result.andThen]
  exact h a' cap' w' h1 h2

/-- The same behind an empty list. -/
theorem step_append_first {w : World} {ops : Array Oper} {o : Oper} {a : Act} {K : Act → World → Prop} {Q : Exit → Act → World → Prop} {E : Prop} (hgd : o.guard = none) (s x : Operand)
    (ho : o.op = .call { callee := .builtin .append, args := #[s, x], argTypes := #[31, 31] })
    (base : Nat) (v : Value) (zs : List Int) (hs : a.eval s = v) (hown : w.ownsRow base 5 1 v 0 []) (ao : Option Addr) (m c : Nat) (hx : a.eval x = .slice ao m c) (hrow : Row w ao zs) (hm : zs.length = m) (hnil : ao = none → m = 0 ∧ c = 0)
    (hbytes : m ≤ 140737488355328) (hbase : base ≤ w.heap.size) (w0 : World) (hb : Below base w0 w)
    (h : ∀ a' cap' w', w'.ownsRow base 5 1 (.slice a' m cap') m (bs zs) → Below base w0 w' → K (a.put o.dst (.slice a' m cap')) w') :
    if Region.wanted o (yielded ops a.tmps) = true then Oper.wp Try.prog o a w K Q else E := by
  refine step_append_row hgd s x ho base v 0 [] zs hs hown ao m c hx hrow hm hnil (by simp) (by omega) hbase ?_
  intro a' cap' w' h1 h2
  rw [Nat.zero_add, List.nil_append] at h1
  rw [Nat.zero_add]
  exact h a' cap' w' h1 (hb.grown h2 hbase (fun k hk => (hown.lt k hk).1))

theorem own_row {w : World} {base n cap : Nat} {a : Option Addr} {zs : List Int} (h : w.ownsRow base 5 1 (.slice a n cap) n (bs zs)) (hb : ∀ z ∈ zs, 0 ≤ z ∧ z ≤ 255) : Row w a zs := by
  obtain ⟨a', cap', he, hr, _⟩ := own_shape h hb
  cases he
  exact hr

/-- 'append([]byte, src...)' of an empty list that was just made. -/
theorem wpList_append_new {w : World} {ops : Array Oper} {rest : List Oper} {o : Oper} {a : Act} {Q : Exit → Act → World → Prop} (hgd : o.guard = none) (s x : Operand)
    (ho : o.op = .call { callee := .builtin .append, args := #[s, x], argTypes := #[31, 31] })
    (hs : a.eval s = .slice (some ⟨w.heap.size, 0, none⟩) 0 0) (zs : List Int) (ao : Option Addr) (m c : Nat) (hx : a.eval x = .slice ao m c) (hrow : Row w ao zs) (hm : zs.length = m) (hnil : ao = none → m = 0 ∧ c = 0)
    (hbytes : m ≤ 140737488355328)
    (h : ∀ a' cap' w', w'.ownsRow w.heap.size 5 1 (.slice a' m cap') m (bs zs) → Below w.heap.size w w' → wpList Try.prog ops Q rest (a.put o.dst (.slice a' m cap')) w') : wpList Try.prog ops Q (o :: rest) a (w.alloc (.cells #[] 5)) := by
  refine wpList_append_row hgd s x ho w.heap.size _ 0 [] zs hs (World.ownsRow_made w #[] 0 (Nat.le_refl _) (by decide) rfl) ao m c hx (hrow.below ((Below.refl _ _).alloc (Nat.le_refl _) _) (Nat.le_refl _)) hm hnil (by simp) (by omega) (by simp) ?_
  intro a' cap' w' h1 h2
  rw [Nat.zero_add, List.nil_append] at h1
  rw [Nat.zero_add]
  exact h a' cap' w' h1 (((Below.refl _ _).alloc (Nat.le_refl _) _).grown h2 (by simp) (fun k hk => by simp [Value.ownBlock] at hk; omega))
/-- One more list behind one of the call's own. -/
theorem wpList_append_on {w : World} {ops : Array Oper} {rest : List Oper} {o : Oper} {a : Act} {Q : Exit → Act → World → Prop} (hgd : o.guard = none) (s x : Operand)
    (ho : o.op = .call { callee := .builtin .append, args := #[s, x], argTypes := #[31, 31] })
    (B : Nat) (w0 : World) (hb : Below B w0 w) (hB : B ≤ w.heap.size)
    (v : Value) (n : Nat) (xs zs : List Int) (hs : a.eval s = v) (hown : w.ownsRow B 5 1 v n (bs xs)) (ao : Option Addr) (m c : Nat) (hx : a.eval x = .slice ao m c) (hrow : Row w ao zs) (hm : zs.length = m) (hnil : ao = none → m = 0 ∧ c = 0)
    (hxs : ∀ z ∈ xs, 0 ≤ z ∧ z ≤ 255) (hbytes : n + m ≤ 140737488355328)
    (h : ∀ a' cap' w', w'.ownsRow B 5 1 (.slice a' (n + m) cap') (n + m) (bs (xs ++ zs)) → Below B w0 w' → wpList Try.prog ops Q rest (a.put o.dst (.slice a' (n + m) cap')) w') : wpList Try.prog ops Q (o :: rest) a w := by
  refine wpList_append_row hgd s x ho B v n xs zs hs hown ao m c hx hrow hm hnil hxs hbytes hB ?_
  intro a' cap' w' h1 h2
  exact h a' cap' w' h1 (hb.grown h2 hB (fun k hk => (hown.lt k hk).1))
end Go.Proofs.Ytlfmhdljldbjmaa

namespace Go.Proofs.Ytlfmhdljldbjmaa.Crc
open Go Go.RowKit

def poly : Nat := 2197175160
def step1 (c : Nat) : Nat := if c % 2 = 1 then c / 2 ^^^ poly else c / 2
def steps : Nat → Nat → Nat
  | 0, c => c
  | n + 1, c => steps n (step1 c)
def step8 (c : Nat) : Nat := steps 8 c
def feed (c : Nat) (b : Int) : Nat := step8 (c ^^^ b.toNat)
def run (c : Nat) (l : List Int) : Nat := l.foldl feed c
def Byte (b : Int) : Prop := 0 ≤ b ∧ b ≤ 255
def Bytes (l : List Int) : Prop := ∀ b ∈ l, Byte b

theorem eq_of_xor {a b : Nat} (h : a ^^^ b = 0) : a = b := by
  have e : a ^^^ b ^^^ b = a := by rw [Nat.xor_assoc, Nat.xor_self, Nat.xor_zero]
  rw [h, Nat.zero_xor] at e
  exact e.symm
theorem xor_mod2 (a b : Nat) : (a ^^^ b) % 2 = (a + b) % 2 := by
  have h := Nat.xor_mod_two_pow (a := a) (b := b) (n := 1)
  simp only [Nat.pow_one] at h
  rw [h]
  have ha : a % 2 = 0 ∨ a % 2 = 1 := by omega
  have hb : b % 2 = 0 ∨ b % 2 = 1 := by omega
  rcases ha with ha | ha <;> rcases hb with hb | hb <;> rw [ha, hb]
  · show 0 = _; omega
  · show 1 = _; omega
  · show 1 = _; omega
  · show 0 = _; omega
theorem xor_half (a b : Nat) : (a ^^^ b) / 2 = a / 2 ^^^ b / 2 := by
  have := Nat.shiftRight_xor_distrib (a := a) (b := b) (i := 1)
  simpa [Nat.shiftRight_eq_div_pow] using this
theorem step1_xor (a b : Nat) : step1 (a ^^^ b) = step1 a ^^^ step1 b := by
  unfold step1
  rw [xor_mod2, xor_half]
  by_cases ha : a % 2 = 1
  · by_cases hb : b % 2 = 1
    · have h : ¬ (a + b) % 2 = 1 := by omega
      rw [if_neg h, if_pos ha, if_pos hb]
      have e : a / 2 ^^^ poly ^^^ (b / 2 ^^^ poly) = (a / 2 ^^^ b / 2) ^^^ (poly ^^^ poly) := by
        rw [Nat.xor_assoc, Nat.xor_assoc, Nat.xor_comm poly, Nat.xor_assoc]
      rw [e, Nat.xor_self, Nat.xor_zero]
    · have h : (a + b) % 2 = 1 := by omega
      rw [if_pos h, if_pos ha, if_neg hb, Nat.xor_assoc, Nat.xor_comm (b / 2), ← Nat.xor_assoc]
  · by_cases hb : b % 2 = 1
    · have h : (a + b) % 2 = 1 := by omega
      rw [if_pos h, if_neg ha, if_pos hb, Nat.xor_assoc]
    · have h : ¬ (a + b) % 2 = 1 := by omega
      rw [if_neg h, if_neg ha, if_neg hb]
theorem steps_xor (n : Nat) : ∀ a b : Nat, steps n (a ^^^ b) = steps n a ^^^ steps n b := by
  induction n with
  | zero => intro a b; rfl
  | succ n ih => intro a b; show steps n (step1 (a ^^^ b)) = _; rw [step1_xor, ih]; rfl
theorem step1_lt (c : Nat) (h : c < 2 ^ 32) : step1 c < 2 ^ 32 := by
  unfold step1
  split
  · exact Nat.xor_lt_two_pow (by omega) (by decide)
  · omega
theorem steps_lt (n : Nat) : ∀ c, c < 2 ^ 32 → steps n c < 2 ^ 32 := by
  induction n with
  | zero => intro c h; exact h
  | succ n ih => intro c h; exact ih _ (step1_lt c h)
theorem step1_zero (c : Nat) (h : c < 2 ^ 32) (h0 : step1 c = 0) : c = 0 := by
  unfold step1 at h0
  split at h0
  · have : c / 2 = poly := eq_of_xor h0
    unfold poly at this
    omega
  · omega
theorem steps_zero (n : Nat) : ∀ c, c < 2 ^ 32 → steps n c = 0 → c = 0 := by
  induction n with
  | zero => intro c _ h; exact h
  | succ n ih => intro c hc h; exact step1_zero c hc (ih _ (step1_lt c hc) h)
/-- Eight steps turn what lies eight bits up into itself. -/
theorem steps_shift (n : Nat) : ∀ x, x * 2 ^ n < 2 ^ 32 → steps n (x * 2 ^ n) = x := by
  induction n with
  | zero => intro x _; simp [steps]
  | succ n ih =>
    intro x h
    have e : x * 2 ^ (n + 1) = 2 * (x * 2 ^ n) := by rw [Nat.pow_succ]; rw [← Nat.mul_assoc, Nat.mul_comm]
    show steps n (step1 (x * 2 ^ (n + 1))) = x
    have h1 : step1 (x * 2 ^ (n + 1)) = x * 2 ^ n := by
      unfold step1; rw [e]
      have : ¬ 2 * (x * 2 ^ n) % 2 = 1 := by omega
      rw [if_neg this]; omega
    rw [h1]
    exact ih x (by rw [e] at h; omega)

theorem toNat_lt {b : Int} (h : Byte b) : b.toNat < 2 ^ 8 := by unfold Byte at h; omega
theorem feed_lt (c : Nat) (b : Int) (hc : c < 2 ^ 32) (hb : Byte b) : feed c b < 2 ^ 32 :=
  steps_lt 8 _ (Nat.xor_lt_two_pow hc (by have := toNat_lt hb; omega))
theorem run_lt : ∀ (l : List Int) (c : Nat), c < 2 ^ 32 → Bytes l → run c l < 2 ^ 32
  | [], c, hc, _ => hc
  | b :: r, c, hc, hl => run_lt r (feed c b) (feed_lt c b hc (hl b (by simp))) (fun x hx => hl x (by simp [hx]))
theorem run_app (c : Nat) (a b : List Int) : run c (a ++ b) = run (run c a) b := List.foldl_append

/-- Two states that differ, fed with the same bytes, still differ. -/
theorem feed_diff (c d : Nat) (x y : Int) : feed c x ^^^ feed d y = step8 ((c ^^^ d) ^^^ (x.toNat ^^^ y.toNat)) := by
  unfold feed step8
  rw [← steps_xor]
  congr 1
  rw [Nat.xor_assoc, ← Nat.xor_assoc x.toNat, Nat.xor_comm x.toNat d, Nat.xor_assoc d, ← Nat.xor_assoc]
theorem xor_ne {a b : Nat} (h : a ≠ b) : a ^^^ b ≠ 0 := fun h0 => h (eq_of_xor h0)
theorem run_ne : ∀ (l : List Int) (c d : Nat), c < 2 ^ 32 → d < 2 ^ 32 → Bytes l → c ≠ d → run c l ≠ run d l
  | [], c, d, _, _, _, h => h
  | b :: r, c, d, hc, hd, hl, h => by
    have hb := hl b (by simp)
    refine run_ne r (feed c b) (feed d b) (feed_lt c b hc hb) (feed_lt d b hd hb) (fun x hx => hl x (by simp [hx])) ?_
    intro e
    have h1 := feed_diff c d b b
    rw [e, Nat.xor_self, Nat.xor_self, Nat.xor_zero] at h1
    have h2 := steps_zero 8 _ (Nat.xor_lt_two_pow hc hd) h1.symm
    exact h (eq_of_xor h2)

/-- Four bytes from one state: unlike bytes, unlike states. -/
theorem shift_in (e d : Nat) (hd : d * 2 ^ 8 < 2 ^ 32) : steps 8 e ^^^ d = steps 8 (e ^^^ d * 2 ^ 8) := by
  rw [steps_xor, steps_shift 8 d hd]
theorem join_zero (e1 e2 : Nat) (n : Nat) (h1 : e1 < 2 ^ n) (h : e1 ^^^ e2 * 2 ^ n = 0) : e1 = 0 ∧ e2 = 0 := by
  have h0 := eq_of_xor h
  have : e2 = 0 := by
    apply Classical.byContradiction
    intro hn
    have : 2 ^ n ≤ e2 * 2 ^ n := Nat.le_mul_of_pos_left _ (by omega)
    omega
  exact ⟨by rw [h0, this]; simp, this⟩
theorem two_up (e : Nat) : e * 2 ^ 8 * 2 ^ 8 = e * 2 ^ 16 := by omega
theorem three_up (e : Nat) : e * 2 ^ 8 * 2 ^ 8 * 2 ^ 8 = e * 2 ^ 24 := by omega
theorem burst4 (c : Nat) (x1 x2 x3 x4 y1 y2 y3 y4 : Int) (hx : Bytes [x1, x2, x3, x4]) (hy : Bytes [y1, y2, y3, y4]) (h : run c [x1, x2, x3, x4] = run c [y1, y2, y3, y4]) : x1 = y1 ∧ x2 = y2 ∧ x3 = y3 ∧ x4 = y4 := by
  have bx : ∀ b ∈ [x1, x2, x3, x4], b.toNat < 2 ^ 8 := fun b hb => toNat_lt (hx b hb)
  have by' : ∀ b ∈ [y1, y2, y3, y4], b.toNat < 2 ^ 8 := fun b hb => toNat_lt (hy b hb)
  obtain ⟨e1, he1⟩ : ∃ e, e = x1.toNat ^^^ y1.toNat := ⟨_, rfl⟩
  obtain ⟨e2, he2⟩ : ∃ e, e = x2.toNat ^^^ y2.toNat := ⟨_, rfl⟩
  obtain ⟨e3, he3⟩ : ∃ e, e = x3.toNat ^^^ y3.toNat := ⟨_, rfl⟩
  obtain ⟨e4, he4⟩ : ∃ e, e = x4.toNat ^^^ y4.toNat := ⟨_, rfl⟩
  have l1 : e1 < 2 ^ 8 := by rw [he1]; exact Nat.xor_lt_two_pow (bx x1 (by simp)) (by' y1 (by simp))
  have l2 : e2 < 2 ^ 8 := by rw [he2]; exact Nat.xor_lt_two_pow (bx x2 (by simp)) (by' y2 (by simp))
  have l3 : e3 < 2 ^ 8 := by rw [he3]; exact Nat.xor_lt_two_pow (bx x3 (by simp)) (by' y3 (by simp))
  have l4 : e4 < 2 ^ 8 := by rw [he4]; exact Nat.xor_lt_two_pow (bx x4 (by simp)) (by' y4 (by simp))
  have d : run c [x1, x2, x3, x4] ^^^ run c [y1, y2, y3, y4] = steps 8 (steps 8 (steps 8 (steps 8 e1 ^^^ e2) ^^^ e3) ^^^ e4) := by
    show feed (feed (feed (feed c x1) x2) x3) x4 ^^^ feed (feed (feed (feed c y1) y2) y3) y4 = _
    rw [feed_diff, feed_diff, feed_diff, feed_diff, Nat.xor_self, Nat.zero_xor, ← he1, ← he2, ← he3, ← he4]
    rfl
  rw [h, Nat.xor_self] at d
  -- all four brought into one word
  have k1 : steps 8 e1 ^^^ e2 = steps 8 (e1 ^^^ e2 * 2 ^ 8) := shift_in _ _ (by omega)
  have k2 : steps 8 (steps 8 (e1 ^^^ e2 * 2 ^ 8)) ^^^ e3 = steps 8 (steps 8 (e1 ^^^ e2 * 2 ^ 8) ^^^ e3 * 2 ^ 8) := shift_in _ _ (by omega)
  have k2' : steps 8 (e1 ^^^ e2 * 2 ^ 8) ^^^ e3 * 2 ^ 8 = steps 8 ((e1 ^^^ e2 * 2 ^ 8) ^^^ e3 * 2 ^ 8 * 2 ^ 8) := shift_in _ _ (by omega)
  obtain ⟨E, hE⟩ : ∃ E, E = (e1 ^^^ e2 * 2 ^ 8) ^^^ e3 * 2 ^ 8 * 2 ^ 8 := ⟨_, rfl⟩
  have k3 : steps 8 (steps 8 (steps 8 E)) ^^^ e4 = steps 8 (steps 8 (steps 8 (E ^^^ e4 * 2 ^ 8 * 2 ^ 8 * 2 ^ 8))) := by
    rw [shift_in _ _ (by omega), shift_in _ _ (by omega), shift_in _ _ (by omega)]
  rw [k1, k2, k2', ← hE, k3] at d
  have m1 : e1 ^^^ e2 * 2 ^ 8 < 2 ^ 16 := Nat.xor_lt_two_pow (by omega) (by omega)
  have m2 : E < 2 ^ 24 := by rw [hE]; exact Nat.xor_lt_two_pow (by omega) (by omega)
  have m3 : E ^^^ e4 * 2 ^ 8 * 2 ^ 8 * 2 ^ 8 < 2 ^ 32 := Nat.xor_lt_two_pow (by omega) (by omega)
  have z := steps_zero 8 _ m3 (steps_zero 8 _ (steps_lt 8 _ m3) (steps_zero 8 _ (steps_lt 8 _ (steps_lt 8 _ m3)) (steps_zero 8 _ (steps_lt 8 _ (steps_lt 8 _ (steps_lt 8 _ m3))) d.symm)))
  have q4 : e4 * 2 ^ 8 * 2 ^ 8 * 2 ^ 8 = e4 * 2 ^ 24 := three_up e4
  have q3 : e3 * 2 ^ 8 * 2 ^ 8 = e3 * 2 ^ 16 := two_up e3
  rw [q4] at z
  have z1 : E = 0 ∧ e4 = 0 := join_zero E e4 24 m2 z
  rw [q3] at hE
  have z2 := join_zero (e1 ^^^ e2 * 2 ^ 8) e3 16 m1 (by rw [← hE]; exact z1.1)
  have z3 := join_zero e1 e2 8 l1 z2.1
  have fin : ∀ x y : Int, Byte x → Byte y → x.toNat ^^^ y.toNat = 0 → x = y := by
    intro x y bx by' h
    have := eq_of_xor h
    unfold Byte at bx by'
    omega
  exact ⟨fin _ _ (hx x1 (by simp)) (hy y1 (by simp)) (by rw [← he1]; exact z3.1), fin _ _ (hx x2 (by simp)) (hy y2 (by simp)) (by rw [← he2]; exact z3.2),
    fin _ _ (hx x3 (by simp)) (hy y3 (by simp)) (by rw [← he3]; exact z2.2), fin _ _ (hx x4 (by simp)) (hy y4 (by simp)) (by rw [← he4]; exact z1.2)⟩

/-- A change within four bytes side by side changes the sum, whatever is ahead and behind. -/
theorem burst (c : Nat) (p s : List Int) (x1 x2 x3 x4 y1 y2 y3 y4 : Int) (hc : c < 2 ^ 32) (hp : Bytes p) (hs : Bytes s) (hx : Bytes [x1, x2, x3, x4]) (hy : Bytes [y1, y2, y3, y4]) (hne : ¬ (x1 = y1 ∧ x2 = y2 ∧ x3 = y3 ∧ x4 = y4)) :
    run c (p ++ ([x1, x2, x3, x4] ++ s)) ≠ run c (p ++ ([y1, y2, y3, y4] ++ s)) := by
  rw [run_app, run_app, run_app, run_app]
  have h1 := run_lt p c hc hp
  exact run_ne s _ _ (run_lt _ _ h1 hx) (run_lt _ _ h1 hy) hs (fun e => hne (burst4 _ _ _ _ _ _ _ _ _ hx hy e))
/-- Two unlike bytes that change their places. -/
theorem swap2 (c : Nat) (x y : Int) (hx : Byte x) (hy : Byte y) (hne : x ≠ y) : run c [x, y] ≠ run c [y, x] := by
  intro e
  have b4 : Bytes [x, y, 0, 0] := fun b hb => by simp at hb; rcases hb with rfl | rfl | rfl <;> first | assumption | (unfold Byte; omega)
  have b4' : Bytes [y, x, 0, 0] := fun b hb => by simp at hb; rcases hb with rfl | rfl | rfl <;> first | assumption | (unfold Byte; omega)
  have h : run c [x, y, 0, 0] = run c [y, x, 0, 0] := by
    have e1 : [x, y, 0, 0] = [x, y] ++ [0, 0] := rfl
    have e2 : [y, x, 0, 0] = [y, x] ++ [0, 0] := rfl
    rw [e1, e2, run_app, run_app, e]
  exact hne (burst4 c x y 0 0 y x 0 0 b4 b4' h).1
theorem swap (c : Nat) (p s : List Int) (x y : Int) (hc : c < 2 ^ 32) (hp : Bytes p) (hs : Bytes s) (hx : Byte x) (hy : Byte y) (hne : x ≠ y) :
    run c (p ++ ([x, y] ++ s)) ≠ run c (p ++ ([y, x] ++ s)) := by
  rw [run_app, run_app, run_app, run_app]
  have h1 := run_lt p c hc hp
  have b1 : Bytes [x, y] := fun b hb => by simp at hb; rcases hb with rfl | rfl <;> assumption
  have b2 : Bytes [y, x] := fun b hb => by simp at hb; rcases hb with rfl | rfl <;> assumption
  exact run_ne s _ _ (run_lt _ _ h1 b1) (run_lt _ _ h1 b2) hs (swap2 _ x y hx hy hne)
/-- Three lists of one length, exclusive or'd: the state is the three states'. -/
def xor3 : List Int → List Int → List Int → List Int
  | a :: r, b :: s, c :: t => ((a.toNat ^^^ b.toNat ^^^ c.toNat : Nat) : Int) :: xor3 r s t
  | _, _, _ => []
theorem xor_swap (a b c d : Nat) : (a ^^^ b) ^^^ (c ^^^ d) = (a ^^^ c) ^^^ (b ^^^ d) := by
  rw [Nat.xor_assoc, ← Nat.xor_assoc b, Nat.xor_comm b c, Nat.xor_assoc c, ← Nat.xor_assoc]
theorem run_xor3 : ∀ (a b c : List Int) (x y z : Nat), a.length = b.length → a.length = c.length → run (x ^^^ y ^^^ z) (xor3 a b c) = run x a ^^^ run y b ^^^ run z c
  | [], [], [], x, y, z, _, _ => rfl
  | p :: a, q :: b, r :: c, x, y, z, h1, h2 => by
    have e : feed (x ^^^ y ^^^ z) ((p.toNat ^^^ q.toNat ^^^ r.toNat : Nat) : Int) = feed x p ^^^ feed y q ^^^ feed z r := by
      unfold feed step8
      rw [Int.toNat_natCast, ← steps_xor, ← steps_xor, xor_swap (x ^^^ y) z, xor_swap x y]
    show run (feed (x ^^^ y ^^^ z) _) (xor3 a b c) = _
    rw [e]
    exact run_xor3 a b c (feed x p) (feed y q) (feed z r) (by simpa using h1) (by simpa using h2)
  | [], [], _ :: _, _, _, _, _, h2 => by simp at h2
  | [], _ :: _, _, _, _, _, h1, _ => by simp at h1
  | _ :: _, [], _, _, _, _, h1, _ => by simp at h1
  | _ :: _, _ :: _, [], _, _, _, _, h2 => by simp at h2
end Go.Proofs.Ytlfmhdljldbjmaa.Crc

namespace Go.Proofs.Ytlfmhdljldbjmaa
open Go.RowKit
set_option linter.unusedVariables false

theorem step_bits (d : Nat) (hd : d < 4294967296) : bits BinOp.xor IntKind.u32 ((d : Int) / 2) (bits BinOp.and IntKind.u32 2197175160 (-bits BinOp.and IntKind.u32 (d : Int) 1 % 4294967296)) = ((Crc.step1 d : Nat) : Int) := by
  have e1 : bits BinOp.and IntKind.u32 (d : Int) 1 = ((d % 2 : Nat) : Int) := by
    have := u32_and_nat d 1 hd (by decide)
    rw [nat_mask1] at this
    exact this
  have e2 : (d : Int) / 2 = ((d / 2 : Nat) : Int) := by omega
  rw [e1, e2]
  unfold Crc.step1
  by_cases h : d % 2 = 1
  · rw [if_pos h, h]
    have e3 : -((1 : Nat) : Int) % 4294967296 = ((4294967295 : Nat) : Int) := by decide
    rw [e3]
    have e4 : bits BinOp.and IntKind.u32 2197175160 ((4294967295 : Nat) : Int) = ((Crc.poly : Nat) : Int) := by decide +kernel
    rw [e4]
    exact u32_xor_nat _ _ (by omega) (by decide)
  · have h0 : d % 2 = 0 := by omega
    rw [if_neg h, h0]
    have e4 : bits BinOp.and IntKind.u32 2197175160 (-((0 : Nat) : Int) % 4294967296) = ((0 : Nat) : Int) := by decide +kernel
    rw [e4, u32_xor_nat _ _ (by omega) (by decide), Nat.xor_zero]

theorem divide_any (c : Nat) (w : World) (hc : c < 4294967296) :
    Calls Try.prog 71 #[.int .u32 c] w fun e w' => e = .returned (.int .u32 (Crc.step8 c : Nat)) ∧ w' = w := by
  go_enter Try.func71, Try.ntmps71
  go_wp2
  go_loop [0, 4] (fun x i => ∃ (k d : Nat), k ≤ 8 ∧ i = .int .i64 k ∧ x = .int .u32 d ∧ d < 4294967296 ∧ Crc.steps (8 - k) d = Crc.step8 c) (fun _ i => 8 - (intOf i).toNat)
  case atStart => exact ⟨0, c, by omega, rfl, rfl, hc, rfl⟩
  case round =>
    obtain ⟨k, d, hk, rfl, rfl, hd, he⟩ := hrel
    have HE : Hid (Crc.steps (8 - k) d = Crc.step8 c) := he
    clear he
    by_cases hlt : k < 8
    · have HS := step_bits d hd
      go_wp2
      go_round
      case rel => exact ⟨k + 1, Crc.step1 d, by omega, by go_num, rfl, Crc.step1_lt d hd, by rw [← HE.out]; have : 8 - k = (8 - (k + 1)) + 1 := by omega
                                                                                             rw [this]; rfl⟩
      case measure => simp [intOf]; omega
    · have HD : Hid (d = Crc.step8 c) := by have h := HE.out
                                            have : 8 - k = 0 := by omega
                                            rw [this] at h
                                            exact h
      clear HE
      go_wp2
      go_ret
      exact ⟨by rw [← HD.out]; rfl, rfl⟩

/-- All bits turned. -/
def notN (s : Nat) : Nat := 4294967295 - s
theorem notN_lt (s : Nat) : notN s < 4294967296 := by unfold notN; omega
theorem notN_notN (s : Nat) (h : s < 4294967296) : notN (notN s) = s := by unfold notN; omega
theorem notN_inj {a b : Nat} (ha : a < 4294967296) (hb : b < 4294967296) (h : notN a = notN b) : a = b := by unfold notN at h; omega
theorem nat_not (s : Nat) (h : s < 4294967296) : 4294967295 ^^^ s = 4294967295 - s := by
  have h1 : (BitVec.allOnes 32 ^^^ BitVec.ofNat 32 s).toNat = (~~~ BitVec.ofNat 32 s).toNat := by rw [BitVec.allOnes_xor]
  rw [BitVec.toNat_xor, BitVec.toNat_not, BitVec.toNat_allOnes, BitVec.toNat_ofNat, Nat.mod_eq_of_lt h] at h1
  exact h1
theorem bits_not (s : Nat) (h : s < 4294967296) : bits BinOp.xor IntKind.u32 IntKind.u32.max (s : Int) = ((notN s : Nat) : Int) := by
  have e : IntKind.u32.max = ((4294967295 : Nat) : Int) := by decide
  rw [e, u32_xor_nat _ _ (by decide) h, nat_not s h]
  rfl
theorem bits_not_if (s : Nat) (h : s < 4294967296) : bits BinOp.xor IntKind.u32 (if IntKind.u32.signed = true then -1 else IntKind.u32.max) (s : Int) = ((notN s : Nat) : Int) := by
  rw [if_neg (by decide)]; exact bits_not s h
/-- What Add answers: the state all turned, the bytes fed, turned again. -/
def addN (s : Nat) (zs : List Int) : Nat := notN (Crc.run (notN s) zs)
theorem add_lt (s : Nat) (zs : List Int) : addN s zs < 4294967296 := notN_lt _

theorem add_any (s : Nat) (a : Option Addr) (cap : Nat) (zs : List Int) (w : World) (hs : s < 4294967296) (hrow : Row w a zs) (hmax : zs.length ≤ 140737488351232) :
    Calls Try.prog 69 #[.int .u32 s, .slice a zs.length cap] w fun e w' => e = .returned (.int .u32 (addN s zs : Nat)) ∧ w' = w := by
  obtain ⟨hbytes, hcells⟩ := hrow
  obtain ⟨len, hlen⟩ : ∃ len, len = zs.length := ⟨_, rfl⟩
  rw [← hlen] at hmax ⊢
  have HL : Hid (len = zs.length) := hlen
  clear hlen
  have HN := bits_not s hs
  go_enter Try.func69, Try.ntmps69
  go_wp2
  go_loop [5, 12] (fun x i => ∃ (k d : Nat), k ≤ len ∧ i = .int .i64 k ∧ x = .int .u32 d ∧ d < 4294967296 ∧ Crc.run d (zs.drop k) = Crc.run (notN s) zs) (fun _ i => len - (intOf i).toNat)
  case atStart => exact ⟨0, notN s, by omega, rfl, rfl, notN_lt s, rfl⟩
  case round =>
    obtain ⟨k, d, hk, rfl, rfl, hd, he⟩ := hrel
    have HE : Hid (Crc.run d (zs.drop k) = Crc.run (notN s) zs) := he
    clear he
    by_cases hlt : k < len
    · rcases hcells with rfl | ⟨b, off, rfl, hc⟩
      · exact absurd HL.out (by simp; omega)
      have hcell : w.cell? ⟨b, off + k, none⟩ = some (.int .u8 (zs.getD k 0)) := hc k (by have := HL.out; omega)
      have hrk := at_byte hbytes k
      have HDR : Hid (zs.drop k = zs[k]?.getD 0 :: zs.drop (k + 1)) := drop_at zs k (by have := HL.out; omega)
      clear hbytes hc
      have HM : zs[k]?.getD 0 % 4294967296 = zs[k]?.getD 0 := by omega
      have HX : bits BinOp.xor IntKind.u32 (d : Int) (zs[k]?.getD 0) = ((d ^^^ (zs[k]?.getD 0).toNat : Nat) : Int) := by
        have := u32_xor d (zs[k]?.getD 0) (by omega) (by omega) hrk.1 (by omega)
        simpa using this
      have hx : d ^^^ (zs[k]?.getD 0).toNat < 4294967296 := Nat.xor_lt_two_pow (n := 32) hd (by omega)
      go_wp2_with (go_at_call 71; refine (divide_any _ _ hx).mono ?_; rintro e w1 ⟨rfl, hw⟩; obtain rfl := hw.symm; clear hw)
      go_round
      case rel => exact ⟨k + 1, Crc.feed d (zs[k]?.getD 0), by omega, by go_num, rfl, Crc.feed_lt d _ hd hrk, by rw [← HE.out, HDR.out]; rfl⟩
      case measure => simp [intOf]; omega
    · clear hcells
      have HD := bits_not d hd
      have HA : Hid (notN d = addN s zs) := by
        have h := HE.out
        rw [List.drop_eq_nil_of_le (by have := HL.out; omega)] at h
        show _ = notN _
        rw [← h]; rfl
      go_wp2
      go_ret
      exact ⟨by rw [← HA.out]; rfl, rfl⟩
/-- What Of answers. -/
def ofN (zs : List Int) : Nat := addN 0 zs
theorem of_lt (zs : List Int) : ofN zs < 4294967296 := notN_lt _
theorem of_any (a : Option Addr) (cap : Nat) (zs : List Int) (w : World) (hrow : Row w a zs) (hmax : zs.length ≤ 140737488351232) :
    Calls Try.prog 70 #[.slice a zs.length cap] w fun e w' => e = .returned (.int .u32 (ofN zs : Nat)) ∧ w' = w := by
  obtain ⟨len, hlen⟩ : ∃ len, len = zs.length := ⟨_, rfl⟩
  have HA := add_any 0 a cap zs w (by decide) hrow hmax
  rw [← hlen] at hmax HA ⊢
  have HB : Hid (Calls Try.prog 69 #[.int .u32 0, .slice a len cap] w fun e w' => e = .returned (.int .u32 (ofN zs : Nat)) ∧ w' = w) := HA
  clear hlen HA
  go_enter Try.func70, Try.ntmps70
  go_wp2_with (go_at_call 69; refine HB.out.mono ?_; rintro e w1 ⟨rfl, hw⟩; obtain rfl := hw.symm; clear hw)
  go_ret
  exact ⟨rfl, rfl⟩
end Go.Proofs.Ytlfmhdljldbjmaa

namespace Go.Proofs.Ytlfmhdljldbjmaa
open Go.RowKit
set_option linter.unusedVariables false

def By (l : List Int) : Prop := ∀ z ∈ l, 0 ≤ z ∧ z ≤ 255
theorem By.app {a b : List Int} (ha : By a) (hb : By b) : By (a ++ b) := fun z hz => (List.mem_append.1 hz).elim (ha z) (hb z)
theorem By.left {a b : List Int} (h : By (a ++ b)) : By a := fun z hz => h z (List.mem_append.2 (.inl hz))
theorem By.right {a b : List Int} (h : By (a ++ b)) : By b := fun z hz => h z (List.mem_append.2 (.inr hz))
theorem By.take {a : List Int} (h : By a) (n : Nat) : By (a.take n) := fun z hz => h z (List.mem_of_mem_take hz)
theorem By.drop {a : List Int} (h : By a) (n : Nat) : By (a.drop n) := fun z hz => h z (List.mem_of_mem_drop hz)
/-- Four bytes, the lowest first. -/
def le32 (v : Nat) : List Int := [((v % 256 : Nat) : Int), ((v / 256 % 256 : Nat) : Int), ((v / 65536 % 256 : Nat) : Int), ((v / 16777216 % 256 : Nat) : Int)]
/-- The number that four bytes are. -/
def rd32 (zs : List Int) : Nat := (zs[0]?.getD 0).toNat + 256 * (zs[1]?.getD 0).toNat + 65536 * (zs[2]?.getD 0).toNat + 16777216 * (zs[3]?.getD 0).toNat
theorem le32_len (v : Nat) : (le32 v).length = 4 := rfl
theorem le32_by (v : Nat) : By (le32 v) := by
  intro z hz
  simp only [le32, List.mem_cons, List.not_mem_nil, or_false] at hz
  rcases hz with rfl | rfl | rfl | rfl <;> omega
theorem rd_le (v : Nat) (r : List Int) (h : v < 4294967296) : rd32 (le32 v ++ r) = v := by
  simp [rd32, le32]
  omega
theorem four (zs : List Int) (h : 4 ≤ zs.length) : ∃ a b c d r, zs = a :: b :: c :: d :: r := by
  rcases zs with _ | ⟨a, _ | ⟨b, _ | ⟨c, _ | ⟨d, r⟩⟩⟩⟩ <;> simp at h
  exact ⟨a, b, c, d, r, rfl⟩
theorem rd_lt (zs : List Int) (hb : By zs) : rd32 zs < 4294967296 := by
  have b0 := at_byte hb 0
  have b1 := at_byte hb 1
  have b2 := at_byte hb 2
  have b3 := at_byte hb 3
  unfold rd32; omega
theorem le_rd (zs : List Int) (hb : By zs) (h : 4 ≤ zs.length) : le32 (rd32 zs) = zs.take 4 := by
  obtain ⟨a, b, c, d, r, rfl⟩ := four zs h
  have b0 := hb a (by simp)
  have b1 := hb b (by simp)
  have b2 := hb c (by simp)
  have b3 := hb d (by simp)
  simp [rd32, le32]
  refine ⟨?_, ?_, ?_, ?_⟩ <;> omega
theorem le_inj {u v : Nat} (hu : u < 4294967296) (hv : v < 4294967296) (h : le32 u = le32 v) : u = v := by
  have h1 := rd_le u [] hu
  rw [h, rd_le v [] hv] at h1
  exact h1.symm

/-- A frame's first eight bytes. -/
def hd (n : Nat) : List Int := le32 n ++ le32 (notN n)
theorem hd_len (n : Nat) : (hd n).length = 8 := rfl
theorem hd_by (n : Nat) : By (hd n) := (le32_by _).app (le32_by _)
/-- A record's frame. -/
def frameN (r : List Int) : List Int := hd r.length ++ (le32 (ofN (hd r.length ++ r)) ++ r)
theorem frame_len (r : List Int) : (frameN r).length = 12 + r.length := by simp [frameN, hd_len, le32_len]; omega
theorem frame_by (r : List Int) (h : By r) : By (frameN r) := (hd_by _).app ((le32_by _).app h)
/-- The record whose frame these bytes begin with. -/
def takeN (zs : List Int) : Option (List Int) :=
  if zs.length < 12 then none
  else if rd32 (zs.drop 4) ≠ notN (rd32 zs) ∨ 8000 < rd32 zs ∨ zs.length - 12 < rd32 zs then none
  else if frameN ((zs.drop 12).take (rd32 zs)) = zs.take (12 + rd32 zs) then some ((zs.drop 12).take (rd32 zs)) else none
theorem frame_rd (r s : List Int) (h : r.length ≤ 8000) : rd32 (frameN r ++ s) = r.length ∧ rd32 ((frameN r ++ s).drop 4) = notN r.length := by
  have e : frameN r ++ s = le32 r.length ++ (le32 (notN r.length) ++ (le32 (ofN (hd r.length ++ r)) ++ r ++ s)) := by simp [frameN, hd]
  rw [e]
  refine ⟨rd_le _ _ (by omega), ?_⟩
  rw [List.drop_left' (by rfl)]
  exact rd_le _ _ (notN_lt _)
theorem frame_body (r s : List Int) : ((frameN r ++ s).drop 12).take r.length = r ∧ (frameN r ++ s).take (12 + r.length) = frameN r ∧ (frameN r ++ s).drop (12 + r.length) = s := by
  refine ⟨?_, ?_, ?_⟩
  · have e : frameN r ++ s = (hd r.length ++ le32 (ofN (hd r.length ++ r))) ++ (r ++ s) := by simp [frameN]
    rw [e, List.drop_left' (by simp [hd_len, le32_len])]
    exact List.take_left' rfl
  · exact List.take_left' (frame_len r)
  · exact List.drop_left' (frame_len r)
theorem take_frame (r s : List Int) (h : r.length ≤ 8000) : takeN (frameN r ++ s) = some r := by
  have hl : (frameN r ++ s).length = 12 + r.length + s.length := by rw [List.length_append, frame_len]
  obtain ⟨h1, h2⟩ := frame_rd r s h
  obtain ⟨h3, h4, _⟩ := frame_body r s
  unfold takeN
  rw [if_neg (by omega), h1, h2, if_neg (by omega), h3, h4, if_pos rfl]
theorem take_some {zs r : List Int} (h : takeN zs = some r) : r.length ≤ 8000 ∧ zs = frameN r ++ zs.drop (12 + r.length) ∧ 12 + r.length ≤ zs.length := by
  unfold takeN at h
  split at h
  · cases h
  · split at h
    · cases h
    · split at h
      · rename_i h1 h2 h3
        cases h
        have hr : ((zs.drop 12).take (rd32 zs)).length = rd32 zs := by simp; omega
        rw [hr]
        refine ⟨by omega, ?_, by omega⟩
        rw [h3]
        exact (List.take_append_drop _ _).symm
      · cases h
theorem take_by {zs r : List Int} (hb : By zs) (h : takeN zs = some r) : By r := by
  have := (take_some h).2.1
  rw [this] at hb
  exact (hb.left).right.right

/-- All records, how many bytes their frames have, whether that is all. -/
def scanF : Nat → List Int → List (List Int) × Nat × Bool
  | 0, zs => ([], 0, zs.isEmpty)
  | f + 1, zs =>
    if zs = [] then ([], 0, true) else
    match takeN zs with
    | none => ([], 0, false)
    | some r => (r :: (scanF f (zs.drop (12 + r.length))).1, 12 + r.length + (scanF f (zs.drop (12 + r.length))).2.1, (scanF f (zs.drop (12 + r.length))).2.2)
theorem scanF_more (f : Nat) : ∀ (g : Nat) (zs : List Int), zs.length ≤ f → zs.length ≤ g → scanF f zs = scanF g zs := by
  induction f with
  | zero =>
    intro g zs h1 h2
    have : zs = [] := List.eq_nil_of_length_eq_zero (by omega)
    subst this
    cases g <;> simp [scanF]
  | succ f ih =>
    intro g zs h1 h2
    cases g with
    | zero =>
      have : zs = [] := List.eq_nil_of_length_eq_zero (by omega)
      subst this
      simp [scanF]
    | succ g =>
      unfold scanF
      split
      · rfl
      · split
        · rfl
        · rename_i r hr
          have := take_some hr
          rw [ih g (zs.drop (12 + r.length)) (by simp; omega) (by simp; omega)]
def scanN (zs : List Int) : List (List Int) × Nat × Bool := scanF zs.length zs
theorem scan_nil : scanN [] = ([], 0, true) := rfl
theorem scan_none {zs : List Int} (h0 : zs ≠ []) (h : takeN zs = none) : scanN zs = ([], 0, false) := by
  unfold scanN
  cases hl : zs.length with
  | zero => exact absurd (List.eq_nil_of_length_eq_zero hl) h0
  | succ f => unfold scanF; rw [if_neg h0, h]
theorem scan_some {zs r : List Int} (h : takeN zs = some r) : scanN zs = (r :: (scanN (zs.drop (12 + r.length))).1, 12 + r.length + (scanN (zs.drop (12 + r.length))).2.1, (scanN (zs.drop (12 + r.length))).2.2) := by
  have ht := take_some h
  have h0 : zs ≠ [] := by intro h'; rw [h'] at ht; simp at ht
  unfold scanN
  cases hl : zs.length with
  | zero => exact absurd (List.eq_nil_of_length_eq_zero hl) h0
  | succ f =>
    have e : scanF (f + 1) zs = (r :: (scanF f (zs.drop (12 + r.length))).1, 12 + r.length + (scanF f (zs.drop (12 + r.length))).2.1, (scanF f (zs.drop (12 + r.length))).2.2) := by
      conv => lhs; unfold scanF
      rw [if_neg h0, h]
    rw [e, scanF_more f (zs.drop (12 + r.length)).length (zs.drop (12 + r.length)) (by simp; omega) (Nat.le_refl _)]
/-- Frames, one behind the other. -/
def frames (L : List (List Int)) : List Int := (L.map frameN).flatten
theorem frames_cons (r : List Int) (L : List (List Int)) : frames (r :: L) = frameN r ++ frames L := rfl
theorem frames_app (L M : List (List Int)) : frames (L ++ M) = frames L ++ frames M := by simp [frames]
theorem frames_by (L : List (List Int)) (h : ∀ r ∈ L, By r) : By (frames L) := by
  induction L with
  | nil => intro z hz; simp [frames] at hz
  | cons r L ih => rw [frames_cons]; exact (frame_by r (h r (by simp))).app (ih fun x hx => h x (by simp [hx]))
theorem scan_frames (L : List (List Int)) (s : List Int) (h : ∀ r ∈ L, r.length ≤ 8000) : scanN (frames L ++ s) = (L ++ (scanN s).1, (frames L).length + (scanN s).2.1, (scanN s).2.2) := by
  induction L with
  | nil => simp [frames]
  | cons r L ih =>
    have hr := take_frame r (frames L ++ s) (h r (by simp))
    rw [frames_cons, List.append_assoc, scan_some hr, (frame_body r (frames L ++ s)).2.2, ih fun x hx => h x (by simp [hx])]
    simp [frame_len]
    omega
theorem scan_all (L : List (List Int)) (h : ∀ r ∈ L, r.length ≤ 8000) : scanN (frames L) = (L, (frames L).length, true) := by
  have := scan_frames L [] h
  rw [List.append_nil, scan_nil] at this
  simpa using this

theorem rd_take (zs : List Int) (m : Nat) (h : 4 ≤ m) : rd32 (zs.take m) = rd32 zs := by
  have h0 : 0 < m := by omega
  have h1 : 1 < m := by omega
  have h2 : 2 < m := by omega
  have h3 : 3 < m := by omega
  simp [rd32, h0, h1, h2, h3]
/-- A frame that is cut off is none. -/
theorem take_cut (r : List Int) (h8 : r.length ≤ 8000) (m : Nat) (hm : m < (frameN r).length) : takeN ((frameN r).take m) = none := by
  have hl := frame_len r
  have hml : ((frameN r).take m).length = m := by simp; omega
  unfold takeN
  by_cases h12 : m < 12
  · rw [if_pos (by rw [hml]; exact h12)]
  · have h1 := (frame_rd r [] h8).1
    rw [List.append_nil] at h1
    rw [if_neg (by rw [hml]; exact h12), rd_take _ _ (by omega), h1, if_pos]
    right; right
    rw [hml]; omega
/-- One byte at the end, changed: another sum. -/
theorem last_byte (p : List Int) (x y : Int) (hp : By p) (hx : 0 ≤ x ∧ x ≤ 255) (hy : 0 ≤ y ∧ y ≤ 255) (h : ofN (p ++ [x]) = ofN (p ++ [y])) : x = y := by
  have l1 := Crc.run_lt p (notN 0) (notN_lt 0) hp
  have bx : Crc.Bytes [x] := fun z hz => by simp at hz; subst hz; exact hx
  have by' : Crc.Bytes [y] := fun z hz => by simp at hz; subst hz; exact hy
  have h' : Crc.run (notN 0) (p ++ [x]) = Crc.run (notN 0) (p ++ [y]) := notN_inj (Crc.run_lt _ _ (notN_lt 0) (fun z hz => (List.mem_append.1 hz).elim (hp z) (bx z))) (Crc.run_lt _ _ (notN_lt 0) (fun z hz => (List.mem_append.1 hz).elim (hp z) (by' z))) h
  rw [Crc.run_app, Crc.run_app] at h'
  have e1 : Crc.run (Crc.run (notN 0) p) [x, 0, 0, 0] = Crc.run (Crc.run (notN 0) p) [y, 0, 0, 0] := by
    have a1 : [x, 0, 0, 0] = [x] ++ [0, 0, 0] := rfl
    have a2 : [y, 0, 0, 0] = [y] ++ [0, 0, 0] := rfl
    rw [a1, a2, Crc.run_app, Crc.run_app, h']
  have z0 : (0 : Int) ≤ 0 ∧ (0 : Int) ≤ 255 := by omega
  refine (Crc.burst4 _ x 0 0 0 y 0 0 0 ?_ ?_ e1).1
  · intro z hz; simp only [List.mem_cons, List.not_mem_nil, or_false] at hz; rcases hz with rfl | rfl | rfl | rfl <;> first | exact hx | exact z0
  · intro z hz; simp only [List.mem_cons, List.not_mem_nil, or_false] at hz; rcases hz with rfl | rfl | rfl | rfl <;> first | exact hy | exact z0
/-- A frame cut off, and a byte behind that is not the one that was there: no frame. -/
theorem torn_none (r : List Int) (hr : By r) (h8 : r.length ≤ 8000) (m : Nat) (hm : m < (frameN r).length) (x : Int) (hx : 0 ≤ x ∧ x ≤ 255) (hne : x ≠ (frameN r)[m]?.getD 0) : takeN ((frameN r).take m ++ [x]) = none := by
  cases ht : takeN ((frameN r).take m ++ [x]) with
  | none => rfl
  | some q =>
    exfalso
    obtain ⟨h1, h2, h3⟩ := take_some ht
    have hl := frame_len r
    have hml : ((frameN r).take m ++ [x]).length = m + 1 := by simp; omega
    rw [hml] at h3
    -- the counts are alike: the first four bytes are
    have hq4 : (frameN q).take 4 = (frameN r).take 4 := by
      have a1 : ((frameN r).take m ++ [x]).take 4 = (frameN r).take 4 := by
        rw [List.take_append_of_le_length (by simp; omega), List.take_take]
        congr 1; omega
      rw [h2, List.take_append_of_le_length (by rw [frame_len]; omega)] at a1
      exact a1
    have hql : q.length = r.length := by
      have e1 : (frameN q).take 4 = le32 q.length := by unfold frameN hd; rw [List.append_assoc]; exact List.take_left' rfl
      have e2 : (frameN r).take 4 = le32 r.length := by unfold frameN hd; rw [List.append_assoc]; exact List.take_left' rfl
      rw [e1, e2] at hq4
      exact le_inj (by omega) (by omega) hq4
    have hme : m = 11 + r.length := by omega
    have hdrop : ((frameN r).take m ++ [x]).drop (12 + q.length) = [] := List.drop_eq_nil_of_le (by omega)
    rw [hdrop, List.append_nil] at h2
    have hlt : m < (frameN r).length := hm
    have hsp : frameN r = (frameN r).take m ++ [(frameN r)[m]?.getD 0] := by
      have := List.take_append_drop m (frameN r)
      rw [drop_at _ m hm, List.drop_eq_nil_of_le (by omega)] at this
      exact this.symm
    have hby := frame_by r hr
    by_cases h0 : r = []
    · have q0 : q = [] := List.eq_nil_of_length_eq_zero (by rw [hql, h0]; rfl)
      rw [q0, ← h0] at h2
      rw [hsp] at h2
      rw [List.take_left' (by simp; omega)] at h2
      have := List.append_cancel_left h2
      simp at this
      exact hne this.1
    · have hq0 : q ≠ [] := by intro h'; rw [h'] at hql; exact h0 (List.eq_nil_of_length_eq_zero hql.symm)
      -- all but the last byte are alike
      obtain ⟨r', a, rfl⟩ : ∃ r' a, r = r' ++ [a] := ⟨r.dropLast, r.getLast h0, (List.dropLast_concat_getLast h0).symm⟩
      obtain ⟨q', b, rfl⟩ : ∃ q' b, q = q' ++ [b] := ⟨q.dropLast, q.getLast hq0, (List.dropLast_concat_getLast hq0).symm⟩
      have fr : frameN (r' ++ [a]) = (hd (r' ++ [a]).length ++ (le32 (ofN (hd (r' ++ [a]).length ++ (r' ++ [a]))) ++ r')) ++ [a] := by simp [frameN]
      have fq : frameN (q' ++ [b]) = (hd (q' ++ [b]).length ++ (le32 (ofN (hd (q' ++ [b]).length ++ (q' ++ [b]))) ++ q')) ++ [b] := by simp [frameN]
      have hme' : m = (hd (r' ++ [a]).length ++ (le32 (ofN (hd (r' ++ [a]).length ++ (r' ++ [a]))) ++ r')).length := by
        rw [hme]; simp [hd_len, le32_len]; omega
      rw [fr, hme', List.take_left' rfl, fq] at h2
      obtain ⟨e1, e2⟩ := List.append_inj' h2 rfl
      rw [hql] at e1
      have e3 := List.append_cancel_left e1
      obtain ⟨e4, e5⟩ := List.append_inj e3 rfl
      have hsum := le_inj (of_lt _) (of_lt _) e4
      rw [← e5] at hsum
      have hbr : By r' := hr.left
      have hba : 0 ≤ a ∧ a ≤ 255 := hr a (by simp)
      have hbb : 0 ≤ b ∧ b ≤ 255 := by simp at e2; rw [← e2]; exact hx
      rw [← List.append_assoc, ← List.append_assoc] at hsum
      have hab : a = b := last_byte _ a b ((hd_by _).app hbr) hba hbb hsum
      apply hne
      rw [fr, hme']
      simp at e2
      rw [e2, ← hab]
      simp
end Go.Proofs.Ytlfmhdljldbjmaa

namespace Go.Proofs.Ytlfmhdljldbjmaa
open Go.RowKit
set_option linter.unusedVariables false

/-- A file: its name, its bytes, how many of them are safe. -/
structure FileV where
  name : List Int
  b : List Int
  safe : Nat
/-- A disk: its files by their names, whether its power is off, how often it came on. -/
structure DS where
  room : Int
  fs : List FileV
  off : Bool
  lives : Int
/-- May a name be? -/
def mayN (s : List Int) : Bool := decide (1 ≤ s.length) && decide (s.length ≤ 20) && s.all (fun c => decide (33 ≤ c) && decide (c ≤ 126))
/-- A file's place. -/
def findN : List FileV → List Int → Option Nat
  | [], _ => none
  | f :: r, s => if f.name = s then some 0 else (findN r s).map (· + 1)
theorem find_lt : ∀ (fs : List FileV) (s : List Int) (i : Nat), findN fs s = some i → i < fs.length
  | [], s, i, h => by simp [findN] at h
  | f :: r, s, i, h => by
    unfold findN at h
    split at h
    · simp at h; subst h; simp
    · cases hr : findN r s with
      | none => rw [hr] at h; simp at h
      | some j => rw [hr] at h; simp at h; subst h; have := find_lt r s j hr; simp; omega
def sizeN : List FileV → Nat
  | [] => 0
  | f :: r => f.b.length + sizeN r
/-- A file laid among the others. -/
def layN (f : FileV) : List FileV → List FileV
  | [] => [f]
  | g :: r => if Op.bytesLess (strOfNums g.name).toList (strOfNums f.name).toList = true then g :: layN f r else f :: g :: r
theorem lay_len (f : FileV) : ∀ l, (layN f l).length = l.length + 1
  | [] => rfl
  | g :: r => by unfold layN; split <;> simp [lay_len f r]
/-- One file turned. -/
def setF (fs : List FileV) (i : Nat) (f : FileV) : List FileV := fs.set i f
def noFile : FileV := ⟨[], [], 0⟩
def fileAt (fs : List FileV) (i : Nat) : FileV := fs.getD i noFile
/-- The error of a call on one file. -/
def DS.err (S : DS) (s : List Int) : Int := if S.off = true then 7 else if mayN s = false then 1 else match findN S.fs s with | none => 4 | some _ => 0
def DS.append (S : DS) (s : List Int) (b : List Int) : Int × DS :=
  if S.off = true then (7, S) else if mayN s = false then (1, S) else if S.room - (sizeN S.fs : Int) < (b.length : Int) then (6, S) else
  match findN S.fs s with
  | none => (0, { S with fs := layN ⟨s, b, 0⟩ S.fs })
  | some i => (0, { S with fs := setF S.fs i { fileAt S.fs i with b := (fileAt S.fs i).b ++ b } })
def DS.sync (S : DS) (s : List Int) : Int × DS :=
  if S.err s = 0 then match findN S.fs s with | none => (0, S) | some i => (0, { S with fs := setF S.fs i { fileAt S.fs i with safe := (fileAt S.fs i).b.length } }) else (S.err s, S)
/-- A file's bytes, or the error. -/
def DS.read (S : DS) (s : List Int) : Int × List Int :=
  if S.err s = 0 then match findN S.fs s with | none => (0, []) | some i => (0, (fileAt S.fs i).b) else (S.err s, [])
def DS.cut (S : DS) (s : List Int) (n : Int) : Int × DS :=
  if S.err s = 0 then match findN S.fs s with
    | none => (0, S)
    | some i => if n < 0 ∨ ((fileAt S.fs i).b.length : Int) < n then (1, S) else (0, { S with fs := setF S.fs i { fileAt S.fs i with b := (fileAt S.fs i).b.take n.toNat, safe := min (fileAt S.fs i).safe n.toNat } })
  else (S.err s, S)
/-- Exclusive or of bytes. -/
def xorB (x y : Int) : Int := ((x.toNat ^^^ y.toNat : Nat) : Int)
/-- What a crash leaves of a file. -/
def crashF (keep : Nat) (torn : Int) (f : FileV) : FileV :=
  let n := f.b.length - f.safe
  let c := if keep < n ∧ torn ≠ 0 then f.b.take (f.safe + keep) ++ [xorB (f.b.getD (f.safe + keep) 0) torn] else f.b.take (f.safe + min keep n)
  ⟨f.name, c, c.length⟩
def DS.crash (S : DS) (keep : Int) (torn : Int) : DS := { S with off := true, fs := S.fs.map (crashF keep.toNat torn) }
def DS.on (S : DS) : DS := { S with off := false, lives := S.lives + 1 }
def DS.size (S : DS) : Nat := if S.off = true then 0 else sizeN S.fs
def newDS (room : Int) : DS := ⟨room, [], false, 1⟩
/-- All that is safe is there; bytes are bytes. -/
structure DS.Good (S : DS) : Prop where
  safe : ∀ f ∈ S.fs, f.safe ≤ f.b.length
  bytes : ∀ f ∈ S.fs, By f.b
  names : ∀ f ∈ S.fs, mayN f.name = true
/-- A log: its file's name, the disk's lives as it was opened, whether a call of it failed, its records, how many are safe. -/
structure LS where
  name : List Int
  lives : Int
  dead : Bool
  L : List (List Int)
  safe : Nat
/-- Is the log done? -/
def offN (S : DS) (l : LS) : Bool := S.off || (S.lives != l.lives) || l.dead
/-- What Open finds, and what it leaves of the disk. -/
def DS.opened (S : DS) (s : List Int) : DS := match findN S.fs s with
  | none => S
  | some i => { S with fs := setF S.fs i { fileAt S.fs i with b := (fileAt S.fs i).b.take (scanN (fileAt S.fs i).b).2.1, safe := (scanN (fileAt S.fs i).b).2.1 } }
def DS.log (S : DS) (s : List Int) : LS := match findN S.fs s with
  | none => ⟨s, S.lives, false, [], 0⟩
  | some i => ⟨s, S.lives, false, (scanN (fileAt S.fs i).b).1, (scanN (fileAt S.fs i).b).1.length⟩
def addL (S : DS) (l : LS) (R : List (List Int)) : Int × DS × LS :=
  if offN S l = true then (7, S, l) else if R.all (fun r => decide (r.length ≤ 8000)) = false then (2, S, l) else
  if (S.append l.name (frames R)).1 = 0 then (0, (S.append l.name (frames R)).2, { l with L := l.L ++ R }) else ((S.append l.name (frames R)).1, S, { l with dead := true })
def syncL (S : DS) (l : LS) : Int × DS × LS :=
  if offN S l = true then (7, S, l) else if (S.sync l.name).1 = 0 then (0, (S.sync l.name).2, { l with safe := l.L.length }) else if (S.sync l.name).1 = 4 then (0, S, { l with safe := l.L.length }) else ((S.sync l.name).1, S, { l with dead := true })
def clearL (S : DS) (l : LS) : Int × DS × LS :=
  if offN S l = true then (7, S, l) else if (S.cut l.name 0).1 = 0 then (0, (S.cut l.name 0).2, { l with L := [], safe := 0 }) else if (S.cut l.name 0).1 = 4 then (0, S, { l with L := [], safe := 0 }) else ((S.cut l.name 0).1, S, { l with dead := true })
def atL (S : DS) (l : LS) (n : Int) : Int × List Int :=
  if offN S l = true then (7, []) else if n < 0 ∨ (l.L.length : Int) ≤ n then (4, []) else (0, l.L.getD n.toNat [])
end Go.Proofs.Ytlfmhdljldbjmaa

namespace Go.Proofs.Ytlfmhdljldbjmaa
set_option linter.unusedVariables false

/-- A long year. -/
def lp (y : Int) : Bool := y % 4 == 0 && (y % 100 != 0 || y % 400 == 0)
theorem lp_true {y : Int} : lp y = true ↔ y % 4 = 0 ∧ (y % 100 ≠ 0 ∨ y % 400 = 0) := by simp [lp]
theorem lp_false {y : Int} : lp y = false ↔ ¬ (y % 4 = 0 ∧ (y % 100 ≠ 0 ∨ y % 400 = 0)) := by
  rw [← lp_true]; cases lp y <;> simp
/-- A month's days. -/
def ml (y m : Int) : Int := if m = 2 then (if lp y = true then 29 else 28) else if m = 4 ∨ m = 6 ∨ m = 9 ∨ m = 11 then 30 else if 1 ≤ m ∧ m ≤ 12 then 31 else 0
theorem ml_none {y m : Int} (h : m < 1 ∨ 12 < m) : ml y m = 0 := by
  unfold ml
  rw [if_neg (by omega), if_neg (by omega), if_neg (by omega)]
theorem ml_pos {y m : Int} (h1 : 1 ≤ m) (h2 : m ≤ 12) : 28 ≤ ml y m ∧ ml y m ≤ 31 := by
  unfold ml
  split
  · split <;> omega
  · split
    · omega
    · rw [if_pos ⟨h1, h2⟩]; omega
theorem ml_le (y m : Int) : 0 ≤ ml y m ∧ ml y m ≤ 31 := by
  by_cases h : 1 ≤ m ∧ m ≤ 12
  · have := ml_pos (y := y) h.1 h.2; omega
  · rw [ml_none (by omega)]; omega
theorem ml_month {y m : Int} (h : 1 ≤ ml y m) : 1 ≤ m ∧ m ≤ 12 := by
  apply Classical.byContradiction
  intro hn
  rw [ml_none (by omega)] at h
  omega
/-- A date. -/
abbrev Gd (y m d : Int) : Prop := -9999 ≤ y ∧ y ≤ 9999 ∧ 1 ≤ d ∧ d ≤ ml y m
theorem Gd.month {y m d : Int} (h : Gd y m d) : 1 ≤ m ∧ m ≤ 12 := ml_month (y := y) (by have := h.2.2; omega)
theorem Gd.day {y m d : Int} (h : Gd y m d) : 1 ≤ d ∧ d ≤ 31 := by have := ml_le y m; have := h.2.2; omega

/-- The first day of a year. -/
def fy (y : Int) : Int := 365 * y + (y - 1) / 4 - (y - 1) / 100 + (y - 1) / 400 - 719527
theorem fy_step_long {y : Int} (h : lp y = true) : fy (y + 1) = fy y + 366 := by
  have := lp_true.1 h; unfold fy; omega
theorem fy_step_short {y : Int} (h : lp y = false) : fy (y + 1) = fy y + 365 := by
  have := lp_false.1 h; unfold fy; omega
theorem fy_step (y : Int) : fy (y + 1) = fy y + (if lp y = true then 366 else 365) := by
  cases h : lp y
  · rw [fy_step_short h]; simp
  · rw [fy_step_long h]; simp
theorem fy_400 (y : Int) : fy (y + 400) = fy y + 146097 := by unfold fy; omega
theorem lp_400 (y : Int) : lp (y + 400) = lp y := by
  have e1 : (y + 400) % 4 = y % 4 := by omega
  have e2 : (y + 400) % 100 = y % 100 := by omega
  have e3 : (y + 400) % 400 = y % 400 := by omega
  unfold lp; rw [e1, e2, e3]
theorem fy_add (y : Int) (k : Nat) : fy y + 365 * k ≤ fy (y + k) := by
  induction k with
  | zero => simp
  | succ k ih =>
    have h := fy_step (y + k)
    have e : y + ((k + 1 : Nat) : Int) = y + k + 1 := by omega
    rw [e, h]
    split <;> omega
theorem fy_mono {y z : Int} (h : y ≤ z) : fy y + 365 * (z - y) ≤ fy z := by
  have := fy_add y (z - y).toNat
  have e : y + ((z - y).toNat : Int) = z := by omega
  rw [e] at this
  omega
theorem fy_le_add (y : Int) (k : Nat) : fy (y + k) ≤ fy y + 366 * k := by
  induction k with
  | zero => simp
  | succ k ih =>
    have h := fy_step (y + k)
    have e : y + ((k + 1 : Nat) : Int) = y + k + 1 := by omega
    rw [e, h]
    split <;> omega
theorem fy_le {y z : Int} (h : y ≤ z) : fy z ≤ fy y + 366 * (z - y) := by
  have := fy_le_add y (z - y).toNat
  have e : y + ((z - y).toNat : Int) = z := by omega
  rw [e] at this
  omega
theorem fy_lo : fy (-9999) = -4371587 := by decide
theorem fy_hi : fy 10000 = 2932897 := by decide
theorem fy_0 : fy 1970 = 0 := by decide
theorem fy_range {y : Int} (h1 : -9999 ≤ y) (h2 : y ≤ 10000) : -4371587 ≤ fy y ∧ fy y ≤ 2932897 := by
  have a := fy_mono h1
  have b := fy_mono h2
  rw [fy_lo] at a
  rw [fy_hi] at b
  omega

/-- The days of a year ahead of a month. -/
def md (y m : Int) : Int := (367 * m - 362) / 12 - (if m ≤ 2 then 0 else if lp y = true then 1 else 2)
theorem md_one (y : Int) : md y 1 = 0 := by unfold md; simp
theorem md_step {y m : Int} (h1 : 1 ≤ m) (h2 : m ≤ 12) : md y (m + 1) = md y m + ml y m := by
  have : m = 1 ∨ m = 2 ∨ m = 3 ∨ m = 4 ∨ m = 5 ∨ m = 6 ∨ m = 7 ∨ m = 8 ∨ m = 9 ∨ m = 10 ∨ m = 11 ∨ m = 12 := by omega
  rcases this with rfl | rfl | rfl | rfl | rfl | rfl | rfl | rfl | rfl | rfl | rfl | rfl <;> cases h : lp y <;> simp [md, ml, h]
theorem md_end (y : Int) : md y 13 = if lp y = true then 366 else 365 := by
  cases h : lp y <;> simp [md, h]
theorem md_mono {y m k : Int} (h1 : 1 ≤ m) (h2 : m < k) : md y (m + 1) ≤ md y k := by
  unfold md
  split <;> split <;> (try split) <;> omega
theorem md_range {y m : Int} (h1 : 1 ≤ m) (h2 : m ≤ 13) : 0 ≤ md y m ∧ md y m ≤ 366 := by
  unfold md
  split <;> (try split) <;> omega
/-- A date's day. -/
def dayN (y m d : Int) : Int := fy y + md y m + (d - 1)
theorem day_in {y m d : Int} (h : Gd y m d) : fy y + md y m ≤ dayN y m d ∧ dayN y m d < fy y + md y (m + 1) ∧ dayN y m d < fy (y + 1) ∧ fy y ≤ dayN y m d := by
  have hm := h.month
  have h1 := md_step (y := y) hm.1 hm.2
  have h2 := md_range (y := y) (m := m) hm.1 (by omega)
  have h3 : md y (m + 1) ≤ md y 13 := by
    by_cases e : m = 12
    · rw [e]; exact Int.le_refl _
    · have := md_mono (y := y) (m := m) (k := 13) hm.1 (by omega); exact this
  rw [md_end] at h3
  have h4 := fy_step y
  obtain ⟨_, _, h5, h6⟩ := h
  unfold dayN
  omega
theorem day_range {y m d : Int} (h : Gd y m d) : -4371587 ≤ dayN y m d ∧ dayN y m d ≤ 2932896 := by
  have h1 := day_in h
  have h2 := fy_range (y := y) h.1 (by have := h.2.1; omega)
  have h3 := fy_range (y := y + 1) (by have := h.1; omega) (by have := h.2.1; omega)
  omega
/-- The order of dates. -/
abbrev Ahead (y m d y' m' d' : Int) : Prop := y < y' ∨ y = y' ∧ (m < m' ∨ m = m' ∧ d < d')
theorem day_ahead {y m d y' m' d' : Int} (h : Gd y m d) (h' : Gd y' m' d') (ha : Ahead y m d y' m' d') : dayN y m d < dayN y' m' d' := by
  have a := day_in h
  have b := day_in h'
  rcases ha with h1 | ⟨rfl, h1 | ⟨rfl, h1⟩⟩
  · have := fy_mono (y := y + 1) (z := y') (by omega)
    omega
  · have := md_mono (y := y) h.month.1 h1
    omega
  · unfold dayN; omega
theorem ahead_total {y m d y' m' d' : Int} (h1 : ¬ Ahead y m d y' m' d') (h2 : ¬ Ahead y' m' d' y m d) : y = y' ∧ m = m' ∧ d = d' := by
  unfold Ahead at h1 h2; omega
theorem day_lt {y m d y' m' d' : Int} (h : Gd y m d) (h' : Gd y' m' d') : dayN y m d < dayN y' m' d' ↔ Ahead y m d y' m' d' := by
  constructor
  · intro hl
    apply Classical.byContradiction
    intro h1
    by_cases h2 : Ahead y' m' d' y m d
    · have := day_ahead h' h h2; omega
    · obtain ⟨rfl, rfl, rfl⟩ := ahead_total h1 h2; omega
  · exact day_ahead h h'
theorem day_inj {y m d y' m' d' : Int} (h : Gd y m d) (h' : Gd y' m' d') (he : dayN y m d = dayN y' m' d') : y = y' ∧ m = m' ∧ d = d' := by
  refine ahead_total (fun h1 => ?_) (fun h1 => ?_)
  · have := day_ahead h h' h1; omega
  · have := day_ahead h' h h1; omega
/-- A day of a year, of its month. -/
theorem day_of {y m n : Int} (h1 : -9999 ≤ y) (h2 : y ≤ 9999) (hm1 : 1 ≤ m) (hm2 : m ≤ 12) (h3 : fy y + md y m ≤ n) (h4 : n < fy y + md y m + ml y m) : Gd y m (n - fy y - md y m + 1) ∧ dayN y m (n - fy y - md y m + 1) = n := by
  refine ⟨⟨h1, h2, by omega, by omega⟩, by unfold dayN; omega⟩
/-- Its place in the week. -/
def wd (n : Int) : Int := (n + 3) % 7
end Go.Proofs.Ytlfmhdljldbjmaa

namespace Go.Proofs.Ytlfmhdljldbjmaa
set_option linter.unusedVariables false

/-- So many digits of a number. -/
def pd : Nat → Int → List Int
  | 0, _ => []
  | k + 1, n => pd k (n / 10) ++ [48 + n % 10]
theorem pd_len (k : Nat) : ∀ n, (pd k n).length = k := by
  induction k with
  | zero => intro n; rfl
  | succ k ih => intro n; simp [pd, ih]
abbrev Dig (zs : List Int) : Prop := ∀ z ∈ zs, 48 ≤ z ∧ z ≤ 57
theorem pd_dig (k : Nat) : ∀ n, Dig (pd k n) := by
  induction k with
  | zero => intro n z hz; simp [pd] at hz
  | succ k ih =>
    intro n z hz
    rcases List.mem_append.1 hz with h | h
    · exact ih _ z h
    · simp at h; omega
/-- The number that digits are. -/
def vl : List Int → Int := List.foldl (fun a z => 10 * a + (z - 48)) 0
theorem vl_snoc (xs : List Int) (z : Int) : vl (xs ++ [z]) = 10 * vl xs + (z - 48) := by simp [vl, List.foldl_append]
theorem vl_pd2 (n : Int) (h : 0 ≤ n) (h1 : n ≤ 99) : vl (pd 2 n) = n := by
  simp only [pd, vl_snoc]
  simp [vl]
  omega
theorem vl_pd4 (n : Int) (h : 0 ≤ n) (h1 : n ≤ 9999) : vl (pd 4 n) = n := by
  simp only [pd, vl_snoc]
  simp [vl]
  omega
theorem vl_nonneg (xs : List Int) (h : Dig xs) : 0 ≤ vl xs := by
  suffices ∀ a : Int, 0 ≤ a → 0 ≤ List.foldl (fun a z => 10 * a + (z - 48)) a xs from this 0 (by omega)
  induction xs with
  | nil => intro a ha; exact ha
  | cons z xs ih =>
    intro a ha
    have := h z (by simp)
    exact ih (fun z hz => h z (by simp [hz])) _ (by show 0 ≤ 10 * a + (z - 48); omega)
/-- The year's digits. -/
def ab (y : Int) : Int := if y < 0 then -y else y
/-- What stands behind the sign. -/
def body (y m d : Int) : List Int := pd 4 (ab y) ++ (45 :: (pd 2 m ++ (45 :: pd 2 d)))
/-- A date's text. -/
def txt (y m d : Int) : List Int := if y < 0 then 45 :: body y m d else body y m d
theorem body_len (y m d : Int) : (body y m d).length = 10 := by simp [body, pd_len]
theorem body_head (y m d : Int) : ∃ z r, body y m d = z :: r ∧ 48 ≤ z ∧ z ≤ 57 := by
  have hl := pd_len 4 (ab y)
  have hd := pd_dig 4 (ab y)
  cases h : pd 4 (ab y) with
  | nil => rw [h] at hl; simp at hl
  | cons z r => exact ⟨z, r ++ (45 :: (pd 2 m ++ (45 :: pd 2 d))), by simp [body, h], hd z (by rw [h]; simp)⟩
theorem body_inj {y m d y' m' d' : Int} (h : body y m d = body y' m' d') : pd 4 (ab y) = pd 4 (ab y') ∧ pd 2 m = pd 2 m' ∧ pd 2 d = pd 2 d' := by
  unfold body at h
  obtain ⟨h1, h2⟩ := List.append_inj h (by rw [pd_len, pd_len])
  have h3 := (List.cons.inj h2).2
  obtain ⟨h4, h5⟩ := List.append_inj h3 (by rw [pd_len, pd_len])
  exact ⟨h1, h4, (List.cons.inj h5).2⟩
theorem Gd.ab {y m d : Int} (h : Gd y m d) : 0 ≤ ab y ∧ ab y ≤ 9999 := by
  have := h.1; have := h.2.1
  unfold Go.Proofs.Ytlfmhdljldbjmaa.ab; split <;> omega
theorem txt_inj {y m d y' m' d' : Int} (h : Gd y m d) (h' : Gd y' m' d') (he : txt y m d = txt y' m' d') : y = y' ∧ m = m' ∧ d = d' := by
  obtain ⟨z, r, hz, hz1, hz2⟩ := body_head y m d
  obtain ⟨z', r', hz', hz1', hz2'⟩ := body_head y' m' d'
  have key : body y m d = body y' m' d' → ab y = ab y' ∧ m = m' ∧ d = d' := by
    intro hb
    obtain ⟨h1, h2, h3⟩ := body_inj hb
    have a1 := h.month; have a2 := h.day; have b1 := h'.month; have b2 := h'.day
    have e1 := congrArg vl h1
    have e2 := congrArg vl h2
    have e3 := congrArg vl h3
    rw [vl_pd4 _ h.ab.1 h.ab.2, vl_pd4 _ h'.ab.1 h'.ab.2] at e1
    rw [vl_pd2 _ (by omega) (by omega), vl_pd2 _ (by omega) (by omega)] at e2 e3
    exact ⟨e1, e2, e3⟩
  unfold txt at he
  split at he
  · rename_i h1
    split at he
    · rename_i h2
      have := key (List.cons.inj he).2
      unfold ab at this
      rw [if_pos h1, if_pos h2] at this
      omega
    · rw [hz'] at he
      have := (List.cons.inj he).1
      omega
  · rename_i h1
    split at he
    · rw [hz] at he
      have := (List.cons.inj he).1
      omega
    · rename_i h2
      have := key he
      unfold ab at this
      rw [if_neg h1, if_neg h2] at this
      omega
open Classical in
/-- The date whose text these bytes are. -/
noncomputable def parseN (xs : List Int) : Option (Int × Int × Int) := if h : ∃ p : Int × Int × Int, Gd p.1 p.2.1 p.2.2 ∧ txt p.1 p.2.1 p.2.2 = xs then some h.choose else none
theorem parse_txt {y m d : Int} (h : Gd y m d) : parseN (txt y m d) = some (y, m, d) := by
  have hx : ∃ p : Int × Int × Int, Gd p.1 p.2.1 p.2.2 ∧ txt p.1 p.2.1 p.2.2 = txt y m d := ⟨(y, m, d), h, rfl⟩
  unfold parseN
  rw [dif_pos hx]
  have hc := hx.choose_spec
  obtain ⟨e1, e2, e3⟩ := txt_inj hc.1 h hc.2
  congr 1
  exact Prod.ext e1 (Prod.ext e2 e3)
theorem parse_some {xs : List Int} {y m d : Int} (h : parseN xs = some (y, m, d)) : Gd y m d ∧ txt y m d = xs := by
  unfold parseN at h
  split at h
  · rename_i hx
    have hc := hx.choose_spec
    cases h' : hx.choose with
    | mk a b =>
      simp only [Option.some.injEq] at h
      rw [h] at hc
      exact hc
  · cases h
theorem parse_none {xs : List Int} {y m d : Int} (h : parseN xs = none) (hg : Gd y m d) : txt y m d ≠ xs := by
  intro he
  rw [← he, parse_txt hg] at h
  cases h
theorem txt_by {y m d : Int} (h : Gd y m d) : ∀ z ∈ txt y m d, 0 ≤ z ∧ z ≤ 255 := by
  have hb : ∀ z ∈ body y m d, 0 ≤ z ∧ z ≤ 255 := by
    intro z hz
    unfold body at hz
    simp only [List.mem_append, List.mem_cons] at hz
    rcases hz with h1 | rfl | h1 | rfl | h1
    · have := pd_dig _ _ z h1; omega
    · omega
    · have := pd_dig _ _ z h1; omega
    · omega
    · have := pd_dig _ _ z h1; omega
  intro z hz
  unfold txt at hz
  split at hz
  · rcases List.mem_cons.1 hz with rfl | h1
    · omega
    · exact hb z h1
  · exact hb z hz
theorem take_snoc (xs : List Int) (k : Nat) (h : k < xs.length) : xs.take (k + 1) = xs.take k ++ [xs[k]?.getD 0] := by
  rw [List.take_add_one]; simp [h]
theorem vl_lt (xs : List Int) (h : Dig xs) (hl : xs.length ≤ 9) : vl xs ≤ 999999999 := by
  suffices ∀ k : Nat, k ≤ 9 → k ≤ xs.length → vl (xs.take k) + 1 ≤ 10 ^ k by
    have := this xs.length hl (Nat.le_refl _)
    rw [List.take_length] at this
    have h2 : (10 : Int) ^ xs.length ≤ 10 ^ 9 := by
      have : 10 ^ xs.length ≤ 10 ^ 9 := Nat.pow_le_pow_right (by decide) hl
      exact_mod_cast this
    omega
  intro k hk hk2
  induction k with
  | zero => simp [vl]
  | succ k ih =>
    have := ih (by omega) (by omega)
    rw [take_snoc xs k (by omega), vl_snoc, Int.pow_succ]
    have hz : xs[k]?.getD 0 ≤ 57 := by
      have := (h xs[k] (List.getElem_mem (by omega))).2
      simpa [show k < xs.length by omega] using this
    omega
/-- The number that these bytes are, or -1. -/
def dgv (zs : List Int) : Int := if Dig zs then vl zs else -1
theorem dgv_pd4 {n : Int} (h : 0 ≤ n ∧ n ≤ 9999) : dgv (pd 4 n) = n := by
  unfold dgv; rw [if_pos (pd_dig 4 n)]; exact vl_pd4 n h.1 h.2
theorem dgv_pd2 {n : Int} (h : 0 ≤ n ∧ n ≤ 99) : dgv (pd 2 n) = n := by
  unfold dgv; rw [if_pos (pd_dig 2 n)]; exact vl_pd2 n h.1 h.2
/-- The sign, and what stands behind it. -/
def sgn (xs : List Int) : Int := if xs.head? = some 45 then -1 else 1
def rest (xs : List Int) : List Int := if xs.head? = some 45 then xs.tail else xs
/-- A text's form. -/
def Shape (ts : List Int) : Prop := ts.length = 10 ∧ ts[4]?.getD 0 = 45 ∧ ts[7]?.getD 0 = 45
theorem body_shape (y m d : Int) : Shape (body y m d) := by
  have h4 := pd_len 4 (ab y)
  have h2 := pd_len 2 m
  refine ⟨body_len y m d, ?_, ?_⟩
  · unfold body
    rw [List.getElem?_append_right (by omega), h4]; rfl
  · unfold body
    rw [List.getElem?_append_right (by omega), h4]
    show ((pd 2 m ++ 45 :: pd 2 d)[2]?).getD 0 = 45
    rw [List.getElem?_append_right (by omega), h2]; rfl
theorem body_parts (y m d : Int) : (body y m d).take 4 = pd 4 (ab y) ∧ ((body y m d).drop 5).take 2 = pd 2 m ∧ (body y m d).drop 8 = pd 2 d := by
  have h4 := pd_len 4 (ab y)
  have h2 := pd_len 2 m
  have e5 : (body y m d).drop 5 = pd 2 m ++ (45 :: pd 2 d) := by
    have e : body y m d = (pd 4 (ab y) ++ [45]) ++ (pd 2 m ++ (45 :: pd 2 d)) := by simp [body]
    rw [e, List.drop_left' (by simp [h4])]
  refine ⟨List.take_left' h4, ?_, ?_⟩
  · rw [e5]; exact List.take_left' h2
  · have e : body y m d = (pd 4 (ab y) ++ (45 :: (pd 2 m ++ [45]))) ++ pd 2 d := by simp [body]
    rw [e, List.drop_left' (by simp [h4, h2])]
theorem txt_rest {y m d : Int} : rest (txt y m d) = body y m d ∧ sgn (txt y m d) * ab y = y := by
  obtain ⟨z, r, hz, hz1, hz2⟩ := body_head y m d
  unfold rest sgn txt ab
  by_cases h : y < 0
  · simp [h]
  · have hne : ¬ (body y m d).head? = some 45 := by rw [hz]; simp; omega
    simp [h, hne]
theorem parse_cand (xs : List Int) (Y M D : Int) (hY : Y = sgn xs * dgv ((rest xs).take 4)) (hM : M = dgv (((rest xs).drop 5).take 2)) (hD : D = dgv ((rest xs).drop 8)) {y m d : Int} (h : parseN xs = some (y, m, d)) :
    Shape (rest xs) ∧ 0 ≤ dgv ((rest xs).take 4) ∧ Y = y ∧ M = m ∧ D = d := by
  obtain ⟨hg, rfl⟩ := parse_some h
  obtain ⟨h1, h2⟩ := txt_rest (y := y) (m := m) (d := d)
  obtain ⟨p1, p2, p3⟩ := body_parts y m d
  rw [h1, p1] at hY
  rw [h1, p2] at hM
  rw [h1, p3] at hD
  have a1 := hg.month; have a2 := hg.day
  rw [dgv_pd4 hg.ab] at hY
  rw [dgv_pd2 (by omega)] at hM hD
  rw [h1, p1, dgv_pd4 hg.ab]
  exact ⟨body_shape y m d, hg.ab.1, by rw [hY, h2], hM, hD⟩
theorem dgv_range (zs : List Int) (hl : zs.length ≤ 9) : -1 ≤ dgv zs ∧ dgv zs ≤ 999999999 := by
  unfold dgv
  split
  · rename_i h
    exact ⟨by have := vl_nonneg zs h; omega, vl_lt zs h hl⟩
  · omega
end Go.Proofs.Ytlfmhdljldbjmaa

namespace Go.Proofs.Ytlfmhdljldbjmaa
open Go.RowKit
set_option linter.unusedVariables false

theorem ret_i {k : IntKind} {a b : Int} (h : a = b) : Ending.returned (.int k a) = .returned (.int k b) := by rw [h]
theorem byte_at {zs : List Int} (h : ∀ z ∈ zs, 0 ≤ z ∧ z ≤ 255) (k : Nat) : 0 ≤ zs[k]?.getD 0 ∧ zs[k]?.getD 0 ≤ 255 := by
  by_cases hk : k < zs.length
  · have := h zs[k] (List.getElem_mem hk); simpa [hk] using this
  · have : zs[k]? = none := by simp; omega
    simp [this]
theorem below_dN {B : Nat} {a w : World} (h : Below B a w) (n : Nat) : Below B a (w.drewN n) := ⟨h.os, h.tape, h.output, h.size, h.block⟩
theorem tmod0 (y k : Int) : y.tmod k = 0 ↔ y % k = 0 :=
  ⟨fun h => Int.emod_eq_zero_of_dvd (Int.dvd_of_tmod_eq_zero h), fun h => Int.tmod_eq_zero_of_dvd (Int.dvd_of_emod_eq_zero h)⟩
theorem ret_bool {a b : Bool} (h : a = b) : Ending.returned (.bool a) = .returned (.bool b) := by rw [h]
theorem lp_t (y : Int) : lp y = (y.tmod 4 == 0 && (y.tmod 100 != 0 || y.tmod 400 == 0)) := by
  have e1 := tmod0 y 4
  have e2 := tmod0 y 100
  have e3 := tmod0 y 400
  rw [Bool.eq_iff_iff, lp_true]
  simp [e1, e2, e3]
/-- A date's cells, in a block of its own. -/
structure DateAt (w : World) (g : Nat) (y m d : Int) : Prop where
  c0 : w.cell? ⟨g, 0, none⟩ = some (.int .i64 y)
  c1 : w.cell? ⟨g, 1, none⟩ = some (.int .i64 m)
  c2 : w.cell? ⟨g, 2, none⟩ = some (.int .i64 d)
theorem DateAt.made (w : World) (t : TypeId) (y m d : Int) : DateAt (w.alloc (.cells #[.int .i64 y, .int .i64 m, .int .i64 d] t)) w.heap.size y m d :=
  ⟨by rw [World.cell?_alloc_new]; rfl, by rw [World.cell?_alloc_new]; rfl, by rw [World.cell?_alloc_new]; rfl⟩
theorem DateAt.below {w w' : World} {g B : Nat} {y m d : Int} (h : DateAt w g y m d) (hb : Below B w w') (hg : g < B) : DateAt w' g y m d :=
  ⟨by rw [hb.cell (p := ⟨g, 0, none⟩) hg]; exact h.c0, by rw [hb.cell (p := ⟨g, 1, none⟩) hg]; exact h.c1, by rw [hb.cell (p := ⟨g, 2, none⟩) hg]; exact h.c2⟩

theorem tm_pos {n k : Int} (h : 0 ≤ n) : n.tmod k = n % k := Int.tmod_eq_emod_of_nonneg h
theorem tm_neg {n k : Int} (h : n ≤ 0) : n.tmod k = -((-n) % k) := by
  have e := Int.neg_tmod (-n) k
  rw [Int.neg_neg] at e
  rw [e, Int.tmod_eq_emod_of_nonneg (by omega)]
theorem td_pos {n k : Int} (h : 0 ≤ n) : n.tdiv k = n / k := Int.tdiv_eq_ediv_of_nonneg h
theorem td_neg {n k : Int} (h : n ≤ 0) : n.tdiv k = -((-n) / k) := by
  have e := Int.neg_tdiv (-n) k
  rw [Int.neg_neg] at e
  rw [e, Int.tdiv_eq_ediv_of_nonneg (by omega)]
theorem tm_7 (n : Int) : -7 < n.tmod 7 ∧ n.tmod 7 < 7 := by
  rcases Int.le_total 0 n with h | h
  · rw [tm_pos h]; omega
  · rw [tm_neg h]; omega
theorem wd_t (n : Int) : (n.tmod 7 + 7 + 3).tmod 7 = wd n := by
  have hb := tm_7 n
  rw [tm_pos (by omega)]
  unfold wd
  rcases Int.le_total 0 n with h | h
  · rw [tm_pos h]; omega
  · rw [tm_neg h]; omega
/-- A day's year. -/
theorem year_of {n y : Int} (h1 : fy y ≤ n) (h2 : n < fy 10000) : y ≤ 9999 := by
  apply Classical.byContradiction
  intro hn
  have := fy_mono (y := 10000) (z := y) (by omega)
  omega
theorem year_from {n y : Int} (h1 : fy (-9999) ≤ n) (h2 : n < fy (y + 1)) : -9999 ≤ y := by
  apply Classical.byContradiction
  intro hn
  have := fy_mono (y := y + 1) (z := -9999) (by omega)
  omega
theorem month_of {y m n : Int} (h1 : 1 ≤ m) (h2 : m ≤ 12) (h3 : fy y + md y m + ml y m ≤ n) (h4 : n < fy (y + 1)) : m ≤ 11 := by
  apply Classical.byContradiction
  intro hn
  obtain rfl : m = 12 := by omega
  have := md_step (y := y) (m := 12) (by omega) (by omega)
  have e := md_end y
  have e2 := fy_step y
  have e3 : (12 : Int) + 1 = 13 := rfl
  rw [e3] at this
  omega
theorem nums_app (xs ys : List Int) : strOfNums xs ++ strOfNums ys = strOfNums (xs ++ ys) := by
  apply ByteArray.ext
  simp [strOfNums]
theorem nums_nil : strOfNums [] = ⟨#[]⟩ := rfl
theorem nums_at (xs : List Int) (hb : ∀ z ∈ xs, 0 ≤ z ∧ z ≤ 255) (k : Nat) (h : k < (strOfNums xs).size) : (((strOfNums xs)[k]'h).toNat : Int) = xs[k]?.getD 0 := by
  have hk : k < xs.length := by rw [strOfNums_size] at h; exact h
  have e : (strOfNums xs)[k]'h = UInt8.ofNat (xs[k]).toNat := by simp [strOfNums, ByteArray.getElem_eq_getElem_data]
  have hx := hb xs[k] (List.getElem_mem hk)
  rw [e]
  simp [hk]
  omega
theorem txt_neg (y m d : Int) (h : y < 0) : ⟨#[45]⟩ ++ strOfNums (pd 4 (ab y)) ++ ⟨#[45]⟩ ++ strOfNums (pd 2 m) ++ ⟨#[45]⟩ ++ strOfNums (pd 2 d) = strOfNums (txt y m d) := by
  show strOfNums [45] ++ strOfNums (pd 4 (ab y)) ++ strOfNums [45] ++ strOfNums (pd 2 m) ++ strOfNums [45] ++ strOfNums (pd 2 d) = _
  rw [nums_app, nums_app, nums_app, nums_app, nums_app]
  unfold txt body
  rw [if_pos h]
  simp
theorem txt_pos (y m d : Int) (h : ¬ y < 0) : strOfNums (pd 4 (ab y)) ++ ⟨#[45]⟩ ++ strOfNums (pd 2 m) ++ ⟨#[45]⟩ ++ strOfNums (pd 2 d) = strOfNums (txt y m d) := by
  show strOfNums (pd 4 (ab y)) ++ strOfNums [45] ++ strOfNums (pd 2 m) ++ strOfNums [45] ++ strOfNums (pd 2 d) = _
  rw [nums_app, nums_app, nums_app, nums_app]
  unfold txt body
  rw [if_neg h]
  simp
theorem nums_cut (xs : List Int) (i j : Nat) : (strOfNums xs).extract i j = strOfNums ((xs.drop i).take (j - i)) := by
  apply ByteArray.ext
  apply Array.ext'
  simp [strOfNums, List.extract_eq_take_drop, List.map_take, List.map_drop]
theorem str_inj {xs ys : List Int} (hx : ∀ z ∈ xs, 0 ≤ z ∧ z ≤ 255) (hy : ∀ z ∈ ys, 0 ≤ z ∧ z ≤ 255) (h : (strOfNums xs).toList = (strOfNums ys).toList) : xs = ys := by
  have e : ∀ zs : List Int, (strOfNums zs).toList = zs.map fun n => UInt8.ofNat n.toNat := fun zs => by rw [ByteArray.toList_eq]; exact strOfNums_data zs
  rw [e, e] at h
  have key : ∀ (xs ys : List Int), (∀ z ∈ xs, 0 ≤ z ∧ z ≤ 255) → (∀ z ∈ ys, 0 ≤ z ∧ z ≤ 255) → (xs.map fun n => UInt8.ofNat n.toNat) = (ys.map fun n => UInt8.ofNat n.toNat) → xs = ys := by
    intro xs
    induction xs with
    | nil => intro ys _ _ h; cases ys with
      | nil => rfl
      | cons y ys => simp at h
    | cons x xs ih =>
      intro ys hx hy h
      cases ys with
      | nil => simp at h
      | cons y ys =>
        simp only [List.map_cons, List.cons.injEq] at h
        have h1 := congrArg UInt8.toNat h.1
        have bx := hx x (by simp)
        have by' := hy y (by simp)
        simp at h1
        rw [ih ys (fun z hz => hx z (by simp [hz])) (fun z hz => hy z (by simp [hz])) h.2]
        congr 1
        omega
  exact key xs ys hx hy h

theorem set_same3 {w : World} {g : Nat} {a b c : Int} (h : DateAt w g a b c) : (∀ x, (w.setCell ⟨g, 0, none⟩ x).cell? ⟨g, 0, none⟩ = some x) ∧ (∀ x y, ((w.setCell ⟨g, 0, none⟩ x).setCell ⟨g, 1, none⟩ y).cell? ⟨g, 1, none⟩ = some y) ∧ (∀ x y z, (((w.setCell ⟨g, 0, none⟩ x).setCell ⟨g, 1, none⟩ y).setCell ⟨g, 2, none⟩ z).cell? ⟨g, 2, none⟩ = some z) := by
  refine ⟨fun x => World.cell?_setCell_same _ _ _ h.c0, fun x y => World.cell?_setCell_same _ _ _ ((World.cell?_setCell_other _ _ _ _ (by intro h'; injection h' with _ h2; omega)).trans h.c1), fun x y z => World.cell?_setCell_same _ _ _ (((World.cell?_setCell_other _ _ _ _ (by intro h'; injection h' with _ h2; omega)).trans (World.cell?_setCell_other _ _ _ _ (by intro h'; injection h' with _ h2; omega))).trans h.c2)⟩
structure TwoMade (w v : World) (Y M D : Int) : Prop where
  date : DateAt v (w.heap.size + 1) Y M D
  zero : DateAt v w.heap.size 0 0 0
  free : ∀ j, v.frozen? ⟨w.heap.size, j, none⟩ = false
  below : Below w.heap.size w v
  size : v.heap.size = w.heap.size + 2
theorem two_made (w : World) (t : TypeId) (Y M D : Int) : TwoMade w ((w.alloc (Obj.cells #[Value.int IntKind.i64 0, Value.int IntKind.i64 0, Value.int IntKind.i64 0] t)).alloc (Obj.cells #[Value.int IntKind.i64 Y, Value.int IntKind.i64 M, Value.int IntKind.i64 D] t)).drew Y M D := by
  obtain ⟨v1, h1⟩ : ∃ v1, v1 = w.alloc (Obj.cells #[Value.int IntKind.i64 0, Value.int IntKind.i64 0, Value.int IntKind.i64 0] t) := ⟨_, rfl⟩
  have hz := DateAt.made w t 0 0 0
  rw [← h1] at hz ⊢
  have hs1 : v1.heap.size = w.heap.size + 1 := by rw [h1]; simp
  have hb1 : Below w.heap.size w v1 := by rw [h1]; exact (Below.refl _ _).alloc (Nat.le_refl _) _
  have hb2 : Below v1.heap.size v1 (v1.alloc (Obj.cells #[Value.int IntKind.i64 Y, Value.int IntKind.i64 M, Value.int IntKind.i64 D] t)).drew := ((Below.refl _ _).alloc (Nat.le_refl _) _).drew
  have hd := (DateAt.made v1 t Y M D).below (B := v1.heap.size + 1) (Below.refl _ _).drew (by omega)
  rw [hs1] at hd
  refine ⟨hd, hz.below hb2 (by omega), fun j => ?_, hb1.trans (hb2.mono (by omega)), by show (v1.alloc _).heap.size = _; simp [hs1]⟩
  rw [hb2.frozen (p := ⟨w.heap.size, j, none⟩) (by show w.heap.size < _; omega), h1]
  have : (w.alloc (Obj.cells #[Value.int IntKind.i64 0, Value.int IntKind.i64 0, Value.int IntKind.i64 0] t)).heap[w.heap.size]? = some (.cells #[Value.int IntKind.i64 0, Value.int IntKind.i64 0, Value.int IntKind.i64 0] t (0, 0)) := by
    show (w.heap.push _)[w.heap.size]? = _
    simp
  unfold World.frozen?; rw [this]; simp
end Go.Proofs.Ytlfmhdljldbjmaa

namespace Go.Proofs.Ytlfmhdljldbjmaa
open Go.RowKit Go.ChangeShapes Go.WideShapes Go.ChangeAt Go.Deep
set_option linter.unusedVariables false

/-- A list of lists of bytes that lies somewhere: each one's bytes, and where they are. -/
structure RowsOf (w : World) (a : Option Addr) (cap : Nat) (ls : List (List Int)) : Prop where
  nil : a = none → ls = [] ∧ cap = 0
  le : ls.length ≤ cap
  cells : ls = [] ∨ ∃ b off, a = some ⟨b, off, none⟩ ∧ ∀ r, r < ls.length → ∃ (x : Option Addr) (c : Nat), w.cell? ⟨b, off + r, none⟩ = some (.slice x (ls.getD r []).length c) ∧ Row w x (ls.getD r []) ∧ (x = none → c = 0) ∧ (ls.getD r []).length ≤ c
theorem RowsOf.below {w w' : World} {a : Option Addr} {cap : Nat} {ls : List (List Int)} (h : RowsOf w a cap ls) {B : Nat} (hb : Below B w w') (hB : w.heap.size ≤ B) : RowsOf w' a cap ls := by
  refine ⟨h.nil, h.le, ?_⟩
  rcases h.cells with h0 | ⟨b, off, rfl, hc⟩
  · exact .inl h0
  · refine .inr ⟨b, off, rfl, fun r hr => ?_⟩
    obtain ⟨x, c, h1, h2, h3, h4⟩ := hc r hr
    exact ⟨x, c, by rw [hb.cell (Nat.lt_of_lt_of_le (lt_of_cell h1) hB)]; exact h1, h2.below hb hB, h3, h4⟩
theorem RowsOf.take {w : World} {a : Option Addr} {cap : Nat} {ls : List (List Int)} (h : RowsOf w a cap ls) (m : Nat) : RowsOf w a cap (ls.take m) := by
  refine ⟨fun ha => ⟨by rw [(h.nil ha).1]; simp, (h.nil ha).2⟩, Nat.le_trans (List.length_take_le' _ _) h.le, ?_⟩
  rcases h.cells with h0 | ⟨b, off, rfl, hc⟩
  · left; rw [h0]; simp
  · refine .inr ⟨b, off, rfl, fun r hr => ?_⟩
    simp at hr
    have e : (ls.take m).getD r [] = ls.getD r [] := by
      have hrm : r < m := by omega
      simp [List.getD, hrm]
    rw [e]
    exact hc r (by omega)
/-- The list at place r. -/
theorem RowsOf.at {w : World} {a : Option Addr} {cap : Nat} {ls : List (List Int)} (h : RowsOf w a cap ls) {r : Nat} (hr : r < ls.length) :
    ∃ b off x c, a = some ⟨b, off, none⟩ ∧ w.cell? ⟨b, off + r, none⟩ = some (.slice x (ls.getD r []).length c) ∧ Row w x (ls.getD r []) ∧ (x = none → (ls.getD r []).length = 0 ∧ c = 0) := by
  rcases h.cells with h0 | ⟨b, off, rfl, hc⟩
  · rw [h0] at hr; simp at hr
  · obtain ⟨x, c, h1, h2, h3, h4⟩ := hc r hr
    exact ⟨b, off, x, c, rfl, h1, h2, fun hx => ⟨by have := h3 hx; omega, h3 hx⟩⟩

theorem strs_inj {xs ys : List Int} (hx : ∀ z ∈ xs, 0 ≤ z ∧ z ≤ 255) (hy : ∀ z ∈ ys, 0 ≤ z ∧ z ≤ 255) (h : (strOfNums xs).toList = (strOfNums ys).toList) : xs = ys := by
  have e : ∀ zs : List Int, (strOfNums zs).toList = zs.map fun n => UInt8.ofNat n.toNat := fun zs => by rw [ByteArray.toList_eq]; exact strOfNums_data zs
  rw [e, e] at h
  have back : ∀ zs : List Int, (∀ z ∈ zs, 0 ≤ z ∧ z ≤ 255) → (zs.map fun n => UInt8.ofNat n.toNat).map (fun b => (b.toNat : Int)) = zs := by
    intro zs hz
    rw [List.map_map]
    conv => rhs; rw [← List.map_id zs]
    apply List.map_congr_left
    intro z hm
    have := hz z hm
    have hn : z.toNat < 256 := by omega
    simp [Nat.mod_eq_of_lt hn]
    omega
  have := congrArg (List.map fun b : UInt8 => (b.toNat : Int)) h
  rwa [back xs hx, back ys hy] at this
theorem str_eq {xs ys : List Int} (hx : ∀ z ∈ xs, 0 ≤ z ∧ z ≤ 255) (hy : ∀ z ∈ ys, 0 ≤ z ∧ z ≤ 255) : ((strOfNums xs).toList == (strOfNums ys).toList) = decide (xs = ys) := by
  by_cases h : xs = ys
  · subst h; simp
  · have : ¬ (strOfNums xs).toList = (strOfNums ys).toList := fun e => h (strs_inj hx hy e)
    simp [h, this]
theorem str_ne {xs ys : List Int} (hx : ∀ z ∈ xs, 0 ≤ z ∧ z ≤ 255) (hy : ∀ z ∈ ys, 0 ≤ z ∧ z ≤ 255) : ((strOfNums xs).toList != (strOfNums ys).toList) = !decide (xs = ys) := by
  rw [bne, str_eq hx hy]
theorem str_at {w : World} {a : Option Addr} {zs : List Int} {n : Nat} (hn : zs.length = n) (h : Row w a zs) (cap : Nat) :
    (convert 31 9 (.slice a n cap)).run Try.prog w = .ok (.string (strOfNums zs)) w := by subst hn; exact str_of_row h cap
theorem same_heap {w w' : World} (h : w'.heap = w.heap) (a : Addr) : w'.cell? a = w.cell? a := by unfold World.cell?; rw [h]
theorem Row.same {w w' : World} {a : Option Addr} {zs : List Int} (h : Row w a zs) (he : w'.heap = w.heap) : Row w' a zs := by
  refine ⟨h.1, h.2.imp id ?_⟩
  rintro ⟨b, off, h1, h2⟩
  exact ⟨b, off, h1, fun j hj => by rw [same_heap he]; exact h2 j hj⟩
theorem RowsOf.same {w w' : World} {a : Option Addr} {cap : Nat} {ls : List (List Int)} (h : RowsOf w a cap ls) (he : w'.heap = w.heap) : RowsOf w' a cap ls := by
  refine ⟨h.nil, h.le, h.cells.imp id ?_⟩
  rintro ⟨b, off, h1, h2⟩
  refine ⟨b, off, h1, fun r hr => ?_⟩
  obtain ⟨x, c, h3, h4, h5, h6⟩ := h2 r hr
  exact ⟨x, c, by rw [same_heap he]; exact h3, h4.same he, h5, h6⟩
section
variable {H : Type} {enc : TypeId × Value → H} {w : World} {base : Nat} {held : Bool}
theorem rows_open {t e : TypeId} {fuel : Nat} {a : Option Addr} {len cap : Nat} {x : DataW H × List MemPlace} (ht : Try.prog.underlying t = some (.slice e)) (he : Try.prog.underlying e = some (.slice 5)) (ce : Try.prog.cellsOf e = 1) (c5 : Try.prog.cellsOf 5 = 1)
    (h : DataW.trod enc Try.prog w base (fun _ => true) held fuel t [.slice a len cap] = some x) : ∃ ls : List (List Int), ls.length = len ∧ RowsOf w a cap ls := by
  rcases open_int_rows ht he Try.underlying5 ce c5 h with ⟨hcs, _⟩ | ⟨x, l, c, A, L, C, Z, hcs, _, hl, hm, _, hr⟩
  · simp at hcs
    obtain ⟨rfl, rfl, rfl⟩ := hcs
    exact ⟨[], rfl, ⟨fun _ => ⟨rfl, rfl⟩, Nat.le_refl _, .inl rfl⟩⟩
  · simp at hcs
    obtain ⟨rfl, rfl, rfl⟩ := hcs
    by_cases h0 : len = 0
    · subst h0
      exact ⟨[], rfl, ⟨fun h => by simp at h, Nat.zero_le _, .inl rfl⟩⟩
    · obtain ⟨b, off, spot⟩ := x
      have hspot : spot = none := by simpa [Addr.add] using World.cell?_spot (hr 0 (by omega)).1
      subst hspot
      refine ⟨(List.range len).map fun r => (Z r).take (L r), by simp, ⟨fun h => by simp at h, by simpa using hl, .inr ⟨b, off, rfl, fun r hr' => ?_⟩⟩⟩
      simp at hr'
      obtain ⟨h1, h2, h3, h4, h5, h6, h7⟩ := hr r (by omega)
      have e : ((List.range len).map fun r => (Z r).take (L r)).getD r [] = (Z r).take (L r) := by simp [List.getD, hr']
      have el : ((Z r).take (L r)).length = L r := by simp; omega
      rw [e, el]
      rw [add_plain] at h1
      refine ⟨A r, C r, h1, ?_, h6, h2⟩
      cases hA : A r with
      | none =>
        have hC := h6 hA
        have : (Z r).take (L r) = [] := List.eq_nil_of_length_eq_zero (by rw [el]; omega)
        rw [this]; exact Row.nil _ _
      | some ad =>
        obtain ⟨zs, hz, hrow⟩ := row_of (w := w) (a := some ad) (len := L r) (cap := C r) (z := Z r) (.inr ⟨ad, rfl, h2, h3, h4, fun i hi => (h7 ad hA).2 i (by omega), h5⟩)
        by_cases hL : L r = 0
        · have : (Z r).take (L r) = [] := List.eq_nil_of_length_eq_zero (by rw [el]; exact hL)
          rw [this]; exact Row.nil _ _
        · refine ⟨fun n hn => bounds_u8 (h5 n (List.mem_of_mem_take hn)), .inr ?_⟩
          rcases hrow.cells with h0' | ⟨b', off', h', hc'⟩
          · rw [h0'] at hz; simp at hz; omega
          · cases h'
            refine ⟨b', off', rfl, fun j hj => ?_⟩
            rw [el] at hj
            have h8 := (h7 _ hA).2 j (by omega)
            rw [add_plain] at h8
            rw [h8]
            simp [List.getD, hj]
/-- An array of integers that came in. -/
def IsArr (k : IntKind) (n : Nat) (zs : List Int) : Prop := zs.length = n ∧ ∀ z ∈ zs, (Lit.int k z).wf = true
theorem mapM_each {α β : Type} {f : α → Option β} : ∀ {l : List α} {ys : List β}, l.mapM f = some ys → ∀ i ∈ l, ∃ y, f i = some y
  | [], _, _, i, hi => by simp at hi
  | a :: l, ys, h, i, hi => by
    rw [List.mapM_cons] at h
    simp only [bind, Option.bind_eq_some_iff, pure, Option.some.injEq] at h
    obtain ⟨y, hy, zs, hzs, _⟩ := h
    rcases List.mem_cons.1 hi with rfl | hi
    · exact ⟨y, hy⟩
    · exact mapM_each hzs i hi
theorem arr_open {P : Program} {t e : TypeId} {k : IntKind} {n : Nat} {sp : Nat → Bool} {v : Value} {r : Reach} {b0 : Nat} {d : DataW H} {ps : List MemPlace} (ht : P.underlying t = some (.array n e)) (he : P.underlying e = some (.int k)) (ct : P.cellsOf t = n) (ce : P.cellsOf e = 1)
    (hval : Value.okWide P w r b0 t v) (hd : DataW.Trod enc P w base sp held t v d ps) : ∃ zs : List Int, v = .agg (zs.map (Value.int k)).toArray ∧ IsArr k n zs := by
  simp only [Value.okWide, ht] at hval
  obtain ⟨xs, rfl, hsz, _⟩ := hval
  rw [ct] at hsz
  obtain ⟨fuel, hf⟩ := hd
  cases fuel with
  | zero => simp [DataW.trod] at hf
  | succ m =>
    rw [DataW.trod_step] at hf
    unfold DataW.trodStep at hf
    simp only [ht, Value.cells] at hf
    rw [if_pos (by rw [ct]; simpa using hsz)] at hf
    simp only [Option.map_eq_some_iff] at hf
    obtain ⟨ys, hy, _⟩ := hf
    have each : ∀ i, i < n → ∃ z : Int, xs[i]? = some (.int k z) ∧ (Lit.int k z).wf = true := by
      intro i hi
      obtain ⟨y, hy'⟩ := mapM_each hy i (by simpa using hi)
      obtain ⟨z, hz, _, hwf⟩ := DataW.trod_int he hy'
      rw [ce, Nat.mul_one] at hz
      refine ⟨z, ?_, hwf⟩
      have h2 := congrArg (fun l => l[0]?) hz
      simpa using h2
    obtain ⟨f, hfz⟩ := choose_lt each
    refine ⟨(List.range n).map f, ?_, by simp, fun z hz => ?_⟩
    · congr 1
      apply Array.ext'
      apply List.ext_getElem
      · simp; omega
      · intro i h1 h2
        simp at h2
        have := (hfz i h2).1
        simp at h1
        rw [Array.getElem?_eq_getElem h1] at this
        simp at this
        simp [this]
    · simp at hz
      obtain ⟨i, hi, rfl⟩ := hz
      exact (hfz i hi).2
end
/-- Two arrays of integers, held against each other. -/
theorem eq_items {P : Program} {e : TypeId} {k : IntKind} (he : P.underlying e = some (.int k)) (ce : P.cellsOf e = 1) (d : Nat) (w : World) (A B : List Int) : ∀ m s, A.length = s + m → B.length = s + m →
    (Op.eqItems (d + 1) e (P.cellsOf e) (A.map (Value.int k)).toArray (B.map (Value.int k)).toArray (List.range' s m)).run P w = .ok (A.drop s == B.drop s) w := by
  have hpk : P.plainKey e = true := by unfold Program.plainKey; rw [he]
  intro m
  induction m with
  | zero =>
    intro s ha hb
    have e1 : A.drop s = [] := List.drop_eq_nil_of_le (by omega)
    have e2 : B.drop s = [] := List.drop_eq_nil_of_le (by omega)
    rw [e1, e2]
    simp [Op.eqItems]
  | succ m ih =>
    intro s ha hb
    have hsa : s < A.length := by omega
    have hsb : s < B.length := by omega
    have p1 := run_part_plain (P := P) w hpk (xs := (A.map (Value.int k)).toArray) (off := s * P.cellsOf e) (v := .int k A[s]) (by rw [ce, Nat.mul_one]; simp [hsa])
    have p2 := run_part_plain (P := P) w hpk (xs := (B.map (Value.int k)).toArray) (off := s * P.cellsOf e) (v := .int k B[s]) (by rw [ce, Nat.mul_one]; simp [hsb])
    have p3 := run_equalIn_int (P := P) w d e k k A[s] B[s] he
    rw [List.range'_succ]
    simp only [Op.eqItems, Sem.run_bind, p1, p2, p3, Result.andThen_ok]
    have e3 : (A.drop s == B.drop s) = (A[s] == B[s] && A.drop (s + 1) == B.drop (s + 1)) := by rw [List.drop_eq_getElem_cons hsa, List.drop_eq_getElem_cons hsb]; rfl
    rw [e3]
    by_cases h : A[s] = B[s]
    · have hb' : (A[s] == B[s]) = true := by simp [h]
      rw [hb']
      simp only [Bool.not_true, Bool.false_eq_true, if_false]
      rw [ih (s + 1) (by omega) (by omega), Bool.true_and]
    · have hb' : (A[s] == B[s]) = false := by simp [h]
      rw [hb']
      simp
theorem eq_arr {P : Program} {t e : TypeId} {k : IntKind} {n : Nat} {i : TypeInfo} (hu : P.underlying t = some (.array n e)) (he : P.underlying e = some (.int k)) (ce : P.cellsOf e = 1) (hi : P.info? e = some i) (w : World) (A B : List Int) (ha : A.length = n) (hb : B.length = n) :
    (Op.equalIn 10000 t (.agg (A.map (Value.int k)).toArray) (.agg (B.map (Value.int k)).toArray)).run P w = .ok (A == B) w := by
  rw [run_equalIn_array w 9999 _ _ hu hi, List.range_eq_range', eq_items he ce 9998 w A B n 0 (by omega) (by omega)]
  simp
end Go.Proofs.Ytlfmhdljldbjmaa

