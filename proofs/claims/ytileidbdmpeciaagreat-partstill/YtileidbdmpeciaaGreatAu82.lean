/-
  Things that live on in memory: which blocks are theirs, what a call that works on one of them leaves of the others. No function of the program is named here.
  Maps from texts to pointers at whole blocks: what a look-up, a store, a delete and a range over one of them give. No function of the program is named here.
  Maps from numbers to numbers, made by the call: what a look-up and a store of one of them give. No function of the program is named here.
-/
import Derived.Test.YtileidbdmpeciaaGreatProg
import Derived.Below
import Derived.WalkKit
import Derived.Maps.RangeWalk
namespace Go.Proofs.YtileidbdmpeciaaGreat
open Go.RowKit
set_option linter.unusedVariables false

/-- Some blocks. -/
abbrev Foot := Nat → Prop
/-- A world that has come of another: of what was there, the blocks of X alone may have turned. -/
structure Chg (u u' : World) (X : Foot) : Prop where
  os : u'.os = u.os
  tape : u'.tape = u.tape
  output : u'.output = u.output
  size : u.heap.size ≤ u'.heap.size
  block : ∀ k, k < u.heap.size → ¬ X k → u'.heap[k]? = u.heap[k]?
theorem Chg.refl (u : World) (X : Foot) : Chg u u X := ⟨rfl, rfl, rfl, Nat.le_refl _, fun _ _ _ => rfl⟩
theorem Chg.mono {u u' : World} {X Y : Foot} (h : Chg u u' X) (hXY : ∀ k, k < u.heap.size → X k → Y k) : Chg u u' Y := ⟨h.os, h.tape, h.output, h.size, fun k hk hn => h.block k hk (fun hx => hn (hXY k hk hx))⟩
theorem Chg.trans {u u' u'' : World} {X Y : Foot} (h : Chg u u' X) (k : Chg u' u'' Y) (hY : ∀ j, j < u.heap.size → Y j → X j) : Chg u u'' X :=
  ⟨k.os.trans h.os, k.tape.trans h.tape, k.output.trans h.output, Nat.le_trans h.size k.size, fun j hj hn => (k.block j (Nat.lt_of_lt_of_le hj h.size) (fun hy => hn (hY j hj hy))).trans (h.block j hj hn)⟩
theorem Chg.of_below {u u' : World} (h : Below u.heap.size u u') (X : Foot) : Chg u u' X := ⟨h.os, h.tape, h.output, h.size, fun k hk _ => h.block k hk⟩
theorem Chg.of_grown {u u' : World} {row : Option Nat} (h : u.grownBy u' row) {X : Foot} (hX : ∀ k, row = some k → X k) : Chg u u' X :=
  ⟨h.os, h.tape, h.output, h.size, fun k hk hn => h.block k hk (fun e => hn (hX k e.symm))⟩
theorem Chg.below {u u' : World} {X : Foot} (h : Chg u u' X) {B : Nat} (hB : B ≤ u.heap.size) (hX : ∀ k, X k → B ≤ k) : Below B u u' :=
  ⟨h.os, h.tape, h.output, h.size, fun k hk => h.block k (by omega) (fun hx => by have := hX k hx; omega)⟩
theorem Chg.set (u : World) (a : Addr) (v : Value) {X : Foot} (h : X a.block) : Chg u (u.setCell a v) X :=
  ⟨rfl, rfl, rfl, by rw [World.size_setCell]; exact Nat.le_refl _, fun k hk hn => Below.heap_setCell _ a _ k (fun e => hn (by rw [e]; exact h))⟩
theorem Chg.drew {u u' : World} {X : Foot} (h : Chg u u' X) : Chg u u'.drew X := ⟨h.os, h.tape, h.output, h.size, h.block⟩
theorem Chg.alloc {u u' : World} {X : Foot} (h : Chg u u' X) (o : Obj) : Chg u (u'.alloc o) X :=
  h.trans (Chg.of_below ((Below.refl _ _).alloc (Nat.le_refl _) o) X) (fun _ _ x => x)
/-- What a call that works on X leaves: nothing else of what was there has turned; what is X now was X, or is new. -/
structure Did (u u' : World) (X X' : Foot) : Prop where
  chg : Chg u u' X
  new : ∀ k, X' k → (X k ∨ u.heap.size ≤ k) ∧ k < u'.heap.size
theorem Did.trans {u u' u'' : World} {X X' X'' : Foot} (h : Did u u' X X') (k : Did u' u'' X' X'') : Did u u'' X X'' :=
  ⟨h.chg.trans k.chg (fun j hj hx => by rcases (h.new j hx).1 with h1 | h1; exact h1; omega), fun j hj => by
    refine ⟨?_, (k.new j hj).2⟩
    rcases (k.new j hj).1 with h1 | h1
    · exact (h.new j h1).1
    · exact .inr (Nat.le_trans h.chg.size h1)⟩
theorem Did.stay {u u' : World} {X : Foot} (h : Below u.heap.size u u') (hX : ∀ k, X k → k < u.heap.size) : Did u u' X X := ⟨Chg.of_below h X, fun k hk => ⟨.inl hk, Nat.lt_of_lt_of_le (hX k hk) h.size⟩⟩
theorem Did.same {u u' : World} {X : Foot} (h : Chg u u' X) (hX : ∀ k, X k → k < u.heap.size) : Did u u' X X := ⟨h, fun k hk => ⟨.inl hk, Nat.lt_of_lt_of_le (hX k hk) h.size⟩⟩
/-- No blocks. -/
def noFoot : Foot := fun _ => False
/-- The things of a call, each with blocks of its own, all made since w. -/
structure Apart (w u : World) (Xs : Nat → Foot) : Prop where
  below : Below w.heap.size w u
  lo : ∀ i k, Xs i k → w.heap.size ≤ k ∧ k < u.heap.size
  dis : ∀ i j k, Xs i k → Xs j k → i = j
/-- One of them has other blocks now. -/
def upd (Xs : Nat → Foot) (i : Nat) (X : Foot) : Nat → Foot := fun j => if j = i then X else Xs j
theorem Apart.past {w u u' : World} {Xs : Nat → Foot} (h : Apart w u Xs) (hb : Below u.heap.size u u') : Apart w u' Xs :=
  ⟨h.below.trans (hb.mono h.below.size), fun i k hk => ⟨(h.lo i k hk).1, Nat.lt_of_lt_of_le (h.lo i k hk).2 hb.size⟩, h.dis⟩
theorem Apart.step {w u u' : World} {Xs : Nat → Foot} {X' : Foot} (h : Apart w u Xs) (i : Nat) (d : Did u u' (Xs i) X') : Apart w u' (upd Xs i X') := by
  have hnew : ∀ k, X' k → w.heap.size ≤ k ∧ k < u'.heap.size := fun k hk => by
    refine ⟨?_, (d.new k hk).2⟩
    rcases (d.new k hk).1 with h1 | h1
    · exact (h.lo i k h1).1
    · exact Nat.le_trans h.below.size h1
  have hfar : ∀ j k, j ≠ i → Xs j k → ¬ X' k := fun j k hj hk hx => by
    rcases (d.new k hx).1 with h1 | h1
    · exact hj (h.dis j i k hk h1)
    · have := (h.lo j k hk).2; omega
  refine ⟨h.below.trans (d.chg.below h.below.size (fun k hk => (h.lo i k hk).1)), fun j k hk => ?_, fun a b k ha hb => ?_⟩
  · unfold upd at hk
    split at hk
    · exact hnew k hk
    · exact ⟨(h.lo j k hk).1, Nat.lt_of_lt_of_le (h.lo j k hk).2 d.chg.size⟩
  · unfold upd at ha hb
    split at ha
    · rename_i e1
      split at hb
      · rename_i e2; rw [e1, e2]
      · rename_i e2; exact absurd ha (hfar b k e2 hb)
    · rename_i e1
      split at hb
      · rename_i e2; exact absurd hb (hfar a k e1 ha)
      · exact h.dis a b k ha hb
theorem Apart.kept {w u u' : World} {Xs : Nat → Foot} {i : Nat} (h : Apart w u Xs) (d : Chg u u' (Xs i)) {j : Nat} (hj : j ≠ i) : ∀ k, Xs j k → u'.heap[k]? = u.heap[k]? :=
  fun k hk => d.block k (h.lo j k hk).2 (fun hx => hj (h.dis j i k hk hx))
theorem Apart.still {w u u' : World} {Xs : Nat → Foot} (h : Apart w u Xs) (hb : Below u.heap.size u u') (j : Nat) : ∀ k, Xs j k → u'.heap[k]? = u.heap[k]? := fun k hk => hb.block k (h.lo j k hk).2
/-- One more thing, all new. -/
theorem Apart.add {w u u' : World} {Xs : Nat → Foot} {X' : Foot} (h : Apart w u Xs) (i : Nat) (hb : Below u.heap.size u u') (hX : ∀ k, X' k → u.heap.size ≤ k ∧ k < u'.heap.size) : Apart w u' (upd Xs i X') :=
  h.step i ⟨Chg.of_below hb _, fun k hk => ⟨.inr (hX k hk).1, (hX k hk).2⟩⟩
/-- Two of them turn together. -/
theorem Apart.both {w u u' : World} {Xs : Nat → Foot} {X' Y' : Foot} (h : Apart w u Xs) (i j : Nat) (hij : i ≠ j) (c : Chg u u' (fun k => Xs i k ∨ Xs j k)) (n1 : ∀ k, X' k → (Xs i k ∨ u.heap.size ≤ k) ∧ k < u'.heap.size) (n2 : ∀ k, Y' k → (Xs j k ∨ u.heap.size ≤ k) ∧ k < u'.heap.size) (hd : ∀ k, X' k → Y' k → False) : Apart w u' (upd (upd Xs i X') j Y') := by
  have lo' : ∀ a k, upd (upd Xs i X') j Y' a k → (Xs a k ∨ u.heap.size ≤ k) ∧ k < u'.heap.size := fun a k hk => by
    unfold upd at hk
    split at hk
    · rename_i e; rw [e]; exact n2 k hk
    · split at hk
      · rename_i e; rw [e]; exact n1 k hk
      · exact ⟨.inl hk, Nat.lt_of_lt_of_le (h.lo a k hk).2 c.size⟩
  refine ⟨h.below.trans (c.below h.below.size (fun k hk => hk.elim (fun x => (h.lo i k x).1) (fun x => (h.lo j k x).1))), fun a k hk => ?_, fun a b k ha hb => ?_⟩
  · refine ⟨?_, (lo' a k hk).2⟩
    rcases (lo' a k hk).1 with h1 | h1
    · exact (h.lo a k h1).1
    · exact Nat.le_trans h.below.size h1
  · rcases (lo' a k ha).1 with h1 | h1
    · rcases (lo' b k hb).1 with h2 | h2
      · exact h.dis a b k h1 h2
      · have := (h.lo a k h1).2; omega
    · rcases (lo' b k hb).1 with h2 | h2
      · have := (h.lo b k h2).2; omega
      · have f : ∀ c, upd (upd Xs i X') j Y' c k → c = j ∧ Y' k ∨ c = i ∧ X' k := fun c hc => by
          unfold upd at hc
          split at hc
          · rename_i e; exact .inl ⟨e, hc⟩
          · split at hc
            · rename_i e; exact .inr ⟨e, hc⟩
            · have := (h.lo c k hc).2; omega
        rcases f a ha with ⟨e1, x1⟩ | ⟨e1, x1⟩ <;> rcases f b hb with ⟨e2, x2⟩ | ⟨e2, x2⟩
        · rw [e1, e2]
        · exact (hd k x2 x1).elim
        · exact (hd k x1 x2).elim
        · rw [e1, e2]
theorem cell_kept {u u' : World} {b : Nat} (h : u'.heap[b]? = u.heap[b]?) (o : Nat) : u'.cell? ⟨b, o, none⟩ = u.cell? ⟨b, o, none⟩ := World.cell?_of_block (a := ⟨b, o, none⟩) h
theorem frozen_kept {u u' : World} {b : Nat} (h : u'.heap[b]? = u.heap[b]?) (o : Nat) : u'.frozen? ⟨b, o, none⟩ = u.frozen? ⟨b, o, none⟩ := World.frozen?_of_block (a := ⟨b, o, none⟩) h
theorem cell_lt {u : World} {b o : Nat} {v : Value} (h : u.cell? ⟨b, o, none⟩ = some v) : b < u.heap.size := by
  rcases Nat.lt_or_ge b u.heap.size with h' | h'
  · exact h'
  · simp [World.cell?, Array.getElem?_eq_none h'] at h
end Go.Proofs.YtileidbdmpeciaaGreat

namespace Go.Proofs.YtileidbdmpeciaaGreat
open Go.RowKit
open Go.Maps (Keyed)
set_option linter.unusedVariables false

/-- How a pointer at a whole block reads: as the block's number. -/
def ptrE (v : Value) : Option (DataW Unit × List MemPlace) :=
  match v with
  | .pointer none => some (.nil, [])
  | .pointer (some ⟨g, 0, none⟩) => some (.lit (.int .i64 (g : Int)), [])
  | _ => none
def ptrV : Option Nat → Value
  | none => .pointer none
  | some g => .pointer (some ⟨g, 0, none⟩)
def ptrD (z : DataW Unit) : Option Nat → DataW Unit
  | none => z
  | some g => .lit (.int .i64 (g : Int))
theorem ptrE_inv {v : Value} {z : DataW Unit × List MemPlace} (h : ptrE v = some z) : ∃ o, v = ptrV o ∧ z = (ptrD .nil o, []) := by
  unfold ptrE at h
  split at h
  · injection h with h; exact ⟨none, rfl, h.symm⟩
  · rename_i g; injection h with h; exact ⟨some g, rfl, h.symm⟩
  · cases h
theorem ptrD_inj {o o' : Option Nat} (h : ptrD .nil o = ptrD .nil o') : o = o' := by
  cases o <;> cases o' <;> simp [ptrD] at h
  · rfl
  · rename_i a b; have : a = b := by omega
    rw [this]
/-- A text as a key. -/
def kyL (x : ByteArray) : Lit := .string x.data.toList
theorem kyL_inj {x y : ByteArray} (h : kyL x = kyL y) : x = y := by
  unfold kyL at h
  injection h with h
  exact ByteArray.ext (Array.toList_inj.1 h)
theorem kyL_key (x : ByteArray) : WideAt.IsKeyLit (kyL x) := trivial
theorem kyLaw : Keyed Tryz.prog 9 := Maps.string_keyed Tryz.underlying9
theorem key_mk (x : ByteArray) (h : x.size ≤ 1000000) : keyOf Tryz.prog 9 (.string x) = some (kyL x) := WideMaps.keyOf_string_mk Tryz.underlying9 (by unfold maxLen; omega)
/-- Block m holds a map of c entries: at text x a pointer at the block G x. -/
def PMap (u : World) (m c : Nat) (G : ByteArray → Option Nat) : Prop :=
  ∃ D : DataW Unit, u.ownsMap Tryz.prog 9 ptrE m c D ∧ Maps.size D = c ∧ ∀ x z, D.atKey (kyL x) z = ptrD z (G x)
theorem has_at {D : DataW Unit} {x : ByteArray} {o : Option Nat} (h : ∀ z, D.atKey (kyL x) z = ptrD z o) : Maps.has D (kyL x) = o.isSome := by
  cases o with
  | none => exact Maps.has_false_of_atKey h
  | some g => exact Maps.has_true_of_atKey h
theorem PMap.lt {u : World} {m c : Nat} {G : ByteArray → Option Nat} (h : PMap u m c G) : m < u.heap.size := by obtain ⟨D, h1, _⟩ := h; exact h1.lt
theorem PMap.kept {u u' : World} {m c : Nat} {G : ByteArray → Option Nat} (h : PMap u m c G) (hb : u'.heap[m]? = u.heap[m]?) : PMap u' m c G := by
  obtain ⟨D, ⟨es, clock, h1, h2⟩, h3⟩ := h
  exact ⟨D, ⟨es, clock, hb.trans h1, h2⟩, h3⟩
theorem PMap.made (u : World) : PMap (u.alloc (.map #[] 0)) u.heap.size 0 (fun _ => none) :=
  ⟨.map [], World.ownsMap_made _ _ _ _, rfl, fun _ _ => rfl⟩
/-- As many as there are. -/
theorem owns_size {u : World} {m n : Nat} {D : DataW Unit} (h : u.ownsMap Tryz.prog 9 ptrE m n D) : u.ownsMap Tryz.prog 9 ptrE m (Maps.size D) D := by
  obtain ⟨es, clock, h1, h2, h3, rfl⟩ := h
  exact ⟨es, clock, h1, h2, by simp [Maps.size, length_sorted], rfl⟩
theorem PMap.of {u : World} {m n : Nat} {D : DataW Unit} {G : ByteArray → Option Nat} (h : u.ownsMap Tryz.prog 9 ptrE m n D) (ha : ∀ x z, D.atKey (kyL x) z = ptrD z (G x)) : PMap u m (Maps.size D) G := ⟨D, owns_size h, rfl, ha⟩

/-- 'm[k]'. -/
theorem PMap.look {u : World} {m c : Nat} {G : ByteArray → Option Nat} (h : PMap u m c G) {t e : TypeId} (ht : Tryz.prog.underlying t = some (.map 9 e)) (hz : (zeroValue e).run Tryz.prog u = .ok (.pointer none) u) (k : ByteArray) (hk : k.size ≤ 1000000) :
    (Instr.lookup t (.map (some m)) (.string k) false).run Tryz.prog u = .ok (ptrV (G k)) u := by
  obtain ⟨D, h1, _, h3⟩ := h
  obtain ⟨v, ps, hrun, hv⟩ := h1.lookup kyLaw ht hz (zd := .nil) (zp := []) rfl (key_mk k hk)
  obtain ⟨o, rfl, hq⟩ := ptrE_inv hv
  have hz2 := congrArg Prod.fst hq
  have e1 := ptrD_inj ((h3 k .nil).symm.trans hz2)
  subst e1
  exact hrun
/-- What a store lays at a key. -/
def putG (G : ByteArray → Option Nat) (k : ByteArray) (o : Option Nat) : ByteArray → Option Nat := fun x => if x = k then o else G x
theorem putG_same (G : ByteArray → Option Nat) (k : ByteArray) (o : Option Nat) : putG G k o k = o := if_pos rfl
theorem putG_other {G : ByteArray → Option Nat} {k x : ByteArray} {o : Option Nat} (h : x ≠ k) : putG G k o x = G x := if_neg h
theorem turned_chg {u u' : World} {m : Nat} (h : u.mapTurned u' m) {X : Foot} (hX : X m) : Chg u u' X := Chg.of_grown h.grown (fun k e => by injection e with e; subst e; exact hX)
/-- 'm[k] = v'. -/
theorem PMap.store {u : World} {m c : Nat} {G : ByteArray → Option Nat} (h : PMap u m c G) (hc : c ≤ 1000000) {t e : TypeId} (ht : Tryz.prog.underlying t = some (.map 9 e)) (k : ByteArray) (hk : k.size ≤ 1000000) (g : Nat) :
    ∃ u', (Instr.mapUpdate t (.map (some m)) (.string k) (.pointer (some ⟨g, 0, none⟩))).run Tryz.prog u = .ok () u' ∧ PMap u' m (if (G k).isSome then c else c + 1) (putG G k (some g)) ∧ u.mapTurned u' m := by
  obtain ⟨D, h1, h2, h3⟩ := h
  obtain ⟨u', hrun, h4, h5⟩ := h1.store kyLaw ht (by unfold maxLen; omega) (key_mk k hk) (val := .pointer (some ⟨g, 0, none⟩)) (d := .lit (.int .i64 (g : Int))) (ps := []) rfl
  refine ⟨u', hrun, ?_, h5⟩
  have hs : Maps.size (D.put (kyL k) (.lit (.int .i64 (g : Int)))) = if (G k).isSome then c else c + 1 := by rw [Maps.size_put (h1.tidy kyLaw), has_at (h3 k), h2]
  rw [← hs]
  refine PMap.of h4 (fun x z => ?_)
  by_cases e : x = k
  · subst e; rw [Maps.atKey_put_same h1.isMap (kyL_key x), putG_same]; rfl
  · rw [Maps.atKey_put_other (fun e' => e (kyL_inj e')), putG_other e]; exact h3 x z
/-- 'delete(m, k)'. -/
theorem PMap.drop {u : World} {m c : Nat} {G : ByteArray → Option Nat} (h : PMap u m c G) {t e : TypeId} (ht : Tryz.prog.underlying t = some (.map 9 e)) (k : ByteArray) (hk : k.size ≤ 1000000) (ty : TypeId) :
    ∃ u', (Builtin.delete_ #[t, 9] ty #[.map (some m), .string k]).run Tryz.prog u = .ok (.tuple #[]) u' ∧ PMap u' m (if (G k).isSome then c - 1 else c) (putG G k none) ∧ u.mapTurned u' m := by
  obtain ⟨D, h1, h2, h3⟩ := h
  obtain ⟨u', hrun, h4, h5⟩ := h1.drop kyLaw ht (key_mk k hk) ty
  refine ⟨u', hrun, ?_, h5⟩
  have hs : Maps.size (D.del (kyL k)) = if (G k).isSome then c - 1 else c := by
    have := Maps.size_del (k := kyL k) (h1.tidy kyLaw)
    rw [has_at (h3 k), h2] at this
    split at this <;> rename_i hh <;> simp [hh] <;> omega
  rw [← hs]
  refine PMap.of h4 (fun x z => ?_)
  by_cases e : x = k
  · subst e; rw [Maps.atKey_del_same, putG_same]; rfl
  · rw [Maps.atKey_del_other (fun e' => e (kyL_inj e')), putG_other e]; exact h3 x z
/-- A range over such a map under way: r the iterator's block, left x: is the entry at x still to come? -/
def PRange (u : World) (m r c : Nat) (G : ByteArray → Option Nat) (left : ByteArray → Bool) (cnt : Nat) : Prop :=
  ∃ (D : DataW Unit) (L : Lit → Bool), u.ranges Tryz.prog 9 ptrE m r c D L cnt ∧ Maps.size D = c ∧ (∀ x z, D.atKey (kyL x) z = ptrD z (G x)) ∧ ∀ x, left x = L (kyL x)
theorem PRange.map {u : World} {m r c cnt : Nat} {G : ByteArray → Option Nat} {left : ByteArray → Bool} (h : PRange u m r c G left cnt) : PMap u m c G := by
  obtain ⟨D, L, h1, h2, h3, _⟩ := h
  exact ⟨D, h1.owns, h2, h3⟩
theorem PRange.lt {u : World} {m r c cnt : Nat} {G : ByteArray → Option Nat} {left : ByteArray → Bool} (h : PRange u m r c G left cnt) : r < u.heap.size := by obtain ⟨D, L, h1, _⟩ := h; exact h1.lt
theorem PRange.left_eq {u : World} {m r c cnt : Nat} {G : ByteArray → Option Nat} {left : ByteArray → Bool} (h : PRange u m r c G left cnt) : u.rangeLeft m r = cnt := by obtain ⟨D, L, h1, _⟩ := h; exact h1.left_eq
theorem PRange.kept {u u' : World} {m r c cnt : Nat} {G : ByteArray → Option Nat} {left : ByteArray → Bool} (h : PRange u m r c G left cnt) (hm : u'.heap[m]? = u.heap[m]?) (hr : u'.heap[r]? = u.heap[r]?) : PRange u' m r c G left cnt := by
  obtain ⟨D, L, ⟨es, clock, since, seen, c0, hb, F, hs, hD, hr', rest⟩, h2⟩ := h
  exact ⟨D, L, ⟨es, clock, since, seen, c0, hm.trans hb, F, hs, hD, hr.trans hr', rest⟩, h2⟩
end Go.Proofs.YtileidbdmpeciaaGreat

namespace Go.Proofs.YtileidbdmpeciaaGreat
open Go.RowKit
open Go.Maps (Keyed)
set_option linter.unusedVariables false

def I64 (x : Int) : Prop := -9223372036854775808 ≤ x ∧ x ≤ 9223372036854775807
/-- How a number reads. -/
def intE (v : Value) : Option (DataW Unit × List MemPlace) :=
  match v with
  | .int .i64 g => some (.lit (.int .i64 g), [])
  | _ => none
def intD (z : DataW Unit) : Option Int → DataW Unit
  | none => z
  | some g => .lit (.int .i64 g)
theorem intE_inv {v : Value} {z : DataW Unit × List MemPlace} (h : intE v = some z) : ∃ g, v = .int .i64 g ∧ z = (.lit (.int .i64 g), []) := by
  unfold intE at h
  split at h
  · rename_i g; injection h with h; exact ⟨g, rfl, h.symm⟩
  · cases h
theorem iLaw : Keyed Tryz.prog 2 := Maps.int_keyed Tryz.underlying2
theorem ikey_mk {x : Int} (h : I64 x) : keyOf Tryz.prog 2 (.int .i64 x) = some (.int .i64 x) := Maps.keyOf_int_mk Tryz.underlying2 (by
  have h1 := h.1
  have h2 := h.2
  simp [Lit.wf]
  exact ⟨h1, h2⟩)
theorem ilit_key (x : Int) : WideAt.IsKeyLit (.int .i64 x) := trivial
/-- Block m holds a map of c entries: at x the number G x. -/
def OMap (u : World) (m c : Nat) (G : Int → Option Int) : Prop :=
  ∃ D : DataW Unit, u.ownsMap Tryz.prog 2 intE m c D ∧ Maps.size D ≤ c ∧ ∀ x, I64 x → ∀ z, D.atKey (.int .i64 x) z = intD z (G x)
theorem OMap.lt {u : World} {m c : Nat} {G : Int → Option Int} (h : OMap u m c G) : m < u.heap.size := by obtain ⟨D, h1, _⟩ := h; exact h1.lt
theorem OMap.kept {u u' : World} {m c : Nat} {G : Int → Option Int} (h : OMap u m c G) (hb : u'.heap[m]? = u.heap[m]?) : OMap u' m c G := by
  obtain ⟨D, ⟨es, clock, h1, h2⟩, h3⟩ := h
  exact ⟨D, ⟨es, clock, hb.trans h1, h2⟩, h3⟩
theorem OMap.made (u : World) : OMap (u.alloc (.map #[] 0)) u.heap.size 0 (fun _ => none) :=
  ⟨.map [], World.ownsMap_made _ _ _ _, Nat.le_refl _, fun _ _ _ => rfl⟩
theorem OMap.more {u : World} {m c c' : Nat} {G : Int → Option Int} (h : OMap u m c G) (hc : c ≤ c') : OMap u m c' G := by
  obtain ⟨D, h1, h2, h3⟩ := h
  exact ⟨D, h1.mono hc, Nat.le_trans h2 hc, h3⟩
theorem OMap.congr {u : World} {m c : Nat} {G G' : Int → Option Int} (h : OMap u m c G) (hG : ∀ x, I64 x → G x = G' x) : OMap u m c G' := by
  obtain ⟨D, h1, h2, h3⟩ := h
  exact ⟨D, h1, h2, fun x hx z => by rw [← hG x hx]; exact h3 x hx z⟩
theorem zero_int (u : World) : (zeroValue 3).run Tryz.prog u = .ok (.int .i64 0) u := by kernel_rfl
theorem iowns_size {u : World} {m n : Nat} {D : DataW Unit} (h : u.ownsMap Tryz.prog 2 intE m n D) : u.ownsMap Tryz.prog 2 intE m (Maps.size D) D := by
  obtain ⟨es, clock, h1, h2, h3, rfl⟩ := h
  exact ⟨es, clock, h1, h2, by simp [Maps.size, length_sorted], rfl⟩
/-- 'm[k]'. -/
theorem OMap.look {u : World} {m c : Nat} {G : Int → Option Int} (h : OMap u m c G) {t : TypeId} (ht : Tryz.prog.underlying t = some (.map 2 3)) {k : Int} (hk : I64 k) :
    (Instr.lookup t (.map (some m)) (.int .i64 k) false).run Tryz.prog u = .ok (.int .i64 ((G k).getD 0)) u := by
  obtain ⟨D, h1, _, h3⟩ := h
  obtain ⟨v, ps, hrun, hv⟩ := h1.lookup iLaw ht (zero_int u) (zd := .lit (.int .i64 0)) (zp := []) rfl (ikey_mk hk)
  obtain ⟨g, rfl, hq⟩ := intE_inv hv
  have hz2 : D.atKey (.int .i64 k) (.lit (.int .i64 0)) = .lit (.int .i64 g) := congrArg Prod.fst hq
  rw [h3 k hk] at hz2
  have e : (G k).getD 0 = g := by
    cases hG : G k with
    | none => rw [hG] at hz2; simp [intD] at hz2; exact hz2
    | some y => rw [hG] at hz2; simp [intD] at hz2; exact hz2
  rw [e]
  exact hrun
/-- What a store lays at a number. -/
def putI2 (G : Int → Option Int) (k : Int) (o : Option Int) : Int → Option Int := fun x => if x = k then o else G x
/-- 'm[k] = v'. -/
theorem OMap.store {u : World} {m c : Nat} {G : Int → Option Int} (h : OMap u m c G) (hc : c ≤ 1000000) {t : TypeId} (ht : Tryz.prog.underlying t = some (.map 2 3)) {k : Int} (hk : I64 k) (g : Int) :
    ∃ u', (Instr.mapUpdate t (.map (some m)) (.int .i64 k) (.int .i64 g)).run Tryz.prog u = .ok () u' ∧ OMap u' m (if (G k).isSome then c else c + 1) (putI2 G k (some g)) ∧ u.mapTurned u' m := by
  obtain ⟨D, h1, h2, h3⟩ := h
  obtain ⟨u', hrun, h4, h5⟩ := h1.store iLaw ht (by unfold maxLen; omega) (ikey_mk hk) (val := .int .i64 g) (d := .lit (.int .i64 g)) (ps := []) rfl
  have hh : Maps.has D (.int .i64 k) = (G k).isSome := by
    cases hG : G k with
    | none => exact Maps.has_false_of_atKey (fun z => by rw [h3 k hk, hG]; rfl)
    | some y => exact Maps.has_true_of_atKey (fun z => by rw [h3 k hk, hG]; rfl)
  have hs : Maps.size (D.put (.int .i64 k) (.lit (.int .i64 g))) ≤ if (G k).isSome then c else c + 1 := by
    rw [Maps.size_put (h1.tidy iLaw), hh]
    split <;> omega
  refine ⟨u', hrun, ⟨_, (iowns_size h4).mono hs, hs, fun x hx z => ?_⟩, h5⟩
  by_cases e : x = k
  · subst e; rw [Maps.atKey_put_same h1.isMap (ilit_key x)]; unfold putI2; rw [if_pos rfl]; rfl
  · rw [Maps.atKey_put_other (fun e' => e (by injection e'))]; unfold putI2; rw [if_neg e]; exact h3 x hx z
theorem wpList_store_ints {w : World} {ops : Array Oper} {rest : List Oper} {o : Oper} {a : Act} {Q : Exit → Act → World → Prop} (hg : o.guard = none) (m x v : Operand) (t : TypeId) (hop : o.op = Op.mapUpdate t m x v)
    (ht : Tryz.prog.underlying t = some (.map 2 3)) (b c : Nat) (G : Int → Option Int) (hm : a.eval m = .map (some b)) (h : OMap w b c G) (hc : c ≤ 1000000) (k : Int) (hx : a.eval x = .int .i64 k) (hk : I64 k) (g : Int) (hv : a.eval v = .int .i64 g)
    (hK : ∀ w', OMap w' b (if (G k).isSome then c else c + 1) (putI2 G k (some g)) → w.mapTurned w' b → wpList Tryz.prog ops Q rest (a.put o.dst undef) w') : wpList Tryz.prog ops Q (o :: rest) a w := by
  refine wpList_plain hg fun K' hK' => ?_
  obtain ⟨w', hrun, r1, r2⟩ := h.store hc ht hk g
  unfold Oper.wp
  simp only [execOp, hop, hm, hx, hv, Sem.run_bind, hrun, Result.andThen]
  exact hK' _ _ (hK w' r1 r2)
end Go.Proofs.YtileidbdmpeciaaGreat

