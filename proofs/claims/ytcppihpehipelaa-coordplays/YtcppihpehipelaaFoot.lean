/-
  Things that live on in memory: which blocks are theirs, what a call that works on one of them leaves of the others. No function of the program is named here.
-/
import Derived.Test.YtcppihpehipelaaProg
import Derived.Below
import Derived.WalkKit
namespace Go.Proofs.Ytcppihpehipelaa
open Go.RowKit
set_option linter.unusedVariables false

/-- Some blocks. -/
abbrev Foot := Nat → Prop
/-- A world that has come of another: of what was there, the blocks of X alone may have turned. -/
structure Chg (u u' : World) (X : Foot) : Prop where
  os : u'.os = u.os
  tape : u'.tape = u.tape
  output : u'.output = u.output
  size : u.heap.size ≤ u'.heap.size
  block : ∀ k, k < u.heap.size → ¬ X k → u'.heap[k]? = u.heap[k]?
theorem Chg.refl (u : World) (X : Foot) : Chg u u X := ⟨rfl, rfl, rfl, Nat.le_refl _, fun _ _ _ => rfl⟩
theorem Chg.mono {u u' : World} {X Y : Foot} (h : Chg u u' X) (hXY : ∀ k, k < u.heap.size → X k → Y k) : Chg u u' Y := ⟨h.os, h.tape, h.output, h.size, fun k hk hn => h.block k hk (fun hx => hn (hXY k hk hx))⟩
theorem Chg.trans {u u' u'' : World} {X Y : Foot} (h : Chg u u' X) (k : Chg u' u'' Y) (hY : ∀ j, j < u.heap.size → Y j → X j) : Chg u u'' X :=
  ⟨k.os.trans h.os, k.tape.trans h.tape, k.output.trans h.output, Nat.le_trans h.size k.size, fun j hj hn => (k.block j (Nat.lt_of_lt_of_le hj h.size) (fun hy => hn (hY j hj hy))).trans (h.block j hj hn)⟩
theorem Chg.of_below {u u' : World} (h : Below u.heap.size u u') (X : Foot) : Chg u u' X := ⟨h.os, h.tape, h.output, h.size, fun k hk _ => h.block k hk⟩
theorem Chg.of_grown {u u' : World} {row : Option Nat} (h : u.grownBy u' row) {X : Foot} (hX : ∀ k, row = some k → X k) : Chg u u' X :=
  ⟨h.os, h.tape, h.output, h.size, fun k hk hn => h.block k hk (fun e => hn (hX k e.symm))⟩
theorem Chg.below {u u' : World} {X : Foot} (h : Chg u u' X) {B : Nat} (hB : B ≤ u.heap.size) (hX : ∀ k, X k → B ≤ k) : Below B u u' :=
  ⟨h.os, h.tape, h.output, h.size, fun k hk => h.block k (by omega) (fun hx => by have := hX k hx; omega)⟩
theorem Chg.set (u : World) (a : Addr) (v : Value) {X : Foot} (h : X a.block) : Chg u (u.setCell a v) X :=
  ⟨rfl, rfl, rfl, by rw [World.size_setCell]; exact Nat.le_refl _, fun k hk hn => Below.heap_setCell _ a _ k (fun e => hn (by rw [e]; exact h))⟩
theorem Chg.drew {u u' : World} {X : Foot} (h : Chg u u' X) : Chg u u'.drew X := ⟨h.os, h.tape, h.output, h.size, h.block⟩
theorem Chg.alloc {u u' : World} {X : Foot} (h : Chg u u' X) (o : Obj) : Chg u (u'.alloc o) X :=
  h.trans (Chg.of_below ((Below.refl _ _).alloc (Nat.le_refl _) o) X) (fun _ _ x => x)
/-- What a call that works on X leaves: nothing else of what was there has turned; what is X now was X, or is new. -/
structure Did (u u' : World) (X X' : Foot) : Prop where
  chg : Chg u u' X
  new : ∀ k, X' k → (X k ∨ u.heap.size ≤ k) ∧ k < u'.heap.size
theorem Did.trans {u u' u'' : World} {X X' X'' : Foot} (h : Did u u' X X') (k : Did u' u'' X' X'') : Did u u'' X X'' :=
  ⟨h.chg.trans k.chg (fun j hj hx => by rcases (h.new j hx).1 with h1 | h1; exact h1; omega), fun j hj => by
    refine ⟨?_, (k.new j hj).2⟩
    rcases (k.new j hj).1 with h1 | h1
    · exact (h.new j h1).1
    · exact .inr (Nat.le_trans h.chg.size h1)⟩
theorem Did.stay {u u' : World} {X : Foot} (h : Below u.heap.size u u') (hX : ∀ k, X k → k < u.heap.size) : Did u u' X X := ⟨Chg.of_below h X, fun k hk => ⟨.inl hk, Nat.lt_of_lt_of_le (hX k hk) h.size⟩⟩
theorem Did.same {u u' : World} {X : Foot} (h : Chg u u' X) (hX : ∀ k, X k → k < u.heap.size) : Did u u' X X := ⟨h, fun k hk => ⟨.inl hk, Nat.lt_of_lt_of_le (hX k hk) h.size⟩⟩
/-- No blocks. -/
def noFoot : Foot := fun _ => False
/-- The things of a call, each with blocks of its own, all made since w. -/
structure Apart (w u : World) (Xs : Nat → Foot) : Prop where
  below : Below w.heap.size w u
  lo : ∀ i k, Xs i k → w.heap.size ≤ k ∧ k < u.heap.size
  dis : ∀ i j k, Xs i k → Xs j k → i = j
/-- One of them has other blocks now. -/
def upd (Xs : Nat → Foot) (i : Nat) (X : Foot) : Nat → Foot := fun j => if j = i then X else Xs j
theorem Apart.start (w : World) : Apart w w (fun _ => noFoot) := ⟨Below.refl _ _, fun i k h => h.elim, fun i j k h => h.elim⟩
theorem Apart.past {w u u' : World} {Xs : Nat → Foot} (h : Apart w u Xs) (hb : Below u.heap.size u u') : Apart w u' Xs :=
  ⟨h.below.trans (hb.mono h.below.size), fun i k hk => ⟨(h.lo i k hk).1, Nat.lt_of_lt_of_le (h.lo i k hk).2 hb.size⟩, h.dis⟩
theorem Apart.step {w u u' : World} {Xs : Nat → Foot} {X' : Foot} (h : Apart w u Xs) (i : Nat) (d : Did u u' (Xs i) X') : Apart w u' (upd Xs i X') := by
  have hnew : ∀ k, X' k → w.heap.size ≤ k ∧ k < u'.heap.size := fun k hk => by
    refine ⟨?_, (d.new k hk).2⟩
    rcases (d.new k hk).1 with h1 | h1
    · exact (h.lo i k h1).1
    · exact Nat.le_trans h.below.size h1
  have hfar : ∀ j k, j ≠ i → Xs j k → ¬ X' k := fun j k hj hk hx => by
    rcases (d.new k hx).1 with h1 | h1
    · exact hj (h.dis j i k hk h1)
    · have := (h.lo j k hk).2; omega
  refine ⟨h.below.trans (d.chg.below h.below.size (fun k hk => (h.lo i k hk).1)), fun j k hk => ?_, fun a b k ha hb => ?_⟩
  · unfold upd at hk
    split at hk
    · exact hnew k hk
    · exact ⟨(h.lo j k hk).1, Nat.lt_of_lt_of_le (h.lo j k hk).2 d.chg.size⟩
  · unfold upd at ha hb
    split at ha
    · rename_i e1
      split at hb
      · rename_i e2; rw [e1, e2]
      · rename_i e2; exact absurd ha (hfar b k e2 hb)
    · rename_i e1
      split at hb
      · rename_i e2; exact absurd hb (hfar a k e1 ha)
      · exact h.dis a b k ha hb
theorem Apart.kept {w u u' : World} {Xs : Nat → Foot} {i : Nat} (h : Apart w u Xs) (d : Chg u u' (Xs i)) {j : Nat} (hj : j ≠ i) : ∀ k, Xs j k → u'.heap[k]? = u.heap[k]? :=
  fun k hk => d.block k (h.lo j k hk).2 (fun hx => hj (h.dis j i k hk hx))
theorem Apart.still {w u u' : World} {Xs : Nat → Foot} (h : Apart w u Xs) (hb : Below u.heap.size u u') (j : Nat) : ∀ k, Xs j k → u'.heap[k]? = u.heap[k]? := fun k hk => hb.block k (h.lo j k hk).2
/-- One more thing, all new. -/
theorem Apart.add {w u u' : World} {Xs : Nat → Foot} {X' : Foot} (h : Apart w u Xs) (i : Nat) (hb : Below u.heap.size u u') (hX : ∀ k, X' k → u.heap.size ≤ k ∧ k < u'.heap.size) : Apart w u' (upd Xs i X') :=
  h.step i ⟨Chg.of_below hb _, fun k hk => ⟨.inr (hX k hk).1, (hX k hk).2⟩⟩
/-- Two of them turn together. -/
theorem Apart.both {w u u' : World} {Xs : Nat → Foot} {X' Y' : Foot} (h : Apart w u Xs) (i j : Nat) (hij : i ≠ j) (c : Chg u u' (fun k => Xs i k ∨ Xs j k)) (n1 : ∀ k, X' k → (Xs i k ∨ u.heap.size ≤ k) ∧ k < u'.heap.size) (n2 : ∀ k, Y' k → (Xs j k ∨ u.heap.size ≤ k) ∧ k < u'.heap.size) (hd : ∀ k, X' k → Y' k → False) : Apart w u' (upd (upd Xs i X') j Y') := by
  have lo' : ∀ a k, upd (upd Xs i X') j Y' a k → (Xs a k ∨ u.heap.size ≤ k) ∧ k < u'.heap.size := fun a k hk => by
    unfold upd at hk
    split at hk
    · rename_i e; rw [e]; exact n2 k hk
    · split at hk
      · rename_i e; rw [e]; exact n1 k hk
      · exact ⟨.inl hk, Nat.lt_of_lt_of_le (h.lo a k hk).2 c.size⟩
  refine ⟨h.below.trans (c.below h.below.size (fun k hk => hk.elim (fun x => (h.lo i k x).1) (fun x => (h.lo j k x).1))), fun a k hk => ?_, fun a b k ha hb => ?_⟩
  · refine ⟨?_, (lo' a k hk).2⟩
    rcases (lo' a k hk).1 with h1 | h1
    · exact (h.lo a k h1).1
    · exact Nat.le_trans h.below.size h1
  · rcases (lo' a k ha).1 with h1 | h1
    · rcases (lo' b k hb).1 with h2 | h2
      · exact h.dis a b k h1 h2
      · have := (h.lo a k h1).2; omega
    · rcases (lo' b k hb).1 with h2 | h2
      · have := (h.lo b k h2).2; omega
      · have f : ∀ c, upd (upd Xs i X') j Y' c k → c = j ∧ Y' k ∨ c = i ∧ X' k := fun c hc => by
          unfold upd at hc
          split at hc
          · rename_i e; exact .inl ⟨e, hc⟩
          · split at hc
            · rename_i e; exact .inr ⟨e, hc⟩
            · have := (h.lo c k hc).2; omega
        rcases f a ha with ⟨e1, x1⟩ | ⟨e1, x1⟩ <;> rcases f b hb with ⟨e2, x2⟩ | ⟨e2, x2⟩
        · rw [e1, e2]
        · exact (hd k x2 x1).elim
        · exact (hd k x1 x2).elim
        · rw [e1, e2]
theorem cell_kept {u u' : World} {b : Nat} (h : u'.heap[b]? = u.heap[b]?) (o : Nat) : u'.cell? ⟨b, o, none⟩ = u.cell? ⟨b, o, none⟩ := World.cell?_of_block (a := ⟨b, o, none⟩) h
theorem frozen_kept {u u' : World} {b : Nat} (h : u'.heap[b]? = u.heap[b]?) (o : Nat) : u'.frozen? ⟨b, o, none⟩ = u.frozen? ⟨b, o, none⟩ := World.frozen?_of_block (a := ⟨b, o, none⟩) h
theorem cell_lt {u : World} {b o : Nat} {v : Value} (h : u.cell? ⟨b, o, none⟩ = some v) : b < u.heap.size := by
  rcases Nat.lt_or_ge b u.heap.size with h' | h'
  · exact h'
  · simp [World.cell?, Array.getElem?_eq_none h'] at h
end Go.Proofs.Ytcppihpehipelaa
