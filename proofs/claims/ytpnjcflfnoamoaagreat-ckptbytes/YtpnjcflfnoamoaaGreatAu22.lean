/-
  What is prepared, as chapter 13 tells it: entries by their numbers; who holds a key, whom a reader waits for. No program is named here.
  The document's own tables (hourglassref10: Table) in memory: entries of six cells each, each with a list of writes that lies elsewhere.
  What the document says of writes (hourglassref10: MayWrites).
  What the document says of entries (hourglassref10: GoodEntry, Writes, SameEntry).
-/
import Derived.Test.YtpnjcflfnoamoaaGreatPm
import Derived.Test.YtpnjcflfnoamoaaGreatAu29
import Derived.Test.YtpnjcflfnoamoaaGreatBase
import Derived.Test.YtpnjcflfnoamoaaGreatAu19
import Derived.Test.YtpnjcflfnoamoaaGreatAu23
namespace Go.Proofs.YtpnjcflfnoamoaaGreat
set_option linter.unusedVariables false

/-- An entry: its number, its snapshot, its stamp, its writes. -/
structure Ent where
  id : Int
  s : Int
  m : Int
  t : Int
  n : Int
  l : List Wrt
def goodE (e : Ent) : Bool := decide (1 ≤ e.id) && decide (okS e.s) && decide (okS e.t) && decide (0 < cmpS e.t e.n e.s e.m) && mayW e.l 1
def hasK (e : Ent) (k : List Int) : Bool := e.l.any (fun W => decide (W.k = k))
def holdT (L : List Ent) (k : List Int) : Option Ent := L.find? (fun e => hasK e k)
def hasT (L : List Ent) (id : Int) : Option Ent := L.find? (fun e => decide (e.id = id))
def dropT (L : List Ent) (id : Int) : List Ent := L.filter (fun e => decide (e.id ≠ id))
def heldT (L : List Ent) (l : List Wrt) : Bool := l.any (fun W => (holdT L W.k).isSome)
def placeT (L : List Ent) (id : Int) : Nat := (L.takeWhile (fun e => decide (e.id < id))).length
def addT (L : List Ent) (e : Ent) : Int × List Ent :=
  if goodE e = false then (1, L) else if (hasT L e.id).isSome = true then (5, L) else if heldT L e.l = true then (9, L) else if 100 ≤ L.length then (6, L) else (0, L.take (placeT L e.id) ++ e :: L.drop (placeT L e.id))
/-- What a table is: by numbers, rising; each entry may be; no two hold one key. -/
structure TabK (L : List Ent) : Prop where
  up : L.Pairwise (fun a b => a.id < b.id)
  good : ∀ e ∈ L, goodE e = true
  apart : L.Pairwise (fun a b => ∀ k, ¬ (hasK a k = true ∧ hasK b k = true))
  few : L.length ≤ 100
theorem TabK.nil : TabK [] := ⟨.nil, fun e h => by simp at h, .nil, by simp⟩
theorem TabK.drop {L : List Ent} (h : TabK L) (id : Int) : TabK (dropT L id) :=
  ⟨h.up.filter _, fun e he => h.good e (List.mem_filter.1 he).1, h.apart.filter _, Nat.le_trans (List.length_filter_le _ _) h.few⟩
theorem place_lt {L : List Ent} {id : Int} {i : Nat} {e : Ent} (hi : i < placeT L id) (he : L[i]? = some e) : e.id < id := by
  unfold placeT at hi
  induction L generalizing i with
  | nil => simp at he
  | cons x r ih =>
    by_cases hx : x.id < id
    · rw [List.takeWhile_cons_of_pos (by simpa using hx)] at hi
      cases i with
      | zero => simp at he; rw [← he]; exact hx
      | succ j => exact ih (by simpa using hi) (by simpa using he)
    · rw [List.takeWhile_cons_of_neg (by simpa using hx)] at hi
      simp at hi
theorem place_ge {L : List Ent} (h : L.Pairwise (fun a b => a.id < b.id)) {id : Int} {i : Nat} {e : Ent} (hi : placeT L id ≤ i) (he : L[i]? = some e) : id ≤ e.id := by
  unfold placeT at hi
  induction L generalizing i with
  | nil => simp at he
  | cons x r ih =>
    obtain ⟨h1, h2⟩ := List.pairwise_cons.1 h
    by_cases hx : x.id < id
    · rw [List.takeWhile_cons_of_pos (by simpa using hx)] at hi
      cases i with
      | zero => simp at hi
      | succ j => exact ih h2 (by simpa using hi) (by simpa using he)
    · cases i with
      | zero => simp at he; rw [← he]; omega
      | succ j =>
        have := h1 e (List.mem_of_getElem? (by simpa using he))
        omega
theorem has_none {L : List Ent} {id : Int} (h : (hasT L id).isSome = false) : ∀ e ∈ L, e.id ≠ id := fun e he hid => by
  unfold hasT at h
  rw [Option.isSome_eq_false_iff, Option.isNone_iff_eq_none, List.find?_eq_none] at h
  have := h e he
  simp at this
  exact this hid
theorem held_none {L : List Ent} {l : List Wrt} (h : heldT L l = false) : ∀ e ∈ L, ∀ W ∈ l, hasK e W.k = false := fun e he W hW => by
  unfold heldT at h
  have h1 := List.any_eq_false.1 h W hW
  unfold holdT at h1
  simp only [Bool.not_eq_true, Option.isSome_eq_false_iff, Option.isNone_iff_eq_none, List.find?_eq_none] at h1
  simpa using h1 e he
theorem TabK.add {L : List Ent} (h : TabK L) (e : Ent) : TabK (addT L e).2 := by
  unfold addT
  by_cases h1 : goodE e = false
  · rw [if_pos h1]; exact h
  · rw [if_neg h1]
    by_cases h2 : (hasT L e.id).isSome = true
    · rw [if_pos h2]; exact h
    · rw [if_neg h2]
      by_cases h3 : heldT L e.l = true
      · rw [if_pos h3]; exact h
      · rw [if_neg h3]
        by_cases h4 : 100 ≤ L.length
        · rw [if_pos h4]; exact h
        · rw [if_neg h4]
          have hn := has_none (L := L) (id := e.id) (by simpa using h2)
          have hh := held_none (L := L) (l := e.l) (by simpa using h3)
          have hsub : ∀ x, x ∈ L.take (placeT L e.id) → x ∈ L := fun x hx => List.mem_of_mem_take hx
          have hsub2 : ∀ x, x ∈ L.drop (placeT L e.id) → x ∈ L := fun x hx => List.mem_of_mem_drop hx
          have hlt : ∀ x ∈ L.take (placeT L e.id), x.id < e.id := fun x hx => by
            obtain ⟨j, hj, rfl⟩ := List.mem_iff_getElem.1 hx
            rw [List.length_take] at hj
            rw [List.getElem_take]
            exact place_lt (L := L) (i := j) (by omega) (List.getElem?_eq_getElem (by omega))
          have hgt : ∀ x ∈ L.drop (placeT L e.id), e.id < x.id := fun x hx => by
            obtain ⟨j, hj, rfl⟩ := List.mem_iff_getElem.1 hx
            rw [List.length_drop] at hj
            have h8 := place_ge h.up (id := e.id) (i := placeT L e.id + j) (by omega) (List.getElem?_eq_getElem (by omega))
            rw [List.getElem_drop]
            have h9 := hn _ (List.getElem_mem (l := L) (n := placeT L e.id + j) (by omega))
            omega
          have hno : ∀ x ∈ L, ∀ k, ¬ (hasK x k = true ∧ hasK e k = true) := fun x hx k hk => by
            obtain ⟨W, hW, hWk⟩ := List.any_eq_true.1 hk.2
            have := hh x hx W hW
            rw [of_decide_eq_true hWk, hk.1] at this
            cases this
          have hup := h.up
          have hap := h.apart
          rw [← List.take_append_drop (placeT L e.id) L] at hup hap
          obtain ⟨u1, u2, u3⟩ := List.pairwise_append.1 hup
          obtain ⟨a1, a2, a3⟩ := List.pairwise_append.1 hap
          refine ⟨List.pairwise_append.2 ⟨u1, List.pairwise_cons.2 ⟨hgt, u2⟩, fun a ha b hb => ?_⟩, fun x hx => ?_, List.pairwise_append.2 ⟨a1, List.pairwise_cons.2 ⟨fun x hx k hk => hno x (hsub2 x hx) k ⟨hk.2, hk.1⟩, a2⟩, fun a ha b hb => ?_⟩, ?_⟩
          · rcases List.mem_cons.1 hb with rfl | hb
            · exact hlt a ha
            · exact u3 a ha b hb
          · rcases List.mem_append.1 hx with hx | hx
            · exact h.good x (hsub x hx)
            · rcases List.mem_cons.1 hx with rfl | hx
              · simpa using h1
              · exact h.good x (hsub2 x hx)
          · rcases List.mem_cons.1 hb with rfl | hb
            · exact hno a (hsub a ha)
            · exact a3 a ha b hb
          · simp only [List.length_append, List.length_take, List.length_cons, List.length_drop]
            omega
/-- Who holds a key that one of them has is that one. -/
theorem TabK.holder {L : List Ent} (h : TabK L) {e : Ent} (he : e ∈ L) {k : List Int} (hk : hasK e k = true) : holdT L k = some e := by
  unfold holdT
  cases hf : L.find? (fun e => hasK e k) with
  | none => exact absurd hk (by simpa using List.find?_eq_none.1 hf e he)
  | some x =>
    have hx := List.mem_of_find?_eq_some hf
    have hxk : hasK x k = true := List.find?_some (p := fun e => hasK e k) hf
    by_cases hxe : x = e
    · rw [hxe]
    · exfalso
      obtain ⟨i, hi, rfl⟩ := List.mem_iff_getElem.1 hx
      obtain ⟨j, hj, rfl⟩ := List.mem_iff_getElem.1 he
      rcases Nat.lt_trichotomy i j with hij | hij | hij
      · exact List.pairwise_iff_getElem.1 h.apart i j hi hj hij k ⟨hxk, hk⟩
      · subst hij; exact hxe rfl
      · exact List.pairwise_iff_getElem.1 h.apart j i hj hi hij k ⟨hk, hxk⟩
end Go.Proofs.YtpnjcflfnoamoaaGreat

namespace Go.Proofs.YtpnjcflfnoamoaaGreat
open Go.RowKit
set_option linter.unusedVariables false

/-- An entry in memory: where its writes lie. -/
structure EntM where
  e : Ent
  a : Option Addr
  c : Nat
def encE (x : EntM) : List Value := [.int .i64 x.e.id, .int .i64 x.e.s, .int .u8 x.e.m, .int .i64 x.e.t, .int .u8 x.e.n, .slice x.a x.e.l.length x.c]
theorem encE_len (x : EntM) : (encE x).length = 6 := rfl
/-- What an entry's numbers are. -/
structure EntOk (e : Ent) : Prop where
  id : -9223372036854775808 ≤ e.id ∧ e.id ≤ 9223372036854775807
  s : -9223372036854775808 ≤ e.s ∧ e.s ≤ 9223372036854775807
  m : 0 ≤ e.m ∧ e.m ≤ 255
  t : -9223372036854775808 ≤ e.t ∧ e.t ≤ 9223372036854775807
  n : 0 ≤ e.n ∧ e.n ≤ 255
/-- Its writes. -/
structure EntW (w : World) (x : EntM) : Prop where
  wr : WrtsAt w x.a x.e.l
  room : x.e.l.length ≤ x.c
  few : x.e.l.length ≤ 1000000
  ok : EntOk x.e
theorem EntW.past {w w' : World} {x : EntM} (h : EntW w x) (hb : Below w.heap.size w w') : EntW w' x := ⟨h.wr.past hb, h.room, h.few, h.ok⟩
theorem WrtsAt.keptP {u u' : World} {a : Option Addr} {l : List Wrt} (h : WrtsAt u a l) (hk : l ≠ [] → ∀ b o, a = some ⟨b, o, none⟩ → u'.heap[b]? = u.heap[b]?) : WrtsAt u' a l := by
  refine ⟨?_, h.oks⟩
  rcases h.cells with e | ⟨b, o, e, hc⟩
  · exact .inl e
  · by_cases hl : l = []
    · exact .inl hl
    · exact .inr ⟨b, o, e, fun i W hW => ⟨lies_of fun j v hv => by rw [cell_kept (hk hl b o e)]; exact (hc i W hW).lies.at j v hv⟩⟩
theorem WrtsAt.blt {u : World} {a : Option Addr} {l : List Wrt} (h : WrtsAt u a l) (hl : l ≠ []) {b o : Nat} (e : a = some ⟨b, o, none⟩) : b < u.heap.size := by
  rcases h.cells with e2 | ⟨b2, o2, e2, hc⟩
  · exact absurd e2 hl
  · rw [e] at e2
    cases e2
    cases l with
    | nil => exact absurd rfl hl
    | cons W r => exact (hc 0 W rfl).lt (h.oks W (by simp)).key
theorem EntW.kept {u u' : World} {x : EntM} (h : EntW u x) (hk : x.e.l ≠ [] → ∀ b o, x.a = some ⟨b, o, none⟩ → u'.heap[b]? = u.heap[b]?) : EntW u' x := ⟨h.wr.keptP hk, h.room, h.few, h.ok⟩
/-- An entry at a place. -/
structure EntAt (w : World) (b o : Nat) (x : EntM) : Prop where
  lies : Lies w (some ⟨b, o, none⟩) (encE x)
theorem EntAt.past {w w' : World} {b o : Nat} {x : EntM} (h : EntAt w b o x) (hb : Below w.heap.size w w') : EntAt w' b o x := ⟨h.lies.past hb⟩
theorem EntAt.cells {w : World} {b o : Nat} {x : EntM} (h : EntAt w b o x) : w.cell? ⟨b, o, none⟩ = some (.int .i64 x.e.id) ∧ w.cell? ⟨b, o + 1, none⟩ = some (.int .i64 x.e.s) ∧ w.cell? ⟨b, o + 2, none⟩ = some (.int .u8 x.e.m) ∧ w.cell? ⟨b, o + 3, none⟩ = some (.int .i64 x.e.t) ∧ w.cell? ⟨b, o + 4, none⟩ = some (.int .u8 x.e.n) ∧ w.cell? ⟨b, o + 5, none⟩ = some (.slice x.a x.e.l.length x.c) :=
  ⟨h.lies.at 0 _ rfl, h.lies.at 1 _ rfl, h.lies.at 2 _ rfl, h.lies.at 3 _ rfl, h.lies.at 4 _ rfl, h.lies.at 5 _ rfl⟩
end Go.Proofs.YtpnjcflfnoamoaaGreat

namespace Go.Proofs.YtpnjcflfnoamoaaGreat
open Go.RowKit
set_option linter.unusedVariables false

/-- May a write be, by itself? -/
def fitW (W : Wrt) : Bool := goodK W.k && decide (W.v.length ≤ 200) && (!W.g || decide (W.v = []))
/-- What MayWrites' rounds hold of the first writes. -/
def Fits (l : List Wrt) (i : Nat) : Prop := (∀ W ∈ l.take i, fitW W = true) ∧ (l.take i).Pairwise (fun A B => A.k ≠ B.k)
theorem Fits.next {l : List Wrt} {i : Nat} {W : Wrt} (h : Fits l i) (hW : l[i]? = some W) (hf : fitW W = true) (hne : ∀ j A, j < i → l[j]? = some A → A.k ≠ W.k) : Fits l (i + 1) := by
  have e : l.take (i + 1) = l.take i ++ [W] := by rw [List.take_add_one, hW]; rfl
  unfold Fits
  rw [e]
  refine ⟨fun V hV => ?_, List.pairwise_append.2 ⟨h.2, by simp, fun A hA B hB => ?_⟩⟩
  · rcases List.mem_append.1 hV with x | x
    · exact h.1 V x
    · simp at x; rw [x]; exact hf
  · simp at hB
    subst hB
    obtain ⟨j, hj, rfl⟩ := List.mem_iff_getElem.1 hA
    rw [List.length_take] at hj
    rw [List.getElem_take]
    exact hne j _ (by omega) (List.getElem?_eq_getElem (by omega))
end Go.Proofs.YtpnjcflfnoamoaaGreat

namespace Go.Proofs.YtpnjcflfnoamoaaGreat
open Go.RowKit
set_option linter.unusedVariables false

/-- An entry's cells in a box. -/
structure EBox (u : World) (b : Nat) (id s m t n : Int) (a : Option Addr) (N c : Nat) : Prop where
  c0 : u.cell? ⟨b, 0, none⟩ = some (.int .i64 id)
  c1 : u.cell? ⟨b, 1, none⟩ = some (.int .i64 s)
  c2 : u.cell? ⟨b, 2, none⟩ = some (.int .u8 m)
  c3 : u.cell? ⟨b, 3, none⟩ = some (.int .i64 t)
  c4 : u.cell? ⟨b, 4, none⟩ = some (.int .u8 n)
  c5 : u.cell? ⟨b, 5, none⟩ = some (.slice a N c)
theorem EBox.made (w : World) (T : TypeId) (id s m t n : Int) (a : Option Addr) (N c : Nat) : EBox (w.alloc (.cells #[.int .i64 id, .int .i64 s, .int .u8 m, .int .i64 t, .int .u8 n, .slice a N c] T)) w.heap.size id s m t n a N c := by
  refine ⟨?_, ?_, ?_, ?_, ?_, ?_⟩ <;> (rw [World.cell?_alloc_new]; rfl)
theorem EBox.past {u u' : World} {b : Nat} {id s m t n : Int} {a : Option Addr} {N c : Nat} (h : EBox u b id s m t n a N c) (hb : Below u.heap.size u u') : EBox u' b id s m t n a N c :=
  have hl := cell_lt h.c0
  ⟨(hb.cell (p := ⟨b, 0, none⟩) hl).trans h.c0, (hb.cell (p := ⟨b, 1, none⟩) hl).trans h.c1, (hb.cell (p := ⟨b, 2, none⟩) hl).trans h.c2, (hb.cell (p := ⟨b, 3, none⟩) hl).trans h.c3, (hb.cell (p := ⟨b, 4, none⟩) hl).trans h.c4, (hb.cell (p := ⟨b, 5, none⟩) hl).trans h.c5⟩
end Go.Proofs.YtpnjcflfnoamoaaGreat

