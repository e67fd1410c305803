/-
  What is prepared, as chapter 13 tells it: entries by their numbers; who holds a key, whom a reader waits for. No program is named here.
  Plain facts on integers, bits and lists: numbers in groups of seven bits, folded signs, cut bits. No program is named here.
  Records in bytes, as chapter 14 tells it: what is written, how it is read; what is written is read back, and nothing else has its bytes. No program is named here.
  One that takes part, as chapter 16 tells it: what is committed, what is prepared, what is over; what each call answers and leaves. No program is named here.
-/
import Derived.Test.YtileidbdmpeciaaGreatAu67
import Derived.WalkKit
import Derived.Laws.BitsAllLaws
import Derived.Test.YtileidbdmpeciaaGreatAu84
namespace Go.Proofs.YtileidbdmpeciaaGreat
set_option linter.unusedVariables false

/-- An entry: its number, its snapshot, its stamp, its writes. -/
structure Ent where
  id : Int
  s : Int
  m : Int
  t : Int
  n : Int
  l : List Wrt
def goodE (e : Ent) : Bool := decide (1 ≤ e.id) && decide (okS e.s) && decide (okS e.t) && decide (0 < cmpS e.t e.n e.s e.m) && mayW e.l 1
def hasK (e : Ent) (k : List Int) : Bool := e.l.any (fun W => decide (W.k = k))
def holdT (L : List Ent) (k : List Int) : Option Ent := L.find? (fun e => hasK e k)
def blocksT (L : List Ent) (k : List Int) (t n : Int) : Option Int := match holdT L k with
  | none => none
  | some e => if 0 < cmpS e.t e.n t n then none else some e.id
def hasT (L : List Ent) (id : Int) : Option Ent := L.find? (fun e => decide (e.id = id))
def dropT (L : List Ent) (id : Int) : List Ent := L.filter (fun e => decide (e.id ≠ id))
def heldT (L : List Ent) (l : List Wrt) : Bool := l.any (fun W => (holdT L W.k).isSome)
def placeT (L : List Ent) (id : Int) : Nat := (L.takeWhile (fun e => decide (e.id < id))).length
def addT (L : List Ent) (e : Ent) : Int × List Ent :=
  if goodE e = false then (1, L) else if (hasT L e.id).isSome = true then (5, L) else if heldT L e.l = true then (9, L) else if 100 ≤ L.length then (6, L) else (0, L.take (placeT L e.id) ++ e :: L.drop (placeT L e.id))
/-- What a table is: by numbers, rising; each entry may be; no two hold one key. -/
structure TabK (L : List Ent) : Prop where
  up : L.Pairwise (fun a b => a.id < b.id)
  good : ∀ e ∈ L, goodE e = true
  apart : L.Pairwise (fun a b => ∀ k, ¬ (hasK a k = true ∧ hasK b k = true))
  few : L.length ≤ 100
theorem TabK.nil : TabK [] := ⟨.nil, fun e h => by simp at h, .nil, by simp⟩
theorem TabK.drop {L : List Ent} (h : TabK L) (id : Int) : TabK (dropT L id) :=
  ⟨h.up.filter _, fun e he => h.good e (List.mem_filter.1 he).1, h.apart.filter _, Nat.le_trans (List.length_filter_le _ _) h.few⟩
theorem place_le (L : List Ent) (id : Int) : placeT L id ≤ L.length := List.Sublist.length_le (List.takeWhile_sublist _)
theorem place_lt {L : List Ent} {id : Int} {i : Nat} {e : Ent} (hi : i < placeT L id) (he : L[i]? = some e) : e.id < id := by
  unfold placeT at hi
  induction L generalizing i with
  | nil => simp at he
  | cons x r ih =>
    by_cases hx : x.id < id
    · rw [List.takeWhile_cons_of_pos (by simpa using hx)] at hi
      cases i with
      | zero => simp at he; rw [← he]; exact hx
      | succ j => exact ih (by simpa using hi) (by simpa using he)
    · rw [List.takeWhile_cons_of_neg (by simpa using hx)] at hi
      simp at hi
theorem place_ge {L : List Ent} (h : L.Pairwise (fun a b => a.id < b.id)) {id : Int} {i : Nat} {e : Ent} (hi : placeT L id ≤ i) (he : L[i]? = some e) : id ≤ e.id := by
  unfold placeT at hi
  induction L generalizing i with
  | nil => simp at he
  | cons x r ih =>
    obtain ⟨h1, h2⟩ := List.pairwise_cons.1 h
    by_cases hx : x.id < id
    · rw [List.takeWhile_cons_of_pos (by simpa using hx)] at hi
      cases i with
      | zero => simp at hi
      | succ j => exact ih h2 (by simpa using hi) (by simpa using he)
    · cases i with
      | zero => simp at he; rw [← he]; omega
      | succ j =>
        have := h1 e (List.mem_of_getElem? (by simpa using he))
        omega
theorem place_is {L : List Ent} {id : Int} {i : Nat} (hi : i ≤ L.length) (h : ∀ j e, j < i → L[j]? = some e → e.id < id) (hx : i = L.length ∨ ∃ e, L[i]? = some e ∧ ¬ e.id < id) : placeT L id = i :=
  tw_len hi (fun j V hj hV => decide_eq_true (h j V hj hV)) (hx.imp (fun h => h) (fun ⟨e, h1, h2⟩ => ⟨e, h1, decide_eq_false h2⟩))
theorem has_none {L : List Ent} {id : Int} (h : (hasT L id).isSome = false) : ∀ e ∈ L, e.id ≠ id := fun e he hid => by
  unfold hasT at h
  rw [Option.isSome_eq_false_iff, Option.isNone_iff_eq_none, List.find?_eq_none] at h
  have := h e he
  simp at this
  exact this hid
theorem held_none {L : List Ent} {l : List Wrt} (h : heldT L l = false) : ∀ e ∈ L, ∀ W ∈ l, hasK e W.k = false := fun e he W hW => by
  unfold heldT at h
  have h1 := List.any_eq_false.1 h W hW
  unfold holdT at h1
  simp only [Bool.not_eq_true, Option.isSome_eq_false_iff, Option.isNone_iff_eq_none, List.find?_eq_none] at h1
  simpa using h1 e he
theorem TabK.add {L : List Ent} (h : TabK L) (e : Ent) : TabK (addT L e).2 := by
  unfold addT
  by_cases h1 : goodE e = false
  · rw [if_pos h1]; exact h
  · rw [if_neg h1]
    by_cases h2 : (hasT L e.id).isSome = true
    · rw [if_pos h2]; exact h
    · rw [if_neg h2]
      by_cases h3 : heldT L e.l = true
      · rw [if_pos h3]; exact h
      · rw [if_neg h3]
        by_cases h4 : 100 ≤ L.length
        · rw [if_pos h4]; exact h
        · rw [if_neg h4]
          have hn := has_none (L := L) (id := e.id) (by simpa using h2)
          have hh := held_none (L := L) (l := e.l) (by simpa using h3)
          have hsub : ∀ x, x ∈ L.take (placeT L e.id) → x ∈ L := fun x hx => List.mem_of_mem_take hx
          have hsub2 : ∀ x, x ∈ L.drop (placeT L e.id) → x ∈ L := fun x hx => List.mem_of_mem_drop hx
          have hlt : ∀ x ∈ L.take (placeT L e.id), x.id < e.id := fun x hx => by
            obtain ⟨j, hj, rfl⟩ := List.mem_iff_getElem.1 hx
            rw [List.length_take] at hj
            rw [List.getElem_take]
            exact place_lt (L := L) (i := j) (by omega) (List.getElem?_eq_getElem (by omega))
          have hgt : ∀ x ∈ L.drop (placeT L e.id), e.id < x.id := fun x hx => by
            obtain ⟨j, hj, rfl⟩ := List.mem_iff_getElem.1 hx
            rw [List.length_drop] at hj
            have h8 := place_ge h.up (id := e.id) (i := placeT L e.id + j) (by omega) (List.getElem?_eq_getElem (by omega))
            rw [List.getElem_drop]
            have h9 := hn _ (List.getElem_mem (l := L) (n := placeT L e.id + j) (by omega))
            omega
          have hno : ∀ x ∈ L, ∀ k, ¬ (hasK x k = true ∧ hasK e k = true) := fun x hx k hk => by
            obtain ⟨W, hW, hWk⟩ := List.any_eq_true.1 hk.2
            have := hh x hx W hW
            rw [of_decide_eq_true hWk, hk.1] at this
            cases this
          have hup := h.up
          have hap := h.apart
          rw [← List.take_append_drop (placeT L e.id) L] at hup hap
          obtain ⟨u1, u2, u3⟩ := List.pairwise_append.1 hup
          obtain ⟨a1, a2, a3⟩ := List.pairwise_append.1 hap
          refine ⟨List.pairwise_append.2 ⟨u1, List.pairwise_cons.2 ⟨hgt, u2⟩, fun a ha b hb => ?_⟩, fun x hx => ?_, List.pairwise_append.2 ⟨a1, List.pairwise_cons.2 ⟨fun x hx k hk => hno x (hsub2 x hx) k ⟨hk.2, hk.1⟩, a2⟩, fun a ha b hb => ?_⟩, ?_⟩
          · rcases List.mem_cons.1 hb with rfl | hb
            · exact hlt a ha
            · exact u3 a ha b hb
          · rcases List.mem_append.1 hx with hx | hx
            · exact h.good x (hsub x hx)
            · rcases List.mem_cons.1 hx with rfl | hx
              · simpa using h1
              · exact h.good x (hsub2 x hx)
          · rcases List.mem_cons.1 hb with rfl | hb
            · exact hno a (hsub a ha)
            · exact a3 a ha b hb
          · simp only [List.length_append, List.length_take, List.length_cons, List.length_drop]
            omega
/-- Who holds a key that one of them has is that one. -/
theorem TabK.holder {L : List Ent} (h : TabK L) {e : Ent} (he : e ∈ L) {k : List Int} (hk : hasK e k = true) : holdT L k = some e := by
  unfold holdT
  cases hf : L.find? (fun e => hasK e k) with
  | none => exact absurd hk (by simpa using List.find?_eq_none.1 hf e he)
  | some x =>
    have hx := List.mem_of_find?_eq_some hf
    have hxk : hasK x k = true := List.find?_some (p := fun e => hasK e k) hf
    by_cases hxe : x = e
    · rw [hxe]
    · exfalso
      obtain ⟨i, hi, rfl⟩ := List.mem_iff_getElem.1 hx
      obtain ⟨j, hj, rfl⟩ := List.mem_iff_getElem.1 he
      rcases Nat.lt_trichotomy i j with hij | hij | hij
      · exact List.pairwise_iff_getElem.1 h.apart i j hi hj hij k ⟨hxk, hk⟩
      · subst hij; exact hxe rfl
      · exact List.pairwise_iff_getElem.1 h.apart j i hj hi hij k ⟨hk, hxk⟩
end Go.Proofs.YtileidbdmpeciaaGreat

namespace Go.Proofs.YtileidbdmpeciaaGreat.Pl
open Go Go.RowKit

/-! ### Folded signs -/
/-! ### Cut bits -/
/-! ### Numbers in groups of seven bits -/
def Fits (f : Nat) (x : Int) : Prop := 0 ≤ x ∧ x < 2 * 128 ^ f
def goodB (c i : Int) : Bool := !(decide (0 < i) && c == 0) && (decide (i < 9) || c == 1)
def getF : Nat → Int → Nat → List Int → Int × Int × Int
  | 0, _, _, _ => (0, 0, 3)
  | _ + 1, _, _, [] => (0, 0, 3)
  | f + 1, X, k, c :: r => if c < 128 then (if goodB c k = true then (X + c * 2 ^ (7 * k), (k : Int) + 1, 0) else (0, 0, 3)) else getF f (X + c % 128 * 2 ^ (7 * k)) (k + 1) r
def getI (zs : List Int) : Int × Int × Int := getF 10 0 0 zs
end Go.Proofs.YtileidbdmpeciaaGreat.Pl

namespace Go.Proofs.YtileidbdmpeciaaGreat
set_option linter.unusedVariables false

/-! ### Reading -/
/-- A way to read: what is read, and what is left behind it. -/
abbrev Pr (α : Type) := List Int → Option (α × List Int)
def seqP {α β : Type} (p : Pr α) (f : α → Pr β) : Pr β := fun zs => match p zs with
  | none => none
  | some (a, r) => f a r
def retP {α : Type} (a : α) : Pr α := fun zs => some (a, zs)
def noneP {α : Type} : Pr α := fun _ => none
theorem seq_some {α β : Type} {p : Pr α} {f : α → Pr β} {zs r : List Int} {a : α} (h : p zs = some (a, r)) : seqP p f zs = f a r := by unfold seqP; rw [h]
theorem seq_none {α β : Type} {p : Pr α} {f : α → Pr β} {zs : List Int} (h : p zs = none) : seqP p f zs = none := by unfold seqP; rw [h]
/-- More behind is left where it is. -/
def Ext {α : Type} (p : Pr α) : Prop := ∀ zs a r m, p zs = some (a, r) → p (zs ++ m) = some (a, r ++ m)
theorem Ext.seq {α β : Type} {p : Pr α} {f : α → Pr β} (hp : Ext p) (hf : ∀ a, Ext (f a)) : Ext (seqP p f) := by
  intro zs b r m h
  cases e : p zs with
  | none => rw [seq_none e] at h; simp at h
  | some x =>
    obtain ⟨a, s⟩ := x
    rw [seq_some e] at h
    rw [seq_some (hp _ _ _ m e)]
    exact hf a _ _ _ m h
theorem Ext.ret {α : Type} (a : α) : Ext (retP a) := by
  intro zs b r m h
  simp [retP] at h
  obtain ⟨rfl, rfl⟩ := h
  rfl
theorem Ext.no {α : Type} : Ext (noneP (α := α)) := by intro zs b r m h; simp [noneP] at h

/-- A number. -/
def numP : Pr Int := fun zs => if (Pl.getI zs).2.2 = 0 then some ((Pl.getI zs).1, zs.drop (Pl.getI zs).2.1.toNat) else none
def byteP : Pr Int := fun zs => match zs with
  | [] => none
  | c :: r => some (c, r)
def bytesP (n : Int) : Pr (List Int) := fun zs => if (zs.length : Int) < n then none else some (zs.take n.toNat, zs.drop n.toNat)
def boolP : Pr Bool := seqP byteP fun c => if 1 < c then noneP else retP (decide (c = 1))
def stampP : Pr (Int × Int) := seqP numP fun v => if v < 9223372036854775808 then retP (v / 256, v % 256) else noneP
def countP (most : Int) : Pr Int := seqP numP fun v => if most < v then noneP else retP v
def textP : Pr (List Int) := seqP numP fun n => bytesP n
def writeP : Pr Wrt := seqP (bytesP 16) fun k => seqP boolP fun g => seqP textP fun v => retP ⟨k, v, g⟩
def manyP {α : Type} (p : Pr α) : Nat → Pr (List α)
  | 0 => retP []
  | n + 1 => seqP p fun a => seqP (manyP p n) fun l => retP (a :: l)
/-- A record. -/
structure Rcd where
  kd : Int
  id : Int
  s : Int
  m : Int
  t : Int
  n : Int
  l : List Wrt
  y : Bool
  ps : List Int
/-! ### Writing -/
/-! ### More behind -/
/-! ### What is written is read back -/
/-- What numbers and bytes a record may hold at all. -/
structure RcdOk (r : Rcd) : Prop where
  id0 : -9223372036854775808 ≤ r.id
  id1 : r.id ≤ 9223372036854775807
  m0 : 0 ≤ r.m
  m1 : r.m ≤ 255
  n0 : 0 ≤ r.n
  n1 : r.n ≤ 255
  keys : ∀ W ∈ r.l, Ky W.k
  vals : ∀ W ∈ r.l, ∀ z ∈ W.v, 0 ≤ z ∧ z ≤ 255
end Go.Proofs.YtileidbdmpeciaaGreat

namespace Go.Proofs.YtileidbdmpeciaaGreat
set_option linter.unusedVariables false
set_option linter.unusedSimpArgs false

/-- Its store, its table, what is over (its number; 2: committed, 3: aborted). -/
structure PSt where
  S : List Ver
  T : List Ent
  O : List (Int × Int)
def overP (O : List (Int × Int)) (id : Int) : Option Int := (O.find? (fun x => decide (x.1 = id))).map (fun x => x.2)
def stateP (P : PSt) (id : Int) : Int := match overP P.O id with
  | some h => h
  | none => if (hasT P.T id).isSome = true then 1 else 0
def readP (P : PSt) (k : List Int) (t n now : Int) : Int × Option (List Int) :=
  if (goodK k && decide (okS t)) = false then (1, none) else if (decide (now < t) || (blocksT P.T k t n).isSome) = true then (8, none) else (0, getV P.S k t n)
def newerV (S : List Ver) (k : List Int) (s m : Int) : Bool := match newestV S k with
  | none => false
  | some V => decide (0 < cmpS V.t V.n s m)
def confP (P : PSt) (e : Ent) : Bool := e.l.any (fun W => (holdT P.T W.k).isSome || newerV P.S W.k e.s e.m)
def keysE (e : Ent) : List (List Int) := e.l.map (fun W => W.k)
def keysT (T : List Ent) : List (List Int) := T.flatMap keysE
def fullP (P : PSt) (e : Ent) : Bool := e.l.any (fun W => decide (50 ≤ kMany P.S W.k)) || decide (200 < (sortK (keysV P.S ++ keysE e ++ keysT P.T)).length)
def prepP (P : PSt) (e : Ent) : Int × PSt :=
  if goodE e = false then (1, P) else if stateP P e.id ≠ 0 then (10, P) else if confP P e = true then (9, P) else if fullP P e = true then (6, P) else ((addT P.T e).1, { P with T := (addT P.T e).2 })
def commitP (P : PSt) (id t n : Int) : Int × PSt :=
  if decide (okS t) = false then (1, P) else if stateP P id = 2 then (0, P) else if stateP P id = 3 then (10, P) else match hasT P.T id with
    | none => (4, P)
    | some e => if cmpS t n e.t e.n < 0 then (1, P) else if (applyV P.S t n e.l).1 ≠ 0 then ((applyV P.S t n e.l).1, P) else (0, ⟨(applyV P.S t n e.l).2, dropT P.T id, P.O ++ [(id, 2)]⟩)
def abortP (P : PSt) (id : Int) : Int × PSt :=
  if id < 1 then (1, P) else if stateP P id = 2 then (10, P) else if stateP P id = 3 then (0, P) else (0, ⟨P.S, dropT P.T id, P.O ++ [(id, 3)]⟩)
def trimP (P : PSt) (t n : Int) : Int × PSt := ((P.S.length : Int) - ((restV P.S t n).length : Int), { P with S := restV P.S t n })
/-! ### What calls keep -/
structure PstK (P : PSt) : Prop where
  sto : StoG P.S
  tab : TabK P.T
  old : ∀ e ∈ P.T, ∀ W ∈ e.l, ∀ V ∈ P.S, V.k = W.k → ¬ ltS e.s e.m V.t V.n
  room : ∀ e ∈ P.T, ∀ W ∈ e.l, kMany P.S W.k < 50
  keys : ∃ U : List (List Int), (∀ k ∈ keysV P.S, k ∈ U) ∧ (∀ k ∈ keysT P.T, k ∈ U) ∧ U.length ≤ 200
  opn : ∀ e ∈ P.T, overP P.O e.id = none
  how : ∀ x ∈ P.O, x.2 = 2 ∨ x.2 = 3
  ok : ∀ e ∈ P.T, ∀ W ∈ e.l, Ky W.k ∧ ∀ z ∈ W.v, 0 ≤ z ∧ z ≤ 255
theorem PstK.nil : PstK ⟨[], [], []⟩ := ⟨StoG.nil, TabK.nil, fun e h => by simp at h, fun e h => by simp at h, ⟨[], by simp [keysV], by simp [keysT], by simp⟩, fun e h => by simp at h, fun x h => by simp at h, fun e h => by simp at h⟩
theorem over_app {O : List (Int × Int)} {id i h : Int} : overP (O ++ [(i, h)]) id = match overP O id with | some x => some x | none => if i = id then some h else none := by
  unfold overP
  rw [List.find?_append]
  cases e : O.find? (fun x => decide (x.1 = id)) with
  | some x => rfl
  | none =>
    by_cases h1 : i = id
    · simp [h1]
    · simp [h1]
theorem mem_add {L : List Ent} {e x : Ent} (h : x ∈ (addT L e).2) : x ∈ L ∨ (x = e ∧ (addT L e).1 = 0) := by
  unfold addT at h ⊢
  split at h
  · exact .inl h
  · rename_i h1
    rw [if_neg h1]
    split at h
    · exact .inl h
    · rename_i h2
      rw [if_neg h2]
      split at h
      · exact .inl h
      · rename_i h3
        rw [if_neg h3]
        split at h
        · exact .inl h
        · rename_i h4
          rw [if_neg h4]
          rcases List.mem_append.1 h with e1 | e1
          · exact .inl (List.mem_of_mem_take e1)
          · rcases List.mem_cons.1 e1 with e1 | e1
            · exact .inr ⟨e1, rfl⟩
            · exact .inl (List.mem_of_mem_drop e1)
theorem mem_drop_ {L : List Ent} {id : Int} {x : Ent} : x ∈ dropT L id ↔ x ∈ L ∧ x.id ≠ id := by
  unfold dropT
  rw [List.mem_filter, decide_eq_true_eq]
theorem not_newer {S : List Ver} (h : OrdK S) {k : List Int} {s m : Int} (hn : newerV S k s m = false) : ∀ V ∈ S, V.k = k → ¬ ltS s m V.t V.n := by
  intro V hV hk hlt
  have hc : V ∈ chainV S k := (chain_mem h).2 ⟨hV, hk⟩
  unfold newerV at hn
  cases e : newestV S k with
  | none =>
    unfold newestV at e
    rw [List.getLast?_eq_none_iff] at e
    rw [e] at hc
    simp at hc
  | some X =>
    rw [e] at hn
    have hx : ¬ 0 < cmpS X.t X.n s m := of_decide_eq_false hn
    unfold newestV at e
    obtain ⟨l, hl⟩ := List.getLast?_eq_some_iff.1 e
    have hu := ups_chain h k
    unfold oneV Ups at hu
    rw [List.pairwise_map, hl] at hu
    rw [hl] at hc
    rcases List.mem_append.1 hc with q | q
    · have h2 : ltV (bare V) (bare X) := (List.pairwise_append.1 hu).2.2 V q X (by simp)
      have h3 : ltS V.t V.n X.t X.n := h2
      exact hx (cmp_pos.2 (ltS_trans hlt h3))
    · rw [List.mem_singleton] at q
      rw [← q] at hx
      exact hx (cmp_pos.2 hlt)
theorem hasK_of {e : Ent} {W : Wrt} (h : W ∈ e.l) : hasK e W.k = true := List.any_eq_true.2 ⟨W, h, by simp⟩
theorem PstK.prep {P : PSt} (h : PstK P) (e : Ent) (hok : ∀ W ∈ e.l, Ky W.k ∧ ∀ z ∈ W.v, 0 ≤ z ∧ z ≤ 255) : PstK (prepP P e).2 := by
  unfold prepP
  by_cases h1 : goodE e = false
  · rw [if_pos h1]; exact h
  rw [if_neg h1]
  by_cases h2 : stateP P e.id ≠ 0
  · rw [if_pos h2]; exact h
  rw [if_neg h2]
  by_cases h3 : confP P e = true
  · rw [if_pos h3]; exact h
  rw [if_neg h3]
  by_cases h4 : fullP P e = true
  · rw [if_pos h4]; exact h
  rw [if_neg h4]
  have h3' : ∀ W ∈ e.l, (holdT P.T W.k).isSome = false ∧ newerV P.S W.k e.s e.m = false := fun W hW => by
    unfold confP at h3
    rw [Bool.not_eq_true, List.any_eq_false] at h3
    have := h3 W hW
    simpa using this
  unfold fullP at h4
  simp only [Bool.or_eq_true, not_or, Bool.not_eq_true, List.any_eq_false, decide_eq_true_eq] at h4
  refine ⟨h.sto, h.tab.add e, fun x hx W hW V hV hk => ?_, fun x hx W hW => ?_, ⟨sortK (keysV P.S ++ keysE e ++ keysT P.T), fun k hk => ?_, fun k hk => ?_, by have := h4.2; omega⟩, fun x hx => ?_, h.how, fun x hx => ?_⟩
  · rcases mem_add hx with hx | ⟨rfl, _⟩
    · exact h.old x hx W hW V hV hk
    · exact not_newer h.sto.sto.ord (h3' W hW).2 V hV hk
  · rcases mem_add hx with hx | ⟨rfl, _⟩
    · exact h.room x hx W hW
    · show kMany P.S W.k < 50
      have := h4.1 W hW
      omega
  · exact ((sortK_facts _).2.1 k).2 (List.mem_append_left _ (List.mem_append_left _ hk))
  · refine ((sortK_facts _).2.1 k).2 ?_
    obtain ⟨x, hx, hk2⟩ := List.mem_flatMap.1 hk
    rcases mem_add hx with hx | ⟨rfl, _⟩
    · exact List.mem_append_right _ (List.mem_flatMap.2 ⟨x, hx, hk2⟩)
    · exact List.mem_append_left _ (List.mem_append_right _ hk2)
  · rcases mem_add hx with hx | ⟨rfl, _⟩
    · exact h.opn x hx
    · rw [Decidable.not_not] at h2
      unfold stateP at h2
      cases e1 : overP P.O x.id with
      | none => rfl
      | some y =>
        rw [e1] at h2
        unfold overP at e1
        cases e2 : P.O.find? (fun z => decide (z.1 = x.id)) with
        | none => rw [e2] at e1; cases e1
        | some z =>
          rw [e2] at e1
          have h5 := h.how z (List.mem_of_find?_eq_some e2)
          injection e1 with e1
          have e3 : z.2 = y := e1
          rw [e3] at h5
          have h2' : y = 0 := h2
          omega
  · rcases mem_add hx with hx | ⟨rfl, _⟩
    · exact h.ok x hx
    · exact hok
/-- What Apply adds. -/
theorem puts_mem {t n : Int} : ∀ (l : List Wrt) (L : List Ver) (V : Ver), V ∈ putsW t n l L → V ∈ L ∨ ∃ W ∈ l, V = verW t n W
  | [], L, V, h => .inl h
  | W :: r, L, V, h => by
    rcases puts_mem r (putV L (verW t n W)).2 V h with e | ⟨X, hX, e⟩
    · rcases mem_put e with e | ⟨e, _⟩
      · exact .inl e
      · exact .inr ⟨W, by simp, e⟩
    · exact .inr ⟨X, by simp [hX], e⟩
theorem puts_other {t n : Int} {k : List Int} : ∀ (l : List Wrt) (L : List Ver), OrdK L → (∀ W ∈ l, W.k ≠ k) → oneV (putsW t n l L) k = oneV L k
  | [], L, _, _ => rfl
  | W :: r, L, ho, h => by
    show oneV (putsW t n r (putV L (verW t n W)).2) k = _
    rw [puts_other r _ (ord_put ho _) (fun X hX => h X (by simp [hX])), put_other ho (verW t n W) k (fun e => h W (by simp) e.symm)]
theorem apply_zero {L : List Ver} (h : OrdK L) {t n : Int} {l : List Wrt} (h0 : (applyV L t n l).1 = 0) : (applyV L t n l).2 = putsW t n l L ∧ okS t := by
  rw [apply_is h] at h0 ⊢
  by_cases h1 : (decide (okS t) && mayW l 1) = false
  · rw [if_pos h1] at h0; simp at h0
  rw [if_neg h1] at h0 ⊢
  by_cases h2 : anyWr L t n l = true
  · rw [if_pos h2] at h0; simp at h0
  rw [if_neg h2] at h0 ⊢
  by_cases h3 : (anyFu L l || decide (200 < (keysV L).length + newW L l)) = true
  · rw [if_pos h3] at h0; simp at h0
  rw [if_neg h3]
  simp only [Bool.not_eq_false, Bool.and_eq_true, decide_eq_true_eq] at h1
  exact ⟨rfl, h1.1⟩
theorem PstK.commit {P : PSt} (h : PstK P) (id t n : Int) (hn : 0 ≤ n ∧ n ≤ 255) : PstK (commitP P id t n).2 := by
  unfold commitP
  by_cases h1 : decide (okS t) = false
  · rw [if_pos h1]; exact h
  rw [if_neg h1]
  by_cases h2 : stateP P id = 2
  · rw [if_pos h2]; exact h
  rw [if_neg h2]
  by_cases h3 : stateP P id = 3
  · rw [if_pos h3]; exact h
  rw [if_neg h3]
  cases he : hasT P.T id with
  | none => exact h
  | some e =>
    simp only
    by_cases h4 : cmpS t n e.t e.n < 0
    · rw [if_pos h4]; exact h
    rw [if_neg h4]
    by_cases h5 : (applyV P.S t n e.l).1 ≠ 0
    · rw [if_pos h5]; exact h
    rw [if_neg h5]
    rw [Decidable.not_not] at h5
    have hem : e ∈ P.T := List.mem_of_find?_eq_some he
    have hid : e.id = id := of_decide_eq_true (List.find?_some (p := fun e : Ent => decide (e.id = id)) he)
    have ho := h.sto.sto.ord
    obtain ⟨ea, _⟩ := apply_zero ho h5
    have hap : ∀ x ∈ P.T, x.id ≠ id → ∀ W ∈ x.l, ∀ X ∈ e.l, X.k ≠ W.k := fun x hx hne W hW X hX ek => by
      have h6 := h.tab.holder hx (hasK_of hW)
      have h7 := h.tab.holder hem (hasK_of hX)
      rw [ek, h6] at h7
      injection h7 with h7
      exact hne (by rw [h7, hid])
    refine ⟨h.sto.apply hn (h.ok e hem), h.tab.drop id, fun x hx W hW V hV hk => ?_, fun x hx W hW => ?_, ?_, fun x hx => ?_, fun x hx => ?_, fun x hx => h.ok x (mem_drop_.1 hx).1⟩
    · obtain ⟨hx, hne⟩ := mem_drop_.1 hx
      have hV' : V ∈ putsW t n e.l P.S := by rw [← ea]; exact hV
      rcases puts_mem e.l P.S V hV' with q | ⟨X, hX, q⟩
      · exact h.old x hx W hW V q hk
      · rw [q] at hk
        exact absurd hk (hap x hx hne W hW X hX)
    · obtain ⟨hx, hne⟩ := mem_drop_.1 hx
      show kMany (applyV P.S t n e.l).2 W.k < 50
      rw [ea, ← one_len, puts_other e.l P.S ho (hap x hx hne W hW), one_len]
      exact h.room x hx W hW
    · obtain ⟨U, u1, u2, u3⟩ := h.keys
      refine ⟨U, fun k hk => ?_, fun k hk => ?_, u3⟩
      · obtain ⟨V, hV, ek⟩ := (keys_mem _ k).1 hk
        have hV' : V ∈ putsW t n e.l P.S := by rw [← ea]; exact hV
        rcases puts_mem e.l P.S V hV' with q | ⟨X, hX, q⟩
        · exact u1 k ((keys_mem _ k).2 ⟨V, q, ek⟩)
        · refine u2 k (List.mem_flatMap.2 ⟨e, hem, List.mem_map.2 ⟨X, hX, ?_⟩⟩)
          rw [← ek, q]
          rfl
      · obtain ⟨x, hx, hk⟩ := List.mem_flatMap.1 hk
        exact u2 k (List.mem_flatMap.2 ⟨x, (mem_drop_.1 hx).1, hk⟩)
    · obtain ⟨hx, hne⟩ := mem_drop_.1 hx
      show overP (P.O ++ [(id, 2)]) x.id = none
      rw [over_app, h.opn x hx]
      show (if id = x.id then some (2 : Int) else none) = none
      rw [if_neg (fun e => hne e.symm)]
    · rcases List.mem_append.1 hx with hx | hx
      · exact h.how x hx
      · rw [List.mem_singleton] at hx; rw [hx]; exact .inl rfl
theorem PstK.abort {P : PSt} (h : PstK P) (id : Int) : PstK (abortP P id).2 := by
  unfold abortP
  by_cases h1 : id < 1
  · rw [if_pos h1]; exact h
  rw [if_neg h1]
  by_cases h2 : stateP P id = 2
  · rw [if_pos h2]; exact h
  rw [if_neg h2]
  by_cases h3 : stateP P id = 3
  · rw [if_pos h3]; exact h
  rw [if_neg h3]
  obtain ⟨U, u1, u2, u3⟩ := h.keys
  refine ⟨h.sto, h.tab.drop id, fun x hx => h.old x (mem_drop_.1 hx).1, fun x hx => h.room x (mem_drop_.1 hx).1, ⟨U, u1, fun k hk => ?_, u3⟩, fun x hx => ?_, fun x hx => ?_, fun x hx => h.ok x (mem_drop_.1 hx).1⟩
  · obtain ⟨x, hx, hk⟩ := List.mem_flatMap.1 hk
    exact u2 k (List.mem_flatMap.2 ⟨x, (mem_drop_.1 hx).1, hk⟩)
  · obtain ⟨hx, hne⟩ := mem_drop_.1 hx
    show overP (P.O ++ [(id, 3)]) x.id = none
    rw [over_app, h.opn x hx]
    show (if id = x.id then some (3 : Int) else none) = none
    rw [if_neg (fun e => hne e.symm)]
  · rcases List.mem_append.1 hx with hx | hx
    · exact h.how x hx
    · rw [List.mem_singleton] at hx; rw [hx]; exact .inr rfl
theorem many_rest (S : List Ver) (h : OrdK S) (t n : Int) (k : List Int) : kMany (restV S t n) k ≤ kMany S k := by
  rw [← chain_len, ← chain_len, chain_filter (ord_rest h t n), chain_filter h]
  unfold restV
  rw [List.filter_filter]
  have e : (fun a : Ver => decide (a.k = k) && !goesV S t n a) = fun a => (!goesV S t n a) && decide (a.k = k) := by funext a; exact Bool.and_comm _ _
  rw [e, ← List.filter_filter]
  exact List.length_filter_le _ _
theorem PstK.trim {P : PSt} (h : PstK P) (t n : Int) : PstK (trimP P t n).2 := by
  obtain ⟨U, u1, u2, u3⟩ := h.keys
  refine ⟨h.sto.rest t n, h.tab, fun x hx W hW V hV hk => h.old x hx W hW V (List.mem_filter.1 hV).1 hk, fun x hx W hW => Nat.lt_of_le_of_lt (many_rest P.S h.sto.sto.ord t n W.k) (h.room x hx W hW), ⟨U, fun k hk => ?_, u2, u3⟩, h.opn, h.how, h.ok⟩
  obtain ⟨V, hV, ek⟩ := (keys_mem _ k).1 hk
  exact u1 k ((keys_mem _ k).2 ⟨V, (List.mem_filter.1 hV).1, ek⟩)
end Go.Proofs.YtileidbdmpeciaaGreat

