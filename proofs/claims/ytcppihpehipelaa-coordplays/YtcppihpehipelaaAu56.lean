/-
  What is seen of a key behind a put: at times ahead of it nothing has turned; just at it, it is seen. No program is named here.
  Stretches of keys at a time, and what a trim leaves of them. No program is named here.
  What is prepared, as chapter 13 tells it: entries by their numbers; who holds a key, whom a reader waits for. No program is named here.
  Plain facts on integers, bits and lists: numbers in groups of seven bits, folded signs, cut bits. No program is named here.
  Records in bytes, as chapter 14 tells it: what is written, how it is read; what is written is read back, and nothing else has its bytes. No program is named here.
-/
import Derived.Test.YtcppihpehipelaaAu67
import Derived.WalkKit
import Derived.Laws.BitsAllLaws
namespace Go.Proofs.Ytcppihpehipelaa
open Go.RowKit
set_option linter.unusedVariables false

/-- A write: its key, its value, whether it is gone. -/
structure Wrt where
  k : List Int
  v : List Int
  g : Bool
end Go.Proofs.Ytcppihpehipelaa

namespace Go.Proofs.Ytcppihpehipelaa
open Go.RowKit
set_option linter.unusedVariables false

/-- What a store holds: in order; each version may be; no key has more than fifty. -/
structure StoK (L : List Ver) : Prop where
  ord : OrdK L
  may : ∀ V ∈ L, mayV V = true
  ins : ∀ V ∈ L, 0 ≤ V.n ∧ V.n ≤ 255 ∧ ∀ z ∈ V.v, 0 ≤ z ∧ z ≤ 255
  few : ∀ k, kMany L k ≤ 50
theorem StoK.nil : StoK [] := ⟨List.Pairwise.nil, fun V h => by simp at h, fun V h => by simp at h, fun k => by have := kMany_le [] k; simp at this; omega⟩
theorem chain_sub {L : List Ver} {k : List Int} {V : Ver} (h : V ∈ chainV L k) : V ∈ L := List.mem_of_mem_drop (List.mem_of_mem_take h)
theorem StoK.chn {L : List Ver} (h : StoK L) (k : List Int) : Chn (oneV L k) := by
  refine ⟨one_bare _, ups_chain h.ord k, fun V hV => ?_, fun V hV => ?_, by rw [one_len]; exact h.few k⟩
  · obtain ⟨X, hX, e⟩ := List.mem_map.1 hV
    rw [← e, bare_may]
    exact h.may X (chain_sub hX)
  · obtain ⟨X, hX, e⟩ := List.mem_map.1 hV
    rw [← e]
    exact h.ins X (chain_sub hX)
theorem mem_put {L : List Ver} {V X : Ver} (hX : X ∈ (putV L V).2) : X ∈ L ∨ (X = V ∧ mayV V = true) := by
  unfold putV at hX
  by_cases h1 : mayV V = false
  · rw [if_pos h1] at hX; exact .inl hX
  · rw [if_neg h1] at hX
    by_cases h2 : clashV L V = true
    · rw [if_pos h2] at hX; exact .inl hX
    · rw [if_neg h2] at hX
      by_cases h3 : 50 ≤ kMany L V.k
      · rw [if_pos h3] at hX; exact .inl hX
      · rw [if_neg h3] at hX
        rcases (mem_ins _).1 hX with e | e
        · exact .inr ⟨e, by simpa using h1⟩
        · exact .inl e
theorem StoK.put {L : List Ver} (h : StoK L) {V : Ver} (hb : 0 ≤ V.n ∧ V.n ≤ 255 ∧ ∀ z ∈ V.v, 0 ≤ z ∧ z ≤ 255) : StoK (putV L V).2 := by
  refine ⟨ord_put h.ord V, fun X hX => ?_, fun X hX => ?_, fun k => ?_⟩
  · rcases mem_put hX with e | ⟨rfl, e⟩
    · exact h.may X e
    · exact e
  · rcases mem_put hX with e | ⟨rfl, _⟩
    · exact h.ins X e
    · exact hb
  · by_cases hk : k = V.k
    · rw [hk, ← one_len, put_own h.ord]
      exact ((h.chn V.k).put (V := bare V) rfl hb).few
    · rw [← one_len, put_other h.ord V k hk, one_len]
      exact h.few k
theorem StoK.rest {L : List Ver} (h : StoK L) (t n : Int) : StoK (restV L t n) := by
  refine ⟨ord_rest h.ord t n, fun V hV => h.may V (List.mem_filter.1 hV).1, fun V hV => h.ins V (List.mem_filter.1 hV).1, fun k => ?_⟩
  rw [← one_len, rest_own h.ord]
  exact ((h.chn k).rest t n).few
/-- May writes be (but for their stamp): so many, each may be, no key twice. -/
def mayW (l : List Wrt) (least : Nat) : Bool := decide (least ≤ l.length ∧ l.length ≤ 16) && l.all (fun W => goodK W.k && decide (W.v.length ≤ 200) && (!W.g || decide (W.v = []))) && decide (l.Pairwise fun A B => A.k ≠ B.k)
end Go.Proofs.Ytcppihpehipelaa

namespace Go.Proofs.Ytcppihpehipelaa
set_option linter.unusedVariables false

/-- An entry: its number, its snapshot, its stamp, its writes. -/
structure Ent where
  id : Int
  s : Int
  m : Int
  t : Int
  n : Int
  l : List Wrt
def goodE (e : Ent) : Bool := decide (1 ≤ e.id) && decide (okS e.s) && decide (okS e.t) && decide (0 < cmpS e.t e.n e.s e.m) && mayW e.l 1
def hasK (e : Ent) (k : List Int) : Bool := e.l.any (fun W => decide (W.k = k))
def holdT (L : List Ent) (k : List Int) : Option Ent := L.find? (fun e => hasK e k)
def hasT (L : List Ent) (id : Int) : Option Ent := L.find? (fun e => decide (e.id = id))
def dropT (L : List Ent) (id : Int) : List Ent := L.filter (fun e => decide (e.id ≠ id))
def heldT (L : List Ent) (l : List Wrt) : Bool := l.any (fun W => (holdT L W.k).isSome)
def placeT (L : List Ent) (id : Int) : Nat := (L.takeWhile (fun e => decide (e.id < id))).length
def addT (L : List Ent) (e : Ent) : Int × List Ent :=
  if goodE e = false then (1, L) else if (hasT L e.id).isSome = true then (5, L) else if heldT L e.l = true then (9, L) else if 100 ≤ L.length then (6, L) else (0, L.take (placeT L e.id) ++ e :: L.drop (placeT L e.id))
/-- What a table is: by numbers, rising; each entry may be; no two hold one key. -/
structure TabK (L : List Ent) : Prop where
  up : L.Pairwise (fun a b => a.id < b.id)
  good : ∀ e ∈ L, goodE e = true
  apart : L.Pairwise (fun a b => ∀ k, ¬ (hasK a k = true ∧ hasK b k = true))
  few : L.length ≤ 100
theorem TabK.nil : TabK [] := ⟨.nil, fun e h => by simp at h, .nil, by simp⟩
theorem TabK.drop {L : List Ent} (h : TabK L) (id : Int) : TabK (dropT L id) :=
  ⟨h.up.filter _, fun e he => h.good e (List.mem_filter.1 he).1, h.apart.filter _, Nat.le_trans (List.length_filter_le _ _) h.few⟩
theorem place_lt {L : List Ent} {id : Int} {i : Nat} {e : Ent} (hi : i < placeT L id) (he : L[i]? = some e) : e.id < id := by
  unfold placeT at hi
  induction L generalizing i with
  | nil => simp at he
  | cons x r ih =>
    by_cases hx : x.id < id
    · rw [List.takeWhile_cons_of_pos (by simpa using hx)] at hi
      cases i with
      | zero => simp at he; rw [← he]; exact hx
      | succ j => exact ih (by simpa using hi) (by simpa using he)
    · rw [List.takeWhile_cons_of_neg (by simpa using hx)] at hi
      simp at hi
theorem place_ge {L : List Ent} (h : L.Pairwise (fun a b => a.id < b.id)) {id : Int} {i : Nat} {e : Ent} (hi : placeT L id ≤ i) (he : L[i]? = some e) : id ≤ e.id := by
  unfold placeT at hi
  induction L generalizing i with
  | nil => simp at he
  | cons x r ih =>
    obtain ⟨h1, h2⟩ := List.pairwise_cons.1 h
    by_cases hx : x.id < id
    · rw [List.takeWhile_cons_of_pos (by simpa using hx)] at hi
      cases i with
      | zero => simp at hi
      | succ j => exact ih h2 (by simpa using hi) (by simpa using he)
    · cases i with
      | zero => simp at he; rw [← he]; omega
      | succ j =>
        have := h1 e (List.mem_of_getElem? (by simpa using he))
        omega
theorem has_none {L : List Ent} {id : Int} (h : (hasT L id).isSome = false) : ∀ e ∈ L, e.id ≠ id := fun e he hid => by
  unfold hasT at h
  rw [Option.isSome_eq_false_iff, Option.isNone_iff_eq_none, List.find?_eq_none] at h
  have := h e he
  simp at this
  exact this hid
theorem held_none {L : List Ent} {l : List Wrt} (h : heldT L l = false) : ∀ e ∈ L, ∀ W ∈ l, hasK e W.k = false := fun e he W hW => by
  unfold heldT at h
  have h1 := List.any_eq_false.1 h W hW
  unfold holdT at h1
  simp only [Bool.not_eq_true, Option.isSome_eq_false_iff, Option.isNone_iff_eq_none, List.find?_eq_none] at h1
  simpa using h1 e he
theorem TabK.add {L : List Ent} (h : TabK L) (e : Ent) : TabK (addT L e).2 := by
  unfold addT
  by_cases h1 : goodE e = false
  · rw [if_pos h1]; exact h
  · rw [if_neg h1]
    by_cases h2 : (hasT L e.id).isSome = true
    · rw [if_pos h2]; exact h
    · rw [if_neg h2]
      by_cases h3 : heldT L e.l = true
      · rw [if_pos h3]; exact h
      · rw [if_neg h3]
        by_cases h4 : 100 ≤ L.length
        · rw [if_pos h4]; exact h
        · rw [if_neg h4]
          have hn := has_none (L := L) (id := e.id) (by simpa using h2)
          have hh := held_none (L := L) (l := e.l) (by simpa using h3)
          have hsub : ∀ x, x ∈ L.take (placeT L e.id) → x ∈ L := fun x hx => List.mem_of_mem_take hx
          have hsub2 : ∀ x, x ∈ L.drop (placeT L e.id) → x ∈ L := fun x hx => List.mem_of_mem_drop hx
          have hlt : ∀ x ∈ L.take (placeT L e.id), x.id < e.id := fun x hx => by
            obtain ⟨j, hj, rfl⟩ := List.mem_iff_getElem.1 hx
            rw [List.length_take] at hj
            rw [List.getElem_take]
            exact place_lt (L := L) (i := j) (by omega) (List.getElem?_eq_getElem (by omega))
          have hgt : ∀ x ∈ L.drop (placeT L e.id), e.id < x.id := fun x hx => by
            obtain ⟨j, hj, rfl⟩ := List.mem_iff_getElem.1 hx
            rw [List.length_drop] at hj
            have h8 := place_ge h.up (id := e.id) (i := placeT L e.id + j) (by omega) (List.getElem?_eq_getElem (by omega))
            rw [List.getElem_drop]
            have h9 := hn _ (List.getElem_mem (l := L) (n := placeT L e.id + j) (by omega))
            omega
          have hno : ∀ x ∈ L, ∀ k, ¬ (hasK x k = true ∧ hasK e k = true) := fun x hx k hk => by
            obtain ⟨W, hW, hWk⟩ := List.any_eq_true.1 hk.2
            have := hh x hx W hW
            rw [of_decide_eq_true hWk, hk.1] at this
            cases this
          have hup := h.up
          have hap := h.apart
          rw [← List.take_append_drop (placeT L e.id) L] at hup hap
          obtain ⟨u1, u2, u3⟩ := List.pairwise_append.1 hup
          obtain ⟨a1, a2, a3⟩ := List.pairwise_append.1 hap
          refine ⟨List.pairwise_append.2 ⟨u1, List.pairwise_cons.2 ⟨hgt, u2⟩, fun a ha b hb => ?_⟩, fun x hx => ?_, List.pairwise_append.2 ⟨a1, List.pairwise_cons.2 ⟨fun x hx k hk => hno x (hsub2 x hx) k ⟨hk.2, hk.1⟩, a2⟩, fun a ha b hb => ?_⟩, ?_⟩
          · rcases List.mem_cons.1 hb with rfl | hb
            · exact hlt a ha
            · exact u3 a ha b hb
          · rcases List.mem_append.1 hx with hx | hx
            · exact h.good x (hsub x hx)
            · rcases List.mem_cons.1 hx with rfl | hx
              · simpa using h1
              · exact h.good x (hsub2 x hx)
          · rcases List.mem_cons.1 hb with rfl | hb
            · exact hno a (hsub a ha)
            · exact a3 a ha b hb
          · simp only [List.length_append, List.length_take, List.length_cons, List.length_drop]
            omega
/-- Who holds a key that one of them has is that one. -/
theorem TabK.holder {L : List Ent} (h : TabK L) {e : Ent} (he : e ∈ L) {k : List Int} (hk : hasK e k = true) : holdT L k = some e := by
  unfold holdT
  cases hf : L.find? (fun e => hasK e k) with
  | none => exact absurd hk (by simpa using List.find?_eq_none.1 hf e he)
  | some x =>
    have hx := List.mem_of_find?_eq_some hf
    have hxk : hasK x k = true := List.find?_some (p := fun e => hasK e k) hf
    by_cases hxe : x = e
    · rw [hxe]
    · exfalso
      obtain ⟨i, hi, rfl⟩ := List.mem_iff_getElem.1 hx
      obtain ⟨j, hj, rfl⟩ := List.mem_iff_getElem.1 he
      rcases Nat.lt_trichotomy i j with hij | hij | hij
      · exact List.pairwise_iff_getElem.1 h.apart i j hi hj hij k ⟨hxk, hk⟩
      · subst hij; exact hxe rfl
      · exact List.pairwise_iff_getElem.1 h.apart j i hj hi hij k ⟨hk, hxk⟩
end Go.Proofs.Ytcppihpehipelaa

namespace Go.Proofs.Ytcppihpehipelaa.Pl
open Go Go.RowKit

/-! ### Folded signs -/
/-! ### Cut bits -/
/-- How many bits lie above. -/
def spareI (n : Int) : Int := if 1 ≤ n ∧ n ≤ 64 then 64 - n else 0
def hI (n : Int) : Int := 2 ^ (63 - spareI n).toNat
/-! ### Numbers in groups of seven bits -/
def Fits (f : Nat) (x : Int) : Prop := 0 ≤ x ∧ x < 2 * 128 ^ f
def goodB (c i : Int) : Bool := !(decide (0 < i) && c == 0) && (decide (i < 9) || c == 1)
def getF : Nat → Int → Nat → List Int → Int × Int × Int
  | 0, _, _, _ => (0, 0, 3)
  | _ + 1, _, _, [] => (0, 0, 3)
  | f + 1, X, k, c :: r => if c < 128 then (if goodB c k = true then (X + c * 2 ^ (7 * k), (k : Int) + 1, 0) else (0, 0, 3)) else getF f (X + c % 128 * 2 ^ (7 * k)) (k + 1) r
def getI (zs : List Int) : Int × Int × Int := getF 10 0 0 zs
end Go.Proofs.Ytcppihpehipelaa.Pl

namespace Go.Proofs.Ytcppihpehipelaa
set_option linter.unusedVariables false

/-! ### Reading -/
/-- A way to read: what is read, and what is left behind it. -/
abbrev Pr (α : Type) := List Int → Option (α × List Int)
def seqP {α β : Type} (p : Pr α) (f : α → Pr β) : Pr β := fun zs => match p zs with
  | none => none
  | some (a, r) => f a r
def retP {α : Type} (a : α) : Pr α := fun zs => some (a, zs)
def noneP {α : Type} : Pr α := fun _ => none
theorem seq_some {α β : Type} {p : Pr α} {f : α → Pr β} {zs r : List Int} {a : α} (h : p zs = some (a, r)) : seqP p f zs = f a r := by unfold seqP; rw [h]
theorem seq_none {α β : Type} {p : Pr α} {f : α → Pr β} {zs : List Int} (h : p zs = none) : seqP p f zs = none := by unfold seqP; rw [h]
/-- More behind is left where it is. -/
def Ext {α : Type} (p : Pr α) : Prop := ∀ zs a r m, p zs = some (a, r) → p (zs ++ m) = some (a, r ++ m)
theorem Ext.seq {α β : Type} {p : Pr α} {f : α → Pr β} (hp : Ext p) (hf : ∀ a, Ext (f a)) : Ext (seqP p f) := by
  intro zs b r m h
  cases e : p zs with
  | none => rw [seq_none e] at h; simp at h
  | some x =>
    obtain ⟨a, s⟩ := x
    rw [seq_some e] at h
    rw [seq_some (hp _ _ _ m e)]
    exact hf a _ _ _ m h
theorem Ext.ret {α : Type} (a : α) : Ext (retP a) := by
  intro zs b r m h
  simp [retP] at h
  obtain ⟨rfl, rfl⟩ := h
  rfl
theorem Ext.no {α : Type} : Ext (noneP (α := α)) := by intro zs b r m h; simp [noneP] at h

/-- A number. -/
def numP : Pr Int := fun zs => if (Pl.getI zs).2.2 = 0 then some ((Pl.getI zs).1, zs.drop (Pl.getI zs).2.1.toNat) else none
def byteP : Pr Int := fun zs => match zs with
  | [] => none
  | c :: r => some (c, r)
def bytesP (n : Int) : Pr (List Int) := fun zs => if (zs.length : Int) < n then none else some (zs.take n.toNat, zs.drop n.toNat)
def boolP : Pr Bool := seqP byteP fun c => if 1 < c then noneP else retP (decide (c = 1))
def stampP : Pr (Int × Int) := seqP numP fun v => if v < 9223372036854775808 then retP (v / 256, v % 256) else noneP
def countP (most : Int) : Pr Int := seqP numP fun v => if most < v then noneP else retP v
def textP : Pr (List Int) := seqP numP fun n => bytesP n
def writeP : Pr Wrt := seqP (bytesP 16) fun k => seqP boolP fun g => seqP textP fun v => retP ⟨k, v, g⟩
def manyP {α : Type} (p : Pr α) : Nat → Pr (List α)
  | 0 => retP []
  | n + 1 => seqP p fun a => seqP (manyP p n) fun l => retP (a :: l)
/-- A record. -/
structure Rcd where
  kd : Int
  id : Int
  s : Int
  m : Int
  t : Int
  n : Int
  l : List Wrt
  y : Bool
  ps : List Int
def upP : Int → List Int → Bool
  | _, [] => true
  | p, x :: r => decide (p < x ∧ 0 ≤ x ∧ x ≤ 7) && upP x r
def partsB (l : List Int) : Bool := upP (-1) l && decide (0 < l.length)
def plainR (r : Rcd) : Bool := decide (r.s = 0 ∧ r.m = 0) && decide (r.l.length = 0)
def bareR (r : Rcd) : Bool := plainR r && !r.y && decide (r.ps.length = 0)
def entR (r : Rcd) : Ent := ⟨r.id, r.s, r.m, r.t, r.n, r.l⟩
/-- May a record be? -/
def goodR (r : Rcd) : Bool :=
  if r.kd = 1 then goodE (entR r) && !r.y && decide (r.ps.length = 0)
  else if r.kd = 2 then decide (1 ≤ r.id) && bareR r && decide (okS r.t)
  else if r.kd = 3 then decide (1 ≤ r.id) && bareR r && decide (r.t = 0 ∧ r.n = 0)
  else if r.kd = 4 then decide (1 ≤ r.id) && plainR r && partsB r.ps && decide (okS r.t) && (r.y || decide (r.t = 0 ∧ r.n = 0))
  else if r.kd = 5 then decide (r.id = 0) && bareR r && decide (okS r.t) && decide (r.n = 0)
  else false
/-! ### Writing -/
/-! ### More behind -/
/-! ### What is written is read back -/
/-- What numbers and bytes a record may hold at all. -/
structure RcdOk (r : Rcd) : Prop where
  id0 : -9223372036854775808 ≤ r.id
  id1 : r.id ≤ 9223372036854775807
  m0 : 0 ≤ r.m
  m1 : r.m ≤ 255
  n0 : 0 ≤ r.n
  n1 : r.n ≤ 255
  keys : ∀ W ∈ r.l, Ky W.k
  vals : ∀ W ∈ r.l, ∀ z ∈ W.v, 0 ≤ z ∧ z ≤ 255
theorem upP_in : ∀ {l : List Int} {p : Int}, upP p l = true → ∀ x ∈ l, p < x ∧ 0 ≤ x ∧ x ≤ 7
  | [], p, h, x, hx => by simp at hx
  | a :: r, p, h, x, hx => by
    simp only [upP, Bool.and_eq_true, decide_eq_true_eq] at h
    rcases List.mem_cons.1 hx with rfl | hx
    · exact h.1
    · have := upP_in h.2 x hx
      omega
theorem upP_few : ∀ {l : List Int} {p : Int}, upP p l = true → -1 ≤ p → p ≤ 7 → (l.length : Int) ≤ 7 - p
  | [], p, h, h0, h1 => by simp; omega
  | a :: r, p, h, h0, h1 => by
    simp only [upP, Bool.and_eq_true, decide_eq_true_eq] at h
    have := upP_few h.2 (by omega) (by omega)
    simp only [List.length_cons]
    omega
theorem list_none {α : Type} {l : List α} (h : l.length = 0) : l = [] := List.length_eq_zero_iff.1 h
end Go.Proofs.Ytcppihpehipelaa

