/-
  What is seen of a key behind a put: at times ahead of it nothing has turned; just at it, it is seen. No program is named here.
  Stretches of keys at a time, and what a trim leaves of them. No program is named here.
  What is prepared, as chapter 13 tells it: entries by their numbers; who holds a key, whom a reader waits for. No program is named here.
-/
import Derived.Test.YtcppihpehipelaaStoreFacts
namespace Go.Proofs.Ytcppihpehipelaa
open Go.RowKit
set_option linter.unusedVariables false

/-- A write: its key, its value, whether it is gone. -/
structure Wrt where
  k : List Int
  v : List Int
  g : Bool
end Go.Proofs.Ytcppihpehipelaa

namespace Go.Proofs.Ytcppihpehipelaa
open Go.RowKit
set_option linter.unusedVariables false

/-- What a store holds: in order; each version may be; no key has more than fifty. -/
structure StoK (L : List Ver) : Prop where
  ord : OrdK L
  may : ∀ V ∈ L, mayV V = true
  ins : ∀ V ∈ L, 0 ≤ V.n ∧ V.n ≤ 255 ∧ ∀ z ∈ V.v, 0 ≤ z ∧ z ≤ 255
  few : ∀ k, kMany L k ≤ 50
theorem StoK.nil : StoK [] := ⟨List.Pairwise.nil, fun V h => by simp at h, fun V h => by simp at h, fun k => by have := kMany_le [] k; simp at this; omega⟩
theorem chain_sub {L : List Ver} {k : List Int} {V : Ver} (h : V ∈ chainV L k) : V ∈ L := List.mem_of_mem_drop (List.mem_of_mem_take h)
theorem StoK.chn {L : List Ver} (h : StoK L) (k : List Int) : Chn (oneV L k) := by
  refine ⟨one_bare _, ups_chain h.ord k, fun V hV => ?_, fun V hV => ?_, by rw [one_len]; exact h.few k⟩
  · obtain ⟨X, hX, e⟩ := List.mem_map.1 hV
    rw [← e, bare_may]
    exact h.may X (chain_sub hX)
  · obtain ⟨X, hX, e⟩ := List.mem_map.1 hV
    rw [← e]
    exact h.ins X (chain_sub hX)
theorem mem_put {L : List Ver} {V X : Ver} (hX : X ∈ (putV L V).2) : X ∈ L ∨ (X = V ∧ mayV V = true) := by
  unfold putV at hX
  by_cases h1 : mayV V = false
  · rw [if_pos h1] at hX; exact .inl hX
  · rw [if_neg h1] at hX
    by_cases h2 : clashV L V = true
    · rw [if_pos h2] at hX; exact .inl hX
    · rw [if_neg h2] at hX
      by_cases h3 : 50 ≤ kMany L V.k
      · rw [if_pos h3] at hX; exact .inl hX
      · rw [if_neg h3] at hX
        rcases (mem_ins _).1 hX with e | e
        · exact .inr ⟨e, by simpa using h1⟩
        · exact .inl e
theorem StoK.put {L : List Ver} (h : StoK L) {V : Ver} (hb : 0 ≤ V.n ∧ V.n ≤ 255 ∧ ∀ z ∈ V.v, 0 ≤ z ∧ z ≤ 255) : StoK (putV L V).2 := by
  refine ⟨ord_put h.ord V, fun X hX => ?_, fun X hX => ?_, fun k => ?_⟩
  · rcases mem_put hX with e | ⟨rfl, e⟩
    · exact h.may X e
    · exact e
  · rcases mem_put hX with e | ⟨rfl, _⟩
    · exact h.ins X e
    · exact hb
  · by_cases hk : k = V.k
    · rw [hk, ← one_len, put_own h.ord]
      exact ((h.chn V.k).put (V := bare V) rfl hb).few
    · rw [← one_len, put_other h.ord V k hk, one_len]
      exact h.few k
theorem StoK.rest {L : List Ver} (h : StoK L) (t n : Int) : StoK (restV L t n) := by
  refine ⟨ord_rest h.ord t n, fun V hV => h.may V (List.mem_filter.1 hV).1, fun V hV => h.ins V (List.mem_filter.1 hV).1, fun k => ?_⟩
  rw [← one_len, rest_own h.ord]
  exact ((h.chn k).rest t n).few
/-- May writes be (but for their stamp): so many, each may be, no key twice. -/
def mayW (l : List Wrt) (least : Nat) : Bool := decide (least ≤ l.length ∧ l.length ≤ 16) && l.all (fun W => goodK W.k && decide (W.v.length ≤ 200) && (!W.g || decide (W.v = []))) && decide (l.Pairwise fun A B => A.k ≠ B.k)
end Go.Proofs.Ytcppihpehipelaa

namespace Go.Proofs.Ytcppihpehipelaa
set_option linter.unusedVariables false

/-- An entry: its number, its snapshot, its stamp, its writes. -/
structure Ent where
  id : Int
  s : Int
  m : Int
  t : Int
  n : Int
  l : List Wrt
def goodE (e : Ent) : Bool := decide (1 ≤ e.id) && decide (okS e.s) && decide (okS e.t) && decide (0 < cmpS e.t e.n e.s e.m) && mayW e.l 1
def hasK (e : Ent) (k : List Int) : Bool := e.l.any (fun W => decide (W.k = k))
def holdT (L : List Ent) (k : List Int) : Option Ent := L.find? (fun e => hasK e k)
def hasT (L : List Ent) (id : Int) : Option Ent := L.find? (fun e => decide (e.id = id))
def dropT (L : List Ent) (id : Int) : List Ent := L.filter (fun e => decide (e.id ≠ id))
def heldT (L : List Ent) (l : List Wrt) : Bool := l.any (fun W => (holdT L W.k).isSome)
def placeT (L : List Ent) (id : Int) : Nat := (L.takeWhile (fun e => decide (e.id < id))).length
def addT (L : List Ent) (e : Ent) : Int × List Ent :=
  if goodE e = false then (1, L) else if (hasT L e.id).isSome = true then (5, L) else if heldT L e.l = true then (9, L) else if 100 ≤ L.length then (6, L) else (0, L.take (placeT L e.id) ++ e :: L.drop (placeT L e.id))
/-- What a table is: by numbers, rising; each entry may be; no two hold one key. -/
structure TabK (L : List Ent) : Prop where
  up : L.Pairwise (fun a b => a.id < b.id)
  good : ∀ e ∈ L, goodE e = true
  apart : L.Pairwise (fun a b => ∀ k, ¬ (hasK a k = true ∧ hasK b k = true))
  few : L.length ≤ 100
theorem TabK.nil : TabK [] := ⟨.nil, fun e h => by simp at h, .nil, by simp⟩
theorem TabK.drop {L : List Ent} (h : TabK L) (id : Int) : TabK (dropT L id) :=
  ⟨h.up.filter _, fun e he => h.good e (List.mem_filter.1 he).1, h.apart.filter _, Nat.le_trans (List.length_filter_le _ _) h.few⟩
theorem place_lt {L : List Ent} {id : Int} {i : Nat} {e : Ent} (hi : i < placeT L id) (he : L[i]? = some e) : e.id < id := by
  unfold placeT at hi
  induction L generalizing i with
  | nil => simp at he
  | cons x r ih =>
    by_cases hx : x.id < id
    · rw [List.takeWhile_cons_of_pos (by simpa using hx)] at hi
      cases i with
      | zero => simp at he; rw [← he]; exact hx
      | succ j => exact ih (by simpa using hi) (by simpa using he)
    · rw [List.takeWhile_cons_of_neg (by simpa using hx)] at hi
      simp at hi
theorem place_ge {L : List Ent} (h : L.Pairwise (fun a b => a.id < b.id)) {id : Int} {i : Nat} {e : Ent} (hi : placeT L id ≤ i) (he : L[i]? = some e) : id ≤ e.id := by
  unfold placeT at hi
  induction L generalizing i with
  | nil => simp at he
  | cons x r ih =>
    obtain ⟨h1, h2⟩ := List.pairwise_cons.1 h
    by_cases hx : x.id < id
    · rw [List.takeWhile_cons_of_pos (by simpa using hx)] at hi
      cases i with
      | zero => simp at hi
      | succ j => exact ih h2 (by simpa using hi) (by simpa using he)
    · cases i with
      | zero => simp at he; rw [← he]; omega
      | succ j =>
        have := h1 e (List.mem_of_getElem? (by simpa using he))
        omega
theorem has_none {L : List Ent} {id : Int} (h : (hasT L id).isSome = false) : ∀ e ∈ L, e.id ≠ id := fun e he hid => by
  unfold hasT at h
  rw [Option.isSome_eq_false_iff, Option.isNone_iff_eq_none, List.find?_eq_none] at h
  have := h e he
  simp at this
  exact this hid
theorem held_none {L : List Ent} {l : List Wrt} (h : heldT L l = false) : ∀ e ∈ L, ∀ W ∈ l, hasK e W.k = false := fun e he W hW => by
  unfold heldT at h
  have h1 := List.any_eq_false.1 h W hW
  unfold holdT at h1
  simp only [Bool.not_eq_true, Option.isSome_eq_false_iff, Option.isNone_iff_eq_none, List.find?_eq_none] at h1
  simpa using h1 e he
theorem TabK.add {L : List Ent} (h : TabK L) (e : Ent) : TabK (addT L e).2 := by
  unfold addT
  by_cases h1 : goodE e = false
  · rw [if_pos h1]; exact h
  · rw [if_neg h1]
    by_cases h2 : (hasT L e.id).isSome = true
    · rw [if_pos h2]; exact h
    · rw [if_neg h2]
      by_cases h3 : heldT L e.l = true
      · rw [if_pos h3]; exact h
      · rw [if_neg h3]
        by_cases h4 : 100 ≤ L.length
        · rw [if_pos h4]; exact h
        · rw [if_neg h4]
          have hn := has_none (L := L) (id := e.id) (by simpa using h2)
          have hh := held_none (L := L) (l := e.l) (by simpa using h3)
          have hsub : ∀ x, x ∈ L.take (placeT L e.id) → x ∈ L := fun x hx => List.mem_of_mem_take hx
          have hsub2 : ∀ x, x ∈ L.drop (placeT L e.id) → x ∈ L := fun x hx => List.mem_of_mem_drop hx
          have hlt : ∀ x ∈ L.take (placeT L e.id), x.id < e.id := fun x hx => by
            obtain ⟨j, hj, rfl⟩ := List.mem_iff_getElem.1 hx
            rw [List.length_take] at hj
            rw [List.getElem_take]
            exact place_lt (L := L) (i := j) (by omega) (List.getElem?_eq_getElem (by omega))
          have hgt : ∀ x ∈ L.drop (placeT L e.id), e.id < x.id := fun x hx => by
            obtain ⟨j, hj, rfl⟩ := List.mem_iff_getElem.1 hx
            rw [List.length_drop] at hj
            have h8 := place_ge h.up (id := e.id) (i := placeT L e.id + j) (by omega) (List.getElem?_eq_getElem (by omega))
            rw [List.getElem_drop]
            have h9 := hn _ (List.getElem_mem (l := L) (n := placeT L e.id + j) (by omega))
            omega
          have hno : ∀ x ∈ L, ∀ k, ¬ (hasK x k = true ∧ hasK e k = true) := fun x hx k hk => by
            obtain ⟨W, hW, hWk⟩ := List.any_eq_true.1 hk.2
            have := hh x hx W hW
            rw [of_decide_eq_true hWk, hk.1] at this
            cases this
          have hup := h.up
          have hap := h.apart
          rw [← List.take_append_drop (placeT L e.id) L] at hup hap
          obtain ⟨u1, u2, u3⟩ := List.pairwise_append.1 hup
          obtain ⟨a1, a2, a3⟩ := List.pairwise_append.1 hap
          refine ⟨List.pairwise_append.2 ⟨u1, List.pairwise_cons.2 ⟨hgt, u2⟩, fun a ha b hb => ?_⟩, fun x hx => ?_, List.pairwise_append.2 ⟨a1, List.pairwise_cons.2 ⟨fun x hx k hk => hno x (hsub2 x hx) k ⟨hk.2, hk.1⟩, a2⟩, fun a ha b hb => ?_⟩, ?_⟩
          · rcases List.mem_cons.1 hb with rfl | hb
            · exact hlt a ha
            · exact u3 a ha b hb
          · rcases List.mem_append.1 hx with hx | hx
            · exact h.good x (hsub x hx)
            · rcases List.mem_cons.1 hx with rfl | hx
              · simpa using h1
              · exact h.good x (hsub2 x hx)
          · rcases List.mem_cons.1 hb with rfl | hb
            · exact hno a (hsub a ha)
            · exact a3 a ha b hb
          · simp only [List.length_append, List.length_take, List.length_cons, List.length_drop]
            omega
/-- Who holds a key that one of them has is that one. -/
theorem TabK.holder {L : List Ent} (h : TabK L) {e : Ent} (he : e ∈ L) {k : List Int} (hk : hasK e k = true) : holdT L k = some e := by
  unfold holdT
  cases hf : L.find? (fun e => hasK e k) with
  | none => exact absurd hk (by simpa using List.find?_eq_none.1 hf e he)
  | some x =>
    have hx := List.mem_of_find?_eq_some hf
    have hxk : hasK x k = true := List.find?_some (p := fun e => hasK e k) hf
    by_cases hxe : x = e
    · rw [hxe]
    · exfalso
      obtain ⟨i, hi, rfl⟩ := List.mem_iff_getElem.1 hx
      obtain ⟨j, hj, rfl⟩ := List.mem_iff_getElem.1 he
      rcases Nat.lt_trichotomy i j with hij | hij | hij
      · exact List.pairwise_iff_getElem.1 h.apart i j hi hj hij k ⟨hxk, hk⟩
      · subst hij; exact hxe rfl
      · exact List.pairwise_iff_getElem.1 h.apart j i hj hi hij k ⟨hk, hxk⟩
end Go.Proofs.Ytcppihpehipelaa

