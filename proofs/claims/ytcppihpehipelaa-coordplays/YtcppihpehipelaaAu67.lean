/-
  Versions of one key, rising by their stamps: what puts and trims make of them, what is seen at a time.
  What follows for chains: puts in any order, what a trim leaves to be seen, how many are behind a time.
  All versions of all keys as one list, by keys, then stamps, held against one list a key: what is there of a key, what a put and a trim leave of each key. No program is named here.
-/
import Derived.Test.YtcppihpehipelaaAu52
namespace Go.Proofs.Ytcppihpehipelaa
set_option linter.unusedVariables false

abbrev ltV (A B : Ver) : Prop := ltS A.t A.n B.t B.n
theorem ltS_trans {a b c d e f : Int} (h1 : ltS a b c d) (h2 : ltS c d e f) : ltS a b e f := by unfold ltS at *; omega
theorem cmp_neg {a b c d : Int} : cmpS a b c d < 0 ↔ ltS a b c d := by
  rcases cmp_ways a b c d with ⟨h1, h2, _⟩ | ⟨h1, h1', h2, _⟩ | ⟨h1, h2, _⟩ <;> unfold ltS at * <;> omega
/-- All of no key. -/
def One (L : List Ver) : Prop := ∀ V ∈ L, V.k = zeroK
/-- Rising. -/
def Ups (L : List Ver) : Prop := L.Pairwise ltV
theorem one_from {L : List Ver} (h : One L) : kFrom L zeroK = 0 := by
  refine kFrom_is (Nat.zero_le _) (fun j V hj => by omega) ?_
  cases L with
  | nil => exact .inl rfl
  | cons V r => exact .inr ⟨V, rfl, by rw [h V (by simp), lexC_self]; omega⟩
theorem one_many {L : List Ver} (h : One L) : kMany L zeroK = L.length := by
  refine kMany_is (by rw [one_from h]; omega) (fun j V hj hV => h V (List.mem_of_getElem? hV)) (.inl (by rw [one_from h]; omega))
theorem one_chain {L : List Ver} (h : One L) : chainV L zeroK = L := by
  unfold chainV
  rw [one_from h, one_many h]
  simp
/-- Where a version goes. -/
def rk (L : List Ver) (V : Ver) : Nat := (L.takeWhile (fun X => decide (cmpS X.t X.n V.t V.n < 0))).length
theorem rk_le (L : List Ver) (V : Ver) : rk L V ≤ L.length := List.Sublist.length_le (List.takeWhile_sublist _)
theorem one_putR {L : List Ver} {V : Ver} (h : One L) (hV : V.k = zeroK) : putR L V = rk L V := by
  unfold putR rk
  rw [hV, one_chain h]
theorem one_clash {L : List Ver} {V : Ver} (h : One L) (hV : V.k = zeroK) : clashV L V = match L[rk L V]? with
  | none => false
  | some X => decide (X.t = V.t ∧ X.n = V.n) := by
  unfold clashV
  rw [one_putR h hV, hV, one_chain h]
  rfl
theorem rk_lt {L : List Ver} {V : Ver} {i : Nat} {X : Ver} (hi : i < rk L V) (hX : L[i]? = some X) : ltV X V := by
  have h : ∀ (M : List Ver) (j : Nat), j < (M.takeWhile (fun X => decide (cmpS X.t X.n V.t V.n < 0))).length → ∀ Y, M[j]? = some Y → ltV Y V := by
    intro M
    induction M with
    | nil => intro j hj; simp at hj
    | cons Z r ih =>
      intro j hj Y hY
      by_cases hz : decide (cmpS Z.t Z.n V.t V.n < 0) = true
      · cases j with
        | zero => simp at hY; subst hY; exact cmp_neg.1 (of_decide_eq_true hz)
        | succ j =>
          rw [List.takeWhile_cons, if_pos hz, List.length_cons] at hj
          exact ih j (by omega) Y (by simpa using hY)
      · rw [List.takeWhile_cons, if_neg hz] at hj
        simp at hj
  exact h L i hi X hX
theorem rk_stop : ∀ (L : List Ver) (V X : Ver), L[rk L V]? = some X → ¬ ltV X V := by
  intro L V
  unfold rk
  induction L with
  | nil => intro X h; simp at h
  | cons Z r ih =>
    intro X h
    by_cases hz : decide (cmpS Z.t Z.n V.t V.n < 0) = true
    · rw [List.takeWhile_cons, if_pos hz, List.length_cons] at h
      exact ih X (by simpa using h)
    · rw [List.takeWhile_cons, if_neg hz] at h
      simp at h
      subst h
      exact fun h => hz (decide_eq_true (cmp_neg.2 h))
theorem Ups.at {L : List Ver} (h : Ups L) {i j : Nat} {X Y : Ver} (hij : i < j) (hX : L[i]? = some X) (hY : L[j]? = some Y) : ltV X Y := by
  obtain ⟨h1, rfl⟩ := List.getElem?_eq_some_iff.1 hX
  obtain ⟨h2, rfl⟩ := List.getElem?_eq_some_iff.1 hY
  exact List.pairwise_iff_getElem.1 h i j h1 h2 hij
/-- Is there one at its stamp? -/
theorem clash_iff {L : List Ver} {V : Ver} (h : One L) (hu : Ups L) (hV : V.k = zeroK) : clashV L V = true ↔ ∃ X ∈ L, X.t = V.t ∧ X.n = V.n := by
  rw [one_clash h hV]
  constructor
  · intro hc
    cases hg : L[rk L V]? with
    | none => rw [hg] at hc; cases hc
    | some X => rw [hg] at hc; exact ⟨X, List.mem_of_getElem? hg, of_decide_eq_true hc⟩
  · rintro ⟨X, hX, he⟩
    obtain ⟨i, hi⟩ := List.getElem?_of_mem hX
    have h1 : ¬ i < rk L V := fun hlt => by have := rk_lt hlt hi; unfold ltS at this; omega
    have hr : rk L V < L.length := by have := (List.getElem?_eq_some_iff.1 hi).1; omega
    obtain ⟨Y, hY⟩ : ∃ Y, L[rk L V]? = some Y := ⟨_, List.getElem?_eq_getElem hr⟩
    rw [hY]
    refine decide_eq_true ?_
    by_cases e : i = rk L V
    · rw [e, hY] at hi; cases hi; exact he
    · have h2 := hu.at (show rk L V < i by omega) hY hi
      have h3 := rk_stop L V Y hY
      unfold ltS at h2 h3
      omega
theorem ups_ins {L : List Ver} {V : Ver} (hu : Ups L) (hn : ¬ ∃ X ∈ L, X.t = V.t ∧ X.n = V.n) : Ups (L.take (rk L V) ++ V :: L.drop (rk L V)) := by
  have hd : ∀ Y ∈ L.drop (rk L V), ltV V Y := fun Y hY => by
    obtain ⟨j, hj⟩ := List.getElem?_of_mem hY
    rw [List.getElem?_drop] at hj
    have hr : rk L V < L.length := by have := (List.getElem?_eq_some_iff.1 hj).1; omega
    obtain ⟨Z, hZ⟩ : ∃ Z, L[rk L V]? = some Z := ⟨_, List.getElem?_eq_getElem hr⟩
    have h1 := rk_stop L V Z hZ
    have h2 : ¬ (Z.t = V.t ∧ Z.n = V.n) := fun e => hn ⟨Z, List.mem_of_getElem? hZ, e⟩
    have h3 : ltV V Z := by unfold ltS at *; omega
    by_cases e : j = 0
    · subst e; rw [Nat.add_zero, hZ] at hj; cases hj; exact h3
    · exact ltS_trans h3 (hu.at (show rk L V < rk L V + j by omega) hZ hj)
  have ht : ∀ X ∈ L.take (rk L V), ltV X V := fun X hX => by
    obtain ⟨i, hi⟩ := List.getElem?_of_mem hX
    have hlt : i < rk L V := by have := (List.getElem?_eq_some_iff.1 hi).1; rw [List.length_take] at this; omega
    rw [List.getElem?_take_of_lt hlt] at hi
    exact rk_lt hlt hi
  unfold Ups
  rw [List.pairwise_append]
  refine ⟨List.Pairwise.sublist (List.take_sublist _ _) hu, ?_, fun X hX Y hY => ?_⟩
  · rw [List.pairwise_cons]
    exact ⟨hd, List.Pairwise.sublist (List.drop_sublist _ _) hu⟩
  · rcases List.mem_cons.1 hY with rfl | hY
    · exact ht X hX
    · exact ltS_trans (ht X hX) (hd Y hY)
theorem mem_ins {L : List Ver} {V X : Ver} (r : Nat) : X ∈ L.take r ++ V :: L.drop r ↔ X = V ∨ X ∈ L := by
  have : X ∈ L ↔ X ∈ L.take r ∨ X ∈ L.drop r := by rw [← List.mem_append, List.take_append_drop]
  rw [List.mem_append, List.mem_cons, this]
  constructor
  · rintro (h | h | h) <;> simp [h]
  · rintro (h | h | h) <;> simp [h]
/-- What a chain holds: of no key, rising, each may be, few. -/
structure Chn (L : List Ver) : Prop where
  one : One L
  ups : Ups L
  may : ∀ V ∈ L, mayV V = true
  ins : ∀ V ∈ L, 0 ≤ V.n ∧ V.n ≤ 255 ∧ ∀ z ∈ V.v, 0 ≤ z ∧ z ≤ 255
  few : L.length ≤ 50
theorem Chn.nil : Chn [] := ⟨fun V h => by simp at h, List.Pairwise.nil, fun V h => by simp at h, fun V h => by simp at h, by simp⟩
theorem put_one {L : List Ver} {V : Ver} (h : One L) (hV : V.k = zeroK) : putV L V = if mayV V = false then (1, L) else if clashV L V = true then (5, L) else if 50 ≤ L.length then (6, L) else (0, L.take (rk L V) ++ V :: L.drop (rk L V)) := by
  unfold putV putAt
  rw [one_putR h hV, hV, one_from h, one_many h, Nat.zero_add]
theorem Chn.put {L : List Ver} {V : Ver} (h : Chn L) (hV : V.k = zeroK) (hb : 0 ≤ V.n ∧ V.n ≤ 255 ∧ ∀ z ∈ V.v, 0 ≤ z ∧ z ≤ 255) : Chn (putV L V).2 := by
  rw [put_one h.one hV]
  by_cases h1 : mayV V = false
  · rw [if_pos h1]; exact h
  · rw [if_neg h1]
    by_cases h2 : clashV L V = true
    · rw [if_pos h2]; exact h
    · rw [if_neg h2]
      by_cases h3 : 50 ≤ L.length
      · rw [if_pos h3]; exact h
      · rw [if_neg h3]
        refine ⟨fun X hX => ?_, ups_ins h.ups (fun hc => h2 ((clash_iff h.one h.ups hV).2 hc)), fun X hX => ?_, fun X hX => ?_, ?_⟩
        · rcases (mem_ins _).1 hX with rfl | hX
          · exact hV
          · exact h.one X hX
        · rcases (mem_ins _).1 hX with rfl | hX
          · simpa using h1
          · exact h.may X hX
        · rcases (mem_ins _).1 hX with rfl | hX
          · exact hb
          · exact h.ins X hX
        · have := rk_le L V
          simp
          omega
theorem Chn.rest {L : List Ver} (h : Chn L) (t n : Int) : Chn (restV L t n) := by
  have hs : (restV L t n).Sublist L := List.filter_sublist
  exact ⟨fun X hX => h.one X (hs.subset hX), List.Pairwise.sublist hs h.ups, fun X hX => h.may X (hs.subset hX), fun X hX => h.ins X (hs.subset hX), Nat.le_trans hs.length_le h.few⟩
end Go.Proofs.Ytcppihpehipelaa

namespace Go.Proofs.Ytcppihpehipelaa
set_option linter.unusedVariables false

/-! ### At -/
theorem at_one {L : List Ver} (h : One L) (t n : Int) : atV L zeroK t n = L.reverse.find? (fun X => decide (cmpS X.t X.n t n ≤ 0)) := by
  unfold atV
  rw [one_chain h]
/-! ### Trim -/
/-! ### Since -/
end Go.Proofs.Ytcppihpehipelaa

namespace Go.Proofs.Ytcppihpehipelaa
open Go.RowKit
set_option linter.unusedVariables false

theorem tw_in {α : Type} {p : α → Bool} : ∀ {L : List α} {j : Nat} {X : α}, j < (L.takeWhile p).length → L[j]? = some X → p X = true
  | [], j, X, h, _ => by simp at h
  | Y :: R, j, X, h, hX => by
    cases hp : p Y with
    | false => rw [List.takeWhile_cons_of_neg (by simp [hp])] at h; simp at h
    | true =>
      rw [List.takeWhile_cons_of_pos hp] at h
      cases j with
      | zero => simp at hX; rw [← hX]; exact hp
      | succ j => exact tw_in (L := R) (j := j) (by simpa using h) (by simpa using hX)
theorem tw_end {α : Type} {p : α → Bool} : ∀ {L : List α} {X : α}, L[(L.takeWhile p).length]? = some X → p X = false
  | [], X, h => by simp at h
  | Y :: R, X, h => by
    cases hp : p Y with
    | false => rw [List.takeWhile_cons_of_neg (by simp [hp])] at h; simp at h; rw [← h]; exact hp
    | true =>
      rw [List.takeWhile_cons_of_pos hp] at h
      exact tw_end (L := R) (by simpa using h)
/-- By keys, then stamps. -/
def ltK (A B : Ver) : Prop := lexC A.k B.k = -1 ∨ (A.k = B.k ∧ ltV A B)
def OrdK (L : List Ver) : Prop := L.Pairwise ltK
theorem OrdK.at {L : List Ver} (h : OrdK L) {i j : Nat} {X Y : Ver} (hij : i < j) (hX : L[i]? = some X) (hY : L[j]? = some Y) : ltK X Y := by
  obtain ⟨hi, rfl⟩ := List.getElem?_eq_some_iff.1 hX
  obtain ⟨hj, rfl⟩ := List.getElem?_eq_some_iff.1 hY
  exact List.pairwise_iff_getElem.1 h i j hi hj hij
theorem lex_neg {a b : List Int} : lexC a b < 0 ↔ lexC a b = -1 := by
  rcases lexC_ways a b with h | h | h <;> omega
/-- Where each key stands. -/
theorem key_places {L : List Ver} (h : OrdK L) (k : List Int) (j : Nat) (X : Ver) (hX : L[j]? = some X) : (j < kFrom L k → lexC X.k k = -1) ∧ (kFrom L k ≤ j → j < kFrom L k + kMany L k → X.k = k) ∧ (kFrom L k + kMany L k ≤ j → lexC k X.k = -1) := by
  have hjl := (List.getElem?_eq_some_iff.1 hX).1
  refine ⟨fun hj => ?_, fun h1 h2 => ?_, fun hj => ?_⟩
  · exact lex_neg.1 (of_decide_eq_true (tw_in (p := fun V : Ver => decide (lexC V.k k < 0)) hj hX))
  · have e : (L.drop (kFrom L k))[j - kFrom L k]? = some X := by rw [List.getElem?_drop, Nat.add_sub_cancel' h1]; exact hX
    exact of_decide_eq_true (tw_in (p := fun V : Ver => decide (V.k = k)) (show j - kFrom L k < kMany L k by omega) e)
  · have hlt : kFrom L k + kMany L k < L.length := Nat.lt_of_le_of_lt hj hjl
    obtain ⟨Y, hY⟩ : ∃ Y, L[kFrom L k + kMany L k]? = some Y := ⟨_, List.getElem?_eq_getElem hlt⟩
    have hYk : Y.k ≠ k := by
      have e : (L.drop (kFrom L k))[kMany L k]? = some Y := by rw [List.getElem?_drop]; exact hY
      exact of_decide_eq_false (tw_end (p := fun V : Ver => decide (V.k = k)) e)
    have hYn : ¬ lexC Y.k k < 0 := by
      obtain ⟨Z, hZ⟩ : ∃ Z, L[kFrom L k]? = some Z := ⟨_, List.getElem?_eq_getElem (by omega)⟩
      have hZn : ¬ lexC Z.k k < 0 := of_decide_eq_false (tw_end (p := fun V : Ver => decide (lexC V.k k < 0)) hZ)
      by_cases hm : kMany L k = 0
      · rw [hm, Nat.add_zero, hZ] at hY
        injection hY with hY
        rw [← hY]; exact hZn
      · intro hneg
        rcases h.at (by omega) hZ hY with e | ⟨e, _⟩
        · exact hZn (lex_neg.2 (lexC_trans e (lex_neg.1 hneg)))
        · rw [e] at hZn; exact hZn hneg
    have hYg : lexC k Y.k = -1 := by
      rw [lexC_swap Y.k k]
      rcases lexC_ways Y.k k with e | e | e
      · exact absurd (lex_neg.2 e) hYn
      · exact absurd (lexC_eq e) hYk
      · omega
    by_cases e : j = kFrom L k + kMany L k
    · rw [e, hY] at hX
      injection hX with hX
      rw [← hX]; exact hYg
    · rcases h.at (by omega) hY hX with e2 | ⟨e2, _⟩
      · exact lexC_trans hYg e2
      · rw [← e2]; exact hYg
theorem filter_mid {p : Ver → Bool} {L : List Ver} {a m : Nat} (hm : a + m ≤ L.length) (h1 : ∀ j X, j < a → L[j]? = some X → p X = false) (h2 : ∀ j X, a ≤ j → j < a + m → L[j]? = some X → p X = true) (h3 : ∀ j X, a + m ≤ j → L[j]? = some X → p X = false) : L.filter p = (L.drop a).take m := by
  have e1 : (L.take a).filter p = [] := by
    rw [List.filter_eq_nil_iff]
    intro X hX
    obtain ⟨j, hj, e⟩ := List.getElem_of_mem hX
    rw [List.length_take] at hj
    rw [h1 j X (by omega) (by rw [List.getElem_take] at e; rw [List.getElem?_eq_getElem (by omega), e])]
    exact Bool.false_ne_true
  have e2 : ((L.drop a).take m).filter p = (L.drop a).take m := by
    rw [List.filter_eq_self]
    intro X hX
    obtain ⟨j, hj, e⟩ := List.getElem_of_mem hX
    rw [List.length_take, List.length_drop] at hj
    exact h2 (a + j) X (by omega) (by omega) (by rw [List.getElem_take, List.getElem_drop] at e; rw [List.getElem?_eq_getElem (by omega), e])
  have e3 : ((L.drop a).drop m).filter p = [] := by
    rw [List.filter_eq_nil_iff]
    intro X hX
    obtain ⟨j, hj, e⟩ := List.getElem_of_mem hX
    rw [List.length_drop, List.length_drop] at hj
    rw [h3 (a + m + j) X (by omega) (by rw [List.getElem_drop, List.getElem_drop] at e; rw [List.getElem?_eq_getElem (by omega)]; simp only [Nat.add_assoc] at e ⊢; rw [e])]
    exact Bool.false_ne_true
  have e4 : L.filter p = (L.take a ++ ((L.drop a).take m ++ (L.drop a).drop m)).filter p := by rw [List.take_append_drop, List.take_append_drop]
  rw [e4, List.filter_append, List.filter_append, e1, e2, e3, List.nil_append, List.append_nil]
theorem chain_filter {L : List Ver} (h : OrdK L) (k : List Int) : chainV L k = L.filter (fun V => decide (V.k = k)) := by
  unfold chainV
  refine (filter_mid (kMany_le L k) (fun j X hj hX => decide_eq_false ?_) (fun j X h1 h2 hX => decide_eq_true ((key_places h k j X hX).2.1 h1 h2)) (fun j X hj hX => decide_eq_false ?_)).symm
  · intro e
    have := (key_places h k j X hX).1 hj
    rw [e, lexC_self] at this
    omega
  · intro e
    have := (key_places h k j X hX).2.2 hj
    rw [e, lexC_self] at this
    omega
/-- A version of no key. -/
def bare (V : Ver) : Ver := { V with k := zeroK }
/-- A key's versions, as a chain of its own. -/
def oneV (L : List Ver) (k : List Int) : List Ver := (chainV L k).map bare
theorem one_bare (l : List Ver) : One (l.map bare) := fun V hV => by
  obtain ⟨X, _, e⟩ := List.mem_map.1 hV
  rw [← e]
  rfl
theorem ups_chain {L : List Ver} (h : OrdK L) (k : List Int) : Ups (oneV L k) := by
  unfold oneV Ups
  rw [List.pairwise_map, chain_filter h k]
  refine List.Pairwise.imp_of_mem ?_ (List.Pairwise.filter _ h)
  intro A B hA hB hAB
  have eA : A.k = k := of_decide_eq_true (List.mem_filter.1 hA).2
  have eB : B.k = k := of_decide_eq_true (List.mem_filter.1 hB).2
  rcases hAB with e | ⟨_, e⟩
  · rw [eA, eB, lexC_self] at e
    omega
  · exact e
theorem bare_may (V : Ver) : mayV (bare V) = mayV V := rfl
theorem one_len (L : List Ver) (k : List Int) : (oneV L k).length = kMany L k := by unfold oneV; rw [List.length_map, chain_len]
theorem one_rk (L : List Ver) (V : Ver) : rk (oneV L V.k) (bare V) = putR L V := by
  unfold rk putR oneV
  rw [List.takeWhile_map, List.length_map]
  rfl
theorem one_clash2 (L : List Ver) (V : Ver) : clashV (oneV L V.k) (bare V) = clashV L V := by
  rw [one_clash (show One (oneV L V.k) from one_bare _) rfl, one_rk]
  unfold clashV oneV
  rw [List.getElem?_map]
  cases (chainV L V.k)[putR L V]? <;> rfl
theorem putAt_le (L : List Ver) (V : Ver) : putR L V ≤ kMany L V.k ∧ putAt L V ≤ L.length := by
  have h1 : putR L V ≤ (chainV L V.k).length := List.Sublist.length_le (List.takeWhile_sublist _)
  rw [chain_len] at h1
  have h2 := kMany_le L V.k
  exact ⟨h1, by unfold putAt; omega⟩
/-- What stands ahead of the place of a put is below it, what stands behind it is above it, if none is alike. -/
theorem put_place {L : List Ver} (h : OrdK L) {V : Ver} (hc : clashV L V = false) (j : Nat) (X : Ver) (hX : L[j]? = some X) : (j < putAt L V → ltK X V) ∧ (putAt L V ≤ j → ltK V X) := by
  obtain ⟨hr, hl⟩ := putAt_le L V
  obtain ⟨p1, p2, p3⟩ := key_places h V.k j X hX
  have hjl := (List.getElem?_eq_some_iff.1 hX).1
  refine ⟨fun hj => ?_, fun hj => ?_⟩
  · by_cases h1 : j < kFrom L V.k
    · exact .inl (p1 h1)
    · have hk := p2 (by omega) (by unfold putAt at hj; omega)
      have e : (chainV L V.k)[j - kFrom L V.k]? = some X := by rw [chain_at L V.k _ (by unfold putAt at hj; omega), Nat.add_sub_cancel' (by omega)]; exact hX
      have := of_decide_eq_true (tw_in (p := fun X : Ver => decide (cmpS X.t X.n V.t V.n < 0)) (show j - kFrom L V.k < putR L V by unfold putAt at hj; omega) e)
      exact .inr ⟨hk, cmp_neg.1 this⟩
  · by_cases h1 : kFrom L V.k + kMany L V.k ≤ j
    · exact .inl (p3 h1)
    · have hk := p2 (by unfold putAt at hj; omega) (by omega)
      have hrm : putR L V < kMany L V.k := by unfold putAt at hj; omega
      obtain ⟨Y, hY⟩ : ∃ Y, L[putAt L V]? = some Y := ⟨_, List.getElem?_eq_getElem (by omega)⟩
      have eY : (chainV L V.k)[putR L V]? = some Y := by rw [chain_at L V.k _ hrm]; exact hY
      have n1 : ¬ cmpS Y.t Y.n V.t V.n < 0 := of_decide_eq_false (tw_end (p := fun X : Ver => decide (cmpS X.t X.n V.t V.n < 0)) eY)
      have n2 : ¬ (Y.t = V.t ∧ Y.n = V.n) := by
        unfold clashV at hc
        rw [eY] at hc
        exact of_decide_eq_false hc
      have hYV : ltS V.t V.n Y.t Y.n := by
        have n3 : ¬ ltS Y.t Y.n V.t V.n := fun e => n1 (cmp_neg.2 e)
        unfold ltS at *
        omega
      by_cases e : j = putAt L V
      · rw [e, hY] at hX
        injection hX with hX
        rw [← hX] at hk ⊢
        exact .inr ⟨hk.symm, hYV⟩
      · rcases h.at (by omega) hY hX with e2 | ⟨_, e2⟩
        · have hYk := (key_places h V.k _ Y hY).2.1 (by unfold putAt; omega) (by unfold putAt; omega)
          rw [hYk, hk, lexC_self] at e2
          omega
        · exact .inr ⟨hk.symm, ltS_trans hYV e2⟩
theorem ord_put {L : List Ver} (h : OrdK L) (V : Ver) : OrdK (putV L V).2 := by
  unfold putV
  by_cases h1 : mayV V = false
  · rw [if_pos h1]; exact h
  · rw [if_neg h1]
    cases hc : clashV L V with
    | true => rw [if_pos rfl]; exact h
    | false =>
      rw [if_neg (by simp)]
      by_cases h3 : 50 ≤ kMany L V.k
      · rw [if_pos h3]; exact h
      · rw [if_neg h3]
        have hl := (putAt_le L V).2
        have h0 : OrdK (L.take (putAt L V) ++ L.drop (putAt L V)) := by rw [List.take_append_drop]; exact h
        obtain ⟨q1, q2, q3⟩ := List.pairwise_append.1 h0
        refine List.pairwise_append.2 ⟨q1, List.pairwise_cons.2 ⟨fun B hB => ?_, q2⟩, fun A hA B hB => ?_⟩
        · obtain ⟨j, hj, e⟩ := List.getElem_of_mem hB
          rw [List.length_drop] at hj
          exact (put_place h hc (putAt L V + j) B (by rw [List.getElem_drop] at e; rw [List.getElem?_eq_getElem (by omega), e])).2 (by omega)
        · rcases List.mem_cons.1 hB with rfl | hB
          · obtain ⟨j, hj, e⟩ := List.getElem_of_mem hA
            rw [List.length_take] at hj
            exact (put_place h hc j A (by rw [List.getElem_take] at e; rw [List.getElem?_eq_getElem (by omega), e])).1 (by omega)
          · exact q3 A hA B hB
theorem rest_filter_all {L : List Ver} (p : Ver → Bool) (k : List Int) : (L.filter p).filter (fun V => decide (V.k = k)) = (L.filter (fun V => decide (V.k = k))).filter p := by
  rw [List.filter_filter, List.filter_filter]
  congr 1
  funext V
  exact Bool.and_comm _ _
/-- What a put leaves of each key. -/
theorem put_other {L : List Ver} (h : OrdK L) (V : Ver) (k : List Int) (hk : k ≠ V.k) : oneV (putV L V).2 k = oneV L k := by
  unfold oneV
  rw [chain_filter (ord_put h V), chain_filter h]
  congr 1
  unfold putV
  by_cases h1 : mayV V = false
  · rw [if_pos h1]
  · rw [if_neg h1]
    by_cases h2 : clashV L V = true
    · rw [if_pos h2]
    · rw [if_neg h2]
      by_cases h3 : 50 ≤ kMany L V.k
      · rw [if_pos h3]
      · rw [if_neg h3]
        have e : (L.take (putAt L V) ++ L.drop (putAt L V)).filter (fun X => decide (X.k = k)) = L.filter (fun X => decide (X.k = k)) := by rw [List.take_append_drop]
        rw [← e, List.filter_append, List.filter_append, List.filter_cons_of_neg (by simpa using Ne.symm hk)]
theorem flt_take {L : List Ver} (h : OrdK L) (k : List Int) (r : Nat) (hr : r ≤ kMany L k) : (L.take (kFrom L k + r)).filter (fun X => decide (X.k = k)) = (chainV L k).take r ∧ (L.drop (kFrom L k + r)).filter (fun X => decide (X.k = k)) = (chainV L k).drop r := by
  have hm := kMany_le L k
  have e1 : (L.take (kFrom L k + r)).filter (fun X => decide (X.k = k)) = ((L.take (kFrom L k + r)).drop (kFrom L k)).take r := by
    refine filter_mid (by rw [List.length_take]; omega) (fun j X hj hX => decide_eq_false ?_) (fun j X g1 g2 hX => decide_eq_true ?_) (fun j X hj hX => ?_)
    · rw [List.getElem?_take_of_lt (by omega)] at hX
      intro e
      have := (key_places h k j X hX).1 hj
      rw [e, lexC_self] at this
      omega
    · rw [List.getElem?_take_of_lt (by omega)] at hX
      exact (key_places h k j X hX).2.1 g1 (by omega)
    · rw [List.getElem?_eq_none (by rw [List.length_take]; omega)] at hX
      cases hX
  have e2 : ((L.take (kFrom L k + r)).drop (kFrom L k)).take r = (chainV L k).take r := by
    unfold chainV
    rw [List.drop_take, List.take_take, List.take_take]
    congr 1
    omega
  have e3 : L.filter (fun X => decide (X.k = k)) = (L.take (kFrom L k + r)).filter (fun X => decide (X.k = k)) ++ (L.drop (kFrom L k + r)).filter (fun X => decide (X.k = k)) := by rw [← List.filter_append, List.take_append_drop]
  rw [← chain_filter h k, e1, e2] at e3
  refine ⟨e1.trans e2, ?_⟩
  have e4 : (chainV L k).take r ++ (chainV L k).drop r = (chainV L k).take r ++ (L.drop (kFrom L k + r)).filter (fun X => decide (X.k = k)) := by rw [List.take_append_drop]; exact e3
  exact (List.append_cancel_left e4).symm
theorem put_own {L : List Ver} (h : OrdK L) (V : Ver) : oneV (putV L V).2 V.k = (putV (oneV L V.k) (bare V)).2 := by
  have hone : One (oneV L V.k) := one_bare _
  rw [put_one hone rfl, bare_may, one_clash2, one_len, one_rk]
  unfold oneV
  rw [chain_filter (ord_put h V)]
  unfold putV
  by_cases h1 : mayV V = false
  · rw [if_pos h1, if_pos h1, chain_filter h]
  · rw [if_neg h1, if_neg h1]
    by_cases h2 : clashV L V = true
    · rw [if_pos h2, if_pos h2, chain_filter h]
    · rw [if_neg h2, if_neg h2]
      by_cases h3 : 50 ≤ kMany L V.k
      · rw [if_pos h3, if_pos h3, chain_filter h]
      · rw [if_neg h3, if_neg h3]
        obtain ⟨f1, f2⟩ := flt_take h V.k (putR L V) (putAt_le L V).1
        rw [List.filter_append, List.filter_cons_of_pos (by simp)]
        unfold putAt
        rw [f1, f2, List.map_append, List.map_cons, List.map_take, List.map_drop]
theorem at_own (L : List Ver) (k : List Int) (t n : Int) : atV (oneV L k) zeroK t n = (atV L k t n).map bare := by
  rw [at_one (show One (oneV L k) from one_bare _)]
  unfold oneV atV
  rw [← List.map_reverse, List.find?_map]
  rfl
theorem ord_rest {L : List Ver} (h : OrdK L) (t n : Int) : OrdK (restV L t n) := List.Pairwise.filter _ h
theorem goes_own {L : List Ver} {k : List Int} {t n : Int} {X : Ver} (hX : X.k = k) : goesV (oneV L k) t n (bare X) = goesV L t n X := by
  unfold goesV
  rw [show (bare X).k = zeroK from rfl, at_own, hX]
  cases atV L k t n <;> rfl
theorem rest_own {L : List Ver} (h : OrdK L) (k : List Int) (t n : Int) : oneV (restV L t n) k = restV (oneV L k) t n := by
  unfold oneV
  rw [chain_filter (ord_rest h t n)]
  unfold restV
  rw [rest_filter_all, ← chain_filter h, List.filter_map]
  congr 1
  refine List.filter_congr (fun X hX => ?_)
  have hk : X.k = k := by
    rw [chain_filter h] at hX
    exact of_decide_eq_true (List.mem_filter.1 hX).2
  show (!goesV L t n X) = !goesV (oneV L k) t n (bare X)
  rw [goes_own hk]
end Go.Proofs.Ytcppihpehipelaa

