/-
  Versions of one key, rising by their stamps: what puts and trims make of them, what is seen at a time.
  What follows for chains: puts in any order, what a trim leaves to be seen, how many are behind a time.
  All versions of all keys as one list, by keys, then stamps, held against one list a key: what is there of a key, what a put and a trim leave of each key. No program is named here.
  What is seen of a key behind a put: at times ahead of it nothing has turned; just at it, it is seen. No program is named here.
  Stretches of keys at a time, and what a trim leaves of them. No program is named here.
  Lists of bytes that lie somewhere, and lists of the call's own: what later layers' walks lean on. No function of the program is named here.
  Lists of lists of bytes, and arrays of integers, that came in: what the walk is told of them. No function of the program is named here.
-/
import Derived.Test.YtileidbdmpeciaaGreatAu103
import Derived.Test.YtileidbdmpeciaaGreatProg
import Derived.WalkKit
import Derived.WalkSpells
import Derived.WalkLawsBesides
import Derived.Laws.CopyOwn
import Derived.Laws.MakeOwn
import Derived.Laws.BytesArg
import Derived.OpenShut
import Derived.Laws.AppendOwnNone
import Derived.ProofKit
import Derived.Deep.Matrix
import Derived.Below
import Derived.ChangeKeysEq
namespace Go.Proofs.YtileidbdmpeciaaGreat
set_option linter.unusedVariables false

abbrev ltV (A B : Ver) : Prop := ltS A.t A.n B.t B.n
theorem ltS_trans {a b c d e f : Int} (h1 : ltS a b c d) (h2 : ltS c d e f) : ltS a b e f := by unfold ltS at *; omega
theorem cmp_neg {a b c d : Int} : cmpS a b c d < 0 ↔ ltS a b c d := by
  rcases cmp_ways a b c d with ⟨h1, h2, _⟩ | ⟨h1, h1', h2, _⟩ | ⟨h1, h2, _⟩ <;> unfold ltS at * <;> omega
theorem cmp_pos {a b c d : Int} : 0 < cmpS a b c d ↔ ltS c d a b := by
  rcases cmp_ways a b c d with ⟨h1, h2, _⟩ | ⟨h1, h1', h2, _⟩ | ⟨h1, h2, _⟩ <;> unfold ltS at * <;> omega
theorem cmp_nil {a b c d : Int} : cmpS a b c d = 0 ↔ a = c ∧ b = d := by
  rcases cmp_ways a b c d with ⟨h1, h2, _⟩ | ⟨h1, h1', h2, _⟩ | ⟨h1, h2, _⟩ <;> (try unfold ltS at h1) <;> omega
theorem ltV_irr (Z : Ver) : ¬ ltV Z Z := fun hz => by
  have hz : ltS Z.t Z.n Z.t Z.n := hz
  unfold ltS at hz
  omega
/-- All of no key. -/
def One (L : List Ver) : Prop := ∀ V ∈ L, V.k = zeroK
/-- Rising. -/
def Ups (L : List Ver) : Prop := L.Pairwise ltV
theorem one_from {L : List Ver} (h : One L) : kFrom L zeroK = 0 := by
  refine kFrom_is (Nat.zero_le _) (fun j V hj => by omega) ?_
  cases L with
  | nil => exact .inl rfl
  | cons V r => exact .inr ⟨V, rfl, by rw [h V (by simp), lexC_self]; omega⟩
theorem one_many {L : List Ver} (h : One L) : kMany L zeroK = L.length := by
  refine kMany_is (by rw [one_from h]; omega) (fun j V hj hV => h V (List.mem_of_getElem? hV)) (.inl (by rw [one_from h]; omega))
theorem one_chain {L : List Ver} (h : One L) : chainV L zeroK = L := by
  unfold chainV
  rw [one_from h, one_many h]
  simp
/-- Where a version goes. -/
def rk (L : List Ver) (V : Ver) : Nat := (L.takeWhile (fun X => decide (cmpS X.t X.n V.t V.n < 0))).length
theorem rk_le (L : List Ver) (V : Ver) : rk L V ≤ L.length := List.Sublist.length_le (List.takeWhile_sublist _)
theorem one_putR {L : List Ver} {V : Ver} (h : One L) (hV : V.k = zeroK) : putR L V = rk L V := by
  unfold putR rk
  rw [hV, one_chain h]
theorem one_clash {L : List Ver} {V : Ver} (h : One L) (hV : V.k = zeroK) : clashV L V = match L[rk L V]? with
  | none => false
  | some X => decide (X.t = V.t ∧ X.n = V.n) := by
  unfold clashV
  rw [one_putR h hV, hV, one_chain h]
  rfl
theorem rk_lt {L : List Ver} {V : Ver} {i : Nat} {X : Ver} (hi : i < rk L V) (hX : L[i]? = some X) : ltV X V := by
  have h : ∀ (M : List Ver) (j : Nat), j < (M.takeWhile (fun X => decide (cmpS X.t X.n V.t V.n < 0))).length → ∀ Y, M[j]? = some Y → ltV Y V := by
    intro M
    induction M with
    | nil => intro j hj; simp at hj
    | cons Z r ih =>
      intro j hj Y hY
      by_cases hz : decide (cmpS Z.t Z.n V.t V.n < 0) = true
      · cases j with
        | zero => simp at hY; subst hY; exact cmp_neg.1 (of_decide_eq_true hz)
        | succ j =>
          rw [List.takeWhile_cons, if_pos hz, List.length_cons] at hj
          exact ih j (by omega) Y (by simpa using hY)
      · rw [List.takeWhile_cons, if_neg hz] at hj
        simp at hj
  exact h L i hi X hX
theorem rk_stop : ∀ (L : List Ver) (V X : Ver), L[rk L V]? = some X → ¬ ltV X V := by
  intro L V
  unfold rk
  induction L with
  | nil => intro X h; simp at h
  | cons Z r ih =>
    intro X h
    by_cases hz : decide (cmpS Z.t Z.n V.t V.n < 0) = true
    · rw [List.takeWhile_cons, if_pos hz, List.length_cons] at h
      exact ih X (by simpa using h)
    · rw [List.takeWhile_cons, if_neg hz] at h
      simp at h
      subst h
      exact fun h => hz (decide_eq_true (cmp_neg.2 h))
theorem Ups.at {L : List Ver} (h : Ups L) {i j : Nat} {X Y : Ver} (hij : i < j) (hX : L[i]? = some X) (hY : L[j]? = some Y) : ltV X Y := by
  obtain ⟨h1, rfl⟩ := List.getElem?_eq_some_iff.1 hX
  obtain ⟨h2, rfl⟩ := List.getElem?_eq_some_iff.1 hY
  exact List.pairwise_iff_getElem.1 h i j h1 h2 hij
/-- Is there one at its stamp? -/
theorem clash_iff {L : List Ver} {V : Ver} (h : One L) (hu : Ups L) (hV : V.k = zeroK) : clashV L V = true ↔ ∃ X ∈ L, X.t = V.t ∧ X.n = V.n := by
  rw [one_clash h hV]
  constructor
  · intro hc
    cases hg : L[rk L V]? with
    | none => rw [hg] at hc; cases hc
    | some X => rw [hg] at hc; exact ⟨X, List.mem_of_getElem? hg, of_decide_eq_true hc⟩
  · rintro ⟨X, hX, he⟩
    obtain ⟨i, hi⟩ := List.getElem?_of_mem hX
    have h1 : ¬ i < rk L V := fun hlt => by have := rk_lt hlt hi; unfold ltS at this; omega
    have hr : rk L V < L.length := by have := (List.getElem?_eq_some_iff.1 hi).1; omega
    obtain ⟨Y, hY⟩ : ∃ Y, L[rk L V]? = some Y := ⟨_, List.getElem?_eq_getElem hr⟩
    rw [hY]
    refine decide_eq_true ?_
    by_cases e : i = rk L V
    · rw [e, hY] at hi; cases hi; exact he
    · have h2 := hu.at (show rk L V < i by omega) hY hi
      have h3 := rk_stop L V Y hY
      unfold ltS at h2 h3
      omega
theorem ups_ins {L : List Ver} {V : Ver} (hu : Ups L) (hn : ¬ ∃ X ∈ L, X.t = V.t ∧ X.n = V.n) : Ups (L.take (rk L V) ++ V :: L.drop (rk L V)) := by
  have hd : ∀ Y ∈ L.drop (rk L V), ltV V Y := fun Y hY => by
    obtain ⟨j, hj⟩ := List.getElem?_of_mem hY
    rw [List.getElem?_drop] at hj
    have hr : rk L V < L.length := by have := (List.getElem?_eq_some_iff.1 hj).1; omega
    obtain ⟨Z, hZ⟩ : ∃ Z, L[rk L V]? = some Z := ⟨_, List.getElem?_eq_getElem hr⟩
    have h1 := rk_stop L V Z hZ
    have h2 : ¬ (Z.t = V.t ∧ Z.n = V.n) := fun e => hn ⟨Z, List.mem_of_getElem? hZ, e⟩
    have h3 : ltV V Z := by unfold ltS at *; omega
    by_cases e : j = 0
    · subst e; rw [Nat.add_zero, hZ] at hj; cases hj; exact h3
    · exact ltS_trans h3 (hu.at (show rk L V < rk L V + j by omega) hZ hj)
  have ht : ∀ X ∈ L.take (rk L V), ltV X V := fun X hX => by
    obtain ⟨i, hi⟩ := List.getElem?_of_mem hX
    have hlt : i < rk L V := by have := (List.getElem?_eq_some_iff.1 hi).1; rw [List.length_take] at this; omega
    rw [List.getElem?_take_of_lt hlt] at hi
    exact rk_lt hlt hi
  unfold Ups
  rw [List.pairwise_append]
  refine ⟨List.Pairwise.sublist (List.take_sublist _ _) hu, ?_, fun X hX Y hY => ?_⟩
  · rw [List.pairwise_cons]
    exact ⟨hd, List.Pairwise.sublist (List.drop_sublist _ _) hu⟩
  · rcases List.mem_cons.1 hY with rfl | hY
    · exact ht X hX
    · exact ltS_trans (ht X hX) (hd Y hY)
theorem mem_ins {L : List Ver} {V X : Ver} (r : Nat) : X ∈ L.take r ++ V :: L.drop r ↔ X = V ∨ X ∈ L := by
  have : X ∈ L ↔ X ∈ L.take r ∨ X ∈ L.drop r := by rw [← List.mem_append, List.take_append_drop]
  rw [List.mem_append, List.mem_cons, this]
  constructor
  · rintro (h | h | h) <;> simp [h]
  · rintro (h | h | h) <;> simp [h]
/-- What a chain holds: of no key, rising, each may be, few. -/
structure Chn (L : List Ver) : Prop where
  one : One L
  ups : Ups L
  may : ∀ V ∈ L, mayV V = true
  ins : ∀ V ∈ L, 0 ≤ V.n ∧ V.n ≤ 255 ∧ ∀ z ∈ V.v, 0 ≤ z ∧ z ≤ 255
  few : L.length ≤ 50
theorem Chn.nil : Chn [] := ⟨fun V h => by simp at h, List.Pairwise.nil, fun V h => by simp at h, fun V h => by simp at h, by simp⟩
theorem put_one {L : List Ver} {V : Ver} (h : One L) (hV : V.k = zeroK) : putV L V = if mayV V = false then (1, L) else if clashV L V = true then (5, L) else if 50 ≤ L.length then (6, L) else (0, L.take (rk L V) ++ V :: L.drop (rk L V)) := by
  unfold putV putAt
  rw [one_putR h hV, hV, one_from h, one_many h, Nat.zero_add]
theorem Chn.put {L : List Ver} {V : Ver} (h : Chn L) (hV : V.k = zeroK) (hb : 0 ≤ V.n ∧ V.n ≤ 255 ∧ ∀ z ∈ V.v, 0 ≤ z ∧ z ≤ 255) : Chn (putV L V).2 := by
  rw [put_one h.one hV]
  by_cases h1 : mayV V = false
  · rw [if_pos h1]; exact h
  · rw [if_neg h1]
    by_cases h2 : clashV L V = true
    · rw [if_pos h2]; exact h
    · rw [if_neg h2]
      by_cases h3 : 50 ≤ L.length
      · rw [if_pos h3]; exact h
      · rw [if_neg h3]
        refine ⟨fun X hX => ?_, ups_ins h.ups (fun hc => h2 ((clash_iff h.one h.ups hV).2 hc)), fun X hX => ?_, fun X hX => ?_, ?_⟩
        · rcases (mem_ins _).1 hX with rfl | hX
          · exact hV
          · exact h.one X hX
        · rcases (mem_ins _).1 hX with rfl | hX
          · simpa using h1
          · exact h.may X hX
        · rcases (mem_ins _).1 hX with rfl | hX
          · exact hb
          · exact h.ins X hX
        · have := rk_le L V
          simp
          omega
theorem Chn.rest {L : List Ver} (h : Chn L) (t n : Int) : Chn (restV L t n) := by
  have hs : (restV L t n).Sublist L := List.filter_sublist
  exact ⟨fun X hX => h.one X (hs.subset hX), List.Pairwise.sublist hs h.ups, fun X hX => h.may X (hs.subset hX), fun X hX => h.ins X (hs.subset hX), Nat.le_trans hs.length_le h.few⟩
end Go.Proofs.YtileidbdmpeciaaGreat

namespace Go.Proofs.YtileidbdmpeciaaGreat
set_option linter.unusedVariables false

/-! ### At -/
theorem at_one {L : List Ver} (h : One L) (t n : Int) : atV L zeroK t n = L.reverse.find? (fun X => decide (cmpS X.t X.n t n ≤ 0)) := by
  unfold atV
  rw [one_chain h]
theorem not_above {X : Ver} {t n : Int} : decide (cmpS X.t X.n t n ≤ 0) = true ↔ ¬ ltS t n X.t X.n := by
  rw [decide_eq_true_iff, ← cmp_pos]
  omega
theorem at_none_iff {L : List Ver} (h : One L) {t n : Int} : atV L zeroK t n = none ↔ ∀ Y ∈ L, ltS t n Y.t Y.n := by
  rw [at_one h, List.find?_eq_none]
  constructor
  · intro hh Y hY
    have := hh Y (List.mem_reverse.2 hY)
    rw [not_above] at this
    exact Classical.not_not.1 this
  · intro hh Y hY
    rw [not_above]
    exact fun hn => hn (hh Y (List.mem_reverse.1 hY))
theorem at_some_facts {L : List Ver} (h : One L) (hu : Ups L) {t n : Int} {X : Ver} (hx : atV L zeroK t n = some X) : X ∈ L ∧ ¬ ltS t n X.t X.n ∧ ∀ Y ∈ L, ¬ ltS t n Y.t Y.n → Y = X ∨ ltV Y X := by
  rw [at_one h] at hx
  obtain ⟨hp, ps, bs, hl, ha⟩ := List.find?_eq_some_iff_append.1 hx
  have hL : L = bs.reverse ++ X :: ps.reverse := by
    have := congrArg List.reverse hl
    rw [List.reverse_reverse] at this
    rw [this]
    simp
  refine ⟨by rw [hL]; simp, not_above.1 hp, fun Y hY hn => ?_⟩
  rw [hL] at hY hu
  unfold Ups at hu
  rw [List.pairwise_append] at hu
  rcases List.mem_append.1 hY with hY | hY
  · exact .inr (hu.2.2 Y hY X (by simp))
  · rcases List.mem_cons.1 hY with hY | hY
    · exact .inl hY
    · have := ha Y (List.mem_reverse.1 hY)
      rw [not_above.2 hn] at this
      simp at this
theorem at_is {L : List Ver} (h : One L) (hu : Ups L) {t n : Int} {X : Ver} (hm : X ∈ L) (hn : ¬ ltS t n X.t X.n) (hmax : ∀ Y ∈ L, ¬ ltS t n Y.t Y.n → Y = X ∨ ltV Y X) : atV L zeroK t n = some X := by
  cases hx : atV L zeroK t n with
  | none => exact absurd ((at_none_iff h).1 hx X hm) hn
  | some Z =>
    obtain ⟨z1, z2, z3⟩ := at_some_facts h hu hx
    rcases z3 X hm hn with e | e
    · rw [e]
    · rcases hmax Z z1 z2 with e' | e'
      · rw [e']
      · exact absurd (ltS_trans e e') (ltV_irr X)
theorem ups_same {L : List Ver} (hu : Ups L) {X Y : Ver} (hX : X ∈ L) (hY : Y ∈ L) (he : X.t = Y.t ∧ X.n = Y.n) : X = Y := by
  obtain ⟨i, hi⟩ := List.getElem?_of_mem hX
  obtain ⟨j, hj⟩ := List.getElem?_of_mem hY
  rcases Nat.lt_trichotomy i j with h | h | h
  · have : ltS X.t X.n Y.t Y.n := hu.at h hi hj
    unfold ltS at this
    omega
  · subst h; rw [hi] at hj; injection hj
  · have : ltS Y.t Y.n X.t X.n := hu.at h hj hi
    unfold ltS at this
    omega
/-! ### Trim -/
theorem rest_none {L : List Ver} (h : One L) {t n : Int} (hx : atV L zeroK t n = none) : restV L t n = L := by
  unfold restV
  refine List.filter_eq_self.2 fun V hV => ?_
  unfold goesV
  rw [h V hV, hx]
  rfl
/-! ### Since -/
end Go.Proofs.YtileidbdmpeciaaGreat

namespace Go.Proofs.YtileidbdmpeciaaGreat
open Go.RowKit
set_option linter.unusedVariables false

theorem tw_in {α : Type} {p : α → Bool} : ∀ {L : List α} {j : Nat} {X : α}, j < (L.takeWhile p).length → L[j]? = some X → p X = true
  | [], j, X, h, _ => by simp at h
  | Y :: R, j, X, h, hX => by
    cases hp : p Y with
    | false => rw [List.takeWhile_cons_of_neg (by simp [hp])] at h; simp at h
    | true =>
      rw [List.takeWhile_cons_of_pos hp] at h
      cases j with
      | zero => simp at hX; rw [← hX]; exact hp
      | succ j => exact tw_in (L := R) (j := j) (by simpa using h) (by simpa using hX)
theorem tw_end {α : Type} {p : α → Bool} : ∀ {L : List α} {X : α}, L[(L.takeWhile p).length]? = some X → p X = false
  | [], X, h => by simp at h
  | Y :: R, X, h => by
    cases hp : p Y with
    | false => rw [List.takeWhile_cons_of_neg (by simp [hp])] at h; simp at h; rw [← h]; exact hp
    | true =>
      rw [List.takeWhile_cons_of_pos hp] at h
      exact tw_end (L := R) (by simpa using h)
/-- By keys, then stamps. -/
def ltK (A B : Ver) : Prop := lexC A.k B.k = -1 ∨ (A.k = B.k ∧ ltV A B)
def OrdK (L : List Ver) : Prop := L.Pairwise ltK
theorem OrdK.at {L : List Ver} (h : OrdK L) {i j : Nat} {X Y : Ver} (hij : i < j) (hX : L[i]? = some X) (hY : L[j]? = some Y) : ltK X Y := by
  obtain ⟨hi, rfl⟩ := List.getElem?_eq_some_iff.1 hX
  obtain ⟨hj, rfl⟩ := List.getElem?_eq_some_iff.1 hY
  exact List.pairwise_iff_getElem.1 h i j hi hj hij
theorem lex_neg {a b : List Int} : lexC a b < 0 ↔ lexC a b = -1 := by
  rcases lexC_ways a b with h | h | h <;> omega
/-- Where each key stands. -/
theorem key_places {L : List Ver} (h : OrdK L) (k : List Int) (j : Nat) (X : Ver) (hX : L[j]? = some X) : (j < kFrom L k → lexC X.k k = -1) ∧ (kFrom L k ≤ j → j < kFrom L k + kMany L k → X.k = k) ∧ (kFrom L k + kMany L k ≤ j → lexC k X.k = -1) := by
  have hjl := (List.getElem?_eq_some_iff.1 hX).1
  refine ⟨fun hj => ?_, fun h1 h2 => ?_, fun hj => ?_⟩
  · exact lex_neg.1 (of_decide_eq_true (tw_in (p := fun V : Ver => decide (lexC V.k k < 0)) hj hX))
  · have e : (L.drop (kFrom L k))[j - kFrom L k]? = some X := by rw [List.getElem?_drop, Nat.add_sub_cancel' h1]; exact hX
    exact of_decide_eq_true (tw_in (p := fun V : Ver => decide (V.k = k)) (show j - kFrom L k < kMany L k by omega) e)
  · have hlt : kFrom L k + kMany L k < L.length := Nat.lt_of_le_of_lt hj hjl
    obtain ⟨Y, hY⟩ : ∃ Y, L[kFrom L k + kMany L k]? = some Y := ⟨_, List.getElem?_eq_getElem hlt⟩
    have hYk : Y.k ≠ k := by
      have e : (L.drop (kFrom L k))[kMany L k]? = some Y := by rw [List.getElem?_drop]; exact hY
      exact of_decide_eq_false (tw_end (p := fun V : Ver => decide (V.k = k)) e)
    have hYn : ¬ lexC Y.k k < 0 := by
      obtain ⟨Z, hZ⟩ : ∃ Z, L[kFrom L k]? = some Z := ⟨_, List.getElem?_eq_getElem (by omega)⟩
      have hZn : ¬ lexC Z.k k < 0 := of_decide_eq_false (tw_end (p := fun V : Ver => decide (lexC V.k k < 0)) hZ)
      by_cases hm : kMany L k = 0
      · rw [hm, Nat.add_zero, hZ] at hY
        injection hY with hY
        rw [← hY]; exact hZn
      · intro hneg
        rcases h.at (by omega) hZ hY with e | ⟨e, _⟩
        · exact hZn (lex_neg.2 (lexC_trans e (lex_neg.1 hneg)))
        · rw [e] at hZn; exact hZn hneg
    have hYg : lexC k Y.k = -1 := by
      rw [lexC_swap Y.k k]
      rcases lexC_ways Y.k k with e | e | e
      · exact absurd (lex_neg.2 e) hYn
      · exact absurd (lexC_eq e) hYk
      · omega
    by_cases e : j = kFrom L k + kMany L k
    · rw [e, hY] at hX
      injection hX with hX
      rw [← hX]; exact hYg
    · rcases h.at (by omega) hY hX with e2 | ⟨e2, _⟩
      · exact lexC_trans hYg e2
      · rw [← e2]; exact hYg
theorem filter_mid {p : Ver → Bool} {L : List Ver} {a m : Nat} (hm : a + m ≤ L.length) (h1 : ∀ j X, j < a → L[j]? = some X → p X = false) (h2 : ∀ j X, a ≤ j → j < a + m → L[j]? = some X → p X = true) (h3 : ∀ j X, a + m ≤ j → L[j]? = some X → p X = false) : L.filter p = (L.drop a).take m := by
  have e1 : (L.take a).filter p = [] := by
    rw [List.filter_eq_nil_iff]
    intro X hX
    obtain ⟨j, hj, e⟩ := List.getElem_of_mem hX
    rw [List.length_take] at hj
    rw [h1 j X (by omega) (by rw [List.getElem_take] at e; rw [List.getElem?_eq_getElem (by omega), e])]
    exact Bool.false_ne_true
  have e2 : ((L.drop a).take m).filter p = (L.drop a).take m := by
    rw [List.filter_eq_self]
    intro X hX
    obtain ⟨j, hj, e⟩ := List.getElem_of_mem hX
    rw [List.length_take, List.length_drop] at hj
    exact h2 (a + j) X (by omega) (by omega) (by rw [List.getElem_take, List.getElem_drop] at e; rw [List.getElem?_eq_getElem (by omega), e])
  have e3 : ((L.drop a).drop m).filter p = [] := by
    rw [List.filter_eq_nil_iff]
    intro X hX
    obtain ⟨j, hj, e⟩ := List.getElem_of_mem hX
    rw [List.length_drop, List.length_drop] at hj
    rw [h3 (a + m + j) X (by omega) (by rw [List.getElem_drop, List.getElem_drop] at e; rw [List.getElem?_eq_getElem (by omega)]; simp only [Nat.add_assoc] at e ⊢; rw [e])]
    exact Bool.false_ne_true
  have e4 : L.filter p = (L.take a ++ ((L.drop a).take m ++ (L.drop a).drop m)).filter p := by rw [List.take_append_drop, List.take_append_drop]
  rw [e4, List.filter_append, List.filter_append, e1, e2, e3, List.nil_append, List.append_nil]
theorem chain_filter {L : List Ver} (h : OrdK L) (k : List Int) : chainV L k = L.filter (fun V => decide (V.k = k)) := by
  unfold chainV
  refine (filter_mid (kMany_le L k) (fun j X hj hX => decide_eq_false ?_) (fun j X h1 h2 hX => decide_eq_true ((key_places h k j X hX).2.1 h1 h2)) (fun j X hj hX => decide_eq_false ?_)).symm
  · intro e
    have := (key_places h k j X hX).1 hj
    rw [e, lexC_self] at this
    omega
  · intro e
    have := (key_places h k j X hX).2.2 hj
    rw [e, lexC_self] at this
    omega
/-- A version of no key. -/
def bare (V : Ver) : Ver := { V with k := zeroK }
/-- A key's versions, as a chain of its own. -/
def oneV (L : List Ver) (k : List Int) : List Ver := (chainV L k).map bare
theorem one_bare (l : List Ver) : One (l.map bare) := fun V hV => by
  obtain ⟨X, _, e⟩ := List.mem_map.1 hV
  rw [← e]
  rfl
theorem ups_chain {L : List Ver} (h : OrdK L) (k : List Int) : Ups (oneV L k) := by
  unfold oneV Ups
  rw [List.pairwise_map, chain_filter h k]
  refine List.Pairwise.imp_of_mem ?_ (List.Pairwise.filter _ h)
  intro A B hA hB hAB
  have eA : A.k = k := of_decide_eq_true (List.mem_filter.1 hA).2
  have eB : B.k = k := of_decide_eq_true (List.mem_filter.1 hB).2
  rcases hAB with e | ⟨_, e⟩
  · rw [eA, eB, lexC_self] at e
    omega
  · exact e
theorem bare_may (V : Ver) : mayV (bare V) = mayV V := rfl
theorem one_len (L : List Ver) (k : List Int) : (oneV L k).length = kMany L k := by unfold oneV; rw [List.length_map, chain_len]
theorem one_rk (L : List Ver) (V : Ver) : rk (oneV L V.k) (bare V) = putR L V := by
  unfold rk putR oneV
  rw [List.takeWhile_map, List.length_map]
  rfl
theorem one_clash2 (L : List Ver) (V : Ver) : clashV (oneV L V.k) (bare V) = clashV L V := by
  rw [one_clash (show One (oneV L V.k) from one_bare _) rfl, one_rk]
  unfold clashV oneV
  rw [List.getElem?_map]
  cases (chainV L V.k)[putR L V]? <;> rfl
/-- The code of a put is the code of the put at the key's own chain. -/
theorem put_code (L : List Ver) (V : Ver) : (putV L V).1 = (putV (oneV L V.k) (bare V)).1 := by
  rw [put_one (show One (oneV L V.k) from one_bare _) rfl, bare_may, one_clash2, one_len]
  unfold putV
  by_cases h1 : mayV V = false
  · rw [if_pos h1, if_pos h1]
  · rw [if_neg h1, if_neg h1]
    by_cases h2 : clashV L V = true
    · rw [if_pos h2, if_pos h2]
    · rw [if_neg h2, if_neg h2]
      by_cases h3 : 50 ≤ kMany L V.k
      · rw [if_pos h3, if_pos h3]
      · rw [if_neg h3, if_neg h3]
theorem putAt_le (L : List Ver) (V : Ver) : putR L V ≤ kMany L V.k ∧ putAt L V ≤ L.length := by
  have h1 : putR L V ≤ (chainV L V.k).length := List.Sublist.length_le (List.takeWhile_sublist _)
  rw [chain_len] at h1
  have h2 := kMany_le L V.k
  exact ⟨h1, by unfold putAt; omega⟩
/-- What stands ahead of the place of a put is below it, what stands behind it is above it, if none is alike. -/
theorem put_place {L : List Ver} (h : OrdK L) {V : Ver} (hc : clashV L V = false) (j : Nat) (X : Ver) (hX : L[j]? = some X) : (j < putAt L V → ltK X V) ∧ (putAt L V ≤ j → ltK V X) := by
  obtain ⟨hr, hl⟩ := putAt_le L V
  obtain ⟨p1, p2, p3⟩ := key_places h V.k j X hX
  have hjl := (List.getElem?_eq_some_iff.1 hX).1
  refine ⟨fun hj => ?_, fun hj => ?_⟩
  · by_cases h1 : j < kFrom L V.k
    · exact .inl (p1 h1)
    · have hk := p2 (by omega) (by unfold putAt at hj; omega)
      have e : (chainV L V.k)[j - kFrom L V.k]? = some X := by rw [chain_at L V.k _ (by unfold putAt at hj; omega), Nat.add_sub_cancel' (by omega)]; exact hX
      have := of_decide_eq_true (tw_in (p := fun X : Ver => decide (cmpS X.t X.n V.t V.n < 0)) (show j - kFrom L V.k < putR L V by unfold putAt at hj; omega) e)
      exact .inr ⟨hk, cmp_neg.1 this⟩
  · by_cases h1 : kFrom L V.k + kMany L V.k ≤ j
    · exact .inl (p3 h1)
    · have hk := p2 (by unfold putAt at hj; omega) (by omega)
      have hrm : putR L V < kMany L V.k := by unfold putAt at hj; omega
      obtain ⟨Y, hY⟩ : ∃ Y, L[putAt L V]? = some Y := ⟨_, List.getElem?_eq_getElem (by omega)⟩
      have eY : (chainV L V.k)[putR L V]? = some Y := by rw [chain_at L V.k _ hrm]; exact hY
      have n1 : ¬ cmpS Y.t Y.n V.t V.n < 0 := of_decide_eq_false (tw_end (p := fun X : Ver => decide (cmpS X.t X.n V.t V.n < 0)) eY)
      have n2 : ¬ (Y.t = V.t ∧ Y.n = V.n) := by
        unfold clashV at hc
        rw [eY] at hc
        exact of_decide_eq_false hc
      have hYV : ltS V.t V.n Y.t Y.n := by
        have n3 : ¬ ltS Y.t Y.n V.t V.n := fun e => n1 (cmp_neg.2 e)
        unfold ltS at *
        omega
      by_cases e : j = putAt L V
      · rw [e, hY] at hX
        injection hX with hX
        rw [← hX] at hk ⊢
        exact .inr ⟨hk.symm, hYV⟩
      · rcases h.at (by omega) hY hX with e2 | ⟨_, e2⟩
        · have hYk := (key_places h V.k _ Y hY).2.1 (by unfold putAt; omega) (by unfold putAt; omega)
          rw [hYk, hk, lexC_self] at e2
          omega
        · exact .inr ⟨hk.symm, ltS_trans hYV e2⟩
theorem ord_put {L : List Ver} (h : OrdK L) (V : Ver) : OrdK (putV L V).2 := by
  unfold putV
  by_cases h1 : mayV V = false
  · rw [if_pos h1]; exact h
  · rw [if_neg h1]
    cases hc : clashV L V with
    | true => rw [if_pos rfl]; exact h
    | false =>
      rw [if_neg (by simp)]
      by_cases h3 : 50 ≤ kMany L V.k
      · rw [if_pos h3]; exact h
      · rw [if_neg h3]
        have hl := (putAt_le L V).2
        have h0 : OrdK (L.take (putAt L V) ++ L.drop (putAt L V)) := by rw [List.take_append_drop]; exact h
        obtain ⟨q1, q2, q3⟩ := List.pairwise_append.1 h0
        refine List.pairwise_append.2 ⟨q1, List.pairwise_cons.2 ⟨fun B hB => ?_, q2⟩, fun A hA B hB => ?_⟩
        · obtain ⟨j, hj, e⟩ := List.getElem_of_mem hB
          rw [List.length_drop] at hj
          exact (put_place h hc (putAt L V + j) B (by rw [List.getElem_drop] at e; rw [List.getElem?_eq_getElem (by omega), e])).2 (by omega)
        · rcases List.mem_cons.1 hB with rfl | hB
          · obtain ⟨j, hj, e⟩ := List.getElem_of_mem hA
            rw [List.length_take] at hj
            exact (put_place h hc j A (by rw [List.getElem_take] at e; rw [List.getElem?_eq_getElem (by omega), e])).1 (by omega)
          · exact q3 A hA B hB
theorem rest_filter_all {L : List Ver} (p : Ver → Bool) (k : List Int) : (L.filter p).filter (fun V => decide (V.k = k)) = (L.filter (fun V => decide (V.k = k))).filter p := by
  rw [List.filter_filter, List.filter_filter]
  congr 1
  funext V
  exact Bool.and_comm _ _
/-- What a put leaves of each key. -/
theorem put_other {L : List Ver} (h : OrdK L) (V : Ver) (k : List Int) (hk : k ≠ V.k) : oneV (putV L V).2 k = oneV L k := by
  unfold oneV
  rw [chain_filter (ord_put h V), chain_filter h]
  congr 1
  unfold putV
  by_cases h1 : mayV V = false
  · rw [if_pos h1]
  · rw [if_neg h1]
    by_cases h2 : clashV L V = true
    · rw [if_pos h2]
    · rw [if_neg h2]
      by_cases h3 : 50 ≤ kMany L V.k
      · rw [if_pos h3]
      · rw [if_neg h3]
        have e : (L.take (putAt L V) ++ L.drop (putAt L V)).filter (fun X => decide (X.k = k)) = L.filter (fun X => decide (X.k = k)) := by rw [List.take_append_drop]
        rw [← e, List.filter_append, List.filter_append, List.filter_cons_of_neg (by simpa using Ne.symm hk)]
theorem flt_take {L : List Ver} (h : OrdK L) (k : List Int) (r : Nat) (hr : r ≤ kMany L k) : (L.take (kFrom L k + r)).filter (fun X => decide (X.k = k)) = (chainV L k).take r ∧ (L.drop (kFrom L k + r)).filter (fun X => decide (X.k = k)) = (chainV L k).drop r := by
  have hm := kMany_le L k
  have e1 : (L.take (kFrom L k + r)).filter (fun X => decide (X.k = k)) = ((L.take (kFrom L k + r)).drop (kFrom L k)).take r := by
    refine filter_mid (by rw [List.length_take]; omega) (fun j X hj hX => decide_eq_false ?_) (fun j X g1 g2 hX => decide_eq_true ?_) (fun j X hj hX => ?_)
    · rw [List.getElem?_take_of_lt (by omega)] at hX
      intro e
      have := (key_places h k j X hX).1 hj
      rw [e, lexC_self] at this
      omega
    · rw [List.getElem?_take_of_lt (by omega)] at hX
      exact (key_places h k j X hX).2.1 g1 (by omega)
    · rw [List.getElem?_eq_none (by rw [List.length_take]; omega)] at hX
      cases hX
  have e2 : ((L.take (kFrom L k + r)).drop (kFrom L k)).take r = (chainV L k).take r := by
    unfold chainV
    rw [List.drop_take, List.take_take, List.take_take]
    congr 1
    omega
  have e3 : L.filter (fun X => decide (X.k = k)) = (L.take (kFrom L k + r)).filter (fun X => decide (X.k = k)) ++ (L.drop (kFrom L k + r)).filter (fun X => decide (X.k = k)) := by rw [← List.filter_append, List.take_append_drop]
  rw [← chain_filter h k, e1, e2] at e3
  refine ⟨e1.trans e2, ?_⟩
  have e4 : (chainV L k).take r ++ (chainV L k).drop r = (chainV L k).take r ++ (L.drop (kFrom L k + r)).filter (fun X => decide (X.k = k)) := by rw [List.take_append_drop]; exact e3
  exact (List.append_cancel_left e4).symm
theorem put_own {L : List Ver} (h : OrdK L) (V : Ver) : oneV (putV L V).2 V.k = (putV (oneV L V.k) (bare V)).2 := by
  have hone : One (oneV L V.k) := one_bare _
  rw [put_one hone rfl, bare_may, one_clash2, one_len, one_rk]
  unfold oneV
  rw [chain_filter (ord_put h V)]
  unfold putV
  by_cases h1 : mayV V = false
  · rw [if_pos h1, if_pos h1, chain_filter h]
  · rw [if_neg h1, if_neg h1]
    by_cases h2 : clashV L V = true
    · rw [if_pos h2, if_pos h2, chain_filter h]
    · rw [if_neg h2, if_neg h2]
      by_cases h3 : 50 ≤ kMany L V.k
      · rw [if_pos h3, if_pos h3, chain_filter h]
      · rw [if_neg h3, if_neg h3]
        obtain ⟨f1, f2⟩ := flt_take h V.k (putR L V) (putAt_le L V).1
        rw [List.filter_append, List.filter_cons_of_pos (by simp)]
        unfold putAt
        rw [f1, f2, List.map_append, List.map_cons, List.map_take, List.map_drop]
theorem at_own (L : List Ver) (k : List Int) (t n : Int) : atV (oneV L k) zeroK t n = (atV L k t n).map bare := by
  rw [at_one (show One (oneV L k) from one_bare _)]
  unfold oneV atV
  rw [← List.map_reverse, List.find?_map]
  rfl
theorem newest_own (L : List Ver) (k : List Int) : newestV (oneV L k) zeroK = (newestV L k).map bare := by
  unfold newestV
  rw [one_chain (show One (oneV L k) from one_bare _)]
  unfold oneV
  rw [List.getLast?_map]
theorem ord_rest {L : List Ver} (h : OrdK L) (t n : Int) : OrdK (restV L t n) := List.Pairwise.filter _ h
theorem goes_own {L : List Ver} {k : List Int} {t n : Int} {X : Ver} (hX : X.k = k) : goesV (oneV L k) t n (bare X) = goesV L t n X := by
  unfold goesV
  rw [show (bare X).k = zeroK from rfl, at_own, hX]
  cases atV L k t n <;> rfl
theorem rest_own {L : List Ver} (h : OrdK L) (k : List Int) (t n : Int) : oneV (restV L t n) k = restV (oneV L k) t n := by
  unfold oneV
  rw [chain_filter (ord_rest h t n)]
  unfold restV
  rw [rest_filter_all, ← chain_filter h, List.filter_map]
  congr 1
  refine List.filter_congr (fun X hX => ?_)
  have hk : X.k = k := by
    rw [chain_filter h] at hX
    exact of_decide_eq_true (List.mem_filter.1 hX).2
  show (!goesV L t n X) = !goesV (oneV L k) t n (bare X)
  rw [goes_own hk]
/-- The keys that have versions. -/
def keyStep (l : List (List Int)) (V : Ver) : List (List Int) := if l.getLast? = some V.k then l else l ++ [V.k]
def keysV (L : List Ver) : List (List Int) := L.foldl keyStep []
theorem keys_snoc (L : List Ver) (V : Ver) : keysV (L ++ [V]) = keyStep (keysV L) V := by simp [keysV, List.foldl_append]
theorem keys_last (L : List Ver) (V : Ver) : (keysV (L ++ [V])).getLast? = some V.k := by
  rw [keys_snoc]
  unfold keyStep
  by_cases h : (keysV L).getLast? = some V.k
  · rw [if_pos h]; exact h
  · rw [if_neg h]; simp
theorem keys_take {L : List Ver} {i : Nat} {V : Ver} (h : L[i]? = some V) : keysV (L.take (i + 1)) = keyStep (keysV (L.take i)) V := by
  rw [List.take_add_one, h]
  exact keys_snoc _ _
theorem keys_prev {L : List Ver} {i : Nat} {V : Ver} (h : L[i]? = some V) : (keysV (L.take (i + 1))).getLast? = some V.k := by
  rw [List.take_add_one, h]
  exact keys_last _ _
theorem snoc_cases {α : Type} (P : List α → Prop) (h0 : P []) (h1 : ∀ l x, P l → P (l ++ [x])) (l : List α) : P l := by
  have : ∀ n (l : List α), l.length = n → P l := by
    intro n
    induction n with
    | zero => intro l h; rw [List.eq_nil_of_length_eq_zero h]; exact h0
    | succ n ih =>
      intro l h
      have hne : l ≠ [] := fun e => by rw [e] at h; simp at h
      rw [← List.dropLast_concat_getLast hne]
      exact h1 _ _ (ih _ (by rw [List.length_dropLast, h]; rfl))
  exact this _ l rfl
theorem keys_mem (L : List Ver) (k : List Int) : k ∈ keysV L ↔ ∃ V ∈ L, V.k = k := by
  refine snoc_cases (fun L => k ∈ keysV L ↔ ∃ V ∈ L, V.k = k) (by simp [keysV]) (fun L V ih => ?_) L
  rw [keys_snoc]
  unfold keyStep
  by_cases h : (keysV L).getLast? = some V.k
  · rw [if_pos h, ih]
    constructor
    · rintro ⟨X, hX, e⟩; exact ⟨X, List.mem_append_left _ hX, e⟩
    · rintro ⟨X, hX, e⟩
      rcases List.mem_append.1 hX with hX | hX
      · exact ⟨X, hX, e⟩
      · simp at hX
        rw [hX] at e
        rw [← ih, ← e]
        exact List.mem_of_getLast? h
  · rw [if_neg h, List.mem_append, ih]
    constructor
    · rintro (⟨X, hX, e⟩ | e)
      · exact ⟨X, List.mem_append_left _ hX, e⟩
      · simp at e
        exact ⟨V, by simp, e.symm⟩
    · rintro ⟨X, hX, e⟩
      rcases List.mem_append.1 hX with hX | hX
      · exact .inl ⟨X, hX, e⟩
      · simp at hX
        rw [hX] at e
        exact .inr (by simp [e])
/-- They rise. -/
theorem keys_up {L : List Ver} (h : OrdK L) : (keysV L).Pairwise (fun a b => lexC a b = -1) := by
  revert h
  refine snoc_cases (fun L => OrdK L → (keysV L).Pairwise (fun a b => lexC a b = -1)) (fun _ => List.Pairwise.nil) (fun L V ih h => ?_) L
  obtain ⟨q1, _, q3⟩ := List.pairwise_append.1 h
  rw [keys_snoc]
  unfold keyStep
  by_cases hl : (keysV L).getLast? = some V.k
  · rw [if_pos hl]; exact ih q1
  · rw [if_neg hl]
    refine List.pairwise_append.2 ⟨ih q1, by simp, fun a ha b hb => ?_⟩
    simp at hb
    subst hb
    obtain ⟨X, hX, e⟩ := (keys_mem L a).1 ha
    rcases q3 X hX V (by simp) with e2 | ⟨e2, _⟩
    · rw [e] at e2; exact e2
    · exfalso
      have hne : L ≠ [] := fun e3 => by rw [e3] at hX; simp at hX
      obtain ⟨D, Y, rfl⟩ : ∃ D Y, L = D ++ [Y] := ⟨_, _, (List.dropLast_concat_getLast hne).symm⟩
      have hlast := keys_last D Y
      rcases q3 Y (by simp) V (by simp) with e4 | ⟨e4, _⟩
      · rcases List.mem_append.1 hX with hX | hX
        · rcases (List.pairwise_append.1 q1).2.2 X hX Y (by simp) with e6 | ⟨e6, _⟩
          · have := lexC_trans e6 e4
            rw [e2, lexC_self] at this
            omega
          · rw [← e6, e2, lexC_self] at e4
            omega
        · simp at hX
          rw [← hX, e2, lexC_self] at e4
          omega
      · rw [← e4] at hl
        exact hl hlast
/-- What a key is at a time, as Get tells it. -/
def getV (L : List Ver) (k : List Int) (t n : Int) : Option (List Int) := match atV L k t n with
  | none => none
  | some V => if V.g = true then none else some V.v
end Go.Proofs.YtileidbdmpeciaaGreat

namespace Go.Proofs.YtileidbdmpeciaaGreat
open Go.RowKit
set_option linter.unusedVariables false

theorem ltS_irr (t n : Int) : ¬ ltS t n t n := by unfold ltS; omega
/-- A put that answers 0 put it in. -/
theorem put_ok {L : List Ver} {V : Ver} (h : One L) (hV : V.k = zeroK) (h0 : (putV L V).1 = 0) : (putV L V).2 = L.take (rk L V) ++ V :: L.drop (rk L V) ∧ mayV V = true ∧ clashV L V = false ∧ L.length < 50 := by
  rw [put_one h hV] at h0 ⊢
  by_cases h1 : mayV V = false
  · rw [if_pos h1] at h0; cases h0
  · rw [if_neg h1] at h0 ⊢
    by_cases h2 : clashV L V = true
    · rw [if_pos h2] at h0; cases h0
    · rw [if_neg h2] at h0 ⊢
      by_cases h3 : 50 ≤ L.length
      · rw [if_pos h3] at h0; cases h0
      · rw [if_neg h3]
        exact ⟨rfl, by simpa using h1, by simpa using h2, by omega⟩
theorem one_ins {L : List Ver} {V : Ver} (h : One L) (hV : V.k = zeroK) (r : Nat) : One (L.take r ++ V :: L.drop r) := fun X hX => by
  rcases (mem_ins r).1 hX with rfl | hX
  · exact hV
  · exact h X hX
theorem ups_put {L : List Ver} {V : Ver} (h : One L) (hu : Ups L) (hV : V.k = zeroK) (h0 : (putV L V).1 = 0) : Ups (putV L V).2 := by
  obtain ⟨e, _, hc, _⟩ := put_ok h hV h0
  rw [e]
  refine ups_ins hu (fun hx => ?_)
  rw [(clash_iff h hu hV).2 hx] at hc
  cases hc
/-- Just at a put it is seen. -/
theorem at_here {L : List Ver} {V : Ver} (h : One L) (hu : Ups L) (hV : V.k = zeroK) (h0 : (putV L V).1 = 0) : atV (putV L V).2 zeroK V.t V.n = some V := by
  have hu2 := ups_put h hu hV h0
  obtain ⟨e, _⟩ := put_ok h hV h0
  rw [e] at hu2 ⊢
  refine at_is (one_ins h hV _) hu2 ((mem_ins _).2 (.inl rfl)) (ltS_irr _ _) (fun Y hY hn => ?_)
  by_cases hs : Y.t = V.t ∧ Y.n = V.n
  · exact .inl (ups_same hu2 hY ((mem_ins _).2 (.inl rfl)) hs)
  · right
    show ltS Y.t Y.n V.t V.n
    unfold ltS at *
    omega
/-- What is seen of a key has that key. -/
theorem at_key {L : List Ver} {k : List Int} {t n : Int} {X : Ver} (hx : atV L k t n = some X) : X.k = k := by
  unfold atV at hx
  have hm := List.mem_reverse.1 (List.mem_of_find?_eq_some hx)
  unfold chainV at hm
  obtain ⟨j, hj, e⟩ := List.getElem_of_mem hm
  rw [List.length_take] at hj
  have e2 : (L.drop (kFrom L k))[j]? = some X := by
    rw [List.getElem_take] at e
    rw [List.getElem?_eq_getElem (by omega), e]
  exact of_decide_eq_true (tw_in (p := fun V : Ver => decide (V.k = k)) (show j < kMany L k by omega) e2)
theorem bare_inj {A B : Ver} (hk : A.k = B.k) (h : bare A = bare B) : A = B := by
  obtain ⟨a, b, c, d, e⟩ := A
  obtain ⟨a', b', c', d', e'⟩ := B
  injection h with _ h1 h2 h3 h4
  simp at hk
  subst hk; subst h1; subst h2; subst h3; subst h4
  rfl
/-- Two stores that have the same of a key tell the same of it. -/
theorem at_same {L M : List Ver} {k : List Int} {t n t' n' : Int} (h : atV (oneV L k) zeroK t n = atV (oneV M k) zeroK t' n') : atV L k t n = atV M k t' n' := by
  rw [at_own, at_own] at h
  cases hA : atV L k t n with
  | none =>
    cases hB : atV M k t' n' with
    | none => rfl
    | some B => rw [hA, hB] at h; cases h
  | some A =>
    cases hB : atV M k t' n' with
    | none => rw [hA, hB] at h; cases h
    | some B =>
      rw [hA, hB] at h
      injection h with h
      rw [bare_inj ((at_key hA).trans (at_key hB).symm) h]
/-- Just at a put it is seen, and of other keys what was. -/
theorem at_put {L : List Ver} (h : OrdK L) {V : Ver} (h0 : (putV L V).1 = 0) : atV (putV L V).2 V.k V.t V.n = some V := by
  have h1 := at_here (L := oneV L V.k) (V := bare V) (one_bare _) (ups_chain h _) rfl (by rw [← put_code]; exact h0)
  rw [← put_own h, at_own] at h1
  cases hA : atV (putV L V).2 V.k V.t V.n with
  | none =>
    have h2 : (atV (putV L V).2 V.k V.t V.n).map bare = some (bare V) := h1
    rw [hA] at h2
    cases h2
  | some A =>
    have h2 : (atV (putV L V).2 V.k V.t V.n).map bare = some (bare V) := h1
    rw [hA] at h2
    injection h2 with h2
    rw [bare_inj (at_key hA) h2]
theorem at_else {L : List Ver} (h : OrdK L) (V : Ver) {k : List Int} (hk : k ≠ V.k) (t n : Int) : atV (putV L V).2 k t n = atV L k t n := at_same (by rw [put_other h V k hk])
theorem put_grows {L : List Ver} {V : Ver} (h0 : (putV L V).1 = 0) : (putV L V).2.length = L.length + 1 := by
  have hl := (putAt_le L V).2
  unfold putV at h0 ⊢
  by_cases h1 : mayV V = false
  · rw [if_pos h1] at h0; cases h0
  · rw [if_neg h1] at h0 ⊢
    by_cases h2 : clashV L V = true
    · rw [if_pos h2] at h0; cases h0
    · rw [if_neg h2] at h0 ⊢
      by_cases h3 : 50 ≤ kMany L V.k
      · rw [if_pos h3] at h0; cases h0
      · rw [if_neg h3]
        simp only [List.length_append, List.length_take, List.length_cons, List.length_drop]
        omega
/-- A write: its key, its value, whether it is gone. -/
structure Wrt where
  k : List Int
  v : List Int
  g : Bool
def verW (t n : Int) (W : Wrt) : Ver := ⟨W.k, t, n, W.v, W.g⟩
/-- Writes put one behind the other at one stamp: 5 at once where one is there, else 0; the list so far; was one refused? -/
def runW (t n : Int) : List Wrt → List Ver → Bool → Int × List Ver × Bool
  | [], L, f => (0, L, f)
  | W :: r, L, f => if (putV L (verW t n W)).1 = 5 then (5, L, f) else runW t n r (putV L (verW t n W)).2 (f || decide ((putV L (verW t n W)).1 ≠ 0))
theorem run_step (t n : Int) (W : Wrt) (r : List Wrt) (L : List Ver) (f : Bool) : runW t n (W :: r) L f = if (putV L (verW t n W)).1 = 5 then (5, L, f) else runW t n r (putV L (verW t n W)).2 (f || decide ((putV L (verW t n W)).1 ≠ 0)) := rfl
theorem run_full {t n : Int} : ∀ (l : List Wrt) (L : List Ver), (runW t n l L true).2.2 = true
  | [], L => rfl
  | W :: r, L => by
    unfold runW
    by_cases h : (putV L (verW t n W)).1 = 5
    · rw [if_pos h]
    · rw [if_neg h]
      exact run_full r _
/-- Where all went well, each went well. -/
theorem run_cons {t n : Int} {W : Wrt} {r : List Wrt} {L : List Ver} (h1 : (runW t n (W :: r) L false).1 ≠ 5) (h2 : (runW t n (W :: r) L false).2.2 = false) : (putV L (verW t n W)).1 = 0 ∧ runW t n (W :: r) L false = runW t n r (putV L (verW t n W)).2 false := by
  rw [run_step] at h1 h2 ⊢
  by_cases h : (putV L (verW t n W)).1 = 5
  · rw [if_pos h] at h1
    exact absurd rfl h1
  · rw [if_neg h] at h1 h2 ⊢
    by_cases h0 : (putV L (verW t n W)).1 = 0
    · refine ⟨h0, ?_⟩
      rw [h0]
      rfl
    · rw [decide_eq_true h0, Bool.or_true, run_full] at h2
      cases h2
theorem run_else {t n : Int} : ∀ (l : List Wrt) (L : List Ver), OrdK L → (runW t n l L false).1 ≠ 5 → (runW t n l L false).2.2 = false → ∀ k, (∀ W ∈ l, W.k ≠ k) → ∀ t' n', atV (runW t n l L false).2.1 k t' n' = atV L k t' n'
  | [], L, _, _, _, k, _, t', n' => rfl
  | W :: r, L, h, h1, h2, k, hk, t', n' => by
    obtain ⟨h0, e⟩ := run_cons h1 h2
    rw [e] at h1 h2 ⊢
    rw [run_else r _ (ord_put h _) h1 h2 k (fun X hX => hk X (List.mem_cons_of_mem _ hX)) t' n']
    exact at_else h (verW t n W) (Ne.symm (hk W (by simp))) t' n'
theorem run_here {t n : Int} : ∀ (l : List Wrt) (L : List Ver), OrdK L → (runW t n l L false).1 ≠ 5 → (runW t n l L false).2.2 = false → l.Pairwise (fun A B => A.k ≠ B.k) → ∀ W ∈ l, atV (runW t n l L false).2.1 W.k t n = some (verW t n W)
  | [], L, _, _, _, _, W, hW => by simp at hW
  | X :: r, L, h, h1, h2, hd, W, hW => by
    obtain ⟨h0, e⟩ := run_cons h1 h2
    rw [e] at h1 h2 ⊢
    obtain ⟨d1, d2⟩ := List.pairwise_cons.1 hd
    rcases List.mem_cons.1 hW with rfl | hW
    · rw [run_else r _ (ord_put h _) h1 h2 W.k (fun Y hY => Ne.symm (d1 Y hY)) t n]
      exact at_put (V := verW t n W) h h0
    · exact run_here r _ (ord_put h _) h1 h2 d2 W hW
end Go.Proofs.YtileidbdmpeciaaGreat

namespace Go.Proofs.YtileidbdmpeciaaGreat
open Go.RowKit
set_option linter.unusedVariables false

/-- What a store holds: in order; each version may be; no key has more than fifty. -/
structure StoK (L : List Ver) : Prop where
  ord : OrdK L
  may : ∀ V ∈ L, mayV V = true
  ins : ∀ V ∈ L, 0 ≤ V.n ∧ V.n ≤ 255 ∧ ∀ z ∈ V.v, 0 ≤ z ∧ z ≤ 255
  few : ∀ k, kMany L k ≤ 50
theorem StoK.nil : StoK [] := ⟨List.Pairwise.nil, fun V h => by simp at h, fun V h => by simp at h, fun k => by have := kMany_le [] k; simp at this; omega⟩
theorem chain_sub {L : List Ver} {k : List Int} {V : Ver} (h : V ∈ chainV L k) : V ∈ L := List.mem_of_mem_drop (List.mem_of_mem_take h)
theorem StoK.chn {L : List Ver} (h : StoK L) (k : List Int) : Chn (oneV L k) := by
  refine ⟨one_bare _, ups_chain h.ord k, fun V hV => ?_, fun V hV => ?_, by rw [one_len]; exact h.few k⟩
  · obtain ⟨X, hX, e⟩ := List.mem_map.1 hV
    rw [← e, bare_may]
    exact h.may X (chain_sub hX)
  · obtain ⟨X, hX, e⟩ := List.mem_map.1 hV
    rw [← e]
    exact h.ins X (chain_sub hX)
theorem mem_put {L : List Ver} {V X : Ver} (hX : X ∈ (putV L V).2) : X ∈ L ∨ (X = V ∧ mayV V = true) := by
  unfold putV at hX
  by_cases h1 : mayV V = false
  · rw [if_pos h1] at hX; exact .inl hX
  · rw [if_neg h1] at hX
    by_cases h2 : clashV L V = true
    · rw [if_pos h2] at hX; exact .inl hX
    · rw [if_neg h2] at hX
      by_cases h3 : 50 ≤ kMany L V.k
      · rw [if_pos h3] at hX; exact .inl hX
      · rw [if_neg h3] at hX
        rcases (mem_ins _).1 hX with e | e
        · exact .inr ⟨e, by simpa using h1⟩
        · exact .inl e
theorem StoK.put {L : List Ver} (h : StoK L) {V : Ver} (hb : 0 ≤ V.n ∧ V.n ≤ 255 ∧ ∀ z ∈ V.v, 0 ≤ z ∧ z ≤ 255) : StoK (putV L V).2 := by
  refine ⟨ord_put h.ord V, fun X hX => ?_, fun X hX => ?_, fun k => ?_⟩
  · rcases mem_put hX with e | ⟨rfl, e⟩
    · exact h.may X e
    · exact e
  · rcases mem_put hX with e | ⟨rfl, _⟩
    · exact h.ins X e
    · exact hb
  · by_cases hk : k = V.k
    · rw [hk, ← one_len, put_own h.ord]
      exact ((h.chn V.k).put (V := bare V) rfl hb).few
    · rw [← one_len, put_other h.ord V k hk, one_len]
      exact h.few k
theorem StoK.rest {L : List Ver} (h : StoK L) (t n : Int) : StoK (restV L t n) := by
  refine ⟨ord_rest h.ord t n, fun V hV => h.may V (List.mem_filter.1 hV).1, fun V hV => h.ins V (List.mem_filter.1 hV).1, fun k => ?_⟩
  rw [← one_len, rest_own h.ord]
  exact ((h.chn k).rest t n).few
theorem get_own (L : List Ver) (k : List Int) (t n : Int) : getV L k t n = getV (oneV L k) zeroK t n := by
  unfold getV
  rw [at_own]
  cases atV L k t n <;> rfl
/-- The keys of a stretch that are told at a time, with their values. -/
def itemV (L : List Ver) (a b : List Int) (t n : Int) (k : List Int) : Option (List Int × List Int) := match getV L k t n with
  | none => none
  | some v => if withinK k a b = true then some (k, v) else none
def scanV (L : List Ver) (a b : List Int) (t n : Int) : List (List Int × List Int) := (keysV L).filterMap (itemV L a b t n)
theorem item_some {L : List Ver} {a b : List Int} {t n : Int} {k : List Int} {x : List Int × List Int} (h : itemV L a b t n k = some x) : x.1 = k ∧ getV L k t n = some x.2 ∧ withinK k a b = true := by
  unfold itemV at h
  cases hg : getV L k t n with
  | none => rw [hg] at h; cases h
  | some v =>
    rw [hg] at h
    by_cases hi : withinK k a b = true
    · simp only [if_pos hi] at h
      injection h with h
      rw [← h]
      exact ⟨rfl, rfl, hi⟩
    · simp only [if_neg hi] at h
      cases h
/-- May writes be (but for their stamp): so many, each may be, no key twice. -/
def mayW (l : List Wrt) (least : Nat) : Bool := decide (least ≤ l.length ∧ l.length ≤ 16) && l.all (fun W => goodK W.k && decide (W.v.length ≤ 200) && (!W.g || decide (W.v = []))) && decide (l.Pairwise fun A B => A.k ≠ B.k)
/-- Apply: its answer, and what is there behind it. -/
def applyV (L : List Ver) (t n : Int) (l : List Wrt) : Int × List Ver :=
  if (decide (okS t) && mayW l 1) = false then (1, L) else
  if (runW t n l L false).1 = 5 then (5, L) else
  if ((runW t n l L false).2.2 || decide (200 < (keysV (runW t n l L false).2.1).length)) = true then (6, L) else (0, (runW t n l L false).2.1)
theorem apply_bad {L : List Ver} {t n : Int} {l : List Wrt} (h : (applyV L t n l).1 ≠ 0) : (applyV L t n l).2 = L := by
  unfold applyV at h ⊢
  by_cases h1 : (decide (okS t) && mayW l 1) = false
  · rw [if_pos h1]
  · rw [if_neg h1] at h ⊢
    by_cases h2 : (runW t n l L false).1 = 5
    · rw [if_pos h2]
    · rw [if_neg h2] at h ⊢
      by_cases h3 : ((runW t n l L false).2.2 || decide (200 < (keysV (runW t n l L false).2.1).length)) = true
      · rw [if_pos h3]
      · rw [if_neg h3] at h
        exact absurd rfl h
theorem apply_ok {L : List Ver} {t n : Int} {l : List Wrt} (h : (applyV L t n l).1 = 0) : (applyV L t n l).2 = (runW t n l L false).2.1 ∧ (runW t n l L false).1 ≠ 5 ∧ (runW t n l L false).2.2 = false ∧ okS t ∧ mayW l 1 = true ∧ (keysV (runW t n l L false).2.1).length ≤ 200 := by
  unfold applyV at h ⊢
  by_cases h1 : (decide (okS t) && mayW l 1) = false
  · rw [if_pos h1] at h; cases h
  · rw [if_neg h1] at h ⊢
    by_cases h2 : (runW t n l L false).1 = 5
    · rw [if_pos h2] at h; cases h
    · rw [if_neg h2] at h ⊢
      by_cases h3 : ((runW t n l L false).2.2 || decide (200 < (keysV (runW t n l L false).2.1).length)) = true
      · rw [if_pos h3] at h; cases h
      · rw [if_neg h3]
        simp only [Bool.not_eq_true, Bool.or_eq_false_iff, decide_eq_false_iff_not] at h3
        simp only [Bool.not_eq_false, Bool.and_eq_true, decide_eq_true_eq] at h1
        exact ⟨rfl, h2, h3.1, h1.1, h1.2, by omega⟩
end Go.Proofs.YtileidbdmpeciaaGreat

namespace Go.Proofs.YtileidbdmpeciaaGreat
open Go.RowKit
set_option linter.unusedVariables false

/-- A slice of bytes that lies somewhere: its bytes, and where they are. -/
structure Row (w : World) (a : Option Addr) (zs : List Int) : Prop where
  bytes : ∀ z ∈ zs, 0 ≤ z ∧ z ≤ 255
  cells : zs = [] ∨ ∃ b off, a = some ⟨b, off, none⟩ ∧ ∀ j, j < zs.length → w.cell? ⟨b, off + j, none⟩ = some (.int .u8 (zs.getD j 0))

/-- The cells of a list of bytes. -/
def bs (zs : List Int) : List Value := zs.map (Value.int .u8)
theorem lt_of_cell {w : World} {x : Addr} {v : Value} (h : w.cell? x = some v) : x.block < w.heap.size := by
  apply Classical.byContradiction
  intro hn
  have : w.heap[x.block]? = none := by simp; omega
  simp [World.cell?, this] at h
theorem add_plain (b off j : Nat) : (⟨b, off, none⟩ : Addr).add j = ⟨b, off + j, none⟩ := by unfold Addr.add; split <;> simp_all
theorem Row.below {w w' : World} {a : Option Addr} {zs : List Int} (h : Row w a zs) {B : Nat} (hb : Below B w w') (hB : w.heap.size ≤ B) : Row w' a zs := by
  refine ⟨h.1, ?_⟩
  rcases h.2 with rfl | ⟨b, off, rfl, hc⟩
  · exact .inl rfl
  · exact .inr ⟨b, off, rfl, fun j hj => by rw [hb.cell (Nat.lt_of_lt_of_le (lt_of_cell (hc j hj)) hB)]; exact hc j hj⟩
theorem Row.nil (w : World) (a : Option Addr) : Row w a [] := ⟨by simp, .inl rfl⟩
end Go.Proofs.YtileidbdmpeciaaGreat

namespace Go.Proofs.YtileidbdmpeciaaGreat
open Go.RowKit Go.ChangeShapes Go.WideShapes Go.ChangeAt Go.Deep
set_option linter.unusedVariables false

/-- A list of lists of bytes that lies somewhere: each one's bytes, and where they are. -/
structure RowsOf (w : World) (a : Option Addr) (cap : Nat) (ls : List (List Int)) : Prop where
  nil : a = none → ls = [] ∧ cap = 0
  le : ls.length ≤ cap
  cells : ls = [] ∨ ∃ b off, a = some ⟨b, off, none⟩ ∧ ∀ r, r < ls.length → ∃ (x : Option Addr) (c : Nat), w.cell? ⟨b, off + r, none⟩ = some (.slice x (ls.getD r []).length c) ∧ Row w x (ls.getD r []) ∧ (x = none → c = 0) ∧ (ls.getD r []).length ≤ c
theorem RowsOf.below {w w' : World} {a : Option Addr} {cap : Nat} {ls : List (List Int)} (h : RowsOf w a cap ls) {B : Nat} (hb : Below B w w') (hB : w.heap.size ≤ B) : RowsOf w' a cap ls := by
  refine ⟨h.nil, h.le, ?_⟩
  rcases h.cells with h0 | ⟨b, off, rfl, hc⟩
  · exact .inl h0
  · refine .inr ⟨b, off, rfl, fun r hr => ?_⟩
    obtain ⟨x, c, h1, h2, h3, h4⟩ := hc r hr
    exact ⟨x, c, by rw [hb.cell (Nat.lt_of_lt_of_le (lt_of_cell h1) hB)]; exact h1, h2.below hb hB, h3, h4⟩
theorem RowsOf.take {w : World} {a : Option Addr} {cap : Nat} {ls : List (List Int)} (h : RowsOf w a cap ls) (m : Nat) : RowsOf w a cap (ls.take m) := by
  refine ⟨fun ha => ⟨by rw [(h.nil ha).1]; simp, (h.nil ha).2⟩, Nat.le_trans (List.length_take_le' _ _) h.le, ?_⟩
  rcases h.cells with h0 | ⟨b, off, rfl, hc⟩
  · left; rw [h0]; simp
  · refine .inr ⟨b, off, rfl, fun r hr => ?_⟩
    simp at hr
    have e : (ls.take m).getD r [] = ls.getD r [] := by
      have hrm : r < m := by omega
      simp [List.getD, hrm]
    rw [e]
    exact hc r (by omega)
/-- The list at place r. -/
theorem RowsOf.at {w : World} {a : Option Addr} {cap : Nat} {ls : List (List Int)} (h : RowsOf w a cap ls) {r : Nat} (hr : r < ls.length) :
    ∃ b off x c, a = some ⟨b, off, none⟩ ∧ w.cell? ⟨b, off + r, none⟩ = some (.slice x (ls.getD r []).length c) ∧ Row w x (ls.getD r []) ∧ (x = none → (ls.getD r []).length = 0 ∧ c = 0) := by
  rcases h.cells with h0 | ⟨b, off, rfl, hc⟩
  · rw [h0] at hr; simp at hr
  · obtain ⟨x, c, h1, h2, h3, h4⟩ := hc r hr
    exact ⟨b, off, x, c, rfl, h1, h2, fun hx => ⟨by have := h3 hx; omega, h3 hx⟩⟩

theorem strs_inj {xs ys : List Int} (hx : ∀ z ∈ xs, 0 ≤ z ∧ z ≤ 255) (hy : ∀ z ∈ ys, 0 ≤ z ∧ z ≤ 255) (h : (strOfNums xs).toList = (strOfNums ys).toList) : xs = ys := by
  have e : ∀ zs : List Int, (strOfNums zs).toList = zs.map fun n => UInt8.ofNat n.toNat := fun zs => by rw [ByteArray.toList_eq]; exact strOfNums_data zs
  rw [e, e] at h
  have back : ∀ zs : List Int, (∀ z ∈ zs, 0 ≤ z ∧ z ≤ 255) → (zs.map fun n => UInt8.ofNat n.toNat).map (fun b => (b.toNat : Int)) = zs := by
    intro zs hz
    rw [List.map_map]
    conv => rhs; rw [← List.map_id zs]
    apply List.map_congr_left
    intro z hm
    have := hz z hm
    have hn : z.toNat < 256 := by omega
    simp [Nat.mod_eq_of_lt hn]
    omega
  have := congrArg (List.map fun b : UInt8 => (b.toNat : Int)) h
  rwa [back xs hx, back ys hy] at this
theorem str_eq {xs ys : List Int} (hx : ∀ z ∈ xs, 0 ≤ z ∧ z ≤ 255) (hy : ∀ z ∈ ys, 0 ≤ z ∧ z ≤ 255) : ((strOfNums xs).toList == (strOfNums ys).toList) = decide (xs = ys) := by
  by_cases h : xs = ys
  · subst h; simp
  · have : ¬ (strOfNums xs).toList = (strOfNums ys).toList := fun e => h (strs_inj hx hy e)
    simp [h, this]
theorem same_heap {w w' : World} (h : w'.heap = w.heap) (a : Addr) : w'.cell? a = w.cell? a := by unfold World.cell?; rw [h]
theorem Row.same {w w' : World} {a : Option Addr} {zs : List Int} (h : Row w a zs) (he : w'.heap = w.heap) : Row w' a zs := by
  refine ⟨h.1, h.2.imp id ?_⟩
  rintro ⟨b, off, h1, h2⟩
  exact ⟨b, off, h1, fun j hj => by rw [same_heap he]; exact h2 j hj⟩
theorem RowsOf.same {w w' : World} {a : Option Addr} {cap : Nat} {ls : List (List Int)} (h : RowsOf w a cap ls) (he : w'.heap = w.heap) : RowsOf w' a cap ls := by
  refine ⟨h.nil, h.le, h.cells.imp id ?_⟩
  rintro ⟨b, off, h1, h2⟩
  refine ⟨b, off, h1, fun r hr => ?_⟩
  obtain ⟨x, c, h3, h4, h5, h6⟩ := h2 r hr
  exact ⟨x, c, by rw [same_heap he]; exact h3, h4.same he, h5, h6⟩
section
variable {H : Type} {enc : TypeId × Value → H} {w : World} {base : Nat} {held : Bool}
/-- An array of integers that came in. -/
def IsArr (k : IntKind) (n : Nat) (zs : List Int) : Prop := zs.length = n ∧ ∀ z ∈ zs, (Lit.int k z).wf = true
theorem mapM_each {α β : Type} {f : α → Option β} : ∀ {l : List α} {ys : List β}, l.mapM f = some ys → ∀ i ∈ l, ∃ y, f i = some y
  | [], _, _, i, hi => by simp at hi
  | a :: l, ys, h, i, hi => by
    rw [List.mapM_cons] at h
    simp only [bind, Option.bind_eq_some_iff, pure, Option.some.injEq] at h
    obtain ⟨y, hy, zs, hzs, _⟩ := h
    rcases List.mem_cons.1 hi with rfl | hi
    · exact ⟨y, hy⟩
    · exact mapM_each hzs i hi
theorem arr_open {P : Program} {t e : TypeId} {k : IntKind} {n : Nat} {sp : Nat → Bool} {v : Value} {r : Reach} {b0 : Nat} {d : DataW H} {ps : List MemPlace} (ht : P.underlying t = some (.array n e)) (he : P.underlying e = some (.int k)) (ct : P.cellsOf t = n) (ce : P.cellsOf e = 1)
    (hval : Value.okWide P w r b0 t v) (hd : DataW.Trod enc P w base sp held t v d ps) : ∃ zs : List Int, v = .agg (zs.map (Value.int k)).toArray ∧ IsArr k n zs := by
  simp only [Value.okWide, ht] at hval
  obtain ⟨xs, rfl, hsz, _⟩ := hval
  rw [ct] at hsz
  obtain ⟨fuel, hf⟩ := hd
  cases fuel with
  | zero => simp [DataW.trod] at hf
  | succ m =>
    rw [DataW.trod_step] at hf
    unfold DataW.trodStep at hf
    simp only [ht, Value.cells] at hf
    rw [if_pos (by rw [ct]; simpa using hsz)] at hf
    simp only [Option.map_eq_some_iff] at hf
    obtain ⟨ys, hy, _⟩ := hf
    have each : ∀ i, i < n → ∃ z : Int, xs[i]? = some (.int k z) ∧ (Lit.int k z).wf = true := by
      intro i hi
      obtain ⟨y, hy'⟩ := mapM_each hy i (by simpa using hi)
      obtain ⟨z, hz, _, hwf⟩ := DataW.trod_int he hy'
      rw [ce, Nat.mul_one] at hz
      refine ⟨z, ?_, hwf⟩
      have h2 := congrArg (fun l => l[0]?) hz
      simpa using h2
    obtain ⟨f, hfz⟩ := choose_lt each
    refine ⟨(List.range n).map f, ?_, by simp, fun z hz => ?_⟩
    · congr 1
      apply Array.ext'
      apply List.ext_getElem
      · simp; omega
      · intro i h1 h2
        simp at h2
        have := (hfz i h2).1
        simp at h1
        rw [Array.getElem?_eq_getElem h1] at this
        simp at this
        simp [this]
    · simp at hz
      obtain ⟨i, hi, rfl⟩ := hz
      exact (hfz i hi).2
end
/-- Two arrays of integers, held against each other. -/
theorem eq_items {P : Program} {e : TypeId} {k : IntKind} (he : P.underlying e = some (.int k)) (ce : P.cellsOf e = 1) (d : Nat) (w : World) (A B : List Int) : ∀ m s, A.length = s + m → B.length = s + m →
    (Op.eqItems (d + 1) e (P.cellsOf e) (A.map (Value.int k)).toArray (B.map (Value.int k)).toArray (List.range' s m)).run P w = .ok (A.drop s == B.drop s) w := by
  have hpk : P.plainKey e = true := by unfold Program.plainKey; rw [he]
  intro m
  induction m with
  | zero =>
    intro s ha hb
    have e1 : A.drop s = [] := List.drop_eq_nil_of_le (by omega)
    have e2 : B.drop s = [] := List.drop_eq_nil_of_le (by omega)
    rw [e1, e2]
    simp [Op.eqItems]
  | succ m ih =>
    intro s ha hb
    have hsa : s < A.length := by omega
    have hsb : s < B.length := by omega
    have p1 := run_part_plain (P := P) w hpk (xs := (A.map (Value.int k)).toArray) (off := s * P.cellsOf e) (v := .int k A[s]) (by rw [ce, Nat.mul_one]; simp [hsa])
    have p2 := run_part_plain (P := P) w hpk (xs := (B.map (Value.int k)).toArray) (off := s * P.cellsOf e) (v := .int k B[s]) (by rw [ce, Nat.mul_one]; simp [hsb])
    have p3 := run_equalIn_int (P := P) w d e k k A[s] B[s] he
    rw [List.range'_succ]
    simp only [Op.eqItems, Sem.run_bind, p1, p2, p3, Result.andThen_ok]
    have e3 : (A.drop s == B.drop s) = (A[s] == B[s] && A.drop (s + 1) == B.drop (s + 1)) := by rw [List.drop_eq_getElem_cons hsa, List.drop_eq_getElem_cons hsb]; rfl
    rw [e3]
    by_cases h : A[s] = B[s]
    · have hb' : (A[s] == B[s]) = true := by simp [h]
      rw [hb']
      simp only [Bool.not_true, Bool.false_eq_true, if_false]
      rw [ih (s + 1) (by omega) (by omega), Bool.true_and]
    · have hb' : (A[s] == B[s]) = false := by simp [h]
      rw [hb']
      simp
theorem eq_arr {P : Program} {t e : TypeId} {k : IntKind} {n : Nat} {i : TypeInfo} (hu : P.underlying t = some (.array n e)) (he : P.underlying e = some (.int k)) (ce : P.cellsOf e = 1) (hi : P.info? e = some i) (w : World) (A B : List Int) (ha : A.length = n) (hb : B.length = n) :
    (Op.equalIn 10000 t (.agg (A.map (Value.int k)).toArray) (.agg (B.map (Value.int k)).toArray)).run P w = .ok (A == B) w := by
  rw [run_equalIn_array w 9999 _ _ hu hi, List.range_eq_range', eq_items he ce 9998 w A B n 0 (by omega) (by omega)]
  simp
end Go.Proofs.YtileidbdmpeciaaGreat

