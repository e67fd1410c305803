/-
  Versions of one key, rising by their stamps: what puts and trims make of them, what is seen at a time.
  What follows for chains: puts in any order, what a trim leaves to be seen, how many are behind a time.
-/
import Derived.Test.YtcppihpehipelaaAu55
namespace Go.Proofs.Ytcppihpehipelaa
set_option linter.unusedVariables false

abbrev ltV (A B : Ver) : Prop := ltS A.t A.n B.t B.n
theorem ltS_trans {a b c d e f : Int} (h1 : ltS a b c d) (h2 : ltS c d e f) : ltS a b e f := by unfold ltS at *; omega
theorem cmp_neg {a b c d : Int} : cmpS a b c d < 0 ↔ ltS a b c d := by
  rcases cmp_ways a b c d with ⟨h1, h2, _⟩ | ⟨h1, h1', h2, _⟩ | ⟨h1, h2, _⟩ <;> unfold ltS at * <;> omega
/-- All of no key. -/
def One (L : List Ver) : Prop := ∀ V ∈ L, V.k = zeroK
/-- Rising. -/
def Ups (L : List Ver) : Prop := L.Pairwise ltV
theorem one_from {L : List Ver} (h : One L) : kFrom L zeroK = 0 := by
  refine kFrom_is (Nat.zero_le _) (fun j V hj => by omega) ?_
  cases L with
  | nil => exact .inl rfl
  | cons V r => exact .inr ⟨V, rfl, by rw [h V (by simp), lexC_self]; omega⟩
theorem one_many {L : List Ver} (h : One L) : kMany L zeroK = L.length := by
  refine kMany_is (by rw [one_from h]; omega) (fun j V hj hV => h V (List.mem_of_getElem? hV)) (.inl (by rw [one_from h]; omega))
theorem one_chain {L : List Ver} (h : One L) : chainV L zeroK = L := by
  unfold chainV
  rw [one_from h, one_many h]
  simp
/-- Where a version goes. -/
def rk (L : List Ver) (V : Ver) : Nat := (L.takeWhile (fun X => decide (cmpS X.t X.n V.t V.n < 0))).length
theorem rk_le (L : List Ver) (V : Ver) : rk L V ≤ L.length := List.Sublist.length_le (List.takeWhile_sublist _)
theorem one_putR {L : List Ver} {V : Ver} (h : One L) (hV : V.k = zeroK) : putR L V = rk L V := by
  unfold putR rk
  rw [hV, one_chain h]
theorem one_clash {L : List Ver} {V : Ver} (h : One L) (hV : V.k = zeroK) : clashV L V = match L[rk L V]? with
  | none => false
  | some X => decide (X.t = V.t ∧ X.n = V.n) := by
  unfold clashV
  rw [one_putR h hV, hV, one_chain h]
  rfl
theorem rk_lt {L : List Ver} {V : Ver} {i : Nat} {X : Ver} (hi : i < rk L V) (hX : L[i]? = some X) : ltV X V := by
  have h : ∀ (M : List Ver) (j : Nat), j < (M.takeWhile (fun X => decide (cmpS X.t X.n V.t V.n < 0))).length → ∀ Y, M[j]? = some Y → ltV Y V := by
    intro M
    induction M with
    | nil => intro j hj; simp at hj
    | cons Z r ih =>
      intro j hj Y hY
      by_cases hz : decide (cmpS Z.t Z.n V.t V.n < 0) = true
      · cases j with
        | zero => simp at hY; subst hY; exact cmp_neg.1 (of_decide_eq_true hz)
        | succ j =>
          rw [List.takeWhile_cons, if_pos hz, List.length_cons] at hj
          exact ih j (by omega) Y (by simpa using hY)
      · rw [List.takeWhile_cons, if_neg hz] at hj
        simp at hj
  exact h L i hi X hX
theorem rk_stop : ∀ (L : List Ver) (V X : Ver), L[rk L V]? = some X → ¬ ltV X V := by
  intro L V
  unfold rk
  induction L with
  | nil => intro X h; simp at h
  | cons Z r ih =>
    intro X h
    by_cases hz : decide (cmpS Z.t Z.n V.t V.n < 0) = true
    · rw [List.takeWhile_cons, if_pos hz, List.length_cons] at h
      exact ih X (by simpa using h)
    · rw [List.takeWhile_cons, if_neg hz] at h
      simp at h
      subst h
      exact fun h => hz (decide_eq_true (cmp_neg.2 h))
theorem Ups.at {L : List Ver} (h : Ups L) {i j : Nat} {X Y : Ver} (hij : i < j) (hX : L[i]? = some X) (hY : L[j]? = some Y) : ltV X Y := by
  obtain ⟨h1, rfl⟩ := List.getElem?_eq_some_iff.1 hX
  obtain ⟨h2, rfl⟩ := List.getElem?_eq_some_iff.1 hY
  exact List.pairwise_iff_getElem.1 h i j h1 h2 hij
/-- Is there one at its stamp? -/
theorem clash_iff {L : List Ver} {V : Ver} (h : One L) (hu : Ups L) (hV : V.k = zeroK) : clashV L V = true ↔ ∃ X ∈ L, X.t = V.t ∧ X.n = V.n := by
  rw [one_clash h hV]
  constructor
  · intro hc
    cases hg : L[rk L V]? with
    | none => rw [hg] at hc; cases hc
    | some X => rw [hg] at hc; exact ⟨X, List.mem_of_getElem? hg, of_decide_eq_true hc⟩
  · rintro ⟨X, hX, he⟩
    obtain ⟨i, hi⟩ := List.getElem?_of_mem hX
    have h1 : ¬ i < rk L V := fun hlt => by have := rk_lt hlt hi; unfold ltS at this; omega
    have hr : rk L V < L.length := by have := (List.getElem?_eq_some_iff.1 hi).1; omega
    obtain ⟨Y, hY⟩ : ∃ Y, L[rk L V]? = some Y := ⟨_, List.getElem?_eq_getElem hr⟩
    rw [hY]
    refine decide_eq_true ?_
    by_cases e : i = rk L V
    · rw [e, hY] at hi; cases hi; exact he
    · have h2 := hu.at (show rk L V < i by omega) hY hi
      have h3 := rk_stop L V Y hY
      unfold ltS at h2 h3
      omega
theorem ups_ins {L : List Ver} {V : Ver} (hu : Ups L) (hn : ¬ ∃ X ∈ L, X.t = V.t ∧ X.n = V.n) : Ups (L.take (rk L V) ++ V :: L.drop (rk L V)) := by
  have hd : ∀ Y ∈ L.drop (rk L V), ltV V Y := fun Y hY => by
    obtain ⟨j, hj⟩ := List.getElem?_of_mem hY
    rw [List.getElem?_drop] at hj
    have hr : rk L V < L.length := by have := (List.getElem?_eq_some_iff.1 hj).1; omega
    obtain ⟨Z, hZ⟩ : ∃ Z, L[rk L V]? = some Z := ⟨_, List.getElem?_eq_getElem hr⟩
    have h1 := rk_stop L V Z hZ
    have h2 : ¬ (Z.t = V.t ∧ Z.n = V.n) := fun e => hn ⟨Z, List.mem_of_getElem? hZ, e⟩
    have h3 : ltV V Z := by unfold ltS at *; omega
    by_cases e : j = 0
    · subst e; rw [Nat.add_zero, hZ] at hj; cases hj; exact h3
    · exact ltS_trans h3 (hu.at (show rk L V < rk L V + j by omega) hZ hj)
  have ht : ∀ X ∈ L.take (rk L V), ltV X V := fun X hX => by
    obtain ⟨i, hi⟩ := List.getElem?_of_mem hX
    have hlt : i < rk L V := by have := (List.getElem?_eq_some_iff.1 hi).1; rw [List.length_take] at this; omega
    rw [List.getElem?_take_of_lt hlt] at hi
    exact rk_lt hlt hi
  unfold Ups
  rw [List.pairwise_append]
  refine ⟨List.Pairwise.sublist (List.take_sublist _ _) hu, ?_, fun X hX Y hY => ?_⟩
  · rw [List.pairwise_cons]
    exact ⟨hd, List.Pairwise.sublist (List.drop_sublist _ _) hu⟩
  · rcases List.mem_cons.1 hY with rfl | hY
    · exact ht X hX
    · exact ltS_trans (ht X hX) (hd Y hY)
theorem mem_ins {L : List Ver} {V X : Ver} (r : Nat) : X ∈ L.take r ++ V :: L.drop r ↔ X = V ∨ X ∈ L := by
  have : X ∈ L ↔ X ∈ L.take r ∨ X ∈ L.drop r := by rw [← List.mem_append, List.take_append_drop]
  rw [List.mem_append, List.mem_cons, this]
  constructor
  · rintro (h | h | h) <;> simp [h]
  · rintro (h | h | h) <;> simp [h]
/-- What a chain holds: of no key, rising, each may be, few. -/
structure Chn (L : List Ver) : Prop where
  one : One L
  ups : Ups L
  may : ∀ V ∈ L, mayV V = true
  ins : ∀ V ∈ L, 0 ≤ V.n ∧ V.n ≤ 255 ∧ ∀ z ∈ V.v, 0 ≤ z ∧ z ≤ 255
  few : L.length ≤ 50
theorem Chn.nil : Chn [] := ⟨fun V h => by simp at h, List.Pairwise.nil, fun V h => by simp at h, fun V h => by simp at h, by simp⟩
theorem put_one {L : List Ver} {V : Ver} (h : One L) (hV : V.k = zeroK) : putV L V = if mayV V = false then (1, L) else if clashV L V = true then (5, L) else if 50 ≤ L.length then (6, L) else (0, L.take (rk L V) ++ V :: L.drop (rk L V)) := by
  unfold putV putAt
  rw [one_putR h hV, hV, one_from h, one_many h, Nat.zero_add]
theorem Chn.put {L : List Ver} {V : Ver} (h : Chn L) (hV : V.k = zeroK) (hb : 0 ≤ V.n ∧ V.n ≤ 255 ∧ ∀ z ∈ V.v, 0 ≤ z ∧ z ≤ 255) : Chn (putV L V).2 := by
  rw [put_one h.one hV]
  by_cases h1 : mayV V = false
  · rw [if_pos h1]; exact h
  · rw [if_neg h1]
    by_cases h2 : clashV L V = true
    · rw [if_pos h2]; exact h
    · rw [if_neg h2]
      by_cases h3 : 50 ≤ L.length
      · rw [if_pos h3]; exact h
      · rw [if_neg h3]
        refine ⟨fun X hX => ?_, ups_ins h.ups (fun hc => h2 ((clash_iff h.one h.ups hV).2 hc)), fun X hX => ?_, fun X hX => ?_, ?_⟩
        · rcases (mem_ins _).1 hX with rfl | hX
          · exact hV
          · exact h.one X hX
        · rcases (mem_ins _).1 hX with rfl | hX
          · simpa using h1
          · exact h.may X hX
        · rcases (mem_ins _).1 hX with rfl | hX
          · exact hb
          · exact h.ins X hX
        · have := rk_le L V
          simp
          omega
theorem Chn.rest {L : List Ver} (h : Chn L) (t n : Int) : Chn (restV L t n) := by
  have hs : (restV L t n).Sublist L := List.filter_sublist
  exact ⟨fun X hX => h.one X (hs.subset hX), List.Pairwise.sublist hs h.ups, fun X hX => h.may X (hs.subset hX), fun X hX => h.ins X (hs.subset hX), Nat.le_trans hs.length_le h.few⟩
end Go.Proofs.Ytcppihpehipelaa

namespace Go.Proofs.Ytcppihpehipelaa
set_option linter.unusedVariables false

/-! ### At -/
theorem at_one {L : List Ver} (h : One L) (t n : Int) : atV L zeroK t n = L.reverse.find? (fun X => decide (cmpS X.t X.n t n ≤ 0)) := by
  unfold atV
  rw [one_chain h]
/-! ### Trim -/
/-! ### Since -/
end Go.Proofs.Ytcppihpehipelaa

