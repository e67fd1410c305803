/-
  Versions of one key, rising by their stamps: what puts and trims make of them, what is seen at a time.
  What follows for chains: puts in any order, what a trim leaves to be seen, how many are behind a time.
-/
import Derived.Test.YtmiafadmcpmjgaaPa
namespace Go.Proofs.Ytmiafadmcpmjgaa
set_option linter.unusedVariables false

abbrev ltV (A B : Ver) : Prop := ltS A.t A.n B.t B.n
theorem ltS_trans {a b c d e f : Int} (h1 : ltS a b c d) (h2 : ltS c d e f) : ltS a b e f := by unfold ltS at *; omega
theorem cmp_neg {a b c d : Int} : cmpS a b c d < 0 ↔ ltS a b c d := by
  rcases cmp_ways a b c d with ⟨h1, h2, _⟩ | ⟨h1, h1', h2, _⟩ | ⟨h1, h2, _⟩ <;> unfold ltS at * <;> omega
theorem cmp_pos {a b c d : Int} : 0 < cmpS a b c d ↔ ltS c d a b := by
  rcases cmp_ways a b c d with ⟨h1, h2, _⟩ | ⟨h1, h1', h2, _⟩ | ⟨h1, h2, _⟩ <;> unfold ltS at * <;> omega
theorem cmp_nil {a b c d : Int} : cmpS a b c d = 0 ↔ a = c ∧ b = d := by
  rcases cmp_ways a b c d with ⟨h1, h2, _⟩ | ⟨h1, h1', h2, _⟩ | ⟨h1, h2, _⟩ <;> (try unfold ltS at h1) <;> omega
theorem ltV_irr (Z : Ver) : ¬ ltV Z Z := fun hz => by
  have hz : ltS Z.t Z.n Z.t Z.n := hz
  unfold ltS at hz
  omega
/-- All of no key. -/
def One (L : List Ver) : Prop := ∀ V ∈ L, V.k = zeroK
/-- Rising. -/
def Ups (L : List Ver) : Prop := L.Pairwise ltV
theorem one_from {L : List Ver} (h : One L) : kFrom L zeroK = 0 := by
  refine kFrom_is (Nat.zero_le _) (fun j V hj => by omega) ?_
  cases L with
  | nil => exact .inl rfl
  | cons V r => exact .inr ⟨V, rfl, by rw [h V (by simp), lexC_self]; omega⟩
theorem one_many {L : List Ver} (h : One L) : kMany L zeroK = L.length := by
  refine kMany_is (by rw [one_from h]; omega) (fun j V hj hV => h V (List.mem_of_getElem? hV)) (.inl (by rw [one_from h]; omega))
theorem one_chain {L : List Ver} (h : One L) : chainV L zeroK = L := by
  unfold chainV
  rw [one_from h, one_many h]
  simp
/-- Where a version goes. -/
def rk (L : List Ver) (V : Ver) : Nat := (L.takeWhile (fun X => decide (cmpS X.t X.n V.t V.n < 0))).length
theorem rk_le (L : List Ver) (V : Ver) : rk L V ≤ L.length := List.Sublist.length_le (List.takeWhile_sublist _)
theorem one_putR {L : List Ver} {V : Ver} (h : One L) (hV : V.k = zeroK) : putR L V = rk L V := by
  unfold putR rk
  rw [hV, one_chain h]
theorem one_clash {L : List Ver} {V : Ver} (h : One L) (hV : V.k = zeroK) : clashV L V = match L[rk L V]? with
  | none => false
  | some X => decide (X.t = V.t ∧ X.n = V.n) := by
  unfold clashV
  rw [one_putR h hV, hV, one_chain h]
  rfl
theorem rk_lt {L : List Ver} {V : Ver} {i : Nat} {X : Ver} (hi : i < rk L V) (hX : L[i]? = some X) : ltV X V := by
  have h : ∀ (M : List Ver) (j : Nat), j < (M.takeWhile (fun X => decide (cmpS X.t X.n V.t V.n < 0))).length → ∀ Y, M[j]? = some Y → ltV Y V := by
    intro M
    induction M with
    | nil => intro j hj; simp at hj
    | cons Z r ih =>
      intro j hj Y hY
      by_cases hz : decide (cmpS Z.t Z.n V.t V.n < 0) = true
      · cases j with
        | zero => simp at hY; subst hY; exact cmp_neg.1 (of_decide_eq_true hz)
        | succ j =>
          rw [List.takeWhile_cons, if_pos hz, List.length_cons] at hj
          exact ih j (by omega) Y (by simpa using hY)
      · rw [List.takeWhile_cons, if_neg hz] at hj
        simp at hj
  exact h L i hi X hX
theorem rk_stop : ∀ (L : List Ver) (V X : Ver), L[rk L V]? = some X → ¬ ltV X V := by
  intro L V
  unfold rk
  induction L with
  | nil => intro X h; simp at h
  | cons Z r ih =>
    intro X h
    by_cases hz : decide (cmpS Z.t Z.n V.t V.n < 0) = true
    · rw [List.takeWhile_cons, if_pos hz, List.length_cons] at h
      exact ih X (by simpa using h)
    · rw [List.takeWhile_cons, if_neg hz] at h
      simp at h
      subst h
      exact fun h => hz (decide_eq_true (cmp_neg.2 h))
theorem Ups.at {L : List Ver} (h : Ups L) {i j : Nat} {X Y : Ver} (hij : i < j) (hX : L[i]? = some X) (hY : L[j]? = some Y) : ltV X Y := by
  obtain ⟨h1, rfl⟩ := List.getElem?_eq_some_iff.1 hX
  obtain ⟨h2, rfl⟩ := List.getElem?_eq_some_iff.1 hY
  exact List.pairwise_iff_getElem.1 h i j h1 h2 hij
/-- Is there one at its stamp? -/
theorem clash_iff {L : List Ver} {V : Ver} (h : One L) (hu : Ups L) (hV : V.k = zeroK) : clashV L V = true ↔ ∃ X ∈ L, X.t = V.t ∧ X.n = V.n := by
  rw [one_clash h hV]
  constructor
  · intro hc
    cases hg : L[rk L V]? with
    | none => rw [hg] at hc; cases hc
    | some X => rw [hg] at hc; exact ⟨X, List.mem_of_getElem? hg, of_decide_eq_true hc⟩
  · rintro ⟨X, hX, he⟩
    obtain ⟨i, hi⟩ := List.getElem?_of_mem hX
    have h1 : ¬ i < rk L V := fun hlt => by have := rk_lt hlt hi; unfold ltS at this; omega
    have hr : rk L V < L.length := by have := (List.getElem?_eq_some_iff.1 hi).1; omega
    obtain ⟨Y, hY⟩ : ∃ Y, L[rk L V]? = some Y := ⟨_, List.getElem?_eq_getElem hr⟩
    rw [hY]
    refine decide_eq_true ?_
    by_cases e : i = rk L V
    · rw [e, hY] at hi; cases hi; exact he
    · have h2 := hu.at (show rk L V < i by omega) hY hi
      have h3 := rk_stop L V Y hY
      unfold ltS at h2 h3
      omega
theorem ups_ins {L : List Ver} {V : Ver} (hu : Ups L) (hn : ¬ ∃ X ∈ L, X.t = V.t ∧ X.n = V.n) : Ups (L.take (rk L V) ++ V :: L.drop (rk L V)) := by
  have hd : ∀ Y ∈ L.drop (rk L V), ltV V Y := fun Y hY => by
    obtain ⟨j, hj⟩ := List.getElem?_of_mem hY
    rw [List.getElem?_drop] at hj
    have hr : rk L V < L.length := by have := (List.getElem?_eq_some_iff.1 hj).1; omega
    obtain ⟨Z, hZ⟩ : ∃ Z, L[rk L V]? = some Z := ⟨_, List.getElem?_eq_getElem hr⟩
    have h1 := rk_stop L V Z hZ
    have h2 : ¬ (Z.t = V.t ∧ Z.n = V.n) := fun e => hn ⟨Z, List.mem_of_getElem? hZ, e⟩
    have h3 : ltV V Z := by unfold ltS at *; omega
    by_cases e : j = 0
    · subst e; rw [Nat.add_zero, hZ] at hj; cases hj; exact h3
    · exact ltS_trans h3 (hu.at (show rk L V < rk L V + j by omega) hZ hj)
  have ht : ∀ X ∈ L.take (rk L V), ltV X V := fun X hX => by
    obtain ⟨i, hi⟩ := List.getElem?_of_mem hX
    have hlt : i < rk L V := by have := (List.getElem?_eq_some_iff.1 hi).1; rw [List.length_take] at this; omega
    rw [List.getElem?_take_of_lt hlt] at hi
    exact rk_lt hlt hi
  unfold Ups
  rw [List.pairwise_append]
  refine ⟨List.Pairwise.sublist (List.take_sublist _ _) hu, ?_, fun X hX Y hY => ?_⟩
  · rw [List.pairwise_cons]
    exact ⟨hd, List.Pairwise.sublist (List.drop_sublist _ _) hu⟩
  · rcases List.mem_cons.1 hY with rfl | hY
    · exact ht X hX
    · exact ltS_trans (ht X hX) (hd Y hY)
theorem mem_ins {L : List Ver} {V X : Ver} (r : Nat) : X ∈ L.take r ++ V :: L.drop r ↔ X = V ∨ X ∈ L := by
  have : X ∈ L ↔ X ∈ L.take r ∨ X ∈ L.drop r := by rw [← List.mem_append, List.take_append_drop]
  rw [List.mem_append, List.mem_cons, this]
  constructor
  · rintro (h | h | h) <;> simp [h]
  · rintro (h | h | h) <;> simp [h]
/-- What a chain holds: of no key, rising, each may be, few. -/
structure Chn (L : List Ver) : Prop where
  one : One L
  ups : Ups L
  may : ∀ V ∈ L, mayV V = true
  ins : ∀ V ∈ L, 0 ≤ V.n ∧ V.n ≤ 255 ∧ ∀ z ∈ V.v, 0 ≤ z ∧ z ≤ 255
  few : L.length ≤ 50
theorem Chn.nil : Chn [] := ⟨fun V h => by simp at h, List.Pairwise.nil, fun V h => by simp at h, fun V h => by simp at h, by simp⟩
theorem put_one {L : List Ver} {V : Ver} (h : One L) (hV : V.k = zeroK) : putV L V = if mayV V = false then (1, L) else if clashV L V = true then (5, L) else if 50 ≤ L.length then (6, L) else (0, L.take (rk L V) ++ V :: L.drop (rk L V)) := by
  unfold putV putAt
  rw [one_putR h hV, hV, one_from h, one_many h, Nat.zero_add]
theorem Chn.put {L : List Ver} {V : Ver} (h : Chn L) (hV : V.k = zeroK) (hb : 0 ≤ V.n ∧ V.n ≤ 255 ∧ ∀ z ∈ V.v, 0 ≤ z ∧ z ≤ 255) : Chn (putV L V).2 := by
  rw [put_one h.one hV]
  by_cases h1 : mayV V = false
  · rw [if_pos h1]; exact h
  · rw [if_neg h1]
    by_cases h2 : clashV L V = true
    · rw [if_pos h2]; exact h
    · rw [if_neg h2]
      by_cases h3 : 50 ≤ L.length
      · rw [if_pos h3]; exact h
      · rw [if_neg h3]
        refine ⟨fun X hX => ?_, ups_ins h.ups (fun hc => h2 ((clash_iff h.one h.ups hV).2 hc)), fun X hX => ?_, fun X hX => ?_, ?_⟩
        · rcases (mem_ins _).1 hX with rfl | hX
          · exact hV
          · exact h.one X hX
        · rcases (mem_ins _).1 hX with rfl | hX
          · simpa using h1
          · exact h.may X hX
        · rcases (mem_ins _).1 hX with rfl | hX
          · exact hb
          · exact h.ins X hX
        · have := rk_le L V
          simp
          omega
theorem Chn.rest {L : List Ver} (h : Chn L) (t n : Int) : Chn (restV L t n) := by
  have hs : (restV L t n).Sublist L := List.filter_sublist
  exact ⟨fun X hX => h.one X (hs.subset hX), List.Pairwise.sublist hs h.ups, fun X hX => h.may X (hs.subset hX), fun X hX => h.ins X (hs.subset hX), Nat.le_trans hs.length_le h.few⟩
theorem ups_ext : ∀ {A B : List Ver}, Ups A → Ups B → (∀ X, X ∈ A ↔ X ∈ B) → A = B
  | [], [], _, _, _ => rfl
  | [], Y :: s, _, _, h => by have := (h Y).2 (by simp); simp at this
  | X :: r, [], _, _, h => by have := (h X).1 (by simp); simp at this
  | X :: r, Y :: s, ha, hb, h => by
    have a1 := List.pairwise_cons.1 ha
    have b1 := List.pairwise_cons.1 hb
    have irr := ltV_irr
    have e : X = Y := by
      rcases List.mem_cons.1 ((h X).1 (by simp)) with e | e
      · exact e
      · rcases List.mem_cons.1 ((h Y).2 (by simp)) with e' | e'
        · exact e'.symm
        · exact absurd (ltS_trans (b1.1 X e) (a1.1 Y e')) (irr Y)
    subst e
    rw [ups_ext a1.2 b1.2 fun Z => ?_]
    constructor
    · intro hm
      rcases List.mem_cons.1 ((h Z).1 (by simp [hm])) with e | e
      · subst e; exact absurd (a1.1 Z hm) (irr Z)
      · exact e
    · intro hm
      rcases List.mem_cons.1 ((h Z).2 (by simp [hm])) with e | e
      · subst e; exact absurd (b1.1 Z hm) (irr Z)
      · exact e
/-- Versions put one behind the other. -/
def putsV (l : List Ver) : List Ver := l.foldl (fun L V => (putV L V).2) []
theorem puts_snoc (l : List Ver) (V : Ver) : putsV (l ++ [V]) = (putV (putsV l) V).2 := by simp [putsV, List.foldl_append]
end Go.Proofs.Ytmiafadmcpmjgaa

namespace Go.Proofs.Ytmiafadmcpmjgaa
set_option linter.unusedVariables false

/-- A version that may be put. -/
structure Pv (V : Ver) : Prop where
  key : V.k = zeroK
  ins : 0 ≤ V.n ∧ V.n ≤ 255 ∧ ∀ z ∈ V.v, 0 ≤ z ∧ z ≤ 255
theorem put_zero {L : List Ver} {V : Ver} (h : Chn L) (hV : V.k = zeroK) (hf : L.length < 50) : (putV L V).1 = 0 ↔ mayV V = true ∧ ¬ ∃ X ∈ L, X.t = V.t ∧ X.n = V.n := by
  rw [put_one h.one hV, ← clash_iff h.one h.ups hV]
  by_cases h1 : mayV V = false
  · rw [if_pos h1]; simp [h1]
  · rw [if_neg h1]
    by_cases h2 : clashV L V = true
    · rw [if_pos h2]; simp [h2]
    · rw [if_neg h2, if_neg (by omega)]; simp [h2, (by simpa using h1 : mayV V = true)]
theorem put_mem {L : List Ver} {V X : Ver} (h : Chn L) (hV : V.k = zeroK) (hf : L.length < 50) : X ∈ (putV L V).2 ↔ X ∈ L ∨ (X = V ∧ (putV L V).1 = 0) := by
  rw [put_one h.one hV]
  by_cases h1 : mayV V = false
  · rw [if_pos h1]; simp
  · rw [if_neg h1]
    by_cases h2 : clashV L V = true
    · rw [if_pos h2]; simp
    · rw [if_neg h2, if_neg (by omega)]
      rw [mem_ins]
      simp
      exact or_comm
theorem put_len {L : List Ver} {V : Ver} (h : Chn L) (hV : V.k = zeroK) : (putV L V).2.length ≤ L.length + 1 := by
  rw [put_one h.one hV]
  have := rk_le L V
  split
  · simp
  · split
    · simp
    · split
      · simp
      · simp; omega
theorem puts_facts (l : List Ver) (hl : l.length ≤ 49) (hp : ∀ V ∈ l, Pv V) : Chn (putsV l) ∧ (∀ X ∈ putsV l, X ∈ l) ∧ (putsV l).length ≤ l.length := by
  induction l using snoc_ind with
  | h0 => exact ⟨Chn.nil, fun X h => h, Nat.le_refl _⟩
  | h1 l V ih =>
    rw [List.length_append, List.length_singleton] at hl
    obtain ⟨c, m, s⟩ := ih (by omega) (fun X hX => hp X (by simp [hX]))
    have hV := hp V (by simp)
    rw [puts_snoc]
    refine ⟨c.put hV.key hV.ins, fun X hX => ?_, ?_⟩
    · rcases (put_mem c hV.key (by omega)).1 hX with h | ⟨h, _⟩
      · simp [m X h]
      · simp [h]
    · have := put_len (V := V) c hV.key
      simp; omega
/-- No two have one stamp. -/
def Dst (l : List Ver) : Prop := l.Pairwise fun A B => ¬ (A.t = B.t ∧ A.n = B.n)
theorem puts_all (l : List Ver) (hl : l.length ≤ 49) (hp : ∀ V ∈ l, Pv V) (hd : Dst l) : ∀ X, X ∈ putsV l ↔ X ∈ l ∧ mayV X = true := by
  induction l using snoc_ind with
  | h0 => intro X; simp [putsV]
  | h1 l V ih =>
    rw [List.length_append, List.length_singleton] at hl
    unfold Dst at hd
    rw [List.pairwise_append] at hd
    have hp' : ∀ X ∈ l, Pv X := fun X hX => hp X (by simp [hX])
    have ih := ih (by omega) hp' hd.1
    obtain ⟨c, m, s⟩ := puts_facts l (by omega) hp'
    have hV := hp V (by simp)
    intro X
    rw [puts_snoc, put_mem c hV.key (by omega), put_zero c hV.key (by omega), ih X]
    constructor
    · rintro (⟨h1, h2⟩ | ⟨rfl, h2, _⟩)
      · exact ⟨by simp [h1], h2⟩
      · exact ⟨by simp, h2⟩
    · rintro ⟨h1, h2⟩
      rcases List.mem_append.1 h1 with h1 | h1
      · exact .inl ⟨h1, h2⟩
      · simp at h1
        subst h1
        refine .inr ⟨rfl, h2, ?_⟩
        rintro ⟨Y, hY, he⟩
        exact hd.2.2 Y (m Y hY) X (by simp) he
theorem puts_order (l : List Ver) (hl : l.length ≤ 49) (hp : ∀ V ∈ l, Pv V) (hd : Dst l) : putsV l = putsV l.reverse := by
  have hp' : ∀ V ∈ l.reverse, Pv V := fun V hV => hp V (List.mem_reverse.1 hV)
  have hd' : Dst l.reverse := by
    unfold Dst
    rw [List.pairwise_reverse]
    exact hd.imp fun h e => h ⟨e.1.symm, e.2.symm⟩
  refine ups_ext (puts_facts l hl hp).1.ups (puts_facts l.reverse (by simpa using hl) hp').1.ups fun X => ?_
  rw [puts_all l hl hp hd, puts_all l.reverse (by simpa using hl) hp' hd', List.mem_reverse]
/-! ### At -/
theorem at_one {L : List Ver} (h : One L) (t n : Int) : atV L zeroK t n = L.reverse.find? (fun X => decide (cmpS X.t X.n t n ≤ 0)) := by
  unfold atV
  rw [one_chain h]
theorem not_above {X : Ver} {t n : Int} : decide (cmpS X.t X.n t n ≤ 0) = true ↔ ¬ ltS t n X.t X.n := by
  rw [decide_eq_true_iff, ← cmp_pos]
  omega
theorem at_none_iff {L : List Ver} (h : One L) {t n : Int} : atV L zeroK t n = none ↔ ∀ Y ∈ L, ltS t n Y.t Y.n := by
  rw [at_one h, List.find?_eq_none]
  constructor
  · intro hh Y hY
    have := hh Y (List.mem_reverse.2 hY)
    rw [not_above] at this
    exact Classical.not_not.1 this
  · intro hh Y hY
    rw [not_above]
    exact fun hn => hn (hh Y (List.mem_reverse.1 hY))
theorem at_some_facts {L : List Ver} (h : One L) (hu : Ups L) {t n : Int} {X : Ver} (hx : atV L zeroK t n = some X) : X ∈ L ∧ ¬ ltS t n X.t X.n ∧ ∀ Y ∈ L, ¬ ltS t n Y.t Y.n → Y = X ∨ ltV Y X := by
  rw [at_one h] at hx
  obtain ⟨hp, ps, bs, hl, ha⟩ := List.find?_eq_some_iff_append.1 hx
  have hL : L = bs.reverse ++ X :: ps.reverse := by
    have := congrArg List.reverse hl
    rw [List.reverse_reverse] at this
    rw [this]
    simp
  refine ⟨by rw [hL]; simp, not_above.1 hp, fun Y hY hn => ?_⟩
  rw [hL] at hY hu
  unfold Ups at hu
  rw [List.pairwise_append] at hu
  rcases List.mem_append.1 hY with hY | hY
  · exact .inr (hu.2.2 Y hY X (by simp))
  · rcases List.mem_cons.1 hY with hY | hY
    · exact .inl hY
    · have := ha Y (List.mem_reverse.1 hY)
      rw [not_above.2 hn] at this
      simp at this
theorem at_is {L : List Ver} (h : One L) (hu : Ups L) {t n : Int} {X : Ver} (hm : X ∈ L) (hn : ¬ ltS t n X.t X.n) (hmax : ∀ Y ∈ L, ¬ ltS t n Y.t Y.n → Y = X ∨ ltV Y X) : atV L zeroK t n = some X := by
  cases hx : atV L zeroK t n with
  | none => exact absurd ((at_none_iff h).1 hx X hm) hn
  | some Z =>
    obtain ⟨z1, z2, z3⟩ := at_some_facts h hu hx
    rcases z3 X hm hn with e | e
    · rw [e]
    · rcases hmax Z z1 z2 with e' | e'
      · rw [e']
      · exact absurd (ltS_trans e e') (ltV_irr X)
theorem ups_same {L : List Ver} (hu : Ups L) {X Y : Ver} (hX : X ∈ L) (hY : Y ∈ L) (he : X.t = Y.t ∧ X.n = Y.n) : X = Y := by
  obtain ⟨i, hi⟩ := List.getElem?_of_mem hX
  obtain ⟨j, hj⟩ := List.getElem?_of_mem hY
  rcases Nat.lt_trichotomy i j with h | h | h
  · have : ltS X.t X.n Y.t Y.n := hu.at h hi hj
    unfold ltS at this
    omega
  · subst h; rw [hi] at hj; injection hj
  · have : ltS Y.t Y.n X.t X.n := hu.at h hj hi
    unfold ltS at this
    omega
/-! ### Trim -/
theorem rest_none {L : List Ver} (h : One L) {t n : Int} (hx : atV L zeroK t n = none) : restV L t n = L := by
  unfold restV
  refine List.filter_eq_self.2 fun V hV => ?_
  unfold goesV
  rw [h V hV, hx]
  rfl
theorem rest_mem {L : List Ver} (h : One L) {t n : Int} {X V : Ver} (hx : atV L zeroK t n = some X) : V ∈ restV L t n ↔ V ∈ L ∧ ¬ ltV V X ∧ ¬ ((V.t = X.t ∧ V.n = X.n) ∧ X.g = true) := by
  unfold restV
  rw [List.mem_filter]
  constructor
  · rintro ⟨h1, h2⟩
    unfold goesV at h2
    rw [h V h1, hx] at h2
    simp only [Bool.not_eq_true', Bool.or_eq_false_iff, Bool.and_eq_false_iff, decide_eq_false_iff_not] at h2
    refine ⟨h1, fun hl => h2.1 (cmp_neg.2 hl), fun ⟨e, g⟩ => ?_⟩
    rcases h2.2 with h3 | h3
    · exact h3 (cmp_nil.2 e)
    · rw [g] at h3; cases h3
  · rintro ⟨h1, h2, h3⟩
    refine ⟨h1, ?_⟩
    unfold goesV
    rw [h V h1, hx]
    simp only [Bool.not_eq_true', Bool.or_eq_false_iff, Bool.and_eq_false_iff, decide_eq_false_iff_not]
    refine ⟨fun hc => h2 (cmp_neg.1 hc), ?_⟩
    by_cases hg : X.g = true
    · exact .inl fun hc => h3 ⟨cmp_nil.1 hc, hg⟩
    · exact .inr (by simpa using hg)
theorem trim_same {L : List Ver} (h : Chn L) (t n : Int) : restV (restV L t n) t n = restV L t n := by
  cases hx : atV L zeroK t n with
  | none => rw [rest_none h.one hx, rest_none h.one hx]
  | some X =>
    obtain ⟨x1, x2, x3⟩ := at_some_facts h.one h.ups hx
    have hr := h.rest t n
    by_cases hg : X.g = true
    · refine rest_none hr.one ((at_none_iff hr.one).2 fun Y hY => ?_)
      obtain ⟨y1, y2, y3⟩ := (rest_mem h.one hx).1 hY
      refine Classical.byContradiction fun hn => ?_
      rcases x3 Y y1 hn with e | e
      · exact y3 ⟨by rw [e]; exact ⟨rfl, rfl⟩, hg⟩
      · exact y2 e
    · have hXm : X ∈ restV L t n := (rest_mem h.one hx).2 ⟨x1, ltV_irr X, fun hc => hg hc.2⟩
      have ha : atV (restV L t n) zeroK t n = some X := at_is hr.one hr.ups hXm x2 fun Y hY hn => x3 Y ((rest_mem h.one hx).1 hY).1 hn
      refine ups_ext (hr.rest t n).ups hr.ups fun V => ?_
      rw [rest_mem hr.one ha]
      constructor
      · exact fun hc => hc.1
      · exact fun hc => ⟨hc, ((rest_mem h.one hx).1 hc).2⟩
theorem trim_at {L : List Ver} (h : Chn L) {s m t n : Int} (hst : ¬ ltS t n s m) : atV (restV L s m) zeroK t n = atV L zeroK t n ∨ (atV (restV L s m) zeroK t n = none ∧ ∃ X, atV L zeroK t n = some X ∧ X.g = true) := by
  cases hx : atV L zeroK s m with
  | none => rw [rest_none h.one hx]; exact .inl rfl
  | some X =>
    obtain ⟨x1, x2, x3⟩ := at_some_facts h.one h.ups hx
    have hr := h.rest s m
    have hxt : ¬ ltS t n X.t X.n := by unfold ltS at *; omega
    cases hy : atV L zeroK t n with
    | none => exact absurd ((at_none_iff h.one).1 hy X x1) hxt
    | some Y =>
      obtain ⟨y1, y2, y3⟩ := at_some_facts h.one h.ups hy
      by_cases hin : Y ∈ restV L s m
      · exact .inl (at_is hr.one hr.ups hin y2 fun Z hZ hn => y3 Z ((rest_mem h.one hx).1 hZ).1 hn)
      · have hXY : X = Y ∨ ltV X Y := y3 X x1 hxt
        have hne : ¬ ltV Y X := fun hc => by
          rcases hXY with e | e
          · rw [e] at hc; exact ltV_irr Y hc
          · exact ltV_irr Y (ltS_trans hc e)
        have hc : (Y.t = X.t ∧ Y.n = X.n) ∧ X.g = true := Classical.byContradiction fun hc => hin ((rest_mem h.one hx).2 ⟨y1, hne, hc⟩)
        have e := ups_same h.ups y1 x1 hc.1
        refine .inr ⟨(at_none_iff hr.one).2 fun Z hZ => ?_, Y, rfl, by rw [e]; exact hc.2⟩
        obtain ⟨z1, z2, z3⟩ := (rest_mem h.one hx).1 hZ
        refine Classical.byContradiction fun hn => ?_
        rcases y3 Z z1 hn with e' | e'
        · exact z3 ⟨by rw [e', e]; exact ⟨rfl, rfl⟩, hc.2⟩
        · rw [e] at e'; exact z2 e'
/-! ### Since -/
def sinceV (L : List Ver) (t n : Int) : Nat := (L.filter fun X => decide (0 < cmpS X.t X.n t n)).length
theorem since_le (L : List Ver) (t n : Int) : sinceV L t n ≤ L.length := List.length_filter_le _ _
theorem filter_less {α : Type} {p q : α → Bool} : ∀ {l : List α}, (∀ x ∈ l, q x = true → p x = true) → (l.filter q).length ≤ (l.filter p).length ∧ ((l.filter q).length < (l.filter p).length ↔ ∃ x ∈ l, p x = true ∧ q x = false)
  | [], _ => by simp
  | a :: r, h => by
    obtain ⟨h1, h2⟩ := filter_less (l := r) (fun x hx => h x (by simp [hx]))
    have ha := h a (by simp)
    rw [List.filter_cons, List.filter_cons]
    cases hq : q a <;> cases hp : p a
    · simp only [Bool.false_eq_true, if_false]
      refine ⟨h1, h2.trans ⟨fun ⟨x, hx, e⟩ => ⟨x, by simp [hx], e⟩, fun ⟨x, hx, e⟩ => ?_⟩⟩
      rcases List.mem_cons.1 hx with rfl | hx
      · rw [hp] at e; cases e.1
      · exact ⟨x, hx, e⟩
    · simp only [Bool.false_eq_true, if_false, if_true, List.length_cons]
      exact ⟨by omega, ⟨fun _ => ⟨a, by simp, hp, hq⟩, fun _ => by omega⟩⟩
    · rw [ha hq] at hp; cases hp
    · simp only [if_true, List.length_cons]
      refine ⟨by omega, ⟨fun hlt => ?_, fun ⟨x, hx, e⟩ => ?_⟩⟩
      · obtain ⟨x, hx, e⟩ := h2.1 (by omega)
        exact ⟨x, by simp [hx], e⟩
      · rcases List.mem_cons.1 hx with rfl | hx
        · rw [hq] at e; cases e.2
        · have := h2.2 ⟨x, hx, e⟩; omega
theorem since_between {L : List Ver} {a b c d : Int} (hab : ¬ ltS c d a b) : sinceV L c d < sinceV L a b ↔ ∃ X ∈ L, ltS a b X.t X.n ∧ ¬ ltS c d X.t X.n := by
  unfold sinceV
  rw [(filter_less (l := L) (p := fun X => decide (0 < cmpS X.t X.n a b)) (q := fun X => decide (0 < cmpS X.t X.n c d)) (fun x hx hq => ?_)).2]
  · constructor
    · rintro ⟨X, hX, h1, h2⟩
      exact ⟨X, hX, cmp_pos.1 (of_decide_eq_true h1), fun h => of_decide_eq_false h2 (cmp_pos.2 h)⟩
    · rintro ⟨X, hX, h1, h2⟩
      exact ⟨X, hX, decide_eq_true (cmp_pos.2 h1), decide_eq_false (fun h => h2 (cmp_pos.1 h))⟩
  · have := cmp_pos.1 (of_decide_eq_true hq)
    refine decide_eq_true (cmp_pos.2 ?_)
    unfold ltS at *
    omega
theorem since_at {L : List Ver} (h : One L) (hu : Ups L) {t n : Int} {X : Ver} (hx : atV L zeroK t n = some X) : sinceV L X.t X.n = sinceV L t n := by
  obtain ⟨x1, x2, x3⟩ := at_some_facts h hu hx
  unfold sinceV
  congr 1
  refine List.filter_congr fun Y hY => ?_
  rw [Bool.eq_iff_iff, decide_eq_true_iff, decide_eq_true_iff, cmp_pos, cmp_pos]
  constructor
  · intro hl
    refine Classical.byContradiction fun hn => ?_
    rcases x3 Y hY hn with e | e
    · rw [e] at hl; exact ltV_irr X hl
    · exact ltV_irr X (ltS_trans hl e)
  · intro hl
    unfold ltS at *
    omega
theorem at_between {L : List Ver} (h : One L) (hu : Ups L) {a b c d : Int} (hab : ¬ ltS c d a b) (hn : ¬ ∃ X ∈ L, ltS a b X.t X.n ∧ ¬ ltS c d X.t X.n) : atV L zeroK a b = atV L zeroK c d := by
  have key : ∀ X ∈ L, ¬ ltS c d X.t X.n → ¬ ltS a b X.t X.n := fun X hX hc ha => hn ⟨X, hX, ha, hc⟩
  have back : ∀ X : Ver, ¬ ltS a b X.t X.n → ¬ ltS c d X.t X.n := fun X hc ha => by unfold ltS at *; omega
  cases hx : atV L zeroK c d with
  | none =>
    refine (at_none_iff h).2 fun Y hY => ?_
    exact Classical.byContradiction fun hc => back Y hc ((at_none_iff h).1 hx Y hY)
  | some X =>
    obtain ⟨x1, x2, x3⟩ := at_some_facts h hu hx
    exact at_is h hu x1 (key X x1 x2) fun Y hY hc => x3 Y hY (back Y hc)
theorem at_later {L : List Ver} (h : One L) {a b c d : Int} (hab : ¬ ltS c d a b) (ha : (atV L zeroK a b).isSome = true) : (atV L zeroK c d).isSome = true := by
  cases hx : atV L zeroK c d with
  | some X => rfl
  | none =>
    have : atV L zeroK a b = none := (at_none_iff h).2 fun Y hY => by
      have := (at_none_iff h).1 hx Y hY
      unfold ltS at *
      omega
    rw [this] at ha
    cases ha
end Go.Proofs.Ytmiafadmcpmjgaa

