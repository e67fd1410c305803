/-
  All versions of all keys as one list, by keys, then stamps, held against one list a key: what is there of a key, what a put and a trim leave of each key. No program is named here.
-/
import Derived.Test.YtcppihpehipelaaAu38
namespace Go.Proofs.Ytcppihpehipelaa
open Go.RowKit
set_option linter.unusedVariables false

theorem tw_in {α : Type} {p : α → Bool} : ∀ {L : List α} {j : Nat} {X : α}, j < (L.takeWhile p).length → L[j]? = some X → p X = true
  | [], j, X, h, _ => by simp at h
  | Y :: R, j, X, h, hX => by
    cases hp : p Y with
    | false => rw [List.takeWhile_cons_of_neg (by simp [hp])] at h; simp at h
    | true =>
      rw [List.takeWhile_cons_of_pos hp] at h
      cases j with
      | zero => simp at hX; rw [← hX]; exact hp
      | succ j => exact tw_in (L := R) (j := j) (by simpa using h) (by simpa using hX)
theorem tw_end {α : Type} {p : α → Bool} : ∀ {L : List α} {X : α}, L[(L.takeWhile p).length]? = some X → p X = false
  | [], X, h => by simp at h
  | Y :: R, X, h => by
    cases hp : p Y with
    | false => rw [List.takeWhile_cons_of_neg (by simp [hp])] at h; simp at h; rw [← h]; exact hp
    | true =>
      rw [List.takeWhile_cons_of_pos hp] at h
      exact tw_end (L := R) (by simpa using h)
/-- By keys, then stamps. -/
def ltK (A B : Ver) : Prop := lexC A.k B.k = -1 ∨ (A.k = B.k ∧ ltV A B)
def OrdK (L : List Ver) : Prop := L.Pairwise ltK
theorem OrdK.at {L : List Ver} (h : OrdK L) {i j : Nat} {X Y : Ver} (hij : i < j) (hX : L[i]? = some X) (hY : L[j]? = some Y) : ltK X Y := by
  obtain ⟨hi, rfl⟩ := List.getElem?_eq_some_iff.1 hX
  obtain ⟨hj, rfl⟩ := List.getElem?_eq_some_iff.1 hY
  exact List.pairwise_iff_getElem.1 h i j hi hj hij
theorem lex_neg {a b : List Int} : lexC a b < 0 ↔ lexC a b = -1 := by
  rcases lexC_ways a b with h | h | h <;> omega
/-- Where each key stands. -/
theorem key_places {L : List Ver} (h : OrdK L) (k : List Int) (j : Nat) (X : Ver) (hX : L[j]? = some X) : (j < kFrom L k → lexC X.k k = -1) ∧ (kFrom L k ≤ j → j < kFrom L k + kMany L k → X.k = k) ∧ (kFrom L k + kMany L k ≤ j → lexC k X.k = -1) := by
  have hjl := (List.getElem?_eq_some_iff.1 hX).1
  refine ⟨fun hj => ?_, fun h1 h2 => ?_, fun hj => ?_⟩
  · exact lex_neg.1 (of_decide_eq_true (tw_in (p := fun V : Ver => decide (lexC V.k k < 0)) hj hX))
  · have e : (L.drop (kFrom L k))[j - kFrom L k]? = some X := by rw [List.getElem?_drop, Nat.add_sub_cancel' h1]; exact hX
    exact of_decide_eq_true (tw_in (p := fun V : Ver => decide (V.k = k)) (show j - kFrom L k < kMany L k by omega) e)
  · have hlt : kFrom L k + kMany L k < L.length := Nat.lt_of_le_of_lt hj hjl
    obtain ⟨Y, hY⟩ : ∃ Y, L[kFrom L k + kMany L k]? = some Y := ⟨_, List.getElem?_eq_getElem hlt⟩
    have hYk : Y.k ≠ k := by
      have e : (L.drop (kFrom L k))[kMany L k]? = some Y := by rw [List.getElem?_drop]; exact hY
      exact of_decide_eq_false (tw_end (p := fun V : Ver => decide (V.k = k)) e)
    have hYn : ¬ lexC Y.k k < 0 := by
      obtain ⟨Z, hZ⟩ : ∃ Z, L[kFrom L k]? = some Z := ⟨_, List.getElem?_eq_getElem (by omega)⟩
      have hZn : ¬ lexC Z.k k < 0 := of_decide_eq_false (tw_end (p := fun V : Ver => decide (lexC V.k k < 0)) hZ)
      by_cases hm : kMany L k = 0
      · rw [hm, Nat.add_zero, hZ] at hY
        injection hY with hY
        rw [← hY]; exact hZn
      · intro hneg
        rcases h.at (by omega) hZ hY with e | ⟨e, _⟩
        · exact hZn (lex_neg.2 (lexC_trans e (lex_neg.1 hneg)))
        · rw [e] at hZn; exact hZn hneg
    have hYg : lexC k Y.k = -1 := by
      rw [lexC_swap Y.k k]
      rcases lexC_ways Y.k k with e | e | e
      · exact absurd (lex_neg.2 e) hYn
      · exact absurd (lexC_eq e) hYk
      · omega
    by_cases e : j = kFrom L k + kMany L k
    · rw [e, hY] at hX
      injection hX with hX
      rw [← hX]; exact hYg
    · rcases h.at (by omega) hY hX with e2 | ⟨e2, _⟩
      · exact lexC_trans hYg e2
      · rw [← e2]; exact hYg
theorem filter_mid {p : Ver → Bool} {L : List Ver} {a m : Nat} (hm : a + m ≤ L.length) (h1 : ∀ j X, j < a → L[j]? = some X → p X = false) (h2 : ∀ j X, a ≤ j → j < a + m → L[j]? = some X → p X = true) (h3 : ∀ j X, a + m ≤ j → L[j]? = some X → p X = false) : L.filter p = (L.drop a).take m := by
  have e1 : (L.take a).filter p = [] := by
    rw [List.filter_eq_nil_iff]
    intro X hX
    obtain ⟨j, hj, e⟩ := List.getElem_of_mem hX
    rw [List.length_take] at hj
    rw [h1 j X (by omega) (by rw [List.getElem_take] at e; rw [List.getElem?_eq_getElem (by omega), e])]
    exact Bool.false_ne_true
  have e2 : ((L.drop a).take m).filter p = (L.drop a).take m := by
    rw [List.filter_eq_self]
    intro X hX
    obtain ⟨j, hj, e⟩ := List.getElem_of_mem hX
    rw [List.length_take, List.length_drop] at hj
    exact h2 (a + j) X (by omega) (by omega) (by rw [List.getElem_take, List.getElem_drop] at e; rw [List.getElem?_eq_getElem (by omega), e])
  have e3 : ((L.drop a).drop m).filter p = [] := by
    rw [List.filter_eq_nil_iff]
    intro X hX
    obtain ⟨j, hj, e⟩ := List.getElem_of_mem hX
    rw [List.length_drop, List.length_drop] at hj
    rw [h3 (a + m + j) X (by omega) (by rw [List.getElem_drop, List.getElem_drop] at e; rw [List.getElem?_eq_getElem (by omega)]; simp only [Nat.add_assoc] at e ⊢; rw [e])]
    exact Bool.false_ne_true
  have e4 : L.filter p = (L.take a ++ ((L.drop a).take m ++ (L.drop a).drop m)).filter p := by rw [List.take_append_drop, List.take_append_drop]
  rw [e4, List.filter_append, List.filter_append, e1, e2, e3, List.nil_append, List.append_nil]
theorem chain_filter {L : List Ver} (h : OrdK L) (k : List Int) : chainV L k = L.filter (fun V => decide (V.k = k)) := by
  unfold chainV
  refine (filter_mid (kMany_le L k) (fun j X hj hX => decide_eq_false ?_) (fun j X h1 h2 hX => decide_eq_true ((key_places h k j X hX).2.1 h1 h2)) (fun j X hj hX => decide_eq_false ?_)).symm
  · intro e
    have := (key_places h k j X hX).1 hj
    rw [e, lexC_self] at this
    omega
  · intro e
    have := (key_places h k j X hX).2.2 hj
    rw [e, lexC_self] at this
    omega
/-- A version of no key. -/
def bare (V : Ver) : Ver := { V with k := zeroK }
/-- A key's versions, as a chain of its own. -/
def oneV (L : List Ver) (k : List Int) : List Ver := (chainV L k).map bare
theorem one_bare (l : List Ver) : One (l.map bare) := fun V hV => by
  obtain ⟨X, _, e⟩ := List.mem_map.1 hV
  rw [← e]
  rfl
theorem ups_chain {L : List Ver} (h : OrdK L) (k : List Int) : Ups (oneV L k) := by
  unfold oneV Ups
  rw [List.pairwise_map, chain_filter h k]
  refine List.Pairwise.imp_of_mem ?_ (List.Pairwise.filter _ h)
  intro A B hA hB hAB
  have eA : A.k = k := of_decide_eq_true (List.mem_filter.1 hA).2
  have eB : B.k = k := of_decide_eq_true (List.mem_filter.1 hB).2
  rcases hAB with e | ⟨_, e⟩
  · rw [eA, eB, lexC_self] at e
    omega
  · exact e
theorem bare_may (V : Ver) : mayV (bare V) = mayV V := rfl
theorem one_len (L : List Ver) (k : List Int) : (oneV L k).length = kMany L k := by unfold oneV; rw [List.length_map, chain_len]
theorem one_rk (L : List Ver) (V : Ver) : rk (oneV L V.k) (bare V) = putR L V := by
  unfold rk putR oneV
  rw [List.takeWhile_map, List.length_map]
  rfl
theorem one_clash2 (L : List Ver) (V : Ver) : clashV (oneV L V.k) (bare V) = clashV L V := by
  rw [one_clash (show One (oneV L V.k) from one_bare _) rfl, one_rk]
  unfold clashV oneV
  rw [List.getElem?_map]
  cases (chainV L V.k)[putR L V]? <;> rfl
theorem putAt_le (L : List Ver) (V : Ver) : putR L V ≤ kMany L V.k ∧ putAt L V ≤ L.length := by
  have h1 : putR L V ≤ (chainV L V.k).length := List.Sublist.length_le (List.takeWhile_sublist _)
  rw [chain_len] at h1
  have h2 := kMany_le L V.k
  exact ⟨h1, by unfold putAt; omega⟩
/-- What stands ahead of the place of a put is below it, what stands behind it is above it, if none is alike. -/
theorem put_place {L : List Ver} (h : OrdK L) {V : Ver} (hc : clashV L V = false) (j : Nat) (X : Ver) (hX : L[j]? = some X) : (j < putAt L V → ltK X V) ∧ (putAt L V ≤ j → ltK V X) := by
  obtain ⟨hr, hl⟩ := putAt_le L V
  obtain ⟨p1, p2, p3⟩ := key_places h V.k j X hX
  have hjl := (List.getElem?_eq_some_iff.1 hX).1
  refine ⟨fun hj => ?_, fun hj => ?_⟩
  · by_cases h1 : j < kFrom L V.k
    · exact .inl (p1 h1)
    · have hk := p2 (by omega) (by unfold putAt at hj; omega)
      have e : (chainV L V.k)[j - kFrom L V.k]? = some X := by rw [chain_at L V.k _ (by unfold putAt at hj; omega), Nat.add_sub_cancel' (by omega)]; exact hX
      have := of_decide_eq_true (tw_in (p := fun X : Ver => decide (cmpS X.t X.n V.t V.n < 0)) (show j - kFrom L V.k < putR L V by unfold putAt at hj; omega) e)
      exact .inr ⟨hk, cmp_neg.1 this⟩
  · by_cases h1 : kFrom L V.k + kMany L V.k ≤ j
    · exact .inl (p3 h1)
    · have hk := p2 (by unfold putAt at hj; omega) (by omega)
      have hrm : putR L V < kMany L V.k := by unfold putAt at hj; omega
      obtain ⟨Y, hY⟩ : ∃ Y, L[putAt L V]? = some Y := ⟨_, List.getElem?_eq_getElem (by omega)⟩
      have eY : (chainV L V.k)[putR L V]? = some Y := by rw [chain_at L V.k _ hrm]; exact hY
      have n1 : ¬ cmpS Y.t Y.n V.t V.n < 0 := of_decide_eq_false (tw_end (p := fun X : Ver => decide (cmpS X.t X.n V.t V.n < 0)) eY)
      have n2 : ¬ (Y.t = V.t ∧ Y.n = V.n) := by
        unfold clashV at hc
        rw [eY] at hc
        exact of_decide_eq_false hc
      have hYV : ltS V.t V.n Y.t Y.n := by
        have n3 : ¬ ltS Y.t Y.n V.t V.n := fun e => n1 (cmp_neg.2 e)
        unfold ltS at *
        omega
      by_cases e : j = putAt L V
      · rw [e, hY] at hX
        injection hX with hX
        rw [← hX] at hk ⊢
        exact .inr ⟨hk.symm, hYV⟩
      · rcases h.at (by omega) hY hX with e2 | ⟨_, e2⟩
        · have hYk := (key_places h V.k _ Y hY).2.1 (by unfold putAt; omega) (by unfold putAt; omega)
          rw [hYk, hk, lexC_self] at e2
          omega
        · exact .inr ⟨hk.symm, ltS_trans hYV e2⟩
theorem ord_put {L : List Ver} (h : OrdK L) (V : Ver) : OrdK (putV L V).2 := by
  unfold putV
  by_cases h1 : mayV V = false
  · rw [if_pos h1]; exact h
  · rw [if_neg h1]
    cases hc : clashV L V with
    | true => rw [if_pos rfl]; exact h
    | false =>
      rw [if_neg (by simp)]
      by_cases h3 : 50 ≤ kMany L V.k
      · rw [if_pos h3]; exact h
      · rw [if_neg h3]
        have hl := (putAt_le L V).2
        have h0 : OrdK (L.take (putAt L V) ++ L.drop (putAt L V)) := by rw [List.take_append_drop]; exact h
        obtain ⟨q1, q2, q3⟩ := List.pairwise_append.1 h0
        refine List.pairwise_append.2 ⟨q1, List.pairwise_cons.2 ⟨fun B hB => ?_, q2⟩, fun A hA B hB => ?_⟩
        · obtain ⟨j, hj, e⟩ := List.getElem_of_mem hB
          rw [List.length_drop] at hj
          exact (put_place h hc (putAt L V + j) B (by rw [List.getElem_drop] at e; rw [List.getElem?_eq_getElem (by omega), e])).2 (by omega)
        · rcases List.mem_cons.1 hB with rfl | hB
          · obtain ⟨j, hj, e⟩ := List.getElem_of_mem hA
            rw [List.length_take] at hj
            exact (put_place h hc j A (by rw [List.getElem_take] at e; rw [List.getElem?_eq_getElem (by omega), e])).1 (by omega)
          · exact q3 A hA B hB
theorem rest_filter_all {L : List Ver} (p : Ver → Bool) (k : List Int) : (L.filter p).filter (fun V => decide (V.k = k)) = (L.filter (fun V => decide (V.k = k))).filter p := by
  rw [List.filter_filter, List.filter_filter]
  congr 1
  funext V
  exact Bool.and_comm _ _
/-- What a put leaves of each key. -/
theorem put_other {L : List Ver} (h : OrdK L) (V : Ver) (k : List Int) (hk : k ≠ V.k) : oneV (putV L V).2 k = oneV L k := by
  unfold oneV
  rw [chain_filter (ord_put h V), chain_filter h]
  congr 1
  unfold putV
  by_cases h1 : mayV V = false
  · rw [if_pos h1]
  · rw [if_neg h1]
    by_cases h2 : clashV L V = true
    · rw [if_pos h2]
    · rw [if_neg h2]
      by_cases h3 : 50 ≤ kMany L V.k
      · rw [if_pos h3]
      · rw [if_neg h3]
        have e : (L.take (putAt L V) ++ L.drop (putAt L V)).filter (fun X => decide (X.k = k)) = L.filter (fun X => decide (X.k = k)) := by rw [List.take_append_drop]
        rw [← e, List.filter_append, List.filter_append, List.filter_cons_of_neg (by simpa using Ne.symm hk)]
theorem flt_take {L : List Ver} (h : OrdK L) (k : List Int) (r : Nat) (hr : r ≤ kMany L k) : (L.take (kFrom L k + r)).filter (fun X => decide (X.k = k)) = (chainV L k).take r ∧ (L.drop (kFrom L k + r)).filter (fun X => decide (X.k = k)) = (chainV L k).drop r := by
  have hm := kMany_le L k
  have e1 : (L.take (kFrom L k + r)).filter (fun X => decide (X.k = k)) = ((L.take (kFrom L k + r)).drop (kFrom L k)).take r := by
    refine filter_mid (by rw [List.length_take]; omega) (fun j X hj hX => decide_eq_false ?_) (fun j X g1 g2 hX => decide_eq_true ?_) (fun j X hj hX => ?_)
    · rw [List.getElem?_take_of_lt (by omega)] at hX
      intro e
      have := (key_places h k j X hX).1 hj
      rw [e, lexC_self] at this
      omega
    · rw [List.getElem?_take_of_lt (by omega)] at hX
      exact (key_places h k j X hX).2.1 g1 (by omega)
    · rw [List.getElem?_eq_none (by rw [List.length_take]; omega)] at hX
      cases hX
  have e2 : ((L.take (kFrom L k + r)).drop (kFrom L k)).take r = (chainV L k).take r := by
    unfold chainV
    rw [List.drop_take, List.take_take, List.take_take]
    congr 1
    omega
  have e3 : L.filter (fun X => decide (X.k = k)) = (L.take (kFrom L k + r)).filter (fun X => decide (X.k = k)) ++ (L.drop (kFrom L k + r)).filter (fun X => decide (X.k = k)) := by rw [← List.filter_append, List.take_append_drop]
  rw [← chain_filter h k, e1, e2] at e3
  refine ⟨e1.trans e2, ?_⟩
  have e4 : (chainV L k).take r ++ (chainV L k).drop r = (chainV L k).take r ++ (L.drop (kFrom L k + r)).filter (fun X => decide (X.k = k)) := by rw [List.take_append_drop]; exact e3
  exact (List.append_cancel_left e4).symm
theorem put_own {L : List Ver} (h : OrdK L) (V : Ver) : oneV (putV L V).2 V.k = (putV (oneV L V.k) (bare V)).2 := by
  have hone : One (oneV L V.k) := one_bare _
  rw [put_one hone rfl, bare_may, one_clash2, one_len, one_rk]
  unfold oneV
  rw [chain_filter (ord_put h V)]
  unfold putV
  by_cases h1 : mayV V = false
  · rw [if_pos h1, if_pos h1, chain_filter h]
  · rw [if_neg h1, if_neg h1]
    by_cases h2 : clashV L V = true
    · rw [if_pos h2, if_pos h2, chain_filter h]
    · rw [if_neg h2, if_neg h2]
      by_cases h3 : 50 ≤ kMany L V.k
      · rw [if_pos h3, if_pos h3, chain_filter h]
      · rw [if_neg h3, if_neg h3]
        obtain ⟨f1, f2⟩ := flt_take h V.k (putR L V) (putAt_le L V).1
        rw [List.filter_append, List.filter_cons_of_pos (by simp)]
        unfold putAt
        rw [f1, f2, List.map_append, List.map_cons, List.map_take, List.map_drop]
theorem at_own (L : List Ver) (k : List Int) (t n : Int) : atV (oneV L k) zeroK t n = (atV L k t n).map bare := by
  rw [at_one (show One (oneV L k) from one_bare _)]
  unfold oneV atV
  rw [← List.map_reverse, List.find?_map]
  rfl
theorem ord_rest {L : List Ver} (h : OrdK L) (t n : Int) : OrdK (restV L t n) := List.Pairwise.filter _ h
theorem goes_own {L : List Ver} {k : List Int} {t n : Int} {X : Ver} (hX : X.k = k) : goesV (oneV L k) t n (bare X) = goesV L t n X := by
  unfold goesV
  rw [show (bare X).k = zeroK from rfl, at_own, hX]
  cases atV L k t n <;> rfl
theorem rest_own {L : List Ver} (h : OrdK L) (k : List Int) (t n : Int) : oneV (restV L t n) k = restV (oneV L k) t n := by
  unfold oneV
  rw [chain_filter (ord_rest h t n)]
  unfold restV
  rw [rest_filter_all, ← chain_filter h, List.filter_map]
  congr 1
  refine List.filter_congr (fun X hX => ?_)
  have hk : X.k = k := by
    rw [chain_filter h] at hX
    exact of_decide_eq_true (List.mem_filter.1 hX).2
  show (!goesV L t n X) = !goesV (oneV L k) t n (bare X)
  rw [goes_own hk]
end Go.Proofs.Ytcppihpehipelaa
