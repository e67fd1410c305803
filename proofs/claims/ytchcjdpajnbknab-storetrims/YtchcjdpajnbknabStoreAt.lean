/-
  What is seen of a key behind a put: at times ahead of it nothing has turned; just at it, it is seen. No program is named here.
-/
import Derived.Test.YtchcjdpajnbknabStoreFacts
namespace Go.Proofs.Ytchcjdpajnbknab
open Go.RowKit
set_option linter.unusedVariables false

theorem ltS_irr (t n : Int) : ¬ ltS t n t n := by unfold ltS; omega
theorem ltS_asym {a b c d : Int} (h : ltS a b c d) : ¬ ltS c d a b := by unfold ltS at *; omega
/-- A put that answers 0 put it in. -/
theorem put_ok {L : List Ver} {V : Ver} (h : One L) (hV : V.k = zeroK) (h0 : (putV L V).1 = 0) : (putV L V).2 = L.take (rk L V) ++ V :: L.drop (rk L V) ∧ mayV V = true ∧ clashV L V = false ∧ L.length < 50 := by
  rw [put_one h hV] at h0 ⊢
  by_cases h1 : mayV V = false
  · rw [if_pos h1] at h0; cases h0
  · rw [if_neg h1] at h0 ⊢
    by_cases h2 : clashV L V = true
    · rw [if_pos h2] at h0; cases h0
    · rw [if_neg h2] at h0 ⊢
      by_cases h3 : 50 ≤ L.length
      · rw [if_pos h3] at h0; cases h0
      · rw [if_neg h3]
        exact ⟨rfl, by simpa using h1, by simpa using h2, by omega⟩
theorem one_ins {L : List Ver} {V : Ver} (h : One L) (hV : V.k = zeroK) (r : Nat) : One (L.take r ++ V :: L.drop r) := fun X hX => by
  rcases (mem_ins r).1 hX with rfl | hX
  · exact hV
  · exact h X hX
theorem ups_put {L : List Ver} {V : Ver} (h : One L) (hu : Ups L) (hV : V.k = zeroK) (h0 : (putV L V).1 = 0) : Ups (putV L V).2 := by
  obtain ⟨e, _, hc, _⟩ := put_ok h hV h0
  rw [e]
  refine ups_ins hu (fun hx => ?_)
  rw [(clash_iff h hu hV).2 hx] at hc
  cases hc
/-- Ahead of a put nothing has turned. -/
theorem at_ahead {L : List Ver} {V : Ver} (h : One L) (hu : Ups L) (hV : V.k = zeroK) (h0 : (putV L V).1 = 0) {t n : Int} (ht : ltS t n V.t V.n) : atV (putV L V).2 zeroK t n = atV L zeroK t n := by
  have hu2 := ups_put h hu hV h0
  obtain ⟨e, _⟩ := put_ok h hV h0
  rw [e] at hu2 ⊢
  have h2 := one_ins h hV (rk L V)
  cases hx : atV L zeroK t n with
  | none =>
    refine (at_none_iff h2).2 (fun Y hY => ?_)
    rcases (mem_ins _).1 hY with rfl | hY
    · exact ht
    · exact (at_none_iff h).1 hx Y hY
  | some X =>
    obtain ⟨f1, f2, f3⟩ := at_some_facts h hu hx
    refine at_is h2 hu2 ((mem_ins _).2 (.inr f1)) f2 (fun Y hY hn => ?_)
    rcases (mem_ins _).1 hY with rfl | hY
    · exact absurd ht hn
    · exact f3 Y hY hn
/-- Just at a put it is seen. -/
theorem at_here {L : List Ver} {V : Ver} (h : One L) (hu : Ups L) (hV : V.k = zeroK) (h0 : (putV L V).1 = 0) : atV (putV L V).2 zeroK V.t V.n = some V := by
  have hu2 := ups_put h hu hV h0
  obtain ⟨e, _⟩ := put_ok h hV h0
  rw [e] at hu2 ⊢
  refine at_is (one_ins h hV _) hu2 ((mem_ins _).2 (.inl rfl)) (ltS_irr _ _) (fun Y hY hn => ?_)
  by_cases hs : Y.t = V.t ∧ Y.n = V.n
  · exact .inl (ups_same hu2 hY ((mem_ins _).2 (.inl rfl)) hs)
  · right
    show ltS Y.t Y.n V.t V.n
    unfold ltS at *
    omega
/-- What is seen of a key has that key. -/
theorem at_key {L : List Ver} {k : List Int} {t n : Int} {X : Ver} (hx : atV L k t n = some X) : X.k = k := by
  unfold atV at hx
  have hm := List.mem_reverse.1 (List.mem_of_find?_eq_some hx)
  unfold chainV at hm
  obtain ⟨j, hj, e⟩ := List.getElem_of_mem hm
  rw [List.length_take] at hj
  have e2 : (L.drop (kFrom L k))[j]? = some X := by
    rw [List.getElem_take] at e
    rw [List.getElem?_eq_getElem (by omega), e]
  exact of_decide_eq_true (tw_in (p := fun V : Ver => decide (V.k = k)) (show j < kMany L k by omega) e2)
theorem bare_inj {A B : Ver} (hk : A.k = B.k) (h : bare A = bare B) : A = B := by
  obtain ⟨a, b, c, d, e⟩ := A
  obtain ⟨a', b', c', d', e'⟩ := B
  injection h with _ h1 h2 h3 h4
  simp at hk
  subst hk; subst h1; subst h2; subst h3; subst h4
  rfl
/-- Two stores that have the same of a key tell the same of it. -/
theorem at_same {L M : List Ver} {k : List Int} {t n t' n' : Int} (h : atV (oneV L k) zeroK t n = atV (oneV M k) zeroK t' n') : atV L k t n = atV M k t' n' := by
  rw [at_own, at_own] at h
  cases hA : atV L k t n with
  | none =>
    cases hB : atV M k t' n' with
    | none => rfl
    | some B => rw [hA, hB] at h; cases h
  | some A =>
    cases hB : atV M k t' n' with
    | none => rw [hA, hB] at h; cases h
    | some B =>
      rw [hA, hB] at h
      injection h with h
      rw [bare_inj ((at_key hA).trans (at_key hB).symm) h]
/-- Ahead of a put at a store nothing has turned, whatever the key. -/
theorem at_still {L : List Ver} (h : OrdK L) {V : Ver} (h0 : (putV L V).1 = 0) (k : List Int) {t n : Int} (ht : ltS t n V.t V.n) : atV (putV L V).2 k t n = atV L k t n := by
  refine at_same ?_
  by_cases hk : k = V.k
  · rw [hk, put_own h]
    exact at_ahead (L := oneV L V.k) (V := bare V) (one_bare _) (ups_chain h _) rfl (by rw [← put_code]; exact h0) ht
  · rw [put_other h V k hk]
/-- Just at a put it is seen, and of other keys what was. -/
theorem at_put {L : List Ver} (h : OrdK L) {V : Ver} (h0 : (putV L V).1 = 0) : atV (putV L V).2 V.k V.t V.n = some V := by
  have h1 := at_here (L := oneV L V.k) (V := bare V) (one_bare _) (ups_chain h _) rfl (by rw [← put_code]; exact h0)
  rw [← put_own h, at_own] at h1
  cases hA : atV (putV L V).2 V.k V.t V.n with
  | none =>
    have h2 : (atV (putV L V).2 V.k V.t V.n).map bare = some (bare V) := h1
    rw [hA] at h2
    cases h2
  | some A =>
    have h2 : (atV (putV L V).2 V.k V.t V.n).map bare = some (bare V) := h1
    rw [hA] at h2
    injection h2 with h2
    rw [bare_inj (at_key hA) h2]
theorem at_else {L : List Ver} (h : OrdK L) (V : Ver) {k : List Int} (hk : k ≠ V.k) (t n : Int) : atV (putV L V).2 k t n = atV L k t n := at_same (by rw [put_other h V k hk])
theorem put_grows {L : List Ver} {V : Ver} (h0 : (putV L V).1 = 0) : (putV L V).2.length = L.length + 1 := by
  have hl := (putAt_le L V).2
  unfold putV at h0 ⊢
  by_cases h1 : mayV V = false
  · rw [if_pos h1] at h0; cases h0
  · rw [if_neg h1] at h0 ⊢
    by_cases h2 : clashV L V = true
    · rw [if_pos h2] at h0; cases h0
    · rw [if_neg h2] at h0 ⊢
      by_cases h3 : 50 ≤ kMany L V.k
      · rw [if_pos h3] at h0; cases h0
      · rw [if_neg h3]
        simp only [List.length_append, List.length_take, List.length_cons, List.length_drop]
        omega
/-- A write: its key, its value, whether it is gone. -/
structure Wrt where
  k : List Int
  v : List Int
  g : Bool
def verW (t n : Int) (W : Wrt) : Ver := ⟨W.k, t, n, W.v, W.g⟩
/-- Writes put one behind the other at one stamp: 5 at once where one is there, else 0; the list so far; was one refused? -/
def runW (t n : Int) : List Wrt → List Ver → Bool → Int × List Ver × Bool
  | [], L, f => (0, L, f)
  | W :: r, L, f => if (putV L (verW t n W)).1 = 5 then (5, L, f) else runW t n r (putV L (verW t n W)).2 (f || decide ((putV L (verW t n W)).1 ≠ 0))
theorem run_step (t n : Int) (W : Wrt) (r : List Wrt) (L : List Ver) (f : Bool) : runW t n (W :: r) L f = if (putV L (verW t n W)).1 = 5 then (5, L, f) else runW t n r (putV L (verW t n W)).2 (f || decide ((putV L (verW t n W)).1 ≠ 0)) := rfl
theorem run_full {t n : Int} : ∀ (l : List Wrt) (L : List Ver), (runW t n l L true).2.2 = true
  | [], L => rfl
  | W :: r, L => by
    unfold runW
    by_cases h : (putV L (verW t n W)).1 = 5
    · rw [if_pos h]
    · rw [if_neg h]
      exact run_full r _
/-- Where all went well, each went well. -/
theorem run_cons {t n : Int} {W : Wrt} {r : List Wrt} {L : List Ver} (h1 : (runW t n (W :: r) L false).1 ≠ 5) (h2 : (runW t n (W :: r) L false).2.2 = false) : (putV L (verW t n W)).1 = 0 ∧ runW t n (W :: r) L false = runW t n r (putV L (verW t n W)).2 false := by
  rw [run_step] at h1 h2 ⊢
  by_cases h : (putV L (verW t n W)).1 = 5
  · rw [if_pos h] at h1
    exact absurd rfl h1
  · rw [if_neg h] at h1 h2 ⊢
    by_cases h0 : (putV L (verW t n W)).1 = 0
    · refine ⟨h0, ?_⟩
      rw [h0]
      rfl
    · rw [decide_eq_true h0, Bool.or_true, run_full] at h2
      cases h2
theorem run_ord {t n : Int} : ∀ (l : List Wrt) (L : List Ver) (f : Bool), OrdK L → OrdK (runW t n l L f).2.1
  | [], L, f, h => h
  | W :: r, L, f, h => by
    unfold runW
    by_cases h5 : (putV L (verW t n W)).1 = 5
    · rw [if_pos h5]; exact h
    · rw [if_neg h5]; exact run_ord r _ _ (ord_put h _)
/-- How many more, what was ahead, what is at it. -/
theorem run_len {t n : Int} : ∀ (l : List Wrt) (L : List Ver), (runW t n l L false).1 ≠ 5 → (runW t n l L false).2.2 = false → (runW t n l L false).2.1.length = L.length + l.length
  | [], L, _, _ => rfl
  | W :: r, L, h1, h2 => by
    obtain ⟨h0, e⟩ := run_cons h1 h2
    rw [e] at h1 h2 ⊢
    rw [run_len r _ h1 h2, put_grows h0, List.length_cons]
    omega
theorem run_still {t n : Int} : ∀ (l : List Wrt) (L : List Ver), OrdK L → (runW t n l L false).1 ≠ 5 → (runW t n l L false).2.2 = false → ∀ k t' n', ltS t' n' t n → atV (runW t n l L false).2.1 k t' n' = atV L k t' n'
  | [], L, _, _, _, k, t', n', _ => rfl
  | W :: r, L, h, h1, h2, k, t', n', ht => by
    obtain ⟨h0, e⟩ := run_cons h1 h2
    rw [e] at h1 h2 ⊢
    rw [run_still r _ (ord_put h _) h1 h2 k t' n' ht]
    exact at_still h h0 k ht
theorem run_else {t n : Int} : ∀ (l : List Wrt) (L : List Ver), OrdK L → (runW t n l L false).1 ≠ 5 → (runW t n l L false).2.2 = false → ∀ k, (∀ W ∈ l, W.k ≠ k) → ∀ t' n', atV (runW t n l L false).2.1 k t' n' = atV L k t' n'
  | [], L, _, _, _, k, _, t', n' => rfl
  | W :: r, L, h, h1, h2, k, hk, t', n' => by
    obtain ⟨h0, e⟩ := run_cons h1 h2
    rw [e] at h1 h2 ⊢
    rw [run_else r _ (ord_put h _) h1 h2 k (fun X hX => hk X (List.mem_cons_of_mem _ hX)) t' n']
    exact at_else h (verW t n W) (Ne.symm (hk W (by simp))) t' n'
theorem run_here {t n : Int} : ∀ (l : List Wrt) (L : List Ver), OrdK L → (runW t n l L false).1 ≠ 5 → (runW t n l L false).2.2 = false → l.Pairwise (fun A B => A.k ≠ B.k) → ∀ W ∈ l, atV (runW t n l L false).2.1 W.k t n = some (verW t n W)
  | [], L, _, _, _, _, W, hW => by simp at hW
  | X :: r, L, h, h1, h2, hd, W, hW => by
    obtain ⟨h0, e⟩ := run_cons h1 h2
    rw [e] at h1 h2 ⊢
    obtain ⟨d1, d2⟩ := List.pairwise_cons.1 hd
    rcases List.mem_cons.1 hW with rfl | hW
    · rw [run_else r _ (ord_put h _) h1 h2 W.k (fun Y hY => Ne.symm (d1 Y hY)) t n]
      exact at_put (V := verW t n W) h h0
    · exact run_here r _ (ord_put h _) h1 h2 d2 W hW
end Go.Proofs.Ytchcjdpajnbknab
