/-
  Chapter 17 in plain words: whose a key is. No program is named here.
-/
import Derived.Test.YtdbgkbgodnknnaaStoreAt
namespace Go.Proofs.Ytdbgkbgodnknnaa
open Go.RowKit
set_option linter.unusedVariables false

/-- Does each point lie above the one ahead? -/
def riseR (P : List (List Int)) : Bool := decide (∀ j, j < P.length - 1 → lexC (P.getD j []) (P.getD (j + 1) []) < 0)
/-- May points be? -/
def mayR (P : List (List Int)) : Bool := decide (P.length ≤ 7) && (P.all goodK && riseR P)
/-- How many points are not above a key; whose it is. -/
def ofN (P : List (List Int)) (k : List Int) : Nat := P.countP (fun p => decide (lexC p k ≤ 0))
def ofR (P : List (List Int)) (k : List Int) : Int := if goodK k then (ofN P k : Int) else -1
def mineR (P : List (List Int)) (i : Nat) (W : Wrt) : Bool := decide (ofR P W.k = (i : Int))
def nodeW (P : List (List Int)) (l : List Wrt) (i : Nat) : List Wrt := l.filter (mineR P i)
def splitR (P : List (List Int)) (l : List Wrt) : List (List Wrt) := (List.range (P.length + 1)).map (nodeW P l)
def numsR (q : Nat → Bool) (n : Nat) : List Int := ((List.range n).filter q).map Int.ofNat
def aboveR (P : List (List Int)) (a : List Int) (i : Nat) : Bool := decide (i = P.length) || decide (0 < lexC (P.getD i []) a)
def belowR (P : List (List Int)) (b : List Int) (i : Nat) : Bool := decide (i = 0) || decide (b = zeroK) || decide (lexC (P.getD (i - 1) []) b < 0)
def someR (a b : List Int) : Bool := decide (b = zeroK) || decide (0 < lexC b a)
def coverR (P : List (List Int)) (a b : List Int) : List Int := if someR a b then numsR (fun i => aboveR P a i && belowR P b i) (P.length + 1) else []

theorem rise_lt {P : List (List Int)} (h : riseR P = true) : ∀ j i, i < j → j < P.length → lexC (P.getD i []) (P.getD j []) < 0 := by
  have h := of_decide_eq_true h
  intro j
  induction j with
  | zero => intro i hi; omega
  | succ j ih =>
    intro i hi hj
    have h1 := h j (by omega)
    by_cases e : i = j
    · subst e; exact h1
    · exact lex_lt_le (ih i (by omega) (by omega)) (by omega)
/-- Where those of a beginning end. -/
theorem cut_of {n : Nat} (q : Nat → Prop) (hq : ∀ i j, i < j → j < n → q j → q i) : ∃ m, m ≤ n ∧ (∀ j, j < m → q j) ∧ ∀ j, m ≤ j → j < n → ¬ q j := by
  induction n with
  | zero => exact ⟨0, Nat.le_refl _, fun j h => by omega, fun j _ h => by omega⟩
  | succ n ih =>
    obtain ⟨m, h1, h2, h3⟩ := ih (fun i j hij hj => hq i j hij (by omega))
    by_cases hm : m = n
    · subst hm
      by_cases hqn : q m
      · exact ⟨m + 1, Nat.le_refl _, fun j hj => by
          by_cases e : j = m
          · rw [e]; exact hqn
          · exact h2 j (by omega), fun j h4 h5 => by omega⟩
      · exact ⟨m, by omega, h2, fun j h4 h5 => by
          obtain rfl : j = m := by omega
          exact hqn⟩
    · refine ⟨m, by omega, h2, fun j h4 h5 => ?_⟩
      by_cases e : j = n
      · subst e
        intro hj
        exact h3 m (Nat.le_refl _) (by omega) (hq m j (by omega) (by omega) hj)
      · exact h3 j h4 (by omega)
theorem count_at {α : Type} {L : List α} {p : α → Bool} {m : Nat} (hm : m ≤ L.length) (h1 : ∀ j x, j < m → L[j]? = some x → p x = true) (h2 : ∀ j x, m ≤ j → L[j]? = some x → p x = false) : L.countP p = m := by
  have e : L = L.take m ++ L.drop m := (List.take_append_drop m L).symm
  rw [e, List.countP_append]
  have a : (L.take m).countP p = (L.take m).length := List.countP_eq_length.2 (fun x hx => by
    obtain ⟨j, hj⟩ := List.mem_iff_getElem?.1 hx
    have hjm : j < m := by
      rcases Nat.lt_or_ge j m with h | h
      · exact h
      · rw [List.getElem?_eq_none (by simp; omega)] at hj; cases hj
    rw [List.getElem?_take_of_lt hjm] at hj
    exact h1 j x hjm hj)
  have b : (L.drop m).countP p = 0 := List.countP_eq_zero.2 (fun x hx => by
    obtain ⟨j, hj⟩ := List.mem_iff_getElem?.1 hx
    rw [List.getElem?_drop] at hj
    rw [h2 (m + j) x (by omega) hj]; decide)
  rw [a, b, List.length_take]
  omega
theorem getD_of {P : List (List Int)} {j : Nat} {x : List Int} (h : P[j]? = some x) : P.getD j [] = x := by simp [List.getD, h]
theorem lt_of_get {α : Type} {L : List α} {j : Nat} {x : α} (h : L[j]? = some x) : j < L.length := (List.getElem?_eq_some_iff.1 h).1
/-- A point is among the first of those, just if it is not above the key. -/
theorem of_iff {P : List (List Int)} (h : riseR P = true) (k : List Int) {i : Nat} (hi : i < P.length) : i < ofN P k ↔ lexC (P.getD i []) k ≤ 0 := by
  obtain ⟨m, h1, h2, h3⟩ := cut_of (n := P.length) (fun j => lexC (P.getD j []) k ≤ 0) (fun i j hij hj hq => lex_le_trans (by have := rise_lt h j i hij hj; omega) hq)
  have e : ofN P k = m := count_at h1 (fun j x hj hx => decide_eq_true (by have := h2 j hj; rw [getD_of hx] at this; exact this)) (fun j x hj hx => decide_eq_false (by have := h3 j hj (lt_of_get hx); rw [getD_of hx] at this; exact this))
  rw [e]
  constructor
  · exact h2 i
  · intro hq
    rcases Nat.lt_or_ge i m with h' | h'
    · exact h'
    · exact absurd hq (h3 i h' hi)
theorem ofN_le (P : List (List Int)) (k : List Int) : ofN P k ≤ P.length := List.countP_le_length
theorem ofN_mono (P : List (List Int)) {a b : List Int} (h : lexC a b ≤ 0) : ofN P a ≤ ofN P b :=
  List.countP_mono_left (fun x _ hx => decide_eq_true (lex_le_trans (of_decide_eq_true hx) h))
theorem ofN_next {P : List (List Int)} {n : Nat} {p : List Int} (hp : P[n]? = some p) (k : List Int) : (P.take (n + 1)).countP (fun p => decide (lexC p k ≤ 0)) = (P.take n).countP (fun p => decide (lexC p k ≤ 0)) + if lexC p k ≤ 0 then 1 else 0 := by
  rw [List.take_add_one, hp, Option.toList_some, List.countP_append]
  simp [List.countP_cons]
/- Lists of the numbers below n that have something. -/
theorem numsR_next (q : Nat → Bool) (n : Nat) : numsR q (n + 1) = numsR q n ++ (if q n then [(n : Int)] else []) := by
  unfold numsR
  rw [List.range_succ, List.filter_append, List.map_append]
  cases h : q n <;> simp [h]
theorem numsR_len (q : Nat → Bool) (n : Nat) : (numsR q n).length ≤ n := by
  unfold numsR
  rw [List.length_map]
  exact Nat.le_trans (List.length_filter_le _ _) (by simp)
theorem numsR_mem {q : Nat → Bool} {n : Nat} {z : Int} : z ∈ numsR q n ↔ ∃ i : Nat, z = (i : Int) ∧ i < n ∧ q i = true := by
  unfold numsR
  rw [List.mem_map]
  constructor
  · rintro ⟨i, hi, rfl⟩
    rw [List.mem_filter, List.mem_range] at hi
    exact ⟨i, rfl, hi.1, hi.2⟩
  · rintro ⟨i, rfl, h1, h2⟩
    exact ⟨i, List.mem_filter.2 ⟨List.mem_range.2 h1, h2⟩, rfl⟩
/-- Where those that have it lie side by side, their numbers do. -/
theorem numsR_side {q : Nat → Bool} : ∀ {n : Nat}, (∀ i j l, i < j → j < l → l < n → q i = true → q l = true → q j = true) → ∀ (t : Nat) (x y : Int), (numsR q n)[t]? = some x → (numsR q n)[t + 1]? = some y → y = x + 1
  | 0, _, t, x, y, h, _ => by simp [numsR] at h
  | n + 1, hc, t, x, y, h1, h2 => by
    have ih := numsR_side (n := n) (fun i j l h1 h2 h3 => hc i j l h1 h2 (by omega))
    rw [numsR_next] at h1 h2
    cases hq : q n with
    | false =>
      rw [hq] at h1 h2
      simp at h1 h2
      exact ih t x y h1 h2
    | true =>
      rw [hq, if_pos rfl] at h1 h2
      by_cases e : t + 1 < (numsR q n).length
      · rw [List.getElem?_append_left (by omega)] at h1 h2
        exact ih t x y h1 h2
      · have hl : t + 1 < (numsR q n).length + 1 := by
          have := lt_of_get h2
          simpa using this
        have e2 : t + 1 = (numsR q n).length := by omega
        rw [List.getElem?_append_left (by omega)] at h1
        rw [e2, List.getElem?_append_right (Nat.le_refl _)] at h2
        simp at h2
        obtain ⟨i, rfl, hi, hqi⟩ := numsR_mem.1 (List.mem_of_getElem? h1)
        rcases Nat.lt_or_ge (i + 1) n with h3 | h3
        · have hm : ((i + 1 : Nat) : Int) ∈ numsR q n := numsR_mem.2 ⟨i + 1, rfl, h3, hc i (i + 1) n (by omega) h3 (by omega) hqi hq⟩
          exfalso
          have hlast : ∀ (m : Nat) (s : Nat) (z : Int), (numsR q m)[s]? = some z → s + 1 = (numsR q m).length → ∀ u ∈ numsR q m, u ≤ z := by
            intro m
            induction m with
            | zero => intro s z h; simp [numsR] at h
            | succ m ihm =>
              intro s z hz hs u hu
              rw [numsR_next] at hz hs hu
              cases hqm : q m with
              | false =>
                rw [hqm] at hz hs hu
                simp at hz hs hu
                exact ihm s z hz hs u hu
              | true =>
                rw [hqm, if_pos rfl] at hz hs hu
                simp at hs
                subst hs
                rw [List.getElem?_append_right (Nat.le_refl _)] at hz
                simp at hz
                rcases List.mem_append.1 hu with hu | hu
                · obtain ⟨v, rfl, hv, _⟩ := numsR_mem.1 hu
                  omega
                · simp at hu; omega
          have := hlast n t _ h1 e2 _ hm
          omega
        · omega
/- Whose a write is. -/
theorem split_len (P : List (List Int)) (l : List Wrt) : (splitR P l).length = P.length + 1 := by simp [splitR]
theorem split_at {P : List (List Int)} {l : List Wrt} {i : Nat} (hi : i < P.length + 1) : (splitR P l)[i]? = some (nodeW P l i) := by
  unfold splitR
  rw [List.getElem?_map, List.getElem?_range hi]
  rfl
theorem nodeW_next {P : List (List Int)} {l : List Wrt} {n : Nat} {W : Wrt} (hW : l[n]? = some W) (i : Nat) : nodeW P (l.take (n + 1)) i = nodeW P (l.take n) i ++ if mineR P i W then [W] else [] := by
  unfold nodeW
  rw [List.take_add_one, hW, Option.toList_some, List.filter_append]
  cases h : mineR P i W <;> simp [h]
theorem split_next {P : List (List Int)} {l : List Wrt} {n : Nat} {W : Wrt} (hW : l[n]? = some W) {i : Nat} (hi : ofR P W.k = (i : Int)) (hil : i < P.length + 1) : splitR P (l.take (n + 1)) = (splitR P (l.take n)).set i (nodeW P (l.take n) i ++ [W]) := by
  refine List.ext_getElem? (fun j => ?_)
  rw [List.getElem?_set, split_len]
  by_cases hj : j < P.length + 1
  · rw [split_at hj, split_at hj, nodeW_next hW]
    by_cases e : i = j
    · subst e
      rw [if_pos rfl, if_pos hil, if_pos (show mineR P i W = true from decide_eq_true hi)]
    · rw [if_neg e, if_neg (by simp [mineR, hi]; omega), List.append_nil]
  · rw [List.getElem?_eq_none (by rw [split_len]; omega), if_neg (by omega), List.getElem?_eq_none (by rw [split_len]; omega)]
/- Stretches. -/
theorem above_iff {P : List (List Int)} (h : riseR P = true) {a : List Int} {i : Nat} (hi : i ≤ P.length) : aboveR P a i = true ↔ ofN P a ≤ i := by
  unfold aboveR
  rw [Bool.or_eq_true, decide_eq_true_iff, decide_eq_true_iff]
  by_cases e : i = P.length
  · subst e
    exact ⟨fun _ => ofN_le P a, fun _ => .inl rfl⟩
  · have := of_iff h a (i := i) (by omega)
    constructor
    · rintro (h1 | h1)
      · exact absurd h1 e
      · rcases Nat.lt_or_ge i (ofN P a) with h2 | h2
        · have := this.1 h2; omega
        · exact h2
    · intro h1
      refine .inr ?_
      have h2 : ¬ lexC (P.getD i []) a ≤ 0 := fun h3 => by have := this.2 h3; omega
      omega
theorem below_down {P : List (List Int)} (h : riseR P = true) {b : List Int} {i j : Nat} (hij : i < j) (hj : j ≤ P.length) (hb : belowR P b j = true) : belowR P b i = true := by
  unfold belowR at hb ⊢
  rw [Bool.or_eq_true, Bool.or_eq_true, decide_eq_true_iff, decide_eq_true_iff, decide_eq_true_iff] at hb ⊢
  by_cases hi : i = 0
  · exact .inl (.inl hi)
  · rcases hb with (hb | hb) | hb
    · omega
    · exact .inl (.inr hb)
    · exact .inr (lex_lt_le (rise_lt h (j - 1) (i - 1) (by omega) (by omega)) (by omega))
/-- Those that may have a key between two lie side by side. -/
theorem cover_side {P : List (List Int)} (h : riseR P = true) (a b : List Int) (t : Nat) (x y : Int) (h1 : (coverR P a b)[t]? = some x) (h2 : (coverR P a b)[t + 1]? = some y) : y = x + 1 := by
  unfold coverR at h1 h2
  split at h1
  · next hs =>
    rw [if_pos hs] at h2
    refine numsR_side (n := P.length + 1) (fun i j l hij hjl hl q1 q2 => ?_) t x y h1 h2
    rw [Bool.and_eq_true] at q1 q2 ⊢
    exact ⟨(above_iff h (by omega)).2 (Nat.le_trans ((above_iff h (by omega)).1 q1.1) (by omega)), below_down h hjl (by omega) q2.2⟩
  · simp at h1
/-- Whoever has a key between two is told. -/
theorem cover_has {P : List (List Int)} (h : riseR P = true) {k a b : List Int} (hw : withinK k a b = true) : (ofN P k : Int) ∈ coverR P a b := by
  unfold withinK at hw
  rw [Bool.and_eq_true, decide_eq_true_iff, Bool.or_eq_true, decide_eq_true_iff, decide_eq_true_iff] at hw
  obtain ⟨h1, h2⟩ := hw
  have hak : lexC a k ≤ 0 := by rw [lexC_swap k a]; omega
  have hsome : someR a b = true := by
    unfold someR
    rw [Bool.or_eq_true, decide_eq_true_iff, decide_eq_true_iff]
    rcases h2 with h2 | h2
    · exact .inl h2
    · refine .inr ?_
      have := lex_le_lt hak h2
      rw [lexC_swap a b]; omega
  unfold coverR
  rw [if_pos hsome]
  have hle := ofN_le P k
  refine numsR_mem.2 ⟨_, rfl, by omega, ?_⟩
  rw [Bool.and_eq_true]
  refine ⟨(above_iff h hle).2 (ofN_mono P hak), ?_⟩
  unfold belowR
  rw [Bool.or_eq_true, Bool.or_eq_true, decide_eq_true_iff, decide_eq_true_iff, decide_eq_true_iff]
  by_cases hz : ofN P k = 0
  · exact .inl (.inl hz)
  · rcases h2 with h2 | h2
    · exact .inl (.inr h2)
    · exact .inr (lex_le_lt ((of_iff h k (i := ofN P k - 1) (by omega)).1 (by omega)) h2)
theorem cover_len (P : List (List Int)) (a b : List Int) : (coverR P a b).length ≤ P.length + 1 := by
  unfold coverR
  split
  · exact numsR_len _ _
  · simp
theorem cover_mem {P : List (List Int)} {a b : List Int} {z : Int} (h : z ∈ coverR P a b) : 0 ≤ z ∧ z ≤ (P.length : Int) := by
  unfold coverR at h
  split at h
  · obtain ⟨i, rfl, hi, _⟩ := numsR_mem.1 h
    omega
  · simp at h
theorem mayR_few {P : List (List Int)} (h : mayR P = true) : P.length ≤ 7 ∧ riseR P = true := by
  unfold mayR at h
  rw [Bool.and_eq_true, Bool.and_eq_true] at h
  exact ⟨of_decide_eq_true h.1, h.2.2⟩
theorem mem_take_next {α : Type} {L : List α} {i : Nat} {z : α} (hz : L[i]? = some z) (x : α) : x ∈ L.take (i + 1) ↔ x ∈ L.take i ∨ z = x := by
  rw [List.take_add_one, hz, Option.toList_some, List.mem_append, List.mem_singleton]
  exact ⟨fun h => h.imp id Eq.symm, fun h => h.imp id Eq.symm⟩
end Go.Proofs.Ytdbgkbgodnknnaa
