/-
  Plain facts on chapter 10: keys of sixteen bytes, their texts, their order, lists of them in order.
-/
namespace Go.Proofs.Ytdbgkbgodnknnaa
set_option linter.unusedVariables false

/-- A key's sixteen bytes. -/
structure Ky (k : List Int) : Prop where
  len : k.length = 16
  bytes : ∀ z ∈ k, 0 ≤ z ∧ z ≤ 255
/-- How two rows of numbers lie, the first that differ deciding. -/
def lexC : List Int → List Int → Int
  | [], [] => 0
  | [], _ :: _ => -1
  | _ :: _, [] => 1
  | a :: r, b :: s => if a < b then -1 else if b < a then 1 else lexC r s
theorem lexC_self : ∀ a, lexC a a = 0
  | [] => rfl
  | a :: r => by unfold lexC; rw [if_neg (by omega), if_neg (by omega)]; exact lexC_self r
theorem lexC_eq : ∀ {a b : List Int}, lexC a b = 0 → a = b
  | [], [], _ => rfl
  | [], _ :: _, h => by simp [lexC] at h
  | _ :: _, [], h => by simp [lexC] at h
  | a :: r, b :: s, h => by
    unfold lexC at h
    split at h
    · simp at h
    · split at h
      · simp at h
      · rw [show a = b by omega, lexC_eq h]
theorem lexC_ways : ∀ a b : List Int, lexC a b = -1 ∨ lexC a b = 0 ∨ lexC a b = 1
  | [], [] => .inr (.inl rfl)
  | [], _ :: _ => .inl rfl
  | _ :: _, [] => .inr (.inr rfl)
  | a :: r, b :: s => by
    unfold lexC
    split
    · exact .inl rfl
    · split
      · exact .inr (.inr rfl)
      · exact lexC_ways r s
theorem lexC_swap : ∀ a b : List Int, lexC b a = -lexC a b
  | [], [] => rfl
  | [], _ :: _ => rfl
  | _ :: _, [] => rfl
  | a :: r, b :: s => by
    unfold lexC
    by_cases h1 : a < b
    · rw [if_pos h1, if_neg (by omega), if_pos h1]; rfl
    · by_cases h2 : b < a
      · rw [if_pos h2, if_neg h1, if_pos h2]
      · rw [if_neg h1, if_neg h2, if_neg h2, if_neg h1]; exact lexC_swap r s
theorem lexC_trans : ∀ {a b c : List Int}, lexC a b = -1 → lexC b c = -1 → lexC a c = -1
  | [], [], _, h, _ => by simp [lexC] at h
  | [], _ :: _, [], _, h => by simp [lexC] at h
  | [], _ :: _, _ :: _, _, _ => rfl
  | _ :: _, [], _, h, _ => by simp [lexC] at h
  | _ :: _, _ :: _, [], _, h => by simp [lexC] at h
  | a :: r, b :: s, c :: t, h1, h2 => by
    unfold lexC at h1 h2 ⊢
    by_cases x1 : a < b
    · by_cases x2 : b < c
      · rw [if_pos (by omega)]
      · rw [if_neg x2] at h2
        by_cases x3 : c < b
        · rw [if_pos x3] at h2; simp at h2
        · rw [if_pos (by omega)]
    · rw [if_neg x1] at h1
      by_cases y1 : b < a
      · rw [if_pos y1] at h1; simp at h1
      · rw [if_neg y1] at h1
        have e : a = b := by omega
        subst e
        by_cases x2 : a < c
        · rw [if_pos x2]
        · rw [if_neg x2] at h2 ⊢
          by_cases x3 : c < a
          · rw [if_pos x3] at h2; simp at h2
          · rw [if_neg x3] at h2 ⊢; exact lexC_trans h1 h2
/-- A key's text: what stands ahead of its first 0. -/
def txK (k : List Int) : List Int := k.takeWhile fun z => z != 0
/-- May a key be? -/
def goodK (k : List Int) : Bool := decide (k.getD 0 0 ≠ 0 ∧ ∀ z ∈ k.drop (txK k).length, z = 0)
/-- May a text be a key's? -/
def mayK (s : List Int) : Bool := decide (1 ≤ s.length ∧ s.length ≤ 16 ∧ ∀ z ∈ s, z ≠ 0)
/-- A text's key. -/
def keyK (s : List Int) : List Int := s ++ List.replicate (16 - s.length) 0
def zeroK : List Int := List.replicate 16 0
/-- What Of answers. -/
def ofK (s : List Int) : List Int := if mayK s then keyK s else zeroK
theorem zeroK_ky : Ky zeroK := ⟨by decide, by decide⟩
theorem keyK_ky {s : List Int} (h : s.length ≤ 16) (hb : ∀ z ∈ s, 0 ≤ z ∧ z ≤ 255) : Ky (keyK s) := by
  refine ⟨by simp [keyK]; omega, fun z hz => ?_⟩
  rcases List.mem_append.1 hz with hz | hz
  · exact hb z hz
  · rw [List.eq_of_mem_replicate hz]; omega
theorem ofK_ky {s : List Int} (hb : ∀ z ∈ s, 0 ≤ z ∧ z ≤ 255) : Ky (ofK s) := by
  unfold ofK
  split
  · next h => exact keyK_ky (of_decide_eq_true h).2.1 hb
  · exact zeroK_ky
theorem txK_le (k : List Int) : (txK k).length ≤ k.length := (List.takeWhile_sublist _).length_le
/-- Rising, each once. -/
def Rising : List (List Int) → Prop
  | [] => True
  | [_] => True
  | a :: b :: r => lexC a b < 0 ∧ Rising (b :: r)
theorem Rising.tail {a : List Int} {r : List (List Int)} (h : Rising (a :: r)) : Rising r := by
  cases r with
  | nil => trivial
  | cons b r => exact h.2
end Go.Proofs.Ytdbgkbgodnknnaa
