/-
  Plain facts on the order of texts: dates, hours, minutes, seconds, byte by byte.
-/
import Derived.Test.YthkafbeojeedbaaDoorLeapTx
namespace Go.Proofs.YthkafbeojeedbaaDoor
open Go.RowKit
set_option linter.unusedVariables false

/-- One list of bytes ahead of another. -/
def lexI : List Int → List Int → Bool
  | _, [] => false
  | [], _ :: _ => true
  | a :: x, b :: y => decide (a < b) || (a == b && lexI x y)
theorem less_lex (xs : List Int) : ∀ ys : List Int, (∀ z ∈ xs, 0 ≤ z ∧ z ≤ 255) → (∀ z ∈ ys, 0 ≤ z ∧ z ≤ 255) → Op.bytesLess (strOfNums xs).toList (strOfNums ys).toList = lexI xs ys := by
  have e : ∀ zs : List Int, (strOfNums zs).toList = zs.map fun n => UInt8.ofNat n.toNat := fun zs => by rw [ByteArray.toList_eq]; exact strOfNums_data zs
  induction xs with
  | nil => intro ys _ _; rw [e, e]; cases ys <;> simp [Op.bytesLess, lexI]
  | cons x xs ih =>
    intro ys hx hy
    cases ys with
    | nil => rw [e, e]; simp [Op.bytesLess, lexI]
    | cons y ys =>
      have h := ih ys (fun z hz => hx z (by simp [hz])) (fun z hz => hy z (by simp [hz]))
      rw [e, e] at h
      rw [e, e]
      have bx := hx x (by simp)
      have bby := hy y (by simp)
      simp only [List.map_cons, Op.bytesLess, lexI]
      rw [h]
      have n1 : (UInt8.ofNat x.toNat).toNat = x.toNat := by simp; omega
      have n2 : (UInt8.ofNat y.toNat).toNat = y.toNat := by simp; omega
      have e1 : decide (UInt8.ofNat x.toNat < UInt8.ofNat y.toNat) = decide (x < y) := by
        rw [decide_eq_decide, UInt8.lt_iff_toNat_lt, n1, n2]; omega
      have e2 : (UInt8.ofNat x.toNat == UInt8.ofNat y.toNat) = (x == y) := by
        rw [Bool.eq_iff_iff]
        simp only [beq_iff_eq]
        constructor
        · intro h'; have := congrArg UInt8.toNat h'; rw [n1, n2] at this; omega
        · intro h'; rw [h']
      rw [e1, e2]
theorem lex_app (A : List Int) : ∀ (B X Y : List Int), A.length = B.length → lexI (A ++ X) (B ++ Y) = (lexI A B || (decide (A = B) && lexI X Y)) := by
  induction A with
  | nil => intro B X Y h; cases B with
    | nil => simp [lexI]
    | cons b B => simp at h
  | cons a A ih =>
    intro B X Y h
    cases B with
    | nil => simp at h
    | cons b B =>
      simp at h
      simp only [List.cons_append, lexI]
      rw [ih B X Y h]
      by_cases hab : a = b
      · subst hab; simp
      · have hf : (a == b) = false := by simp [hab]
        simp [hf, hab]
theorem lex_pd (k : Nat) : ∀ n n' : Int, 0 ≤ n → n < 10 ^ k → 0 ≤ n' → n' < 10 ^ k → lexI (pd k n) (pd k n') = decide (n < n') ∧ (pd k n = pd k n' ↔ n = n') := by
  induction k with
  | zero => intro n n' a b c d; simp at b d; have : n = n' := by omega
            subst this; simp [pd, lexI]
  | succ k ih =>
    intro n n' a b c d
    rw [Int.pow_succ] at b d
    obtain ⟨h1, h2⟩ := ih (n / 10) (n' / 10) (by omega) (by omega) (by omega) (by omega)
    simp only [pd]
    constructor
    · rw [lex_app _ _ _ _ (by rw [pd_len, pd_len]), h1]
      have h3 : decide (pd k (n / 10) = pd k (n' / 10)) = decide (n / 10 = n' / 10) := by rw [decide_eq_decide]; exact h2
      rw [h3]
      simp only [lexI, Bool.and_false, Bool.or_false]
      rw [Bool.eq_iff_iff]
      simp
      omega
    · constructor
      · intro h
        obtain ⟨h3, h4⟩ := List.append_inj h (by rw [pd_len, pd_len])
        have := h2.1 h3
        simp at h4
        omega
      · intro h; rw [h]
theorem lex_body {y m d y' m' d' : Int} (h : Gd y m d) (h' : Gd y' m' d') (hy : 0 ≤ y) (hy' : 0 ≤ y') : lexI (body y m d) (body y' m' d') = decide (Ahead y m d y' m' d') := by
  have e1 : ab y = y := by unfold ab; rw [if_neg (by omega)]
  have e2 : ab y' = y' := by unfold ab; rw [if_neg (by omega)]
  have a1 := h.month; have a2 := h.day; have a3 := h'.month; have a4 := h'.day
  have b1 := h.2.1; have b2 := h'.2.1
  unfold body
  rw [e1, e2]
  obtain ⟨l1, i1⟩ := lex_pd 4 y y' hy (by omega) hy' (by omega)
  obtain ⟨l2, i2⟩ := lex_pd 2 m m' (by omega) (by omega) (by omega) (by omega)
  obtain ⟨l3, i3⟩ := lex_pd 2 d d' (by omega) (by omega) (by omega) (by omega)
  rw [lex_app _ _ _ _ (by rw [pd_len, pd_len]), l1]
  have c1 : ∀ X Y, lexI (45 :: X) (45 :: Y) = lexI X Y := fun X Y => by simp [lexI]
  rw [c1, lex_app _ _ _ _ (by rw [pd_len, pd_len]), l2, c1, l3]
  have j1 : decide (pd 4 y = pd 4 y') = decide (y = y') := by rw [decide_eq_decide]; exact i1
  have j2 : decide (pd 2 m = pd 2 m') = decide (m = m') := by rw [decide_eq_decide]; exact i2
  rw [j1, j2, Bool.eq_iff_iff]
  simp only [decide_eq_true_eq, Bool.or_eq_true, Bool.and_eq_true]
theorem lex_time {H M S H' M' S' : Int} (h1 : 0 ≤ H ∧ H ≤ 99) (h2 : 0 ≤ M ∧ M ≤ 99) (h3 : 0 ≤ S ∧ S ≤ 99) (g1 : 0 ≤ H' ∧ H' ≤ 99) (g2 : 0 ≤ M' ∧ M' ≤ 99) (g3 : 0 ≤ S' ∧ S' ≤ 99) (h : H < H' ∨ H = H' ∧ (M < M' ∨ M = M' ∧ S < S')) :
    lexI (pd 2 H ++ 58 :: (pd 2 M ++ 58 :: (pd 2 S ++ [90]))) (pd 2 H' ++ 58 :: (pd 2 M' ++ 58 :: (pd 2 S' ++ [90]))) = true := by
  obtain ⟨l1, i1⟩ := lex_pd 2 H H' h1.1 (by omega) g1.1 (by omega)
  obtain ⟨l2, i2⟩ := lex_pd 2 M M' h2.1 (by omega) g2.1 (by omega)
  obtain ⟨l3, i3⟩ := lex_pd 2 S S' h3.1 (by omega) g3.1 (by omega)
  have c1 : ∀ X Y, lexI (58 :: X) (58 :: Y) = lexI X Y := fun X Y => by simp [lexI]
  rw [lex_app _ _ _ _ (by rw [pd_len, pd_len]), l1, c1, lex_app _ _ _ _ (by rw [pd_len, pd_len]), l2, c1, lex_app _ _ _ _ (by rw [pd_len, pd_len]), l3]
  have j1 : decide (pd 2 H = pd 2 H') = decide (H = H') := by rw [decide_eq_decide]; exact i1
  have j2 : decide (pd 2 M = pd 2 M') = decide (M = M') := by rw [decide_eq_decide]; exact i2
  rw [j1, j2]
  simp only [Bool.or_eq_true, Bool.and_eq_true, decide_eq_true_eq]
  rcases h with h | ⟨h, h' | ⟨h', h''⟩⟩
  · exact .inl h
  · exact .inr ⟨h, .inl h'⟩
  · exact .inr ⟨h, .inr ⟨h', .inl h''⟩⟩
theorem sec_lex {s s' : Int} (h0 : 0 ≤ s) (h : s < s') (h1 : s' ≤ 86400) : hh s < hh s' ∨ hh s = hh s' ∧ (mi s < mi s' ∨ mi s = mi s' ∧ ss s < ss s') := by
  unfold hh mi ss
  have hs : ¬ s = 86400 := by omega
  by_cases e : s' = 86400
  · simp only [if_neg hs, if_pos e]; omega
  · simp only [if_neg hs, if_neg e]; omega
theorem hms_range {s : Int} (h0 : 0 ≤ s) (h1 : s ≤ 86400) : (0 ≤ hh s ∧ hh s ≤ 99) ∧ (0 ≤ mi s ∧ mi s ≤ 99) ∧ (0 ≤ ss s ∧ ss s ≤ 99) := by
  unfold hh mi ss
  split <;> omega
/-- Later seconds have later texts. -/
theorem ckt_lex {y m d y' m' d' s s' : Int} (h : Gd y m d) (h' : Gd y' m' d') (hy : 0 ≤ y) (hy' : 0 ≤ y') (a0 : 0 ≤ s) (a1 : s ≤ 86400) (b0 : 0 ≤ s') (b1 : s' ≤ 86400) (hl : dayN y m d < dayN y' m' d' ∨ dayN y m d = dayN y' m' d' ∧ s < s') : lexI (ckt y m d s) (ckt y' m' d' s') = true := by
  have t1 : txt y m d = body y m d := by unfold txt; rw [if_neg (by omega)]
  have t2 : txt y' m' d' = body y' m' d' := by unfold txt; rw [if_neg (by omega)]
  unfold ckt
  rw [t1, t2, lex_app _ _ _ _ (by rw [body_len, body_len]), lex_body h h' hy hy']
  have c1 : ∀ X Y, lexI (84 :: X) (84 :: Y) = lexI X Y := fun X Y => by simp [lexI]
  rw [c1]
  rcases hl with hl | ⟨hl, hs⟩
  · rw [decide_eq_true ((day_lt h h').1 hl)]
    rfl
  · obtain ⟨rfl, rfl, rfl⟩ := day_inj h h' hl
    obtain ⟨p1, p2, p3⟩ := hms_range a0 a1
    obtain ⟨q1, q2, q3⟩ := hms_range b0 b1
    rw [lex_time p1 p2 p3 q1 q2 q3 (sec_lex a0 hs b1)]
    simp
theorem ckt_len (y m d s : Int) : (ckt y m d s).length = (txt y m d).length + 10 := by
  unfold ckt
  simp [pd_len]
theorem ckt_by {y m d s : Int} (h : Gd y m d) : ∀ z ∈ ckt y m d s, 0 ≤ z ∧ z ≤ 255 := by
  intro z hz
  unfold ckt at hz
  simp only [List.mem_append, List.mem_cons, List.not_mem_nil, or_false] at hz
  rcases hz with h1 | rfl | h1 | rfl | h1 | rfl | h1 | rfl
  · exact txt_by h z h1
  · omega
  · have := pd_dig _ _ z h1; omega
  · omega
  · have := pd_dig _ _ z h1; omega
  · omega
  · have := pd_dig _ _ z h1; omega
  · omega
theorem ckt_at (y m d s : Int) : (ckt y m d s)[(txt y m d).length]?.getD 0 = 84 ∧ (ckt y m d s)[(txt y m d).length + 9]?.getD 0 = 90 := by
  unfold ckt
  have l1 := pd_len 2 (hh s); have l2 := pd_len 2 (mi s); have l3 := pd_len 2 (ss s)
  obtain ⟨a, b, e1⟩ : ∃ a b, pd 2 (hh s) = [a, b] := ⟨_, _, rfl⟩
  obtain ⟨a', b', e2⟩ : ∃ a b, pd 2 (mi s) = [a, b] := ⟨_, _, rfl⟩
  obtain ⟨a'', b'', e3⟩ : ∃ a b, pd 2 (ss s) = [a, b] := ⟨_, _, rfl⟩
  rw [e1, e2, e3]
  constructor
  · rw [List.getElem?_append_right (Nat.le_refl _)]; simp
  · rw [List.getElem?_append_right (Nat.le_add_right _ _)]; simp
end Go.Proofs.YthkafbeojeedbaaDoor
