/-
  Plain facts on chapter 5's texts: offsets as digits, lines, a table of lines.
-/
import Derived.Test.YthkafbeojeedbaaDoorLeapTab
import Derived.Test.YthkafbeojeedbaaDoorCivilText
namespace Go.Proofs.YthkafbeojeedbaaDoor
set_option linter.unusedVariables false

/-- How many digits a number below 10000 has. -/
def nd (n : Int) : Nat := if n < 10 then 1 else if n < 100 then 2 else if n < 1000 then 3 else 4
/-- An offset's text. -/
def ot (n : Int) : List Int := if n < 0 then 45 :: pd (nd (-n)) (-n) else pd (nd n) n
theorem nd_range (n : Int) : 1 ≤ nd n ∧ nd n ≤ 4 := by unfold nd; (repeat' split) <;> omega
theorem vl_pd : ∀ (k : Nat) (n : Int), 0 ≤ n → n < 10 ^ k → vl (pd k n) = n
  | 0, n, h0, h1 => by simp at h1; simp [pd, vl]; omega
  | k + 1, n, h0, h1 => by
    show vl (pd k (n / 10) ++ [48 + n % 10]) = n
    rw [vl_snoc, vl_pd k (n / 10) (by omega) (by rw [Int.pow_succ] at h1; omega)]
    omega
theorem nd_lt {n : Int} (h : n ≤ 9999) : n < 10 ^ nd n := by
  unfold nd
  (repeat' split) <;> simp <;> omega
theorem vl_nd {n : Int} (h0 : 0 ≤ n) (h : n ≤ 9999) : vl (pd (nd n) n) = n := vl_pd _ n h0 (nd_lt h)
theorem pd_ne' {k : Nat} (h : 1 ≤ k) (n : Int) : ∃ z r, pd k n = z :: r ∧ 48 ≤ z ∧ z ≤ 57 := by
  have hl := pd_len k n
  have hd := pd_dig k n
  cases e : pd k n with
  | nil => rw [e] at hl; simp at hl; omega
  | cons z r => exact ⟨z, r, rfl, hd z (by rw [e]; simp)⟩
theorem ot_rest {n : Int} (h : -9999 ≤ n ∧ n ≤ 9999) : Dig (rest (ot n)) ∧ 1 ≤ (rest (ot n)).length ∧ (rest (ot n)).length ≤ 4 ∧ sgn (ot n) * vl (rest (ot n)) = n := by
  unfold ot
  by_cases hn : n < 0
  · rw [if_pos hn]
    have e1 : rest (45 :: pd (nd (-n)) (-n)) = pd (nd (-n)) (-n) := by simp [rest]
    have e2 : sgn (45 :: pd (nd (-n)) (-n)) = -1 := by simp [sgn]
    rw [e1, e2, pd_len, vl_nd (by omega) (by omega)]
    have := nd_range (-n)
    exact ⟨pd_dig _ _, by omega, by omega, by omega⟩
  · rw [if_neg hn]
    obtain ⟨z, r, hz, z1, z2⟩ := pd_ne' (nd_range n).1 n
    have hne : ¬ (pd (nd n) n).head? = some 45 := by rw [hz]; simp; omega
    have e1 : rest (pd (nd n) n) = pd (nd n) n := by simp [rest, hne]
    have e2 : sgn (pd (nd n) n) = 1 := by simp [sgn, hne]
    rw [e1, e2, pd_len, vl_nd (by omega) (by omega)]
    have := nd_range n
    exact ⟨pd_dig _ _, by omega, by omega, by omega⟩
theorem ot_inj {n k : Int} (h : -9999 ≤ n ∧ n ≤ 9999) (h' : -9999 ≤ k ∧ k ≤ 9999) (he : ot n = ot k) : n = k := by
  have a := (ot_rest h).2.2.2
  have b := (ot_rest h').2.2.2
  rw [he, b] at a
  exact a.symm
theorem ot_by (n : Int) : ∀ z ∈ ot n, z = 45 ∨ (48 ≤ z ∧ z ≤ 57) := by
  unfold ot
  split
  · intro z hz
    rcases List.mem_cons.1 hz with rfl | h
    · exact .inl rfl
    · exact .inr (pd_dig _ _ z h)
  · exact fun z hz => .inr (pd_dig _ _ z hz)
open Classical in
/-- The offset whose text these bytes are. -/
noncomputable def offN (xs : List Int) : Option Int := if h : ∃ n : Int, (-9999 ≤ n ∧ n ≤ 9999) ∧ ot n = xs then some h.choose else none
theorem off_ot {n : Int} (h : -9999 ≤ n ∧ n ≤ 9999) : offN (ot n) = some n := by
  have hx : ∃ k : Int, (-9999 ≤ k ∧ k ≤ 9999) ∧ ot k = ot n := ⟨n, h, rfl⟩
  unfold offN
  rw [dif_pos hx]
  have hc := hx.choose_spec
  rw [ot_inj hc.1 h hc.2]
theorem off_some {xs : List Int} {n : Int} (h : offN xs = some n) : (-9999 ≤ n ∧ n ≤ 9999) ∧ ot n = xs := by
  unfold offN at h
  split at h
  · rename_i hx
    have hc := hx.choose_spec
    cases h
    exact hc
  · cases h
theorem off_none {xs : List Int} {n : Int} (h : offN xs = none) (hn : -9999 ≤ n ∧ n ≤ 9999) : ot n ≠ xs := by
  intro he
  rw [← he, off_ot hn] at h
  cases h
/-- The one offset that a text can be. -/
theorem off_cand {xs : List Int} {n : Int} (h : offN xs = some n) : Dig (rest xs) ∧ 1 ≤ (rest xs).length ∧ (rest xs).length ≤ 4 ∧ sgn xs * vl (rest xs) = n := by
  obtain ⟨h1, rfl⟩ := off_some h
  exact ot_rest h1
theorem cand_range {xs : List Int} (h : Dig (rest xs)) (hl : (rest xs).length ≤ 4) : -9999 ≤ sgn xs * vl (rest xs) ∧ sgn xs * vl (rest xs) ≤ 9999 := by
  have h1 := vl_nonneg _ h
  have h2 : vl (rest xs) ≤ 9999 := by
    have key : ∀ ys : List Int, Dig ys → vl ys + 1 ≤ 10 ^ ys.length := by
      intro ys
      suffices ∀ k, k ≤ ys.length → Dig ys → vl (ys.take k) + 1 ≤ 10 ^ k by
        intro hd
        have := this ys.length (Nat.le_refl _) hd
        rw [List.take_length] at this
        exact this
      intro k
      induction k with
      | zero => intro _ _; simp [vl]
      | succ k ih =>
        intro hk hd
        have := ih (by omega) hd
        rw [take_snoc ys k (by omega), vl_snoc, Int.pow_succ]
        have hz : ys[k]?.getD 0 ≤ 57 := by
          have := (hd ys[k] (List.getElem_mem (by omega))).2
          simpa [show k < ys.length by omega] using this
        omega
    have := key _ h
    have h3 : (10 : Int) ^ (rest xs).length ≤ 10 ^ 4 := by
      have : 10 ^ (rest xs).length ≤ 10 ^ 4 := Nat.pow_le_pow_right (by decide) hl
      exact_mod_cast this
    omega
  unfold sgn
  split <;> omega

/-- Lines that a byte 10 ends, and what is behind them. -/
def spl : List Int → List Int → List (List Int) × List Int
  | acc, [] => ([], acc)
  | acc, z :: r => if z = 10 then (acc :: (spl [] r).1, (spl [] r).2) else spl (acc ++ [z]) r
def linesOf (xs : List Int) : List (List Int) × List Int := spl [] xs
theorem spl_snoc (z : Int) : ∀ (xs acc : List Int), spl acc (xs ++ [z]) = if z = 10 then ((spl acc xs).1 ++ [(spl acc xs).2], []) else ((spl acc xs).1, (spl acc xs).2 ++ [z])
  | [], acc => by
    by_cases h : z = 10 <;> simp [spl, h]
  | x :: xs, acc => by
    show spl acc (x :: (xs ++ [z])) = _
    by_cases hx : x = 10
    · have ih := spl_snoc z xs []
      by_cases h : z = 10
      · rw [if_pos h] at ih ⊢
        simp [spl, hx, ih]
      · rw [if_neg h] at ih ⊢
        simp [spl, hx, ih]
    · have ih := spl_snoc z xs (acc ++ [x])
      simp only [spl, if_neg hx]
      exact ih
theorem spl_len : ∀ (xs acc : List Int), (spl acc xs).1.length ≤ xs.length
  | [], acc => by simp [spl]
  | x :: xs, acc => by
    unfold spl
    split
    · have := spl_len xs []; simp; omega
    · have := spl_len xs (acc ++ [x]); simp; omega
theorem spl_by {P : Int → Prop} : ∀ (xs acc : List Int), (∀ z ∈ xs, P z) → (∀ z ∈ acc, P z) → (∀ l ∈ (spl acc xs).1, ∀ z ∈ l, P z) ∧ ∀ z ∈ (spl acc xs).2, P z
  | [], acc, _, ha => ⟨fun l hl => by simp [spl] at hl, by simpa [spl] using ha⟩
  | x :: xs, acc, hx, ha => by
    unfold spl
    split
    · obtain ⟨h1, h2⟩ := spl_by xs [] (fun z hz => hx z (by simp [hz])) (fun z hz => by simp at hz)
      refine ⟨fun l hl => ?_, h2⟩
      rcases List.mem_cons.1 hl with rfl | h
      · exact ha
      · exact h1 l h
    · exact spl_by xs (acc ++ [x]) (fun z hz => hx z (by simp [hz])) (fun z hz => by
        rcases List.mem_append.1 hz with h | h
        · exact ha z h
        · simp at h; rw [h]; exact hx x (by simp))
theorem spl_short : ∀ (xs acc : List Int), (∀ l ∈ (spl acc xs).1, l.length ≤ acc.length + xs.length) ∧ (spl acc xs).2.length ≤ acc.length + xs.length
  | [], acc => by simp [spl]
  | x :: xs, acc => by
    unfold spl
    split
    · obtain ⟨h1, h2⟩ := spl_short xs []
      refine ⟨fun l hl => ?_, by simp at h2 ⊢; omega⟩
      rcases List.mem_cons.1 hl with rfl | h
      · simp
      · have := h1 l h; simp at this ⊢; omega
    · obtain ⟨h1, h2⟩ := spl_short xs (acc ++ [x])
      refine ⟨fun l hl => ?_, by simp at h2 ⊢; omega⟩
      have := h1 l hl; simp at this ⊢; omega
/-- So many lines, a tail counted too. -/
def cnt (xs : List Int) : Nat := (linesOf xs).1.length + (if (linesOf xs).2 = [] then 0 else 1)
/-- The place of a line's first blank, or its end. -/
def cutAt : List Int → Nat
  | [] => 0
  | z :: r => if z = 32 then 0 else cutAt r + 1
theorem cut_le : ∀ l : List Int, cutAt l ≤ l.length
  | [] => Nat.le_refl _
  | z :: r => by
    unfold cutAt
    split
    · simp
    · have := cut_le r; simp; omega
theorem cut_lt : ∀ (l : List Int) (k : Nat), k < cutAt l → ¬ l[k]?.getD 0 = 32
  | [], k, h => by simp [cutAt] at h
  | z :: r, k, h => by
    unfold cutAt at h
    split at h
    · omega
    · rename_i hz
      cases k with
      | zero => simpa using hz
      | succ k => simpa using cut_lt r k (by omega)
theorem cut_at : ∀ (l : List Int), cutAt l < l.length → l[cutAt l]?.getD 0 = 32
  | [], h => by simp at h
  | z :: r, h => by
    unfold cutAt at h ⊢
    by_cases hz : z = 32
    · simp [hz]
    · rw [if_neg hz] at h ⊢
      simpa using cut_at r (by simpa using h)
theorem cut_mid (l r : List Int) (h : ∀ z ∈ l, z ≠ 32) : cutAt (l ++ 32 :: r) = l.length := by
  induction l with
  | nil => simp [cutAt]
  | cons z l ih =>
    show cutAt (z :: (l ++ 32 :: r)) = _
    unfold cutAt
    rw [if_neg (h z (by simp)), ih (fun y hy => h y (by simp [hy]))]
    rfl
/-- What a line tells. -/
noncomputable def plN (l : List Int) : Option (Int × Int) :=
  if cutAt l = l.length then none else
    match parseN (l.take (cutAt l)), offN (l.drop (cutAt l + 1)) with
    | some p, some n => some (dayN p.1 p.2.1 p.2.2, n)
    | _, _ => none
theorem pl_range {l : List Int} {p : Int × Int} (h : plN l = some p) : (-4371587 ≤ p.1 ∧ p.1 ≤ 2932896) ∧ -9999 ≤ p.2 ∧ p.2 ≤ 9999 := by
  unfold plN at h
  split at h
  · cases h
  · split at h
    · rename_i q n h1 h2
      cases h
      obtain ⟨y, m, d⟩ := q
      exact ⟨day_range (parse_some h1).1, (off_some h2).1⟩
    · cases h
/-- A date's and an offset's line. -/
theorem pl_line {y m d n : Int} (h : Gd y m d) (hn : -9999 ≤ n ∧ n ≤ 9999) : plN (txt y m d ++ 32 :: ot n) = some (dayN y m d, n) := by
  have hb : ∀ z ∈ txt y m d, z ≠ 32 := by
    have hbody : ∀ z ∈ body y m d, z ≠ 32 := by
      intro z hz
      unfold body at hz
      simp only [List.mem_append, List.mem_cons] at hz
      rcases hz with h1 | rfl | h1 | rfl | h1
      · have := pd_dig _ _ z h1; omega
      · omega
      · have := pd_dig _ _ z h1; omega
      · omega
      · have := pd_dig _ _ z h1; omega
    intro z hz
    unfold txt at hz
    split at hz
    · rcases List.mem_cons.1 hz with rfl | h1
      · omega
      · exact hbody z h1
    · exact hbody z hz
  unfold plN
  rw [cut_mid _ _ hb, if_neg (by simp), List.take_left' rfl]
  have e : (txt y m d ++ 32 :: ot n).drop ((txt y m d).length + 1) = ot n := by
    have : txt y m d ++ 32 :: ot n = (txt y m d ++ [32]) ++ ot n := by simp
    rw [this, List.drop_left' (by simp)]
  rw [e, parse_txt h, off_ot hn]
/-- May a line stand behind another? -/
abbrev Fits (o : Option (Int × Int)) (p : Int × Int) : Prop := (o.getD (p.1 - 1, p.2 - 1)).1 < p.1 ∧ (p.2 = (o.getD (p.1 - 1, p.2 - 1)).2 + 1 ∨ p.2 = (o.getD (p.1 - 1, p.2 - 1)).2 - 1)
theorem fits_none (p : Int × Int) : Fits none p := ⟨by show p.1 - 1 < p.1; omega, .inl (by show p.2 = p.2 - 1 + 1; omega)⟩
/-- A table of lines. -/
noncomputable def goN : Tb → List (List Int) → Option Tb
  | acc, [] => some acc
  | acc, l :: r => match plN l with
    | none => none
    | some p => if Fits acc.getLast? p then goN (acc ++ [p]) r else none
theorem goN_cons {acc : Tb} {l : List Int} {r : List (List Int)} {p : Int × Int} (h : plN l = some p) (hf : Fits acc.getLast? p) : goN acc (l :: r) = goN (acc ++ [p]) r := by
  conv => lhs; unfold goN
  rw [h]
  exact if_pos hf
theorem steps_snoc : ∀ (acc : Tb) (p : Int × Int), Steps acc → Fits acc.getLast? p → Steps (acc ++ [p])
  | [], p, _, _ => trivial
  | [q], p, _, h => ⟨h, trivial⟩
  | q :: q2 :: r, p, h, hf => by
    refine ⟨h.1, ?_⟩
    exact steps_snoc (q2 :: r) p h.2 (by simpa using hf)
structure Sofar (acc : Tb) : Prop where
  steps : Steps acc
  days : ∀ p ∈ acc, -4371587 ≤ p.1 ∧ p.1 ≤ 2932896
  offs : ∀ p ∈ acc, -9999 ≤ p.2 ∧ p.2 ≤ 9999
theorem Sofar.nil : Sofar [] := ⟨trivial, fun p h => by simp at h, fun p h => by simp at h⟩
theorem Sofar.snoc {acc : Tb} {p : Int × Int} {l : List Int} (h : Sofar acc) (hp : plN l = some p) (hf : Fits acc.getLast? p) : Sofar (acc ++ [p]) := by
  have r := pl_range hp
  refine ⟨steps_snoc acc p h.steps hf, fun q hq => ?_, fun q hq => ?_⟩
  · rcases List.mem_append.1 hq with h1 | h1
    · exact h.days q h1
    · simp at h1; rw [h1]; exact r.1
  · rcases List.mem_append.1 hq with h1 | h1
    · exact h.offs q h1
    · simp at h1; rw [h1]; exact r.2
theorem goN_good : ∀ (ls : List (List Int)) (acc tb : Tb), Sofar acc → goN acc ls = some tb → Sofar tb ∧ tb.length = acc.length + ls.length
  | [], acc, tb, h, he => by cases he; exact ⟨h, by simp⟩
  | l :: r, acc, tb, h, he => by
    unfold goN at he
    split at he
    · cases he
    · rename_i p hp
      split at he
      · rename_i hf
        obtain ⟨a, b⟩ := goN_good r (acc ++ [p]) tb (h.snoc hp hf) he
        exact ⟨a, by rw [b]; simp; omega⟩
      · cases he
/-- The table that a text is. -/
noncomputable def parseTb (xs : List Int) : Option Tb :=
  if cnt xs ≤ 60 ∧ (linesOf xs).2 = [] ∧ (linesOf xs).1 ≠ [] then goN [] (linesOf xs).1 else none
theorem parseTb_good {xs : List Int} {tb : Tb} (h : parseTb xs = some tb) : GoodT tb := by
  unfold parseTb at h
  split at h
  · rename_i hc
    obtain ⟨h1, h2, h3⟩ := hc
    obtain ⟨a, b⟩ := goN_good _ _ _ Sofar.nil h
    have hl : tb.length = (linesOf xs).1.length := by simpa using b
    refine ⟨fun e => ?_, ?_, a.steps, a.days, a.offs⟩
    · rw [e] at hl
      exact h3 (List.eq_nil_of_length_eq_zero hl.symm)
    · unfold cnt at h1; omega
  · cases h
end Go.Proofs.YthkafbeojeedbaaDoor
