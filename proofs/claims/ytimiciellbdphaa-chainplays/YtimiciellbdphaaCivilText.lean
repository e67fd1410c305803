/-
  Plain facts on chapter 4's texts: a date's bytes, their order, and back.
-/
import Derived.Test.YtimiciellbdphaaCivilPlain
import Derived.Laws.BytesArg
namespace Go.Proofs.Ytimiciellbdphaa
set_option linter.unusedVariables false

/-- So many digits of a number. -/
def pd : Nat → Int → List Int
  | 0, _ => []
  | k + 1, n => pd k (n / 10) ++ [48 + n % 10]
theorem pd_len (k : Nat) : ∀ n, (pd k n).length = k := by
  induction k with
  | zero => intro n; rfl
  | succ k ih => intro n; simp [pd, ih]
def Dig (zs : List Int) : Prop := ∀ z ∈ zs, 48 ≤ z ∧ z ≤ 57
theorem pd_dig (k : Nat) : ∀ n, Dig (pd k n) := by
  induction k with
  | zero => intro n z hz; simp [pd] at hz
  | succ k ih =>
    intro n z hz
    rcases List.mem_append.1 hz with h | h
    · exact ih _ z h
    · simp at h; omega
/-- The number that digits are. -/
def vl : List Int → Int := List.foldl (fun a z => 10 * a + (z - 48)) 0
theorem vl_snoc (xs : List Int) (z : Int) : vl (xs ++ [z]) = 10 * vl xs + (z - 48) := by simp [vl, List.foldl_append]
theorem vl_pd2 (n : Int) (h : 0 ≤ n) (h1 : n ≤ 99) : vl (pd 2 n) = n := by
  simp only [pd, vl_snoc]
  simp [vl]
  omega
theorem vl_pd4 (n : Int) (h : 0 ≤ n) (h1 : n ≤ 9999) : vl (pd 4 n) = n := by
  simp only [pd, vl_snoc]
  simp [vl]
  omega
theorem vl_nonneg (xs : List Int) (h : Dig xs) : 0 ≤ vl xs := by
  suffices ∀ a : Int, 0 ≤ a → 0 ≤ List.foldl (fun a z => 10 * a + (z - 48)) a xs from this 0 (by omega)
  induction xs with
  | nil => intro a ha; exact ha
  | cons z xs ih =>
    intro a ha
    have := h z (by simp)
    exact ih (fun z hz => h z (by simp [hz])) _ (by show 0 ≤ 10 * a + (z - 48); omega)
/-- The year's digits. -/
def ab (y : Int) : Int := if y < 0 then -y else y
/-- What stands behind the sign. -/
def body (y m d : Int) : List Int := pd 4 (ab y) ++ (45 :: (pd 2 m ++ (45 :: pd 2 d)))
/-- A date's text. -/
def txt (y m d : Int) : List Int := if y < 0 then 45 :: body y m d else body y m d
theorem body_len (y m d : Int) : (body y m d).length = 10 := by simp [body, pd_len]
theorem body_head (y m d : Int) : ∃ z r, body y m d = z :: r ∧ 48 ≤ z ∧ z ≤ 57 := by
  have hl := pd_len 4 (ab y)
  have hd := pd_dig 4 (ab y)
  cases h : pd 4 (ab y) with
  | nil => rw [h] at hl; simp at hl
  | cons z r => exact ⟨z, r ++ (45 :: (pd 2 m ++ (45 :: pd 2 d))), by simp [body, h], hd z (by rw [h]; simp)⟩
theorem body_inj {y m d y' m' d' : Int} (h : body y m d = body y' m' d') : pd 4 (ab y) = pd 4 (ab y') ∧ pd 2 m = pd 2 m' ∧ pd 2 d = pd 2 d' := by
  unfold body at h
  obtain ⟨h1, h2⟩ := List.append_inj h (by rw [pd_len, pd_len])
  have h3 := (List.cons.inj h2).2
  obtain ⟨h4, h5⟩ := List.append_inj h3 (by rw [pd_len, pd_len])
  exact ⟨h1, h4, (List.cons.inj h5).2⟩
theorem Gd.ab {y m d : Int} (h : Gd y m d) : 0 ≤ ab y ∧ ab y ≤ 9999 := by
  have := h.1; have := h.2.1
  unfold Go.Proofs.Ytimiciellbdphaa.ab; split <;> omega
theorem txt_inj {y m d y' m' d' : Int} (h : Gd y m d) (h' : Gd y' m' d') (he : txt y m d = txt y' m' d') : y = y' ∧ m = m' ∧ d = d' := by
  obtain ⟨z, r, hz, hz1, hz2⟩ := body_head y m d
  obtain ⟨z', r', hz', hz1', hz2'⟩ := body_head y' m' d'
  have key : body y m d = body y' m' d' → ab y = ab y' ∧ m = m' ∧ d = d' := by
    intro hb
    obtain ⟨h1, h2, h3⟩ := body_inj hb
    have a1 := h.month; have a2 := h.day; have b1 := h'.month; have b2 := h'.day
    have e1 := congrArg vl h1
    have e2 := congrArg vl h2
    have e3 := congrArg vl h3
    rw [vl_pd4 _ h.ab.1 h.ab.2, vl_pd4 _ h'.ab.1 h'.ab.2] at e1
    rw [vl_pd2 _ (by omega) (by omega), vl_pd2 _ (by omega) (by omega)] at e2 e3
    exact ⟨e1, e2, e3⟩
  unfold txt at he
  split at he
  · rename_i h1
    split at he
    · rename_i h2
      have := key (List.cons.inj he).2
      unfold ab at this
      rw [if_pos h1, if_pos h2] at this
      omega
    · rw [hz'] at he
      have := (List.cons.inj he).1
      omega
  · rename_i h1
    split at he
    · rw [hz] at he
      have := (List.cons.inj he).1
      omega
    · rename_i h2
      have := key he
      unfold ab at this
      rw [if_neg h1, if_neg h2] at this
      omega
open Classical in
/-- The date whose text these bytes are. -/
noncomputable def parseN (xs : List Int) : Option (Int × Int × Int) := if h : ∃ p : Int × Int × Int, Gd p.1 p.2.1 p.2.2 ∧ txt p.1 p.2.1 p.2.2 = xs then some h.choose else none
theorem parse_txt {y m d : Int} (h : Gd y m d) : parseN (txt y m d) = some (y, m, d) := by
  have hx : ∃ p : Int × Int × Int, Gd p.1 p.2.1 p.2.2 ∧ txt p.1 p.2.1 p.2.2 = txt y m d := ⟨(y, m, d), h, rfl⟩
  unfold parseN
  rw [dif_pos hx]
  have hc := hx.choose_spec
  obtain ⟨e1, e2, e3⟩ := txt_inj hc.1 h hc.2
  congr 1
  exact Prod.ext e1 (Prod.ext e2 e3)
theorem parse_some {xs : List Int} {y m d : Int} (h : parseN xs = some (y, m, d)) : Gd y m d ∧ txt y m d = xs := by
  unfold parseN at h
  split at h
  · rename_i hx
    have hc := hx.choose_spec
    cases h' : hx.choose with
    | mk a b =>
      simp only [Option.some.injEq] at h
      rw [h] at hc
      exact hc
  · cases h
theorem parse_none {xs : List Int} {y m d : Int} (h : parseN xs = none) (hg : Gd y m d) : txt y m d ≠ xs := by
  intro he
  rw [← he, parse_txt hg] at h
  cases h
theorem txt_by {y m d : Int} (h : Gd y m d) : ∀ z ∈ txt y m d, 0 ≤ z ∧ z ≤ 255 := by
  have hb : ∀ z ∈ body y m d, 0 ≤ z ∧ z ≤ 255 := by
    intro z hz
    unfold body at hz
    simp only [List.mem_append, List.mem_cons] at hz
    rcases hz with h1 | rfl | h1 | rfl | h1
    · have := pd_dig _ _ z h1; omega
    · omega
    · have := pd_dig _ _ z h1; omega
    · omega
    · have := pd_dig _ _ z h1; omega
  intro z hz
  unfold txt at hz
  split at hz
  · rcases List.mem_cons.1 hz with rfl | h1
    · omega
    · exact hb z h1
  · exact hb z hz
theorem take_snoc (xs : List Int) (k : Nat) (h : k < xs.length) : xs.take (k + 1) = xs.take k ++ [xs[k]?.getD 0] := by
  rw [List.take_add_one]; simp [h]
theorem vl_lt (xs : List Int) (h : Dig xs) (hl : xs.length ≤ 9) : vl xs ≤ 999999999 := by
  suffices ∀ k : Nat, k ≤ 9 → k ≤ xs.length → vl (xs.take k) + 1 ≤ 10 ^ k by
    have := this xs.length hl (Nat.le_refl _)
    rw [List.take_length] at this
    have h2 : (10 : Int) ^ xs.length ≤ 10 ^ 9 := by
      have : 10 ^ xs.length ≤ 10 ^ 9 := Nat.pow_le_pow_right (by decide) hl
      exact_mod_cast this
    omega
  intro k hk hk2
  induction k with
  | zero => simp [vl]
  | succ k ih =>
    have := ih (by omega) (by omega)
    rw [take_snoc xs k (by omega), vl_snoc, Int.pow_succ]
    have hz : xs[k]?.getD 0 ≤ 57 := by
      have := (h xs[k] (List.getElem_mem (by omega))).2
      simpa [show k < xs.length by omega] using this
    omega
/-- The number that these bytes are, or -1. -/
def dgv (zs : List Int) : Int := if (∀ z ∈ zs, 48 ≤ z ∧ z ≤ 57) then vl zs else -1
theorem dgv_yes {zs : List Int} (h : Dig zs) : dgv zs = vl zs := if_pos h
theorem dgv_no {zs : List Int} (h : ¬ Dig zs) : dgv zs = -1 := if_neg h
theorem dgv_pd4 {n : Int} (h : 0 ≤ n ∧ n ≤ 9999) : dgv (pd 4 n) = n := by
  rw [dgv_yes (pd_dig 4 n)]; exact vl_pd4 n h.1 h.2
theorem dgv_pd2 {n : Int} (h : 0 ≤ n ∧ n ≤ 99) : dgv (pd 2 n) = n := by
  rw [dgv_yes (pd_dig 2 n)]; exact vl_pd2 n h.1 h.2
/-- The sign, and what stands behind it. -/
def sgn (xs : List Int) : Int := if xs.head? = some 45 then -1 else 1
def rest (xs : List Int) : List Int := if xs.head? = some 45 then xs.tail else xs
/-- A text's form. -/
def Shape (ts : List Int) : Prop := ts.length = 10 ∧ ts[4]?.getD 0 = 45 ∧ ts[7]?.getD 0 = 45
theorem body_shape (y m d : Int) : Shape (body y m d) := by
  have h4 := pd_len 4 (ab y)
  have h2 := pd_len 2 m
  refine ⟨body_len y m d, ?_, ?_⟩
  · unfold body
    rw [List.getElem?_append_right (by omega), h4]; rfl
  · unfold body
    rw [List.getElem?_append_right (by omega), h4]
    show ((pd 2 m ++ 45 :: pd 2 d)[2]?).getD 0 = 45
    rw [List.getElem?_append_right (by omega), h2]; rfl
theorem body_parts (y m d : Int) : (body y m d).take 4 = pd 4 (ab y) ∧ ((body y m d).drop 5).take 2 = pd 2 m ∧ (body y m d).drop 8 = pd 2 d := by
  have h4 := pd_len 4 (ab y)
  have h2 := pd_len 2 m
  have e5 : (body y m d).drop 5 = pd 2 m ++ (45 :: pd 2 d) := by
    have e : body y m d = (pd 4 (ab y) ++ [45]) ++ (pd 2 m ++ (45 :: pd 2 d)) := by simp [body]
    rw [e, List.drop_left' (by simp [h4])]
  refine ⟨List.take_left' h4, ?_, ?_⟩
  · rw [e5]; exact List.take_left' h2
  · have e : body y m d = (pd 4 (ab y) ++ (45 :: (pd 2 m ++ [45]))) ++ pd 2 d := by simp [body]
    rw [e, List.drop_left' (by simp [h4, h2])]
theorem txt_rest {y m d : Int} : rest (txt y m d) = body y m d ∧ sgn (txt y m d) * ab y = y := by
  obtain ⟨z, r, hz, hz1, hz2⟩ := body_head y m d
  unfold rest sgn txt ab
  by_cases h : y < 0
  · simp [h]
  · have hne : ¬ (body y m d).head? = some 45 := by rw [hz]; simp; omega
    simp [h, hne]
theorem parse_cand (xs : List Int) (Y M D : Int) (hY : Y = sgn xs * dgv ((rest xs).take 4)) (hM : M = dgv (((rest xs).drop 5).take 2)) (hD : D = dgv ((rest xs).drop 8)) {y m d : Int} (h : parseN xs = some (y, m, d)) :
    Shape (rest xs) ∧ 0 ≤ dgv ((rest xs).take 4) ∧ Y = y ∧ M = m ∧ D = d := by
  obtain ⟨hg, rfl⟩ := parse_some h
  obtain ⟨h1, h2⟩ := txt_rest (y := y) (m := m) (d := d)
  obtain ⟨p1, p2, p3⟩ := body_parts y m d
  rw [h1, p1] at hY
  rw [h1, p2] at hM
  rw [h1, p3] at hD
  have a1 := hg.month; have a2 := hg.day
  rw [dgv_pd4 hg.ab] at hY
  rw [dgv_pd2 (by omega)] at hM hD
  rw [h1, p1, dgv_pd4 hg.ab]
  exact ⟨body_shape y m d, hg.ab.1, by rw [hY, h2], hM, hD⟩
theorem dgv_range (zs : List Int) (hl : zs.length ≤ 9) : -1 ≤ dgv zs ∧ dgv zs ≤ 999999999 := by
  by_cases h : Dig zs
  · rw [dgv_yes h]
    exact ⟨by have := vl_nonneg zs h; omega, vl_lt zs h hl⟩
  · rw [dgv_no h]
    omega
end Go.Proofs.Ytimiciellbdphaa
