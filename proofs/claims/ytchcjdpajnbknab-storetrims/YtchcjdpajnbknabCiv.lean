/-
  Plain facts on chapter 4's calendar: long years, months' lengths, a date's day; days are in the order of their dates.
  Plain facts on chapter 4's texts: a date's bytes, their order, and back.
  What layer 4's walks lean on besides: a date's cells, Go's own division, bytes of a text. No function of the program is named here.
-/
import Derived.Test.YtchcjdpajnbknabProg
import Derived.Laws.BytesArg
import Derived.WalkKit
import Derived.WalkSpells
import Derived.WalkLawsBesides
import Derived.Below
import Derived.Deep.QuietTactic
import Derived.BigQuiet
import Derived.Handy
namespace Go.Proofs.Ytchcjdpajnbknab
set_option linter.unusedVariables false

/-- A long year. -/
def lp (y : Int) : Bool := y % 4 == 0 && (y % 100 != 0 || y % 400 == 0)
theorem lp_true {y : Int} : lp y = true ↔ y % 4 = 0 ∧ (y % 100 ≠ 0 ∨ y % 400 = 0) := by simp [lp]
theorem lp_false {y : Int} : lp y = false ↔ ¬ (y % 4 = 0 ∧ (y % 100 ≠ 0 ∨ y % 400 = 0)) := by
  rw [← lp_true]; cases lp y <;> simp
/-- A month's days. -/
def ml (y m : Int) : Int := if m = 2 then (if lp y = true then 29 else 28) else if m = 4 ∨ m = 6 ∨ m = 9 ∨ m = 11 then 30 else if 1 ≤ m ∧ m ≤ 12 then 31 else 0
theorem ml_none {y m : Int} (h : m < 1 ∨ 12 < m) : ml y m = 0 := by
  unfold ml
  rw [if_neg (by omega), if_neg (by omega), if_neg (by omega)]
theorem ml_pos {y m : Int} (h1 : 1 ≤ m) (h2 : m ≤ 12) : 28 ≤ ml y m ∧ ml y m ≤ 31 := by
  unfold ml
  split
  · split <;> omega
  · split
    · omega
    · rw [if_pos ⟨h1, h2⟩]; omega
theorem ml_le (y m : Int) : 0 ≤ ml y m ∧ ml y m ≤ 31 := by
  by_cases h : 1 ≤ m ∧ m ≤ 12
  · have := ml_pos (y := y) h.1 h.2; omega
  · rw [ml_none (by omega)]; omega
theorem ml_month {y m : Int} (h : 1 ≤ ml y m) : 1 ≤ m ∧ m ≤ 12 := by
  apply Classical.byContradiction
  intro hn
  rw [ml_none (by omega)] at h
  omega
/-- A date. -/
abbrev Gd (y m d : Int) : Prop := -9999 ≤ y ∧ y ≤ 9999 ∧ 1 ≤ d ∧ d ≤ ml y m
theorem Gd.month {y m d : Int} (h : Gd y m d) : 1 ≤ m ∧ m ≤ 12 := ml_month (y := y) (by have := h.2.2; omega)
theorem Gd.day {y m d : Int} (h : Gd y m d) : 1 ≤ d ∧ d ≤ 31 := by have := ml_le y m; have := h.2.2; omega

/-- The first day of a year. -/
def fy (y : Int) : Int := 365 * y + (y - 1) / 4 - (y - 1) / 100 + (y - 1) / 400 - 719527
theorem fy_step_long {y : Int} (h : lp y = true) : fy (y + 1) = fy y + 366 := by
  have := lp_true.1 h; unfold fy; omega
theorem fy_step_short {y : Int} (h : lp y = false) : fy (y + 1) = fy y + 365 := by
  have := lp_false.1 h; unfold fy; omega
theorem fy_step (y : Int) : fy (y + 1) = fy y + (if lp y = true then 366 else 365) := by
  cases h : lp y
  · rw [fy_step_short h]; simp
  · rw [fy_step_long h]; simp
theorem fy_400 (y : Int) : fy (y + 400) = fy y + 146097 := by unfold fy; omega
theorem lp_400 (y : Int) : lp (y + 400) = lp y := by
  have e1 : (y + 400) % 4 = y % 4 := by omega
  have e2 : (y + 400) % 100 = y % 100 := by omega
  have e3 : (y + 400) % 400 = y % 400 := by omega
  unfold lp; rw [e1, e2, e3]
theorem fy_add (y : Int) (k : Nat) : fy y + 365 * k ≤ fy (y + k) := by
  induction k with
  | zero => simp
  | succ k ih =>
    have h := fy_step (y + k)
    have e : y + ((k + 1 : Nat) : Int) = y + k + 1 := by omega
    rw [e, h]
    split <;> omega
theorem fy_mono {y z : Int} (h : y ≤ z) : fy y + 365 * (z - y) ≤ fy z := by
  have := fy_add y (z - y).toNat
  have e : y + ((z - y).toNat : Int) = z := by omega
  rw [e] at this
  omega
theorem fy_le_add (y : Int) (k : Nat) : fy (y + k) ≤ fy y + 366 * k := by
  induction k with
  | zero => simp
  | succ k ih =>
    have h := fy_step (y + k)
    have e : y + ((k + 1 : Nat) : Int) = y + k + 1 := by omega
    rw [e, h]
    split <;> omega
theorem fy_le {y z : Int} (h : y ≤ z) : fy z ≤ fy y + 366 * (z - y) := by
  have := fy_le_add y (z - y).toNat
  have e : y + ((z - y).toNat : Int) = z := by omega
  rw [e] at this
  omega
theorem fy_lo : fy (-9999) = -4371587 := by decide
theorem fy_hi : fy 10000 = 2932897 := by decide
theorem fy_0 : fy 1970 = 0 := by decide
theorem fy_range {y : Int} (h1 : -9999 ≤ y) (h2 : y ≤ 10000) : -4371587 ≤ fy y ∧ fy y ≤ 2932897 := by
  have a := fy_mono h1
  have b := fy_mono h2
  rw [fy_lo] at a
  rw [fy_hi] at b
  omega

/-- The days of a year ahead of a month. -/
def md (y m : Int) : Int := (367 * m - 362) / 12 - (if m ≤ 2 then 0 else if lp y = true then 1 else 2)
theorem md_one (y : Int) : md y 1 = 0 := by unfold md; simp
theorem md_step {y m : Int} (h1 : 1 ≤ m) (h2 : m ≤ 12) : md y (m + 1) = md y m + ml y m := by
  have : m = 1 ∨ m = 2 ∨ m = 3 ∨ m = 4 ∨ m = 5 ∨ m = 6 ∨ m = 7 ∨ m = 8 ∨ m = 9 ∨ m = 10 ∨ m = 11 ∨ m = 12 := by omega
  rcases this with rfl | rfl | rfl | rfl | rfl | rfl | rfl | rfl | rfl | rfl | rfl | rfl <;> cases h : lp y <;> simp [md, ml, h]
theorem md_end (y : Int) : md y 13 = if lp y = true then 366 else 365 := by
  cases h : lp y <;> simp [md, h]
theorem md_mono {y m k : Int} (h1 : 1 ≤ m) (h2 : m < k) : md y (m + 1) ≤ md y k := by
  unfold md
  split <;> split <;> (try split) <;> omega
theorem md_range {y m : Int} (h1 : 1 ≤ m) (h2 : m ≤ 13) : 0 ≤ md y m ∧ md y m ≤ 366 := by
  unfold md
  split <;> (try split) <;> omega
/-- A date's day. -/
def dayN (y m d : Int) : Int := fy y + md y m + (d - 1)
theorem day_in {y m d : Int} (h : Gd y m d) : fy y + md y m ≤ dayN y m d ∧ dayN y m d < fy y + md y (m + 1) ∧ dayN y m d < fy (y + 1) ∧ fy y ≤ dayN y m d := by
  have hm := h.month
  have h1 := md_step (y := y) hm.1 hm.2
  have h2 := md_range (y := y) (m := m) hm.1 (by omega)
  have h3 : md y (m + 1) ≤ md y 13 := by
    by_cases e : m = 12
    · rw [e]; exact Int.le_refl _
    · have := md_mono (y := y) (m := m) (k := 13) hm.1 (by omega); exact this
  rw [md_end] at h3
  have h4 := fy_step y
  obtain ⟨_, _, h5, h6⟩ := h
  unfold dayN
  omega
theorem day_range {y m d : Int} (h : Gd y m d) : -4371587 ≤ dayN y m d ∧ dayN y m d ≤ 2932896 := by
  have h1 := day_in h
  have h2 := fy_range (y := y) h.1 (by have := h.2.1; omega)
  have h3 := fy_range (y := y + 1) (by have := h.1; omega) (by have := h.2.1; omega)
  omega
/-- The order of dates. -/
abbrev Ahead (y m d y' m' d' : Int) : Prop := y < y' ∨ y = y' ∧ (m < m' ∨ m = m' ∧ d < d')
theorem day_ahead {y m d y' m' d' : Int} (h : Gd y m d) (h' : Gd y' m' d') (ha : Ahead y m d y' m' d') : dayN y m d < dayN y' m' d' := by
  have a := day_in h
  have b := day_in h'
  rcases ha with h1 | ⟨rfl, h1 | ⟨rfl, h1⟩⟩
  · have := fy_mono (y := y + 1) (z := y') (by omega)
    omega
  · have := md_mono (y := y) h.month.1 h1
    omega
  · unfold dayN; omega
theorem ahead_total {y m d y' m' d' : Int} (h1 : ¬ Ahead y m d y' m' d') (h2 : ¬ Ahead y' m' d' y m d) : y = y' ∧ m = m' ∧ d = d' := by
  unfold Ahead at h1 h2; omega
theorem day_lt {y m d y' m' d' : Int} (h : Gd y m d) (h' : Gd y' m' d') : dayN y m d < dayN y' m' d' ↔ Ahead y m d y' m' d' := by
  constructor
  · intro hl
    apply Classical.byContradiction
    intro h1
    by_cases h2 : Ahead y' m' d' y m d
    · have := day_ahead h' h h2; omega
    · obtain ⟨rfl, rfl, rfl⟩ := ahead_total h1 h2; omega
  · exact day_ahead h h'
theorem day_inj {y m d y' m' d' : Int} (h : Gd y m d) (h' : Gd y' m' d') (he : dayN y m d = dayN y' m' d') : y = y' ∧ m = m' ∧ d = d' := by
  refine ahead_total (fun h1 => ?_) (fun h1 => ?_)
  · have := day_ahead h h' h1; omega
  · have := day_ahead h' h h1; omega
/-- A day of a year, of its month. -/
theorem day_of {y m n : Int} (h1 : -9999 ≤ y) (h2 : y ≤ 9999) (hm1 : 1 ≤ m) (hm2 : m ≤ 12) (h3 : fy y + md y m ≤ n) (h4 : n < fy y + md y m + ml y m) : Gd y m (n - fy y - md y m + 1) ∧ dayN y m (n - fy y - md y m + 1) = n := by
  refine ⟨⟨h1, h2, by omega, by omega⟩, by unfold dayN; omega⟩
/-- Its place in the week. -/
def wd (n : Int) : Int := (n + 3) % 7
end Go.Proofs.Ytchcjdpajnbknab

namespace Go.Proofs.Ytchcjdpajnbknab
set_option linter.unusedVariables false

/-- So many digits of a number. -/
def pd : Nat → Int → List Int
  | 0, _ => []
  | k + 1, n => pd k (n / 10) ++ [48 + n % 10]
theorem pd_len (k : Nat) : ∀ n, (pd k n).length = k := by
  induction k with
  | zero => intro n; rfl
  | succ k ih => intro n; simp [pd, ih]
def Dig (zs : List Int) : Prop := ∀ z ∈ zs, 48 ≤ z ∧ z ≤ 57
theorem pd_dig (k : Nat) : ∀ n, Dig (pd k n) := by
  induction k with
  | zero => intro n z hz; simp [pd] at hz
  | succ k ih =>
    intro n z hz
    rcases List.mem_append.1 hz with h | h
    · exact ih _ z h
    · simp at h; omega
/-- The number that digits are. -/
def vl : List Int → Int := List.foldl (fun a z => 10 * a + (z - 48)) 0
theorem vl_snoc (xs : List Int) (z : Int) : vl (xs ++ [z]) = 10 * vl xs + (z - 48) := by simp [vl, List.foldl_append]
theorem vl_pd2 (n : Int) (h : 0 ≤ n) (h1 : n ≤ 99) : vl (pd 2 n) = n := by
  simp only [pd, vl_snoc]
  simp [vl]
  omega
theorem vl_pd4 (n : Int) (h : 0 ≤ n) (h1 : n ≤ 9999) : vl (pd 4 n) = n := by
  simp only [pd, vl_snoc]
  simp [vl]
  omega
theorem vl_nonneg (xs : List Int) (h : Dig xs) : 0 ≤ vl xs := by
  suffices ∀ a : Int, 0 ≤ a → 0 ≤ List.foldl (fun a z => 10 * a + (z - 48)) a xs from this 0 (by omega)
  induction xs with
  | nil => intro a ha; exact ha
  | cons z xs ih =>
    intro a ha
    have := h z (by simp)
    exact ih (fun z hz => h z (by simp [hz])) _ (by show 0 ≤ 10 * a + (z - 48); omega)
/-- The year's digits. -/
def ab (y : Int) : Int := if y < 0 then -y else y
/-- What stands behind the sign. -/
def body (y m d : Int) : List Int := pd 4 (ab y) ++ (45 :: (pd 2 m ++ (45 :: pd 2 d)))
/-- A date's text. -/
def txt (y m d : Int) : List Int := if y < 0 then 45 :: body y m d else body y m d
theorem body_len (y m d : Int) : (body y m d).length = 10 := by simp [body, pd_len]
theorem body_head (y m d : Int) : ∃ z r, body y m d = z :: r ∧ 48 ≤ z ∧ z ≤ 57 := by
  have hl := pd_len 4 (ab y)
  have hd := pd_dig 4 (ab y)
  cases h : pd 4 (ab y) with
  | nil => rw [h] at hl; simp at hl
  | cons z r => exact ⟨z, r ++ (45 :: (pd 2 m ++ (45 :: pd 2 d))), by simp [body, h], hd z (by rw [h]; simp)⟩
theorem body_inj {y m d y' m' d' : Int} (h : body y m d = body y' m' d') : pd 4 (ab y) = pd 4 (ab y') ∧ pd 2 m = pd 2 m' ∧ pd 2 d = pd 2 d' := by
  unfold body at h
  obtain ⟨h1, h2⟩ := List.append_inj h (by rw [pd_len, pd_len])
  have h3 := (List.cons.inj h2).2
  obtain ⟨h4, h5⟩ := List.append_inj h3 (by rw [pd_len, pd_len])
  exact ⟨h1, h4, (List.cons.inj h5).2⟩
theorem Gd.ab {y m d : Int} (h : Gd y m d) : 0 ≤ ab y ∧ ab y ≤ 9999 := by
  have := h.1; have := h.2.1
  unfold Go.Proofs.Ytchcjdpajnbknab.ab; split <;> omega
theorem txt_inj {y m d y' m' d' : Int} (h : Gd y m d) (h' : Gd y' m' d') (he : txt y m d = txt y' m' d') : y = y' ∧ m = m' ∧ d = d' := by
  obtain ⟨z, r, hz, hz1, hz2⟩ := body_head y m d
  obtain ⟨z', r', hz', hz1', hz2'⟩ := body_head y' m' d'
  have key : body y m d = body y' m' d' → ab y = ab y' ∧ m = m' ∧ d = d' := by
    intro hb
    obtain ⟨h1, h2, h3⟩ := body_inj hb
    have a1 := h.month; have a2 := h.day; have b1 := h'.month; have b2 := h'.day
    have e1 := congrArg vl h1
    have e2 := congrArg vl h2
    have e3 := congrArg vl h3
    rw [vl_pd4 _ h.ab.1 h.ab.2, vl_pd4 _ h'.ab.1 h'.ab.2] at e1
    rw [vl_pd2 _ (by omega) (by omega), vl_pd2 _ (by omega) (by omega)] at e2 e3
    exact ⟨e1, e2, e3⟩
  unfold txt at he
  split at he
  · rename_i h1
    split at he
    · rename_i h2
      have := key (List.cons.inj he).2
      unfold ab at this
      rw [if_pos h1, if_pos h2] at this
      omega
    · rw [hz'] at he
      have := (List.cons.inj he).1
      omega
  · rename_i h1
    split at he
    · rw [hz] at he
      have := (List.cons.inj he).1
      omega
    · rename_i h2
      have := key he
      unfold ab at this
      rw [if_neg h1, if_neg h2] at this
      omega
open Classical in
/-- The date whose text these bytes are. -/
noncomputable def parseN (xs : List Int) : Option (Int × Int × Int) := if h : ∃ p : Int × Int × Int, Gd p.1 p.2.1 p.2.2 ∧ txt p.1 p.2.1 p.2.2 = xs then some h.choose else none
theorem parse_txt {y m d : Int} (h : Gd y m d) : parseN (txt y m d) = some (y, m, d) := by
  have hx : ∃ p : Int × Int × Int, Gd p.1 p.2.1 p.2.2 ∧ txt p.1 p.2.1 p.2.2 = txt y m d := ⟨(y, m, d), h, rfl⟩
  unfold parseN
  rw [dif_pos hx]
  have hc := hx.choose_spec
  obtain ⟨e1, e2, e3⟩ := txt_inj hc.1 h hc.2
  congr 1
  exact Prod.ext e1 (Prod.ext e2 e3)
theorem parse_some {xs : List Int} {y m d : Int} (h : parseN xs = some (y, m, d)) : Gd y m d ∧ txt y m d = xs := by
  unfold parseN at h
  split at h
  · rename_i hx
    have hc := hx.choose_spec
    cases h' : hx.choose with
    | mk a b =>
      simp only [Option.some.injEq] at h
      rw [h] at hc
      exact hc
  · cases h
theorem parse_none {xs : List Int} {y m d : Int} (h : parseN xs = none) (hg : Gd y m d) : txt y m d ≠ xs := by
  intro he
  rw [← he, parse_txt hg] at h
  cases h
theorem txt_by {y m d : Int} (h : Gd y m d) : ∀ z ∈ txt y m d, 0 ≤ z ∧ z ≤ 255 := by
  have hb : ∀ z ∈ body y m d, 0 ≤ z ∧ z ≤ 255 := by
    intro z hz
    unfold body at hz
    simp only [List.mem_append, List.mem_cons] at hz
    rcases hz with h1 | rfl | h1 | rfl | h1
    · have := pd_dig _ _ z h1; omega
    · omega
    · have := pd_dig _ _ z h1; omega
    · omega
    · have := pd_dig _ _ z h1; omega
  intro z hz
  unfold txt at hz
  split at hz
  · rcases List.mem_cons.1 hz with rfl | h1
    · omega
    · exact hb z h1
  · exact hb z hz
theorem take_snoc (xs : List Int) (k : Nat) (h : k < xs.length) : xs.take (k + 1) = xs.take k ++ [xs[k]?.getD 0] := by
  rw [List.take_add_one]; simp [h]
theorem vl_lt (xs : List Int) (h : Dig xs) (hl : xs.length ≤ 9) : vl xs ≤ 999999999 := by
  suffices ∀ k : Nat, k ≤ 9 → k ≤ xs.length → vl (xs.take k) + 1 ≤ 10 ^ k by
    have := this xs.length hl (Nat.le_refl _)
    rw [List.take_length] at this
    have h2 : (10 : Int) ^ xs.length ≤ 10 ^ 9 := by
      have : 10 ^ xs.length ≤ 10 ^ 9 := Nat.pow_le_pow_right (by decide) hl
      exact_mod_cast this
    omega
  intro k hk hk2
  induction k with
  | zero => simp [vl]
  | succ k ih =>
    have := ih (by omega) (by omega)
    rw [take_snoc xs k (by omega), vl_snoc, Int.pow_succ]
    have hz : xs[k]?.getD 0 ≤ 57 := by
      have := (h xs[k] (List.getElem_mem (by omega))).2
      simpa [show k < xs.length by omega] using this
    omega
/-- The number that these bytes are, or -1. -/
def dgv (zs : List Int) : Int := if (∀ z ∈ zs, 48 ≤ z ∧ z ≤ 57) then vl zs else -1
theorem dgv_yes {zs : List Int} (h : Dig zs) : dgv zs = vl zs := if_pos h
theorem dgv_no {zs : List Int} (h : ¬ Dig zs) : dgv zs = -1 := if_neg h
theorem dgv_pd4 {n : Int} (h : 0 ≤ n ∧ n ≤ 9999) : dgv (pd 4 n) = n := by
  rw [dgv_yes (pd_dig 4 n)]; exact vl_pd4 n h.1 h.2
theorem dgv_pd2 {n : Int} (h : 0 ≤ n ∧ n ≤ 99) : dgv (pd 2 n) = n := by
  rw [dgv_yes (pd_dig 2 n)]; exact vl_pd2 n h.1 h.2
/-- The sign, and what stands behind it. -/
def sgn (xs : List Int) : Int := if xs.head? = some 45 then -1 else 1
def rest (xs : List Int) : List Int := if xs.head? = some 45 then xs.tail else xs
/-- A text's form. -/
def Shape (ts : List Int) : Prop := ts.length = 10 ∧ ts[4]?.getD 0 = 45 ∧ ts[7]?.getD 0 = 45
theorem body_shape (y m d : Int) : Shape (body y m d) := by
  have h4 := pd_len 4 (ab y)
  have h2 := pd_len 2 m
  refine ⟨body_len y m d, ?_, ?_⟩
  · unfold body
    rw [List.getElem?_append_right (by omega), h4]; rfl
  · unfold body
    rw [List.getElem?_append_right (by omega), h4]
    show ((pd 2 m ++ 45 :: pd 2 d)[2]?).getD 0 = 45
    rw [List.getElem?_append_right (by omega), h2]; rfl
theorem body_parts (y m d : Int) : (body y m d).take 4 = pd 4 (ab y) ∧ ((body y m d).drop 5).take 2 = pd 2 m ∧ (body y m d).drop 8 = pd 2 d := by
  have h4 := pd_len 4 (ab y)
  have h2 := pd_len 2 m
  have e5 : (body y m d).drop 5 = pd 2 m ++ (45 :: pd 2 d) := by
    have e : body y m d = (pd 4 (ab y) ++ [45]) ++ (pd 2 m ++ (45 :: pd 2 d)) := by simp [body]
    rw [e, List.drop_left' (by simp [h4])]
  refine ⟨List.take_left' h4, ?_, ?_⟩
  · rw [e5]; exact List.take_left' h2
  · have e : body y m d = (pd 4 (ab y) ++ (45 :: (pd 2 m ++ [45]))) ++ pd 2 d := by simp [body]
    rw [e, List.drop_left' (by simp [h4, h2])]
theorem txt_rest {y m d : Int} : rest (txt y m d) = body y m d ∧ sgn (txt y m d) * ab y = y := by
  obtain ⟨z, r, hz, hz1, hz2⟩ := body_head y m d
  unfold rest sgn txt ab
  by_cases h : y < 0
  · simp [h]
  · have hne : ¬ (body y m d).head? = some 45 := by rw [hz]; simp; omega
    simp [h, hne]
theorem parse_cand (xs : List Int) (Y M D : Int) (hY : Y = sgn xs * dgv ((rest xs).take 4)) (hM : M = dgv (((rest xs).drop 5).take 2)) (hD : D = dgv ((rest xs).drop 8)) {y m d : Int} (h : parseN xs = some (y, m, d)) :
    Shape (rest xs) ∧ 0 ≤ dgv ((rest xs).take 4) ∧ Y = y ∧ M = m ∧ D = d := by
  obtain ⟨hg, rfl⟩ := parse_some h
  obtain ⟨h1, h2⟩ := txt_rest (y := y) (m := m) (d := d)
  obtain ⟨p1, p2, p3⟩ := body_parts y m d
  rw [h1, p1] at hY
  rw [h1, p2] at hM
  rw [h1, p3] at hD
  have a1 := hg.month; have a2 := hg.day
  rw [dgv_pd4 hg.ab] at hY
  rw [dgv_pd2 (by omega)] at hM hD
  rw [h1, p1, dgv_pd4 hg.ab]
  exact ⟨body_shape y m d, hg.ab.1, by rw [hY, h2], hM, hD⟩
theorem dgv_range (zs : List Int) (hl : zs.length ≤ 9) : -1 ≤ dgv zs ∧ dgv zs ≤ 999999999 := by
  by_cases h : Dig zs
  · rw [dgv_yes h]
    exact ⟨by have := vl_nonneg zs h; omega, vl_lt zs h hl⟩
  · rw [dgv_no h]
    omega
end Go.Proofs.Ytchcjdpajnbknab

namespace Go.Proofs.Ytchcjdpajnbknab
open Go.RowKit
set_option linter.unusedVariables false

theorem ret_i {k : IntKind} {a b : Int} (h : a = b) : Ending.returned (.int k a) = .returned (.int k b) := by rw [h]
theorem byte_at {zs : List Int} (h : ∀ z ∈ zs, 0 ≤ z ∧ z ≤ 255) (k : Nat) : 0 ≤ zs[k]?.getD 0 ∧ zs[k]?.getD 0 ≤ 255 := by
  by_cases hk : k < zs.length
  · have := h zs[k] (List.getElem_mem hk); simpa [hk] using this
  · have : zs[k]? = none := by simp; omega
    simp [this]
theorem below_dN {B : Nat} {a w : World} (h : Below B a w) (n : Nat) : Below B a (w.drewN n) := ⟨h.os, h.tape, h.output, h.size, h.block⟩
theorem tmod0 (y k : Int) : y.tmod k = 0 ↔ y % k = 0 :=
  ⟨fun h => Int.emod_eq_zero_of_dvd (Int.dvd_of_tmod_eq_zero h), fun h => Int.tmod_eq_zero_of_dvd (Int.dvd_of_emod_eq_zero h)⟩
theorem ret_bool {a b : Bool} (h : a = b) : Ending.returned (.bool a) = .returned (.bool b) := by rw [h]
theorem lp_t (y : Int) : lp y = (y.tmod 4 == 0 && (y.tmod 100 != 0 || y.tmod 400 == 0)) := by
  have e1 := tmod0 y 4
  have e2 := tmod0 y 100
  have e3 := tmod0 y 400
  rw [Bool.eq_iff_iff, lp_true]
  simp [e1, e2, e3]
/-- A date's cells, in a block of its own. -/
structure DateAt (w : World) (g : Nat) (y m d : Int) : Prop where
  c0 : w.cell? ⟨g, 0, none⟩ = some (.int .i64 y)
  c1 : w.cell? ⟨g, 1, none⟩ = some (.int .i64 m)
  c2 : w.cell? ⟨g, 2, none⟩ = some (.int .i64 d)
theorem DateAt.made (w : World) (t : TypeId) (y m d : Int) : DateAt (w.alloc (.cells #[.int .i64 y, .int .i64 m, .int .i64 d] t)) w.heap.size y m d :=
  ⟨by rw [World.cell?_alloc_new]; rfl, by rw [World.cell?_alloc_new]; rfl, by rw [World.cell?_alloc_new]; rfl⟩
theorem DateAt.below {w w' : World} {g B : Nat} {y m d : Int} (h : DateAt w g y m d) (hb : Below B w w') (hg : g < B) : DateAt w' g y m d :=
  ⟨by rw [hb.cell (p := ⟨g, 0, none⟩) hg]; exact h.c0, by rw [hb.cell (p := ⟨g, 1, none⟩) hg]; exact h.c1, by rw [hb.cell (p := ⟨g, 2, none⟩) hg]; exact h.c2⟩

theorem tm_pos {n k : Int} (h : 0 ≤ n) : n.tmod k = n % k := Int.tmod_eq_emod_of_nonneg h
theorem tm_neg {n k : Int} (h : n ≤ 0) : n.tmod k = -((-n) % k) := by
  have e := Int.neg_tmod (-n) k
  rw [Int.neg_neg] at e
  rw [e, Int.tmod_eq_emod_of_nonneg (by omega)]
theorem td_pos {n k : Int} (h : 0 ≤ n) : n.tdiv k = n / k := Int.tdiv_eq_ediv_of_nonneg h
theorem td_neg {n k : Int} (h : n ≤ 0) : n.tdiv k = -((-n) / k) := by
  have e := Int.neg_tdiv (-n) k
  rw [Int.neg_neg] at e
  rw [e, Int.tdiv_eq_ediv_of_nonneg (by omega)]
theorem tm_7 (n : Int) : -7 < n.tmod 7 ∧ n.tmod 7 < 7 := by
  rcases Int.le_total 0 n with h | h
  · rw [tm_pos h]; omega
  · rw [tm_neg h]; omega
theorem wd_t (n : Int) : (n.tmod 7 + 7 + 3).tmod 7 = wd n := by
  have hb := tm_7 n
  rw [tm_pos (by omega)]
  unfold wd
  rcases Int.le_total 0 n with h | h
  · rw [tm_pos h]; omega
  · rw [tm_neg h]; omega
/-- A day's year. -/
theorem year_of {n y : Int} (h1 : fy y ≤ n) (h2 : n < fy 10000) : y ≤ 9999 := by
  apply Classical.byContradiction
  intro hn
  have := fy_mono (y := 10000) (z := y) (by omega)
  omega
theorem year_from {n y : Int} (h1 : fy (-9999) ≤ n) (h2 : n < fy (y + 1)) : -9999 ≤ y := by
  apply Classical.byContradiction
  intro hn
  have := fy_mono (y := y + 1) (z := -9999) (by omega)
  omega
theorem month_of {y m n : Int} (h1 : 1 ≤ m) (h2 : m ≤ 12) (h3 : fy y + md y m + ml y m ≤ n) (h4 : n < fy (y + 1)) : m ≤ 11 := by
  apply Classical.byContradiction
  intro hn
  obtain rfl : m = 12 := by omega
  have := md_step (y := y) (m := 12) (by omega) (by omega)
  have e := md_end y
  have e2 := fy_step y
  have e3 : (12 : Int) + 1 = 13 := rfl
  rw [e3] at this
  omega
theorem nums_app (xs ys : List Int) : strOfNums xs ++ strOfNums ys = strOfNums (xs ++ ys) := by
  apply ByteArray.ext
  simp [strOfNums]
theorem nums_nil : strOfNums [] = ⟨#[]⟩ := rfl
theorem nums_at (xs : List Int) (hb : ∀ z ∈ xs, 0 ≤ z ∧ z ≤ 255) (k : Nat) (h : k < (strOfNums xs).size) : (((strOfNums xs)[k]'h).toNat : Int) = xs[k]?.getD 0 := by
  have hk : k < xs.length := by rw [strOfNums_size] at h; exact h
  have e : (strOfNums xs)[k]'h = UInt8.ofNat (xs[k]).toNat := by simp [strOfNums, ByteArray.getElem_eq_getElem_data]
  have hx := hb xs[k] (List.getElem_mem hk)
  rw [e]
  simp [hk]
  omega
theorem txt_neg (y m d : Int) (h : y < 0) : ⟨#[45]⟩ ++ strOfNums (pd 4 (ab y)) ++ ⟨#[45]⟩ ++ strOfNums (pd 2 m) ++ ⟨#[45]⟩ ++ strOfNums (pd 2 d) = strOfNums (txt y m d) := by
  show strOfNums [45] ++ strOfNums (pd 4 (ab y)) ++ strOfNums [45] ++ strOfNums (pd 2 m) ++ strOfNums [45] ++ strOfNums (pd 2 d) = _
  rw [nums_app, nums_app, nums_app, nums_app, nums_app]
  unfold txt body
  rw [if_pos h]
  simp
theorem txt_pos (y m d : Int) (h : ¬ y < 0) : strOfNums (pd 4 (ab y)) ++ ⟨#[45]⟩ ++ strOfNums (pd 2 m) ++ ⟨#[45]⟩ ++ strOfNums (pd 2 d) = strOfNums (txt y m d) := by
  show strOfNums (pd 4 (ab y)) ++ strOfNums [45] ++ strOfNums (pd 2 m) ++ strOfNums [45] ++ strOfNums (pd 2 d) = _
  rw [nums_app, nums_app, nums_app, nums_app]
  unfold txt body
  rw [if_neg h]
  simp
theorem nums_cut (xs : List Int) (i j : Nat) : (strOfNums xs).extract i j = strOfNums ((xs.drop i).take (j - i)) := by
  apply ByteArray.ext
  apply Array.ext'
  simp [strOfNums, List.extract_eq_take_drop, List.map_take, List.map_drop]
theorem str_inj {xs ys : List Int} (hx : ∀ z ∈ xs, 0 ≤ z ∧ z ≤ 255) (hy : ∀ z ∈ ys, 0 ≤ z ∧ z ≤ 255) (h : (strOfNums xs).toList = (strOfNums ys).toList) : xs = ys := by
  have e : ∀ zs : List Int, (strOfNums zs).toList = zs.map fun n => UInt8.ofNat n.toNat := fun zs => by rw [ByteArray.toList_eq]; exact strOfNums_data zs
  rw [e, e] at h
  have key : ∀ (xs ys : List Int), (∀ z ∈ xs, 0 ≤ z ∧ z ≤ 255) → (∀ z ∈ ys, 0 ≤ z ∧ z ≤ 255) → (xs.map fun n => UInt8.ofNat n.toNat) = (ys.map fun n => UInt8.ofNat n.toNat) → xs = ys := by
    intro xs
    induction xs with
    | nil => intro ys _ _ h; cases ys with
      | nil => rfl
      | cons y ys => simp at h
    | cons x xs ih =>
      intro ys hx hy h
      cases ys with
      | nil => simp at h
      | cons y ys =>
        simp only [List.map_cons, List.cons.injEq] at h
        have h1 := congrArg UInt8.toNat h.1
        have bx := hx x (by simp)
        have by' := hy y (by simp)
        simp at h1
        rw [ih ys (fun z hz => hx z (by simp [hz])) (fun z hz => hy z (by simp [hz])) h.2]
        congr 1
        omega
  exact key xs ys hx hy h

theorem set_same3 {w : World} {g : Nat} {a b c : Int} (h : DateAt w g a b c) : (∀ x, (w.setCell ⟨g, 0, none⟩ x).cell? ⟨g, 0, none⟩ = some x) ∧ (∀ x y, ((w.setCell ⟨g, 0, none⟩ x).setCell ⟨g, 1, none⟩ y).cell? ⟨g, 1, none⟩ = some y) ∧ (∀ x y z, (((w.setCell ⟨g, 0, none⟩ x).setCell ⟨g, 1, none⟩ y).setCell ⟨g, 2, none⟩ z).cell? ⟨g, 2, none⟩ = some z) := by
  refine ⟨fun x => World.cell?_setCell_same _ _ _ h.c0, fun x y => World.cell?_setCell_same _ _ _ ((World.cell?_setCell_other _ _ _ _ (by intro h'; injection h' with _ h2; omega)).trans h.c1), fun x y z => World.cell?_setCell_same _ _ _ (((World.cell?_setCell_other _ _ _ _ (by intro h'; injection h' with _ h2; omega)).trans (World.cell?_setCell_other _ _ _ _ (by intro h'; injection h' with _ h2; omega))).trans h.c2)⟩
structure TwoMade (w v : World) (Y M D : Int) : Prop where
  date : DateAt v (w.heap.size + 1) Y M D
  zero : DateAt v w.heap.size 0 0 0
  free : ∀ j, v.frozen? ⟨w.heap.size, j, none⟩ = false
  below : Below w.heap.size w v
  size : v.heap.size = w.heap.size + 2
theorem two_made (w : World) (t : TypeId) (Y M D : Int) : TwoMade w ((w.alloc (Obj.cells #[Value.int IntKind.i64 0, Value.int IntKind.i64 0, Value.int IntKind.i64 0] t)).alloc (Obj.cells #[Value.int IntKind.i64 Y, Value.int IntKind.i64 M, Value.int IntKind.i64 D] t)).drew Y M D := by
  obtain ⟨v1, h1⟩ : ∃ v1, v1 = w.alloc (Obj.cells #[Value.int IntKind.i64 0, Value.int IntKind.i64 0, Value.int IntKind.i64 0] t) := ⟨_, rfl⟩
  have hz := DateAt.made w t 0 0 0
  rw [← h1] at hz ⊢
  have hs1 : v1.heap.size = w.heap.size + 1 := by rw [h1]; simp
  have hb1 : Below w.heap.size w v1 := by rw [h1]; exact (Below.refl _ _).alloc (Nat.le_refl _) _
  have hb2 : Below v1.heap.size v1 (v1.alloc (Obj.cells #[Value.int IntKind.i64 Y, Value.int IntKind.i64 M, Value.int IntKind.i64 D] t)).drew := ((Below.refl _ _).alloc (Nat.le_refl _) _).drew
  have hd := (DateAt.made v1 t Y M D).below (B := v1.heap.size + 1) (Below.refl _ _).drew (by omega)
  rw [hs1] at hd
  refine ⟨hd, hz.below hb2 (by omega), fun j => ?_, hb1.trans (hb2.mono (by omega)), by show (v1.alloc _).heap.size = _; simp [hs1]⟩
  rw [hb2.frozen (p := ⟨w.heap.size, j, none⟩) (by show w.heap.size < _; omega), h1]
  have : (w.alloc (Obj.cells #[Value.int IntKind.i64 0, Value.int IntKind.i64 0, Value.int IntKind.i64 0] t)).heap[w.heap.size]? = some (.cells #[Value.int IntKind.i64 0, Value.int IntKind.i64 0, Value.int IntKind.i64 0] t (0, 0)) := by
    show (w.heap.push _)[w.heap.size]? = _
    simp
  unfold World.frozen?; rw [this]; simp
end Go.Proofs.Ytchcjdpajnbknab

