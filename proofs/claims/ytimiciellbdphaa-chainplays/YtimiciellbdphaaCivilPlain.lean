/-
  Plain facts on chapter 4's calendar: long years, months' lengths, a date's day; days are in the order of their dates.
-/
import Derived.Test.YtimiciellbdphaaProg
namespace Go.Proofs.Ytimiciellbdphaa
set_option linter.unusedVariables false

/-- A long year. -/
def lp (y : Int) : Bool := y % 4 == 0 && (y % 100 != 0 || y % 400 == 0)
theorem lp_true {y : Int} : lp y = true ↔ y % 4 = 0 ∧ (y % 100 ≠ 0 ∨ y % 400 = 0) := by simp [lp]
theorem lp_false {y : Int} : lp y = false ↔ ¬ (y % 4 = 0 ∧ (y % 100 ≠ 0 ∨ y % 400 = 0)) := by
  rw [← lp_true]; cases lp y <;> simp
/-- A month's days. -/
def ml (y m : Int) : Int := if m = 2 then (if lp y = true then 29 else 28) else if m = 4 ∨ m = 6 ∨ m = 9 ∨ m = 11 then 30 else if 1 ≤ m ∧ m ≤ 12 then 31 else 0
theorem ml_none {y m : Int} (h : m < 1 ∨ 12 < m) : ml y m = 0 := by
  unfold ml
  rw [if_neg (by omega), if_neg (by omega), if_neg (by omega)]
theorem ml_pos {y m : Int} (h1 : 1 ≤ m) (h2 : m ≤ 12) : 28 ≤ ml y m ∧ ml y m ≤ 31 := by
  unfold ml
  split
  · split <;> omega
  · split
    · omega
    · rw [if_pos ⟨h1, h2⟩]; omega
theorem ml_le (y m : Int) : 0 ≤ ml y m ∧ ml y m ≤ 31 := by
  by_cases h : 1 ≤ m ∧ m ≤ 12
  · have := ml_pos (y := y) h.1 h.2; omega
  · rw [ml_none (by omega)]; omega
theorem ml_month {y m : Int} (h : 1 ≤ ml y m) : 1 ≤ m ∧ m ≤ 12 := by
  apply Classical.byContradiction
  intro hn
  rw [ml_none (by omega)] at h
  omega
/-- A date. -/
abbrev Gd (y m d : Int) : Prop := -9999 ≤ y ∧ y ≤ 9999 ∧ 1 ≤ d ∧ d ≤ ml y m
theorem Gd.month {y m d : Int} (h : Gd y m d) : 1 ≤ m ∧ m ≤ 12 := ml_month (y := y) (by have := h.2.2; omega)
theorem Gd.day {y m d : Int} (h : Gd y m d) : 1 ≤ d ∧ d ≤ 31 := by have := ml_le y m; have := h.2.2; omega

/-- The first day of a year. -/
def fy (y : Int) : Int := 365 * y + (y - 1) / 4 - (y - 1) / 100 + (y - 1) / 400 - 719527
theorem fy_step_long {y : Int} (h : lp y = true) : fy (y + 1) = fy y + 366 := by
  have := lp_true.1 h; unfold fy; omega
theorem fy_step_short {y : Int} (h : lp y = false) : fy (y + 1) = fy y + 365 := by
  have := lp_false.1 h; unfold fy; omega
theorem fy_step (y : Int) : fy (y + 1) = fy y + (if lp y = true then 366 else 365) := by
  cases h : lp y
  · rw [fy_step_short h]; simp
  · rw [fy_step_long h]; simp
theorem fy_400 (y : Int) : fy (y + 400) = fy y + 146097 := by unfold fy; omega
theorem lp_400 (y : Int) : lp (y + 400) = lp y := by
  have e1 : (y + 400) % 4 = y % 4 := by omega
  have e2 : (y + 400) % 100 = y % 100 := by omega
  have e3 : (y + 400) % 400 = y % 400 := by omega
  unfold lp; rw [e1, e2, e3]
theorem fy_add (y : Int) (k : Nat) : fy y + 365 * k ≤ fy (y + k) := by
  induction k with
  | zero => simp
  | succ k ih =>
    have h := fy_step (y + k)
    have e : y + ((k + 1 : Nat) : Int) = y + k + 1 := by omega
    rw [e, h]
    split <;> omega
theorem fy_mono {y z : Int} (h : y ≤ z) : fy y + 365 * (z - y) ≤ fy z := by
  have := fy_add y (z - y).toNat
  have e : y + ((z - y).toNat : Int) = z := by omega
  rw [e] at this
  omega
theorem fy_le_add (y : Int) (k : Nat) : fy (y + k) ≤ fy y + 366 * k := by
  induction k with
  | zero => simp
  | succ k ih =>
    have h := fy_step (y + k)
    have e : y + ((k + 1 : Nat) : Int) = y + k + 1 := by omega
    rw [e, h]
    split <;> omega
theorem fy_le {y z : Int} (h : y ≤ z) : fy z ≤ fy y + 366 * (z - y) := by
  have := fy_le_add y (z - y).toNat
  have e : y + ((z - y).toNat : Int) = z := by omega
  rw [e] at this
  omega
theorem fy_lo : fy (-9999) = -4371587 := by decide
theorem fy_hi : fy 10000 = 2932897 := by decide
theorem fy_0 : fy 1970 = 0 := by decide
theorem fy_range {y : Int} (h1 : -9999 ≤ y) (h2 : y ≤ 10000) : -4371587 ≤ fy y ∧ fy y ≤ 2932897 := by
  have a := fy_mono h1
  have b := fy_mono h2
  rw [fy_lo] at a
  rw [fy_hi] at b
  omega

/-- The days of a year ahead of a month. -/
def md (y m : Int) : Int := (367 * m - 362) / 12 - (if m ≤ 2 then 0 else if lp y = true then 1 else 2)
theorem md_one (y : Int) : md y 1 = 0 := by unfold md; simp
theorem md_step {y m : Int} (h1 : 1 ≤ m) (h2 : m ≤ 12) : md y (m + 1) = md y m + ml y m := by
  have : m = 1 ∨ m = 2 ∨ m = 3 ∨ m = 4 ∨ m = 5 ∨ m = 6 ∨ m = 7 ∨ m = 8 ∨ m = 9 ∨ m = 10 ∨ m = 11 ∨ m = 12 := by omega
  rcases this with rfl | rfl | rfl | rfl | rfl | rfl | rfl | rfl | rfl | rfl | rfl | rfl <;> cases h : lp y <;> simp [md, ml, h]
theorem md_end (y : Int) : md y 13 = if lp y = true then 366 else 365 := by
  cases h : lp y <;> simp [md, h]
theorem md_mono {y m k : Int} (h1 : 1 ≤ m) (h2 : m < k) : md y (m + 1) ≤ md y k := by
  unfold md
  split <;> split <;> (try split) <;> omega
theorem md_range {y m : Int} (h1 : 1 ≤ m) (h2 : m ≤ 13) : 0 ≤ md y m ∧ md y m ≤ 366 := by
  unfold md
  split <;> (try split) <;> omega
/-- A date's day. -/
def dayN (y m d : Int) : Int := fy y + md y m + (d - 1)
theorem day_in {y m d : Int} (h : Gd y m d) : fy y + md y m ≤ dayN y m d ∧ dayN y m d < fy y + md y (m + 1) ∧ dayN y m d < fy (y + 1) ∧ fy y ≤ dayN y m d := by
  have hm := h.month
  have h1 := md_step (y := y) hm.1 hm.2
  have h2 := md_range (y := y) (m := m) hm.1 (by omega)
  have h3 : md y (m + 1) ≤ md y 13 := by
    by_cases e : m = 12
    · rw [e]; exact Int.le_refl _
    · have := md_mono (y := y) (m := m) (k := 13) hm.1 (by omega); exact this
  rw [md_end] at h3
  have h4 := fy_step y
  obtain ⟨_, _, h5, h6⟩ := h
  unfold dayN
  omega
theorem day_range {y m d : Int} (h : Gd y m d) : -4371587 ≤ dayN y m d ∧ dayN y m d ≤ 2932896 := by
  have h1 := day_in h
  have h2 := fy_range (y := y) h.1 (by have := h.2.1; omega)
  have h3 := fy_range (y := y + 1) (by have := h.1; omega) (by have := h.2.1; omega)
  omega
/-- The order of dates. -/
abbrev Ahead (y m d y' m' d' : Int) : Prop := y < y' ∨ y = y' ∧ (m < m' ∨ m = m' ∧ d < d')
theorem day_ahead {y m d y' m' d' : Int} (h : Gd y m d) (h' : Gd y' m' d') (ha : Ahead y m d y' m' d') : dayN y m d < dayN y' m' d' := by
  have a := day_in h
  have b := day_in h'
  rcases ha with h1 | ⟨rfl, h1 | ⟨rfl, h1⟩⟩
  · have := fy_mono (y := y + 1) (z := y') (by omega)
    omega
  · have := md_mono (y := y) h.month.1 h1
    omega
  · unfold dayN; omega
theorem ahead_total {y m d y' m' d' : Int} (h1 : ¬ Ahead y m d y' m' d') (h2 : ¬ Ahead y' m' d' y m d) : y = y' ∧ m = m' ∧ d = d' := by
  unfold Ahead at h1 h2; omega
theorem day_lt {y m d y' m' d' : Int} (h : Gd y m d) (h' : Gd y' m' d') : dayN y m d < dayN y' m' d' ↔ Ahead y m d y' m' d' := by
  constructor
  · intro hl
    apply Classical.byContradiction
    intro h1
    by_cases h2 : Ahead y' m' d' y m d
    · have := day_ahead h' h h2; omega
    · obtain ⟨rfl, rfl, rfl⟩ := ahead_total h1 h2; omega
  · exact day_ahead h h'
theorem day_inj {y m d y' m' d' : Int} (h : Gd y m d) (h' : Gd y' m' d') (he : dayN y m d = dayN y' m' d') : y = y' ∧ m = m' ∧ d = d' := by
  refine ahead_total (fun h1 => ?_) (fun h1 => ?_)
  · have := day_ahead h h' h1; omega
  · have := day_ahead h' h h1; omega
/-- A day of a year, of its month. -/
theorem day_of {y m n : Int} (h1 : -9999 ≤ y) (h2 : y ≤ 9999) (hm1 : 1 ≤ m) (hm2 : m ≤ 12) (h3 : fy y + md y m ≤ n) (h4 : n < fy y + md y m + ml y m) : Gd y m (n - fy y - md y m + 1) ∧ dayN y m (n - fy y - md y m + 1) = n := by
  refine ⟨⟨h1, h2, by omega, by omega⟩, by unfold dayN; omega⟩
/-- Its place in the week. -/
def wd (n : Int) : Int := (n + 3) % 7
end Go.Proofs.Ytimiciellbdphaa
