/-
  Plain facts on chapter 5's tables: offsets, lengths of days, counts of seconds and back.
-/
import Derived.Test.YthkafbeojeedbaaDoorCivilPlain
namespace Go.Proofs.YthkafbeojeedbaaDoor
set_option linter.unusedVariables false

/-- A table's lines: a day, an offset. -/
abbrev Tb := List (Int × Int)
/-- Days rise, each offset is one more or one less. -/
def Steps : Tb → Prop
  | [] => True
  | [_] => True
  | p :: q :: r => (p.1 < q.1 ∧ (q.2 = p.2 + 1 ∨ q.2 = p.2 - 1)) ∧ Steps (q :: r)
structure GoodT (tb : Tb) : Prop where
  ne : tb ≠ []
  few : tb.length ≤ 60
  steps : Steps tb
  days : ∀ p ∈ tb, -4371587 ≤ p.1 ∧ p.1 ≤ 2932896
  offs : ∀ p ∈ tb, -9999 ≤ p.2 ∧ p.2 ≤ 9999
theorem Steps.tail {p : Int × Int} {r : Tb} (h : Steps (p :: r)) : Steps r := by
  cases r with
  | nil => trivial
  | cons q r => exact h.2
/-- The offset of the last line whose day is not behind, or what was ahead of them. -/
def lastOff : Tb → Int → Int → Int
  | [], _, n => n
  | p :: r, day, n => if p.1 ≤ day then lastOff r day p.2 else n
def offT (tb : Tb) (day : Int) : Int := lastOff tb day 0
/-- A table's first day. -/
def d0 (tb : Tb) : Int := (tb.head?.map (·.1)).getD 0
/-- A day that a table tells of. -/
abbrev Known (tb : Tb) (day : Int) : Prop := -4371587 ≤ day ∧ day ≤ 2932896 ∧ d0 tb ≤ day
theorem lastOff_mem : ∀ (tb : Tb) (day n : Int), lastOff tb day n = n ∨ ∃ p ∈ tb, lastOff tb day n = p.2
  | [], _, n => .inl rfl
  | p :: r, day, n => by
    unfold lastOff
    split
    · rcases lastOff_mem r day p.2 with h | ⟨q, hq, h⟩
      · exact .inr ⟨p, by simp, h⟩
      · exact .inr ⟨q, by simp [hq], h⟩
    · exact .inl rfl
theorem offT_range {tb : Tb} (h : GoodT tb) (day : Int) : -9999 ≤ offT tb day ∧ offT tb day ≤ 9999 := by
  rcases lastOff_mem tb day 0 with e | ⟨p, hp, e⟩
  · unfold offT; rw [e]; omega
  · unfold offT; rw [e]; exact h.offs p hp
/-- Lines behind a day say nothing of it. -/
theorem lastOff_behind {p : Int × Int} {r : Tb} {day n : Int} (h : Steps (p :: r)) (hd : day ≤ p.1) : lastOff r day n = n := by
  cases r with
  | nil => rfl
  | cons q r =>
    unfold lastOff
    rw [if_neg (by have := h.1.1; omega)]
theorem lastOff_step : ∀ (p : Int × Int) (r : Tb) (day : Int), Steps (p :: r) → -1 ≤ lastOff r (day + 1) p.2 - lastOff r day p.2 ∧ lastOff r (day + 1) p.2 - lastOff r day p.2 ≤ 1
  | p, [], day, _ => by simp [lastOff]
  | p, q :: s, day, h => by
    unfold lastOff
    have h1 := h.1
    by_cases c1 : q.1 ≤ day
    · rw [if_pos (by omega), if_pos c1]
      exact lastOff_step q s day h.2
    · rw [if_neg c1]
      by_cases c2 : q.1 ≤ day + 1
      · rw [if_pos c2, lastOff_behind h.2 (by omega)]
        omega
      · rw [if_neg c2]; omega
theorem offT_step {tb : Tb} {day : Int} (h : GoodT tb) (hk : Known tb day) : -1 ≤ offT tb (day + 1) - offT tb day ∧ offT tb (day + 1) - offT tb day ≤ 1 := by
  cases tb with
  | nil => exact absurd rfl h.ne
  | cons p r =>
    have hp : p.1 ≤ day := hk.2.2
    unfold offT lastOff
    rw [if_pos (by omega), if_pos hp]
    exact lastOff_step p r day h.steps
/-- A day's length. -/
def lenT (tb : Tb) (day : Int) : Int := if day + 1 ≤ 2932896 then 86400 + offT tb (day + 1) - offT tb day else 86400
theorem lenT_range {tb : Tb} {day : Int} (h : GoodT tb) (hk : Known tb day) : 86399 ≤ lenT tb day ∧ lenT tb day ≤ 86401 := by
  have := offT_step h hk
  unfold lenT
  split <;> omega
/-- A day's first count. -/
def st (tb : Tb) (day : Int) : Int := day * 86400 + offT tb day
theorem st_step {tb : Tb} {day : Int} (h2 : day + 1 ≤ 2932896) : st tb (day + 1) = st tb day + lenT tb day := by
  unfold lenT st
  rw [if_pos h2]
  omega
theorem Known.on {tb : Tb} {a b : Int} (h : Known tb a) (h1 : a ≤ b) (h2 : b ≤ 2932896) : Known tb b := by
  obtain ⟨x, y, z⟩ := h
  exact ⟨by omega, h2, by omega⟩
theorem st_add {tb : Tb} {a : Int} (h : GoodT tb) (hk : Known tb a) : ∀ k : Nat, a + (k : Int) + 1 ≤ 2932896 → st tb a + lenT tb a ≤ st tb (a + k + 1) := by
  intro k
  induction k with
  | zero => intro h2; simp at h2 ⊢; rw [st_step h2]; omega
  | succ k ih =>
    intro h2
    have h3 := ih (by omega)
    have e : a + ((k + 1 : Nat) : Int) + 1 = (a + k + 1) + 1 := by omega
    rw [e, st_step (by omega)]
    have := lenT_range h (hk.on (b := a + k + 1) (by omega) (by omega))
    omega
theorem st_mono {tb : Tb} {a b : Int} (h : GoodT tb) (hk : Known tb a) (hb : b ≤ 2932896) (hlt : a < b) : st tb a + lenT tb a ≤ st tb b := by
  have := st_add h hk (b - a - 1).toNat (by omega)
  have e : a + ((b - a - 1).toNat : Int) + 1 = b := by omega
  rw [e] at this
  exact this
/-- A count of a day's second. -/
structure At (tb : Tb) (t day sec : Int) : Prop where
  known : Known tb day
  lo : 0 ≤ sec
  hi : sec < lenT tb day
  eq : t = st tb day + sec
theorem at_lt {tb : Tb} {t u a x b y : Int} (h : GoodT tb) (h1 : At tb t a x) (h2 : At tb u b y) : t < u ↔ (a < b ∨ a = b ∧ x < y) := by
  have e1 := h1.eq; have e2 := h2.eq; have a1 := h1.lo; have a2 := h1.hi; have b1 := h2.lo; have b2 := h2.hi
  rcases Int.lt_trichotomy a b with c | c | c
  · have := st_mono h h1.known h2.known.2.1 c; omega
  · subst c; omega
  · have := st_mono h h2.known h1.known.2.1 c; omega
theorem at_inj {tb : Tb} {t a x b y : Int} (h : GoodT tb) (h1 : At tb t a x) (h2 : At tb t b y) : a = b ∧ x = y := by
  have c1 := at_lt h h1 h2
  have c2 := at_lt h h2 h1
  omega
/-- Each count between the ends is one. -/
theorem at_exists {tb : Tb} (h : GoodT tb) {a t : Int} (hk : Known tb a) (h1 : st tb a ≤ t) (h2 : t < st tb 2932896 + 86400) : ∃ day sec, At tb t day sec := by
  suffices ∀ (k : Nat) (b : Int), Known tb b → b + k = 2932896 → st tb b ≤ t → ∃ day sec, At tb t day sec from this (2932896 - a).toNat a hk (by have := hk.2.1; omega) h1
  intro k
  induction k with
  | zero =>
    intro b hb he hl
    obtain rfl : b = 2932896 := by omega
    exact ⟨2932896, t - st tb 2932896, hb, by omega, by unfold lenT; rw [if_neg (by omega)]; omega, by omega⟩
  | succ k ih =>
    intro b hb he hl
    by_cases c : t < st tb b + lenT tb b
    · exact ⟨b, t - st tb b, hb, by omega, by omega, by omega⟩
    · exact ih (b + 1) (hb.on (by omega) (by omega)) (by omega) (by rw [st_step (by omega)]; omega)
/-- A count's day is near its quotient, rounded towards 0. -/
theorem at_near {tb : Tb} {t day sec : Int} (h : GoodT tb) (ha : At tb t day sec) : t.tdiv 86400 - 2 ≤ day ∧ day ≤ t.tdiv 86400 + 2 := by
  have e := ha.eq
  have r := offT_range h day
  have l := lenT_range h ha.known
  have a1 := ha.lo; have a2 := ha.hi
  unfold st at e
  rcases Int.le_total 0 t with c | c
  · rw [Int.tdiv_eq_ediv_of_nonneg c]; omega
  · have e2 := Int.neg_tdiv (-t) 86400
    rw [Int.neg_neg] at e2
    rw [e2, Int.tdiv_eq_ediv_of_nonneg (by omega)]; omega
theorem at_range {tb : Tb} {t day sec : Int} (h : GoodT tb) (ha : At tb t day sec) : -4371587 * 86400 - 9999 ≤ t ∧ t < 2932897 * 86400 + 10001 := by
  have e := ha.eq
  have r := offT_range h day
  have l := lenT_range h ha.known
  have a1 := ha.lo; have a2 := ha.hi; have k := ha.known
  obtain ⟨k1, k2, _⟩ := k
  unfold st at e
  omega
/-- The last count of all is far on. -/
theorem at_far {tb : Tb} (h : GoodT tb) {a t : Int} (hk : Known tb a) (h1 : st tb a ≤ t) (hn : ∀ day sec, ¬ At tb t day sec) : 2932890 * 86400 < t := by
  apply Classical.byContradiction
  intro hc
  have r := offT_range h 2932896
  obtain ⟨day, sec, ha⟩ := at_exists h hk h1 (by unfold st; omega)
  exact hn day sec ha
end Go.Proofs.YthkafbeojeedbaaDoor
