/-
  Where a stamp lies in a list of versions that rises: the last one not above it, how many are above it, what stays when the others go. No program is named here.
  What the document's own stamps (hourglassref6: Good, Cmp, Pack, Unpack, Max, Digits, Text) answer.
  What the landed stamps' Good and Cmp answer (no variable of the library is asked).
-/
import Derived.Test.YtpnjcflfnoamoaaGreatPl
import Derived.Test.YtpnjcflfnoamoaaGreatPa
import Derived.Test.YtpnjcflfnoamoaaGreatBase
import Derived.Deep.RegionHeld3
namespace Go.Proofs.YtpnjcflfnoamoaaGreat
open Go.RowKit
set_option linter.unusedVariables false

/-- How many are below a stamp; is the next one at it? -/
def loN (L : List Ver) (t n : Int) : Nat := (L.takeWhile (fun X => decide (cmpS X.t X.n t n < 0))).length
def hitN (L : List Ver) (t n : Int) : Bool := match L[loN L t n]? with
  | none => false
  | some X => decide (cmpS X.t X.n t n = 0)
theorem lo_le (L : List Ver) (t n : Int) : loN L t n ≤ L.length := List.Sublist.length_le (List.takeWhile_sublist _)
/-- How many are not above a stamp. -/
def upN (L : List Ver) (t n : Int) : Nat := loN L t n + if hitN L t n = true then 1 else 0
/-- The last of the first k. -/
def lastN (L : List Ver) (k : Nat) : Option Ver := if k = 0 then none else L[k - 1]?
theorem lo_rk (L : List Ver) (V : Ver) : loN L V.t V.n = rk L V := rfl
theorem hit_clash {L : List Ver} {V : Ver} (h : One L) (hV : V.k = zeroK) : hitN L V.t V.n = clashV L V := by
  rw [one_clash h hV]
  unfold hitN
  rw [lo_rk]
  cases L[rk L V]? with
  | none => rfl
  | some X =>
    simp only
    exact decide_eq_decide.2 cmp_nil
theorem up_facts {L : List Ver} (hu : Ups L) (t n : Int) : upN L t n ≤ L.length ∧ (∀ j X, j < upN L t n → L[j]? = some X → ¬ ltS t n X.t X.n) ∧ (∀ j X, upN L t n ≤ j → L[j]? = some X → ltS t n X.t X.n) := by
  obtain ⟨W, hW⟩ : ∃ W : Ver, W = ⟨zeroK, t, n, [], false⟩ := ⟨_, rfl⟩
  have eW : loN L t n = rk L W := by rw [hW]; rfl
  have below : ∀ j X, j < loN L t n → L[j]? = some X → ltS X.t X.n t n := fun j X hj hX => by
    have := rk_lt (V := W) (by rw [← eW]; exact hj) hX
    rw [hW] at this
    exact this
  have at_ : ∀ X, L[loN L t n]? = some X → ¬ ltS X.t X.n t n := fun X hX => by
    have := rk_stop L W X (by rw [← eW]; exact hX)
    rw [hW] at this
    exact this
  have asym : ∀ a b c d : Int, ltS a b c d → ¬ ltS c d a b := fun a b c d h1 h2 => by unfold ltS at *; omega
  have hle := lo_le L t n
  unfold upN
  by_cases hh : hitN L t n = true
  · rw [if_pos hh]
    unfold hitN at hh
    cases hX : L[loN L t n]? with
    | none => rw [hX] at hh; cases hh
    | some X =>
      rw [hX] at hh
      obtain ⟨e1, e2⟩ := cmp_nil.1 (of_decide_eq_true hh)
      have hlt := (List.getElem?_eq_some_iff.1 hX).1
      refine ⟨hlt, fun j Y hj hY => ?_, fun j Y hj hY => ?_⟩
      · by_cases e : j = loN L t n
        · rw [e, hX] at hY
          injection hY with hY
          rw [← hY, e1, e2]
          unfold ltS; omega
        · exact asym _ _ _ _ (below j Y (by omega) hY)
      · have h3 := hu.at (by omega) hX hY
        unfold ltV at h3
        rw [e1, e2] at h3
        exact h3
  · rw [if_neg hh, Nat.add_zero]
    refine ⟨hle, fun j Y hj hY => asym _ _ _ _ (below j Y hj hY), fun j Y hj hY => ?_⟩
    have hlt : loN L t n < L.length := Nat.lt_of_le_of_lt hj (List.getElem?_eq_some_iff.1 hY).1
    obtain ⟨X, hX⟩ : ∃ X, L[loN L t n]? = some X := ⟨_, List.getElem?_eq_getElem hlt⟩
    have h1 := at_ X hX
    have h2 : ¬ (X.t = t ∧ X.n = n) := fun e => hh (by unfold hitN; rw [hX]; exact decide_eq_true (cmp_nil.2 e))
    have h3 : ltS t n X.t X.n := by unfold ltS at *; omega
    by_cases e : j = loN L t n
    · rw [e, hX] at hY
      injection hY with hY
      rw [← hY]; exact h3
    · exact ltS_trans h3 (hu.at (by omega) hX hY)
theorem at_last {L : List Ver} (h : One L) (hu : Ups L) (t n : Int) : atV L zeroK t n = lastN L (upN L t n) := by
  obtain ⟨h1, h2, h3⟩ := up_facts hu t n
  unfold lastN
  by_cases h0 : upN L t n = 0
  · rw [if_pos h0]
    refine (at_none_iff h).2 (fun Y hY => ?_)
    obtain ⟨j, hj, e⟩ := List.getElem_of_mem hY
    exact h3 j Y (by omega) (by rw [List.getElem?_eq_getElem hj, e])
  · rw [if_neg h0]
    have hlt : upN L t n - 1 < L.length := by omega
    rw [List.getElem?_eq_getElem hlt]
    refine at_is h hu (List.getElem_mem hlt) (h2 _ _ (by omega) (List.getElem?_eq_getElem hlt)) (fun Y hY hn => ?_)
    obtain ⟨j, hj, e⟩ := List.getElem_of_mem hY
    have hYj : L[j]? = some Y := by rw [List.getElem?_eq_getElem hj, e]
    by_cases hju : upN L t n ≤ j
    · exact absurd (h3 j Y hju hYj) hn
    · by_cases e2 : j = upN L t n - 1
      · left
        subst e2
        exact e.symm
      · right
        exact hu.at (by omega) hYj (List.getElem?_eq_getElem hlt)
theorem newest_last {L : List Ver} (h : One L) : newestV L zeroK = lastN L L.length := by
  unfold newestV lastN
  rw [one_chain h]
  by_cases h0 : L.length = 0
  · rw [if_pos h0, List.eq_nil_of_length_eq_zero h0]; rfl
  · rw [if_neg h0, List.getLast?_eq_getElem?]
theorem filter_drop {p : Ver → Bool} {L : List Ver} {m : Nat} (hm : m ≤ L.length) (h1 : ∀ j X, j < m → L[j]? = some X → p X = false) (h2 : ∀ j X, m ≤ j → L[j]? = some X → p X = true) : L.filter p = L.drop m := by
  have e1 : (L.take m).filter p = [] := by
    rw [List.filter_eq_nil_iff]
    intro X hX
    obtain ⟨j, hj, e⟩ := List.getElem_of_mem hX
    rw [List.length_take] at hj
    have := h1 j X (by omega) (by rw [List.getElem_take] at e; rw [List.getElem?_eq_getElem (by omega), e])
    rw [this]
    exact Bool.false_ne_true
  have e2 : (L.drop m).filter p = L.drop m := by
    rw [List.filter_eq_self]
    intro X hX
    obtain ⟨j, hj, e⟩ := List.getElem_of_mem hX
    rw [List.length_drop] at hj
    exact h2 (m + j) X (by omega) (by rw [List.getElem_drop] at e; rw [List.getElem?_eq_getElem (by omega), e])
  have e3 : L.filter p = (L.take m ++ L.drop m).filter p := by rw [List.take_append_drop]
  rw [e3, List.filter_append, e1, e2, List.nil_append]
theorem rest_up {L : List Ver} (h : One L) (hu : Ups L) (t n : Int) : (upN L t n = 0 → restV L t n = L) ∧ ∀ X, lastN L (upN L t n) = some X → restV L t n = L.drop (upN L t n - if X.g = true then 0 else 1) := by
  obtain ⟨h1, h2, h3⟩ := up_facts hu t n
  have ha := at_last h hu t n
  refine ⟨fun h0 => rest_none h (by rw [ha, h0]; rfl), fun X hX => ?_⟩
  have h0 : upN L t n ≠ 0 := fun e => by rw [e] at hX; cases hX
  have hX2 : L[upN L t n - 1]? = some X := by unfold lastN at hX; rw [if_neg h0] at hX; exact hX
  rw [hX] at ha
  have goes : ∀ j Y, L[j]? = some Y → goesV L t n Y = (decide (cmpS Y.t Y.n X.t X.n < 0) || (decide (cmpS Y.t Y.n X.t X.n = 0) && X.g)) := fun j Y hY => by
    unfold goesV
    rw [h Y (List.mem_of_getElem? hY), ha]
  have low : ∀ j Y, j < upN L t n - 1 → L[j]? = some Y → goesV L t n Y = true := fun j Y hj hY => by
    rw [goes j Y hY, decide_eq_true (cmp_neg.2 (hu.at hj hY hX2))]
    rfl
  have high : ∀ j Y, upN L t n ≤ j → L[j]? = some Y → goesV L t n Y = false := fun j Y hj hY => by
    have h4 := hu.at (by omega) hX2 hY
    have h5 := cmp_pos.2 h4
    rw [goes j Y hY, decide_eq_false (by omega), decide_eq_false (by omega)]
    rfl
  have mid : goesV L t n X = X.g := by
    rw [goes _ X hX2, cmp_eq]
    simp
  unfold restV
  cases hg : X.g with
  | true =>
    rw [if_pos rfl, Nat.sub_zero]
    refine filter_drop h1 (fun j Y hj hY => ?_) (fun j Y hj hY => ?_)
    · by_cases e : j = upN L t n - 1
      · rw [e, hX2] at hY
        injection hY with hY
        rw [← hY, mid, hg]
        rfl
      · rw [low j Y (by omega) hY]
        rfl
    · rw [high j Y hj hY]
      rfl
  | false =>
    rw [if_neg Bool.false_ne_true]
    refine filter_drop (by omega) (fun j Y hj hY => ?_) (fun j Y hj hY => ?_)
    · rw [low j Y hj hY]
      rfl
    · by_cases e : j = upN L t n - 1
      · rw [e, hX2] at hY
        injection hY with hY
        rw [← hY, mid, hg]
        rfl
      · rw [high j Y (by omega) hY]
        rfl
end Go.Proofs.YtpnjcflfnoamoaaGreat

namespace Go.Proofs.YtpnjcflfnoamoaaGreat
open Go.RowKit
set_option linter.unusedVariables false

end Go.Proofs.YtpnjcflfnoamoaaGreat

namespace Go.Proofs.YtpnjcflfnoamoaaGreat
open Go.RowKit
set_option linter.unusedVariables false

theorem sgood_any (t n : Int) (w : World) :
    Calls Tryz.prog 47 #[.agg #[.int .i64 t, .int .u8 n]] w fun e w' => e = .returned (.bool (decide (okS t))) ∧ Below w.heap.size w w' := by
  have HB : Hid (Below w.heap.size w (w.alloc (.cells #[.int .i64 t, .int .u8 n] 42))) := (Below.refl _ _).alloc (Nat.le_refl _) _
  by_cases h0 : 0 ≤ t
  · have b0 : decide (0 ≤ t) = true := decide_eq_true h0
    by_cases h1 : t ≤ 36028797018963967
    · have b1 : decide (t ≤ 36028797018963967) = true := decide_eq_true h1
      rw [decide_eq_true (show okS t from ⟨h0, h1⟩)]
      go_enter Tryz.func47, Tryz.ntmps47
      go_wp2
      go_ret
      exact ⟨rfl, HB.out⟩
    · have b1 : decide (t ≤ 36028797018963967) = false := decide_eq_false h1
      rw [decide_eq_false (show ¬ okS t from fun h => h1 h.2)]
      go_enter Tryz.func47, Tryz.ntmps47
      go_wp2
      go_ret
      exact ⟨rfl, HB.out⟩
  · have b0 : decide (0 ≤ t) = false := decide_eq_false h0
    rw [decide_eq_false (show ¬ okS t from fun h => h0 h.1)]
    go_enter Tryz.func47, Tryz.ntmps47
    go_wp2
    go_ret
    exact ⟨rfl, HB.out⟩
theorem scmp_any (t n t' n' : Int) (w : World) :
    Calls Tryz.prog 115 #[.agg #[.int .i64 t, .int .u8 n], .agg #[.int .i64 t', .int .u8 n']] w fun e w' => e = .returned (.int .i64 (cmpS t n t' n')) ∧ Below w.heap.size w w' := by
  have HB : Hid (Below w.heap.size w ((w.alloc (.cells #[.int .i64 t, .int .u8 n] 42)).alloc (.cells #[.int .i64 t', .int .u8 n'] 42))) := ((Below.refl _ _).alloc (Nat.le_refl _) _).alloc (by simp) _
  by_cases h1 : t < t'
  · have b1 : decide (t < t') = true := decide_eq_true h1
    rw [cmp_lt (.inl h1)]
    go_enter Tryz.func115, Tryz.ntmps115
    go_wp2
    go_ret
    exact ⟨rfl, HB.out⟩
  · have b1 : decide (t < t') = false := decide_eq_false h1
    by_cases h2 : t' < t
    · have b2 : decide (t' < t) = true := decide_eq_true h2
      rw [cmp_gt (.inl h2)]
      go_enter Tryz.func115, Tryz.ntmps115
      go_wp2
      go_ret
      exact ⟨rfl, HB.out⟩
    · have b2 : decide (t' < t) = false := decide_eq_false h2
      have e : t = t' := by omega
      subst e
      by_cases h3 : n < n'
      · have b3 : decide (n < n') = true := decide_eq_true h3
        rw [cmp_lt (.inr ⟨rfl, h3⟩)]
        go_enter Tryz.func115, Tryz.ntmps115
        go_wp2
        go_ret
        exact ⟨rfl, HB.out⟩
      · have b3 : decide (n < n') = false := decide_eq_false h3
        by_cases h4 : n' < n
        · have b4 : decide (n' < n) = true := decide_eq_true h4
          rw [cmp_gt (.inr ⟨rfl, h4⟩)]
          go_enter Tryz.func115, Tryz.ntmps115
          go_wp2
          go_ret
          exact ⟨rfl, HB.out⟩
        · have b4 : decide (n' < n) = false := decide_eq_false h4
          have e : n = n' := by omega
          subst e
          rw [cmp_eq]
          go_enter Tryz.func115, Tryz.ntmps115
          go_wp2
          go_ret
          exact ⟨rfl, HB.out⟩
end Go.Proofs.YtpnjcflfnoamoaaGreat

