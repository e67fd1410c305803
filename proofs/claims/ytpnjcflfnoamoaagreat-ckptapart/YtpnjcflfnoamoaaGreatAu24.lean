/-
  Plain facts on integers, bits and lists: numbers in groups of seven bits, folded signs, cut bits. No program is named here.
  Numbers in groups of seven bits: the steps of a walk that reads one.
  What the document's own numbers are: Get, Put, Zig, Zag.
-/
import Derived.WalkKit
import Derived.Laws.BitsAllLaws
import Derived.Test.YtpnjcflfnoamoaaGreatBase
namespace Go.Proofs.YtpnjcflfnoamoaaGreat.Pl
open Go Go.RowKit

/-! ### Folded signs -/
/-! ### Cut bits -/
/-! ### Numbers in groups of seven bits -/
def putF : Nat → Int → List Int
  | 0, v => [v]
  | f + 1, v => if v < 128 then [v] else (v % 128 + 128) :: putF f (v / 128)
def putI (v : Int) : List Int := putF 9 v
def Fits (f : Nat) (x : Int) : Prop := 0 ≤ x ∧ x < 2 * 128 ^ f
theorem fits_start (v : Int) (h0 : 0 ≤ v) (h1 : v ≤ 18446744073709551615) : Fits 9 v := by
  unfold Fits
  have e : (2 : Int) * 128 ^ 9 = 18446744073709551616 := by decide
  omega
theorem fits_zero {x : Int} (h : Fits 0 x) : x < 128 := by
  unfold Fits at h; simp at h; omega
theorem fits_step {f : Nat} {x : Int} (h : Fits (f + 1) x) : Fits f (x / 128) := by
  unfold Fits at *
  have e : (2 : Int) * 128 ^ (f + 1) = 2 * 128 ^ f * 128 := by rw [Int.pow_succ, Int.mul_assoc]
  rw [e] at h
  exact ⟨by omega, by omega⟩
theorem put_last {f : Nat} {x : Int} (h : x < 128) : putF f x = [x] := by
  cases f with
  | zero => rfl
  | succ f => simp [putF, h]
theorem put_more {f : Nat} {x : Int} (h : 128 ≤ x) : putF (f + 1) x = (x % 128 + 128) :: putF f (x / 128) := by
  have : ¬ x < 128 := by omega
  simp [putF, this]
theorem put_length_pos (f : Nat) (x : Int) : 1 ≤ (putF f x).length := by
  cases f with
  | zero => simp [putF]
  | succ f => unfold putF; split <;> simp
theorem put_length_le (f : Nat) : ∀ x : Int, (putF f x).length ≤ f + 1 := by
  induction f with
  | zero => intro x; simp [putF]
  | succ f ih => intro x; unfold putF; split
                 · simp
                 · have := ih (x / 128); simp; omega
theorem put_bytes (f : Nat) : ∀ x : Int, Fits f x → ∀ c ∈ putF f x, 0 ≤ c ∧ c ≤ 255 := by
  induction f with
  | zero => intro x h c hc; have := fits_zero h; simp [putF] at hc; unfold Fits at h; omega
  | succ f ih =>
    intro x h c hc
    by_cases hx : x < 128
    · rw [put_last hx] at hc; simp at hc; unfold Fits at h; omega
    · rw [put_more (by omega)] at hc
      rcases List.mem_cons.1 hc with rfl | hc
      · omega
      · exact ih _ (fits_step h) c hc

def goodB (c i : Int) : Bool := !(decide (0 < i) && c == 0) && (decide (i < 9) || c == 1)
def getF : Nat → Int → Nat → List Int → Int × Int × Int
  | 0, _, _, _ => (0, 0, 3)
  | _ + 1, _, _, [] => (0, 0, 3)
  | f + 1, X, k, c :: r => if c < 128 then (if goodB c k = true then (X + c * 2 ^ (7 * k), (k : Int) + 1, 0) else (0, 0, 3)) else getF f (X + c % 128 * 2 ^ (7 * k)) (k + 1) r
def getI (zs : List Int) : Int × Int × Int := getF 10 0 0 zs
theorem get_none (X : Int) (k : Nat) (zs : List Int) : getF 0 X k zs = (0, 0, 3) := rfl
theorem get_nil (f : Nat) (X : Int) (k : Nat) : getF f X k [] = (0, 0, 3) := by cases f <;> rfl
theorem get_more {f : Nat} {X c : Int} {k : Nat} {r : List Int} (h : 128 ≤ c) : getF (f + 1) X k (c :: r) = getF f (X + c % 128 * 2 ^ (7 * k)) (k + 1) r := by
  have : ¬ c < 128 := by omega
  simp [getF, this]
theorem get_end {f : Nat} {X c : Int} {k : Nat} {r : List Int} (h : c < 128) (hg : goodB c k = true) : getF (f + 1) X k (c :: r) = (X + c * 2 ^ (7 * k), (k : Int) + 1, 0) := by
  simp [getF, h, hg]
theorem get_bad {f : Nat} {X c : Int} {k : Nat} {r : List Int} (h : c < 128) (hg : goodB c k = false) : getF (f + 1) X k (c :: r) = (0, 0, 3) := by
  simp [getF, h, hg]

theorem mask127 {c : Int} (h₀ : 0 ≤ c) (h₁ : c ≤ 255) : bits .and .u8 c 127 = c % 128 := bits_mask .u8 8 (by decide) wraps_u8 7 (by decide) c h₀ (by omega)
theorem or128 (x : Int) (h0 : 0 ≤ x) (h1 : x < 256) : bits .or .u8 x 128 = x % 128 + 128 := by
  rw [u8_or x 128 h0 h1 (by omega) (by omega)]
  obtain ⟨a, rfl⟩ := Int.eq_ofNat_of_zero_le h0
  have ha : a < 256 := by omega
  have e : (128 : Int).toNat = 128 := rfl
  rw [Int.toNat_natCast, e]
  have key : ∀ a : Fin 256, (a.val ||| 128) = a.val % 128 + 128 := by decide +kernel
  have := key ⟨a, ha⟩
  simp only at this
  rw [this]; omega
/-- A group laid above what has been read. -/
theorem or_group (X c : Int) (k : Nat) (h0 : 0 ≤ X) (h1 : X < 2 ^ (7 * k)) (c0 : 0 ≤ c) (hb : X + c * 2 ^ (7 * k) < 18446744073709551616) :
    bits .or .u64 X (IntKind.u64.wrap (c * 2 ^ (7 * k))) = X + c * 2 ^ (7 * k) := by
  have hp : (0 : Int) < 2 ^ (7 * k) := Int.pow_pos (by omega)
  have hc : 0 ≤ c * 2 ^ (7 * k) := Int.mul_nonneg c0 (by omega)
  have e1 : IntKind.u64.wrap (c * 2 ^ (7 * k)) = c * 2 ^ (7 * k) := by
    rw [IntKind.wrap_u64]; exact Int.emod_eq_of_lt hc (by omega)
  rw [e1, u64_or X _ h0 (by omega) hc (by omega)]
  obtain ⟨x, rfl⟩ := Int.eq_ofNat_of_zero_le h0
  obtain ⟨g, rfl⟩ := Int.eq_ofNat_of_zero_le c0
  have e2 : (2 : Int) ^ (7 * k) = ((2 ^ (7 * k) : Nat) : Int) := by simp
  rw [e2] at h1 ⊢
  rw [← Int.natCast_mul, Int.toNat_natCast, Int.toNat_natCast, Nat.or_comm, nat_join (7 * k) (g * 2 ^ (7 * k)) x (by simp) (by omega)]
  rw [Nat.add_comm]; simp

/-- What is written is read back, whatever is behind it. -/
theorem get_putF (f : Nat) : ∀ (x X : Int) (k : Nat) (r : List Int), Fits f x → k + f = 9 → (0 < k → 1 ≤ x) → getF (f + 1) X k (putF f x ++ r) = (X + x * 2 ^ (7 * k), (k : Int) + (putF f x).length, 0) := by
  induction f with
  | zero =>
    intro x X k r h hk h1
    have h2 := h.2
    simp at h2
    have hx : x = 1 := by have := h1 (by omega); omega
    subst hx
    have : k = 9 := by omega
    subst this
    rfl
  | succ f ih =>
    intro x X k r h hk h1
    by_cases hx : x < 128
    · rw [put_last hx]
      have hg : goodB x k = true := by
        have a1 : ¬ (0 < (k : Int) ∧ x = 0) := fun h => by have := h1 (by omega); omega
        have a2 : (k : Int) < 9 := by omega
        unfold goodB
        rw [Bool.and_eq_true]
        refine ⟨?_, ?_⟩
        · have : (decide (0 < (k : Int)) && x == 0) = false := by
            rw [Bool.eq_false_iff]; intro h; rw [Bool.and_eq_true] at h; exact a1 ⟨of_decide_eq_true h.1, eq_of_beq h.2⟩
          rw [this]; rfl
        · rw [Bool.or_eq_true]; exact .inl (decide_eq_true a2)
      show getF (f + 1 + 1) X k (x :: r) = _
      rw [get_end hx hg]; rfl
    · rw [put_more (by omega)]
      show getF (f + 1 + 1) X k ((x % 128 + 128) :: (putF f (x / 128) ++ r)) = _
      rw [get_more (by omega), ih (x / 128) _ (k + 1) r (fits_step h) (by omega) (fun _ => by omega)]
      have e1 : (x % 128 + 128) % 128 = x % 128 := by omega
      have e2 : (2 : Int) ^ (7 * (k + 1)) = 128 * 2 ^ (7 * k) := by rw [Nat.mul_succ, Int.pow_add, Int.mul_comm]; rfl
      have e3 : X + x % 128 * 2 ^ (7 * k) + x / 128 * (128 * 2 ^ (7 * k)) = X + x * 2 ^ (7 * k) := by
        have e : x = x % 128 + 128 * (x / 128) := by omega
        conv => rhs; rw [e]
        rw [Int.add_mul, Int.mul_assoc, ← Int.mul_assoc (x / 128), Int.mul_comm (x / 128) 128, Int.mul_assoc, Int.add_assoc]
      rw [e1, e2, e3]
      simp
      omega
theorem get_put (v : Int) (r : List Int) (h0 : 0 ≤ v) (h1 : v ≤ 18446744073709551615) : getI (putI v ++ r) = (v, ((putI v).length : Int), 0) := by
  unfold getI putI
  rw [get_putF 9 v 0 0 r (fits_start v h0 h1) rfl (by omega)]
  simp

end Go.Proofs.YtpnjcflfnoamoaaGreat.Pl

namespace Go.Proofs.YtpnjcflfnoamoaaGreat
open Go.RowKit
set_option linter.unusedVariables false

theorem pow7 (k : Nat) (h : k ≤ 8) : (2 : Int) ^ (7 * k) ≤ 72057594037927936 := by
  have : 2 ^ (7 * k) ≤ 2 ^ 56 := Nat.pow_le_pow_right (by omega) (by omega)
  have e : ((2 ^ (7 * k) : Nat) : Int) = (2 : Int) ^ (7 * k) := by simp
  have : ((2 ^ (7 * k) : Nat) : Int) ≤ ((2 ^ 56 : Nat) : Int) := by exact_mod_cast this
  rw [e] at this
  exact this
theorem pow_succ7 (k : Nat) : (2 : Int) ^ (7 * (k + 1)) = 128 * 2 ^ (7 * k) := by
  rw [Nat.mul_succ, Int.pow_add, Int.mul_comm]; rfl
/-- A group below 128 laid above what has been read stays below the next group. -/
theorem group_lt (X c : Int) (k : Nat) (h1 : X < 2 ^ (7 * k)) (c1 : c ≤ 127) : X + c * 2 ^ (7 * k) < 2 ^ (7 * (k + 1)) := by
  have hp : (0 : Int) < 2 ^ (7 * k) := Int.pow_pos (by omega)
  have : c * 2 ^ (7 * k) ≤ 127 * 2 ^ (7 * k) := Int.mul_le_mul_of_nonneg_right c1 (by omega)
  rw [pow_succ7]; omega
theorem ret3 {a b c a' b' c' : Int} (h : (a, b, c) = (a', b', c')) : Ending.returned (.tuple #[.int .u64 a, .int .i64 b, .int .i64 c]) = .returned (.tuple #[.int .u64 a', .int .i64 b', .int .i64 c']) := by
  simp only [Prod.mk.injEq] at h
  obtain ⟨rfl, rfl, rfl⟩ := h; rfl
theorem step_bad {g : Int × Int × Int} {zs r : List Int} {k : Nat} {X c : Int} (hd : g = Pl.getF (10 - k) X k zs) (hz : zs = c :: r) (hf : 10 - k = 9 - k + 1) (hc : c < 128) (hb : (!Pl.goodB c k) = true) : g = (0, 0, 3) := by
  rw [hd, hz, hf, Pl.get_bad hc (by simpa using hb)]
theorem step_good {g : Int × Int × Int} {zs r : List Int} {k : Nat} {X c : Int} (hd : g = Pl.getF (10 - k) X k zs) (hz : zs = c :: r) (hf : 10 - k = 9 - k + 1) (hX : k ≤ 9 → 0 ≤ X ∧ X < 2 ^ (7 * k)) (h10 : k < 10) (c0 : 0 ≤ c) (hc : c < 128) (hb : Pl.goodB c k = true) :
    g = (bits .or .u64 X (IntKind.u64.wrap (c % 128 * 2 ^ (7 * k))), (k : Int) + 1, 0) := by
  rw [hd, hz, hf, Pl.get_end hc hb]
  obtain ⟨x0, x1⟩ := hX (by omega)
  have e : c % 128 = c := by omega
  have hlt : X + c * 2 ^ (7 * k) < 18446744073709551616 := by
    by_cases h9 : k = 9
    · subst h9
      have : c = 1 := by unfold Pl.goodB at hb; simp at hb; exact hb.2
      subst this
      have e9 : (2 : Int) ^ (7 * 9) = 9223372036854775808 := by decide
      rw [e9] at x1 ⊢; omega
    · have h1 := group_lt X c k x1 (by omega)
      have h2 := pow7 k (by omega)
      rw [pow_succ7] at h1
      omega
  rw [e, Pl.or_group X c k x0 x1 c0 hlt]
theorem step_more {g : Int × Int × Int} {zs r : List Int} {k : Nat} {X c : Int} (hd : g = Pl.getF (10 - k) X k zs) (hz : zs = c :: r) (hf : 10 - k = 9 - k + 1) (hX : k ≤ 9 → 0 ≤ X ∧ X < 2 ^ (7 * k)) (h10 : k < 10) (c0 : 0 ≤ c) (c1 : c ≤ 255) (hc : 128 ≤ c) :
    (k + 1 ≤ 9 → 0 ≤ bits .or .u64 X (IntKind.u64.wrap (c % 128 * 2 ^ (7 * k))) ∧ bits .or .u64 X (IntKind.u64.wrap (c % 128 * 2 ^ (7 * k))) < 2 ^ (7 * (k + 1))) ∧
    g = Pl.getF (10 - (k + 1)) (bits .or .u64 X (IntKind.u64.wrap (c % 128 * 2 ^ (7 * k)))) (k + 1) r := by
  obtain ⟨x0, x1⟩ := hX (by omega)
  have e : 10 - (k + 1) = 9 - k := by omega
  rw [hd, hz, hf, Pl.get_more hc, e]
  by_cases h9 : k = 9
  · subst h9; exact ⟨fun h => by omega, rfl⟩
  · have h1 := group_lt X (c % 128) k x1 (by omega)
    have h2 := pow7 k (by omega)
    have hp : (0 : Int) < 2 ^ (7 * k) := Int.pow_pos (by omega)
    have hm : 0 ≤ c % 128 * 2 ^ (7 * k) := Int.mul_nonneg (by omega) (by omega)
    have h3 := h1
    rw [pow_succ7] at h3
    rw [Pl.or_group X (c % 128) k x0 x1 (by omega) (by omega)]
    exact ⟨fun _ => ⟨by omega, h1⟩, rfl⟩
theorem step_out {g : Int × Int × Int} {zs : List Int} {k len : Nat} {X : Int} (hd : g = Pl.getF (10 - k) X k (zs.drop k)) (hl : len = zs.length) (h : ¬ (k < len ∧ k < 10)) : g = (0, 0, 3) := by
  rw [hd]
  by_cases h10 : k < 10
  · rw [List.drop_eq_nil_of_le (by omega), Pl.get_nil]
  · have : 10 - k = 0 := by omega
    rw [this, Pl.get_none]
theorem get_casesF (f : Nat) : ∀ (X : Int) (k : Nat) (zs : List Int), Pl.getF f X k zs = (0, 0, 3) ∨ ∃ V N, Pl.getF f X k zs = (V, N, 0) ∧ 1 ≤ N := by
  induction f with
  | zero => intro X k zs; exact .inl rfl
  | succ f ih =>
    intro X k zs
    cases zs with
    | nil => exact .inl rfl
    | cons c r =>
      by_cases hc : c < 128
      · by_cases hg : Pl.goodB c k = true
        · exact .inr ⟨_, _, Pl.get_end hc hg, by omega⟩
        · exact .inl (Pl.get_bad hc (by simpa using hg))
      · rw [Pl.get_more (by omega)]
        exact ih _ _ _
theorem get_cases (zs : List Int) : Pl.getI zs = (0, 0, 3) ∨ ∃ V N, Pl.getI zs = (V, N, 0) ∧ 1 ≤ N := get_casesF 10 0 0 zs
end Go.Proofs.YtpnjcflfnoamoaaGreat

namespace Go.Proofs.YtpnjcflfnoamoaaGreat
open Go.RowKit
set_option linter.unusedVariables false

end Go.Proofs.YtpnjcflfnoamoaaGreat

