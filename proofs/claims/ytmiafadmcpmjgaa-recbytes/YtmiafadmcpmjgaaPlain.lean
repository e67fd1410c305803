/-
  Plain facts on integers, bits and lists: numbers in groups of seven bits, folded signs, cut bits. No program is named here.
-/
import Derived.WalkKit
import Derived.Laws.BitsAllLaws
namespace Go.Proofs.Ytmiafadmcpmjgaa.Pl
open Go Go.RowKit

/-! ### Folded signs -/
def zigI (v : Int) : Int := if 0 ≤ v then 2 * v else -2 * v - 1
def zagI (v : Int) : Int := if v % 2 = 0 then v / 2 else -(v / 2) - 1

theorem wrap64_in (n : Int) (h0 : -9223372036854775808 ≤ n) (h1 : n ≤ 9223372036854775807) : wrap64 n = n := by unfold wrap64; omega

theorem bits_xor_u64_ones (x : Int) (h0 : 0 ≤ x) (h1 : x < 18446744073709551616) : bits .xor .u64 x 18446744073709551615 = 18446744073709551615 - x := by
  obtain ⟨a, rfl⟩ := Int.eq_ofNat_of_zero_le h0
  show IntKind.u64.wrap ((BitVec.ofInt 64 (a : Int) ^^^ BitVec.ofInt 64 18446744073709551615).toNat : Int) = _
  have e : BitVec.ofInt 64 18446744073709551615 = BitVec.allOnes 64 := by decide
  rw [e, BitVec.xor_allOnes, BitVec.toNat_not, ofInt_u64 a (by omega), IntKind.wrap_u64]
  omega
theorem bits_xor_u64_zero (x : Int) (h0 : 0 ≤ x) (h1 : x < 18446744073709551616) : bits .xor .u64 x 0 = x := by
  obtain ⟨a, rfl⟩ := Int.eq_ofNat_of_zero_le h0
  show IntKind.u64.wrap ((BitVec.ofInt 64 (a : Int) ^^^ BitVec.ofInt 64 0).toNat : Int) = _
  have e : BitVec.ofInt 64 0 = 0#64 := by decide
  rw [e, BitVec.xor_zero, ofInt_u64 a (by omega), IntKind.wrap_u64]
  omega
theorem zig_bits (v : Int) (h0 : -9223372036854775808 ≤ v) (h1 : v ≤ 9223372036854775807) :
    bits .xor .u64 (IntKind.u64.wrap (IntKind.u64.wrap v * 2)) (IntKind.u64.wrap (v / 9223372036854775808)) = zigI v := by
  unfold zigI
  by_cases h : 0 ≤ v
  · have e1 : IntKind.u64.wrap (IntKind.u64.wrap v * 2) = 2 * v := by simp only [IntKind.wrap_u64]; omega
    have e2 : IntKind.u64.wrap (v / 9223372036854775808) = 0 := by simp only [IntKind.wrap_u64]; omega
    rw [e1, e2, bits_xor_u64_zero _ (by omega) (by omega), if_pos h]
  · have e1 : IntKind.u64.wrap (IntKind.u64.wrap v * 2) = 2 * v + 18446744073709551616 := by simp only [IntKind.wrap_u64]; omega
    have e2 : IntKind.u64.wrap (v / 9223372036854775808) = 18446744073709551615 := by simp only [IntKind.wrap_u64]; omega
    rw [e1, e2, bits_xor_u64_ones _ (by omega) (by omega), if_neg h]
    omega

theorem bits_and_one (v : Int) (h0 : 0 ≤ v) (h1 : v < 18446744073709551616) : bits .and .u64 v 1 = v % 2 := by
  rw [u64_and v 1 h0 h1 (by omega) (by omega)]
  have : (1 : Int).toNat = 1 := rfl
  rw [this, nat_mask1]
  omega
theorem bits_xor_i64_ones (x : Int) (h0 : 0 ≤ x) (h1 : x < 9223372036854775808) : bits .xor .i64 x (-1) = -x - 1 := by
  obtain ⟨a, rfl⟩ := Int.eq_ofNat_of_zero_le h0
  show IntKind.i64.wrap ((BitVec.ofInt 64 (a : Int) ^^^ BitVec.ofInt 64 (-1)).toNat : Int) = _
  have e : BitVec.ofInt 64 (-1) = BitVec.allOnes 64 := by decide
  rw [e, BitVec.xor_allOnes, BitVec.toNat_not, ofInt_u64 a (by omega), IntKind.wrap_i64]
  omega
theorem bits_xor_i64_zero (x : Int) (h0 : 0 ≤ x) (h1 : x < 9223372036854775808) : bits .xor .i64 x 0 = x := by
  obtain ⟨a, rfl⟩ := Int.eq_ofNat_of_zero_le h0
  show IntKind.i64.wrap ((BitVec.ofInt 64 (a : Int) ^^^ BitVec.ofInt 64 0).toNat : Int) = _
  have e : BitVec.ofInt 64 0 = 0#64 := by decide
  rw [e, BitVec.xor_zero, ofInt_u64 a (by omega), IntKind.wrap_i64]
  omega
theorem zag_bits (v : Int) (h0 : 0 ≤ v) (h1 : v ≤ 18446744073709551615) :
    bits .xor .i64 (v / 2) (wrap64 (-wrap64 (bits .and .u64 v 1))) = zagI v := by
  rw [bits_and_one v h0 (by omega), wrap64_in (v % 2) (by omega) (by omega), wrap64_in (-(v % 2)) (by omega) (by omega)]
  unfold zagI
  by_cases h : v % 2 = 0
  · rw [if_pos h, h]; exact bits_xor_i64_zero _ (by omega) (by omega)
  · have e : -(v % 2) = -1 := by omega
    rw [if_neg h, e]; exact bits_xor_i64_ones _ (by omega) (by omega)
theorem zig_bd (v : Int) (h0 : -9223372036854775808 ≤ v) (h1 : v ≤ 9223372036854775807) : 0 ≤ zigI v ∧ zigI v ≤ 18446744073709551615 := by unfold zigI; split <;> omega
theorem zag_bd (v : Int) (h0 : 0 ≤ v) (h1 : v ≤ 18446744073709551615) : -9223372036854775808 ≤ zagI v ∧ zagI v ≤ 9223372036854775807 := by unfold zagI; split <;> omega
theorem zag_zig (v : Int) : zagI (zigI v) = v := by unfold zigI zagI; split <;> split <;> omega
theorem zig_zag (v : Int) (h0 : 0 ≤ v) : zigI (zagI v) = v := by unfold zigI zagI; split <;> split <;> omega

/-! ### Cut bits -/
/-- How many bits lie above. -/
def spareI (n : Int) : Int := if 1 ≤ n ∧ n ≤ 64 then 64 - n else 0
theorem spare_bd (n : Int) : 0 ≤ spareI n ∧ spareI n ≤ 63 := by unfold spareI; split <;> omega
theorem spare_in (n : Int) (h0 : 1 ≤ n) (h1 : n ≤ 64) : 64 - n = spareI n := by unfold spareI; rw [if_pos ⟨h0, h1⟩]
theorem spare_out (n : Int) (h : ¬ (1 ≤ n ∧ n ≤ 64)) : 0 = spareI n := by unfold spareI; rw [if_neg h]

/-- Twice the half; the half: of the numbers that so many bits tell. -/
def qI (n : Int) : Int := 2 ^ (64 - spareI n).toNat
def hI (n : Int) : Int := 2 ^ (63 - spareI n).toNat
def pI (n : Int) : Int := 2 ^ (spareI n).toNat
def lowI (v n : Int) : Int := v % qI n
def signI (v n : Int) : Int := (v + hI n) % qI n - hI n
theorem p_pos (n : Int) : 0 < pI n := Int.pow_pos (by omega)
theorem h_pos (n : Int) : 0 < hI n := Int.pow_pos (by omega)
theorem q_h (n : Int) : qI n = 2 * hI n := by
  have hb := spare_bd n
  unfold qI hI
  have e : (64 - spareI n).toNat = (63 - spareI n).toNat + 1 := by omega
  rw [e, Int.pow_succ]; omega
theorem p_q (n : Int) : pI n * qI n = 18446744073709551616 := by
  have hb := spare_bd n
  unfold pI qI
  rw [← Int.pow_add]
  have e : (spareI n).toNat + (64 - spareI n).toNat = 64 := by omega
  rw [e]; rfl
theorem p_h (n : Int) : pI n * hI n = 9223372036854775808 := by
  have h1 := p_q n
  rw [q_h, Int.mul_left_comm] at h1
  omega
theorem wrapW (v n : Int) : IntKind.u64.wrap (v * pI n) = pI n * (v % qI n) := by
  rw [IntKind.wrap_u64, ← p_q n, Int.mul_comm v, Int.mul_emod_mul_of_pos _ _ (p_pos n)]
theorem q_dvd (n : Int) : qI n ∣ 18446744073709551616 := ⟨pI n, by rw [Int.mul_comm]; exact (p_q n).symm⟩
theorem mod_mod_q (v n : Int) : v % 18446744073709551616 % qI n = v % qI n := Int.emod_emod_of_dvd v (q_dvd n)
theorem low_bits (v n : Int) : IntKind.u64.wrap (IntKind.u64.wrap v * 2 ^ (spareI n).toNat) / 2 ^ (spareI n).toNat = lowI v n := by
  show IntKind.u64.wrap (IntKind.u64.wrap v * pI n) / pI n = _
  rw [wrapW, IntKind.wrap_u64, mod_mod_q, Int.mul_ediv_cancel_left _ (Int.ne_of_gt (p_pos n))]
  rfl
theorem sign_bits (v n : Int) : wrap64 (IntKind.u64.wrap (v * 2 ^ (spareI n).toNat)) / 2 ^ (spareI n).toNat = signI v n := by
  show wrap64 (IntKind.u64.wrap (v * pI n)) / pI n = _
  rw [wrapW]
  unfold wrap64 signI
  have e1 : pI n * (v % qI n) + 9223372036854775808 = pI n * (v % qI n + hI n) := by rw [Int.mul_add, p_h]
  have e2 : pI n * (v % qI n + hI n) % 18446744073709551616 = pI n * ((v % qI n + hI n) % qI n) := by
    rw [← p_q n, Int.mul_emod_mul_of_pos _ _ (p_pos n)]
  have e3 : (v % qI n + hI n) % qI n = (v + hI n) % qI n := by rw [Int.emod_add_emod]
  rw [e1, e2, e3]
  have e4 : pI n * ((v + hI n) % qI n) - 9223372036854775808 = pI n * ((v + hI n) % qI n - hI n) := by rw [Int.mul_sub, p_h]
  rw [e4, Int.mul_ediv_cancel_left _ (Int.ne_of_gt (p_pos n))]
theorem q_le (n : Int) : qI n ≤ 18446744073709551616 := by
  have h1 := p_q n
  have h2 := p_pos n
  have h3 : 0 < qI n := by have := q_h n; have := h_pos n; omega
  have h4 : 1 * qI n ≤ pI n * qI n := Int.mul_le_mul_of_nonneg_right (by omega) (by omega)
  omega
theorem low_bd (v n : Int) : 0 ≤ lowI v n ∧ lowI v n < qI n := by
  have h3 : 0 < qI n := by have := q_h n; have := h_pos n; omega
  exact ⟨Int.emod_nonneg _ (by omega), Int.emod_lt_of_pos _ h3⟩
theorem low_max (v n : Int) : 0 ≤ lowI v n ∧ lowI v n ≤ 18446744073709551615 := by
  have := low_bd v n
  have := q_le n
  omega
theorem sign_low (v n : Int) : signI (lowI v n) n = signI v n := by
  unfold signI lowI; rw [Int.emod_add_emod]
theorem sign_bd (v n : Int) : -hI n ≤ signI v n ∧ signI v n < hI n := by
  have h1 := q_h n
  have h2 := h_pos n
  unfold signI
  have h3 := Int.emod_nonneg (v + hI n) (b := qI n) (by omega)
  have h4 := Int.emod_lt_of_pos (v + hI n) (b := qI n) (by omega)
  omega
theorem sign_max (v n : Int) : -9223372036854775808 ≤ signI v n ∧ signI v n ≤ 9223372036854775807 := by
  have h0 := sign_bd v n
  have h1 := q_h n
  have h2 := q_le n
  omega
theorem sign_fits (v n : Int) : signI v n = v ↔ (-hI n ≤ v ∧ v < hI n) := by
  constructor
  · intro h
    have := sign_bd v n
    omega
  · intro h
    have h1 := q_h n
    unfold signI
    rw [Int.emod_eq_of_lt (by omega) (by omega)]
    omega
theorem half_in (n : Int) (h0 : 1 ≤ n) (h1 : n ≤ 63) : hI n = 2 ^ (n - 1).toNat := by
  unfold hI; congr 1; have := spare_in n h0 (by omega); omega
theorem whole_in (n : Int) (h0 : 1 ≤ n) (h1 : n ≤ 63) : qI n = 2 ^ n.toNat := by
  unfold qI; congr 1; have := spare_in n h0 (by omega); omega

theorem h_le (n : Int) (h0 : 1 ≤ n) (h1 : n ≤ 63) : 0 < hI n ∧ hI n ≤ 4611686018427387904 := by
  refine ⟨h_pos n, ?_⟩
  unfold hI
  have := spare_in n h0 (by omega)
  have h2 : (63 - spareI n).toNat ≤ 62 := by omega
  have h3 : 2 ^ (63 - spareI n).toNat ≤ 2 ^ 62 := Nat.pow_le_pow_right (by omega) h2
  have h4 : ((2 ^ (63 - spareI n).toNat : Nat) : Int) ≤ ((2 ^ 62 : Nat) : Int) := by exact_mod_cast h3
  have e : ((2 ^ (63 - spareI n).toNat : Nat) : Int) = (2 : Int) ^ (63 - spareI n).toNat := by simp
  rw [e] at h4
  exact h4
theorem half_wrap (n : Int) (h0 : 1 ≤ n) (h1 : n ≤ 63) : wrap64 (2 ^ (n.toNat - 1)) = hI n := by
  have hb := h_le n h0 h1
  have e : n.toNat - 1 = (n - 1).toNat := by omega
  rw [e, ← half_in n h0 h1, wrap64_in _ (by omega) (by omega)]
theorem whole_wrap (n : Int) (h0 : 1 ≤ n) (h1 : n ≤ 63) : IntKind.u64.wrap (2 ^ n.toNat) = qI n := by
  have hb := h_le n h0 h1
  have hq := q_h n
  rw [← whole_in n h0 h1, IntKind.wrap_u64]
  exact Int.emod_eq_of_lt (by omega) (by omega)

/-! ### Numbers in groups of seven bits -/
def putF : Nat → Int → List Int
  | 0, v => [v]
  | f + 1, v => if v < 128 then [v] else (v % 128 + 128) :: putF f (v / 128)
def putI (v : Int) : List Int := putF 9 v
def Fits (f : Nat) (x : Int) : Prop := 0 ≤ x ∧ x < 2 * 128 ^ f
theorem fits_start (v : Int) (h0 : 0 ≤ v) (h1 : v ≤ 18446744073709551615) : Fits 9 v := by
  unfold Fits
  have e : (2 : Int) * 128 ^ 9 = 18446744073709551616 := by decide
  omega
theorem fits_zero {x : Int} (h : Fits 0 x) : x < 128 := by
  unfold Fits at h; simp at h; omega
theorem fits_step {f : Nat} {x : Int} (h : Fits (f + 1) x) : Fits f (x / 128) := by
  unfold Fits at *
  have e : (2 : Int) * 128 ^ (f + 1) = 2 * 128 ^ f * 128 := by rw [Int.pow_succ, Int.mul_assoc]
  rw [e] at h
  exact ⟨by omega, by omega⟩
theorem put_last {f : Nat} {x : Int} (h : x < 128) : putF f x = [x] := by
  cases f with
  | zero => rfl
  | succ f => simp [putF, h]
theorem put_more {f : Nat} {x : Int} (h : 128 ≤ x) : putF (f + 1) x = (x % 128 + 128) :: putF f (x / 128) := by
  have : ¬ x < 128 := by omega
  simp [putF, this]
theorem put_length_pos (f : Nat) (x : Int) : 1 ≤ (putF f x).length := by
  cases f with
  | zero => simp [putF]
  | succ f => unfold putF; split <;> simp
theorem put_length_le (f : Nat) : ∀ x : Int, (putF f x).length ≤ f + 1 := by
  induction f with
  | zero => intro x; simp [putF]
  | succ f ih => intro x; unfold putF; split
                 · simp
                 · have := ih (x / 128); simp; omega
theorem put_bytes (f : Nat) : ∀ x : Int, Fits f x → ∀ c ∈ putF f x, 0 ≤ c ∧ c ≤ 255 := by
  induction f with
  | zero => intro x h c hc; have := fits_zero h; simp [putF] at hc; unfold Fits at h; omega
  | succ f ih =>
    intro x h c hc
    by_cases hx : x < 128
    · rw [put_last hx] at hc; simp at hc; unfold Fits at h; omega
    · rw [put_more (by omega)] at hc
      rcases List.mem_cons.1 hc with rfl | hc
      · omega
      · exact ih _ (fits_step h) c hc

def goodB (c i : Int) : Bool := !(decide (0 < i) && c == 0) && (decide (i < 9) || c == 1)
def getF : Nat → Int → Nat → List Int → Int × Int × Int
  | 0, _, _, _ => (0, 0, 3)
  | _ + 1, _, _, [] => (0, 0, 3)
  | f + 1, X, k, c :: r => if c < 128 then (if goodB c k = true then (X + c * 2 ^ (7 * k), (k : Int) + 1, 0) else (0, 0, 3)) else getF f (X + c % 128 * 2 ^ (7 * k)) (k + 1) r
def getI (zs : List Int) : Int × Int × Int := getF 10 0 0 zs
theorem get_none (X : Int) (k : Nat) (zs : List Int) : getF 0 X k zs = (0, 0, 3) := rfl
theorem get_nil (f : Nat) (X : Int) (k : Nat) : getF f X k [] = (0, 0, 3) := by cases f <;> rfl
theorem get_more {f : Nat} {X c : Int} {k : Nat} {r : List Int} (h : 128 ≤ c) : getF (f + 1) X k (c :: r) = getF f (X + c % 128 * 2 ^ (7 * k)) (k + 1) r := by
  have : ¬ c < 128 := by omega
  simp [getF, this]
theorem get_end {f : Nat} {X c : Int} {k : Nat} {r : List Int} (h : c < 128) (hg : goodB c k = true) : getF (f + 1) X k (c :: r) = (X + c * 2 ^ (7 * k), (k : Int) + 1, 0) := by
  simp [getF, h, hg]
theorem get_bad {f : Nat} {X c : Int} {k : Nat} {r : List Int} (h : c < 128) (hg : goodB c k = false) : getF (f + 1) X k (c :: r) = (0, 0, 3) := by
  simp [getF, h, hg]

theorem mask127 {c : Int} (h₀ : 0 ≤ c) (h₁ : c ≤ 255) : bits .and .u8 c 127 = c % 128 := bits_mask .u8 8 (by decide) wraps_u8 7 (by decide) c h₀ (by omega)
theorem or128 (x : Int) (h0 : 0 ≤ x) (h1 : x < 256) : bits .or .u8 x 128 = x % 128 + 128 := by
  rw [u8_or x 128 h0 h1 (by omega) (by omega)]
  obtain ⟨a, rfl⟩ := Int.eq_ofNat_of_zero_le h0
  have ha : a < 256 := by omega
  have e : (128 : Int).toNat = 128 := rfl
  rw [Int.toNat_natCast, e]
  have key : ∀ a : Fin 256, (a.val ||| 128) = a.val % 128 + 128 := by decide +kernel
  have := key ⟨a, ha⟩
  simp only at this
  rw [this]; omega
/-- A group laid above what has been read. -/
theorem or_group (X c : Int) (k : Nat) (h0 : 0 ≤ X) (h1 : X < 2 ^ (7 * k)) (c0 : 0 ≤ c) (hb : X + c * 2 ^ (7 * k) < 18446744073709551616) :
    bits .or .u64 X (IntKind.u64.wrap (c * 2 ^ (7 * k))) = X + c * 2 ^ (7 * k) := by
  have hp : (0 : Int) < 2 ^ (7 * k) := Int.pow_pos (by omega)
  have hc : 0 ≤ c * 2 ^ (7 * k) := Int.mul_nonneg c0 (by omega)
  have e1 : IntKind.u64.wrap (c * 2 ^ (7 * k)) = c * 2 ^ (7 * k) := by
    rw [IntKind.wrap_u64]; exact Int.emod_eq_of_lt hc (by omega)
  rw [e1, u64_or X _ h0 (by omega) hc (by omega)]
  obtain ⟨x, rfl⟩ := Int.eq_ofNat_of_zero_le h0
  obtain ⟨g, rfl⟩ := Int.eq_ofNat_of_zero_le c0
  have e2 : (2 : Int) ^ (7 * k) = ((2 ^ (7 * k) : Nat) : Int) := by simp
  rw [e2] at h1 ⊢
  rw [← Int.natCast_mul, Int.toNat_natCast, Int.toNat_natCast, Nat.or_comm, nat_join (7 * k) (g * 2 ^ (7 * k)) x (by simp) (by omega)]
  rw [Nat.add_comm]; simp

theorem put_length_mono (f : Nat) : ∀ a b : Int, a ≤ b → (putF f a).length ≤ (putF f b).length := by
  induction f with
  | zero => intro a b _; simp [putF]
  | succ f ih =>
    intro a b h
    by_cases ha : a < 128
    · rw [put_last ha]; have := put_length_pos (f + 1) b; simp; omega
    · rw [put_more (by omega), put_more (by omega)]
      have := ih (a / 128) (b / 128) (by omega)
      simp; omega
theorem put_length_lt (f : Nat) : ∀ x : Int, 0 ≤ x → (putF f x).length ≤ f → x < 128 ^ (putF f x).length := by
  induction f with
  | zero => intro x _ h; simp [putF] at h
  | succ f ih =>
    intro x h0 h
    by_cases hx : x < 128
    · rw [put_last hx]; simpa using hx
    · rw [put_more (by omega)] at h ⊢
      simp at h ⊢
      have := ih (x / 128) (by omega) h
      rw [Int.pow_succ]
      omega
theorem put_length_ge (f : Nat) : ∀ x : Int, 0 ≤ x → 2 ≤ (putF f x).length → 128 ^ ((putF f x).length - 1) ≤ x := by
  induction f with
  | zero => intro x _ h; simp [putF] at h
  | succ f ih =>
    intro x h0 h
    by_cases hx : x < 128
    · rw [put_last hx] at h; simp at h
    · rw [put_more (by omega)]
      simp
      by_cases h1 : (putF f (x / 128)).length = 1
      · rw [h1]; simp; omega
      · have hp := put_length_pos f (x / 128)
        have := ih (x / 128) (by omega) (by omega)
        have e : (putF f (x / 128)).length = ((putF f (x / 128)).length - 1) + 1 := by omega
        rw [e, Int.pow_succ]
        omega
theorem pow128 (n : Nat) : (128 : Int) ^ n = 2 ^ (7 * n) := by
  rw [Int.pow_mul]; rfl

/-- What is written is read back, whatever is behind it. -/
theorem get_putF (f : Nat) : ∀ (x X : Int) (k : Nat) (r : List Int), Fits f x → k + f = 9 → (0 < k → 1 ≤ x) → getF (f + 1) X k (putF f x ++ r) = (X + x * 2 ^ (7 * k), (k : Int) + (putF f x).length, 0) := by
  induction f with
  | zero =>
    intro x X k r h hk h1
    have h2 := h.2
    simp at h2
    have hx : x = 1 := by have := h1 (by omega); omega
    subst hx
    have : k = 9 := by omega
    subst this
    rfl
  | succ f ih =>
    intro x X k r h hk h1
    by_cases hx : x < 128
    · rw [put_last hx]
      have hg : goodB x k = true := by
        have a1 : ¬ (0 < (k : Int) ∧ x = 0) := fun h => by have := h1 (by omega); omega
        have a2 : (k : Int) < 9 := by omega
        unfold goodB
        rw [Bool.and_eq_true]
        refine ⟨?_, ?_⟩
        · have : (decide (0 < (k : Int)) && x == 0) = false := by
            rw [Bool.eq_false_iff]; intro h; rw [Bool.and_eq_true] at h; exact a1 ⟨of_decide_eq_true h.1, eq_of_beq h.2⟩
          rw [this]; rfl
        · rw [Bool.or_eq_true]; exact .inl (decide_eq_true a2)
      show getF (f + 1 + 1) X k (x :: r) = _
      rw [get_end hx hg]; rfl
    · rw [put_more (by omega)]
      show getF (f + 1 + 1) X k ((x % 128 + 128) :: (putF f (x / 128) ++ r)) = _
      rw [get_more (by omega), ih (x / 128) _ (k + 1) r (fits_step h) (by omega) (fun _ => by omega)]
      have e1 : (x % 128 + 128) % 128 = x % 128 := by omega
      have e2 : (2 : Int) ^ (7 * (k + 1)) = 128 * 2 ^ (7 * k) := by rw [Nat.mul_succ, Int.pow_add, Int.mul_comm]; rfl
      have e3 : X + x % 128 * 2 ^ (7 * k) + x / 128 * (128 * 2 ^ (7 * k)) = X + x * 2 ^ (7 * k) := by
        have e : x = x % 128 + 128 * (x / 128) := by omega
        conv => rhs; rw [e]
        rw [Int.add_mul, Int.mul_assoc, ← Int.mul_assoc (x / 128), Int.mul_comm (x / 128) 128, Int.mul_assoc, Int.add_assoc]
      rw [e1, e2, e3]
      simp
      omega
theorem get_put (v : Int) (r : List Int) (h0 : 0 ≤ v) (h1 : v ≤ 18446744073709551615) : getI (putI v ++ r) = (v, ((putI v).length : Int), 0) := by
  unfold getI putI
  rw [get_putF 9 v 0 0 r (fits_start v h0 h1) rfl (by omega)]
  simp

end Go.Proofs.Ytmiafadmcpmjgaa.Pl
