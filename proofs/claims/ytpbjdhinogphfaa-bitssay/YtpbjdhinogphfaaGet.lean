/-
  What Get answers at every list of bytes.
-/
import Derived.Test.YtpbjdhinogphfaaLeaf
namespace Go.Proofs.Ytpbjdhinogphfaa
open Go.RowKit
set_option linter.unusedVariables false

/-- A slice of bytes that lies somewhere: its bytes, and where they are. -/
structure Row (w : World) (a : Option Addr) (zs : List Int) : Prop where
  bytes : ∀ z ∈ zs, 0 ≤ z ∧ z ≤ 255
  cells : zs = [] ∨ ∃ b off, a = some ⟨b, off, none⟩ ∧ ∀ j, j < zs.length → w.cell? ⟨b, off + j, none⟩ = some (.int .u8 (zs.getD j 0))

theorem drop_at (zs : List Int) (k : Nat) (h : k < zs.length) : zs.drop k = zs[k]?.getD 0 :: zs.drop (k + 1) := by
  rw [List.drop_eq_getElem_cons h]; simp [h]
theorem at_byte {zs : List Int} (h : ∀ z ∈ zs, 0 ≤ z ∧ z ≤ 255) (k : Nat) : 0 ≤ zs[k]?.getD 0 ∧ zs[k]?.getD 0 ≤ 255 := by
  by_cases hk : k < zs.length
  · have := h zs[k] (List.getElem_mem hk); simpa [hk] using this
  · have : zs[k]? = none := by simp; omega
    simp [this]
theorem pow7 (k : Nat) (h : k ≤ 8) : (2 : Int) ^ (7 * k) ≤ 72057594037927936 := by
  have : 2 ^ (7 * k) ≤ 2 ^ 56 := Nat.pow_le_pow_right (by omega) (by omega)
  have e : ((2 ^ (7 * k) : Nat) : Int) = (2 : Int) ^ (7 * k) := by simp
  have : ((2 ^ (7 * k) : Nat) : Int) ≤ ((2 ^ 56 : Nat) : Int) := by exact_mod_cast this
  rw [e] at this
  exact this
theorem pow_succ7 (k : Nat) : (2 : Int) ^ (7 * (k + 1)) = 128 * 2 ^ (7 * k) := by
  rw [Nat.mul_succ, Int.pow_add, Int.mul_comm]; rfl
/-- A group below 128 laid above what has been read stays below the next group. -/
theorem group_lt (X c : Int) (k : Nat) (h1 : X < 2 ^ (7 * k)) (c1 : c ≤ 127) : X + c * 2 ^ (7 * k) < 2 ^ (7 * (k + 1)) := by
  have hp : (0 : Int) < 2 ^ (7 * k) := Int.pow_pos (by omega)
  have : c * 2 ^ (7 * k) ≤ 127 * 2 ^ (7 * k) := Int.mul_le_mul_of_nonneg_right c1 (by omega)
  rw [pow_succ7]; omega
theorem ret3 {a b c a' b' c' : Int} (h : (a, b, c) = (a', b', c')) : Ending.returned (.tuple #[.int .u64 a, .int .i64 b, .int .i64 c]) = .returned (.tuple #[.int .u64 a', .int .i64 b', .int .i64 c']) := by
  simp only [Prod.mk.injEq] at h
  obtain ⟨rfl, rfl, rfl⟩ := h; rfl

theorem step_bad {g : Int × Int × Int} {zs r : List Int} {k : Nat} {X c : Int} (hd : g = Pl.getF (10 - k) X k zs) (hz : zs = c :: r) (hf : 10 - k = 9 - k + 1) (hc : c < 128) (hb : (!Pl.goodB c k) = true) : g = (0, 0, 3) := by
  rw [hd, hz, hf, Pl.get_bad hc (by simpa using hb)]
theorem step_good {g : Int × Int × Int} {zs r : List Int} {k : Nat} {X c : Int} (hd : g = Pl.getF (10 - k) X k zs) (hz : zs = c :: r) (hf : 10 - k = 9 - k + 1) (hX : k ≤ 9 → 0 ≤ X ∧ X < 2 ^ (7 * k)) (h10 : k < 10) (c0 : 0 ≤ c) (hc : c < 128) (hb : Pl.goodB c k = true) :
    g = (bits .or .u64 X (IntKind.u64.wrap (c % 128 * 2 ^ (7 * k))), (k : Int) + 1, 0) := by
  rw [hd, hz, hf, Pl.get_end hc hb]
  obtain ⟨x0, x1⟩ := hX (by omega)
  have e : c % 128 = c := by omega
  have hlt : X + c * 2 ^ (7 * k) < 18446744073709551616 := by
    by_cases h9 : k = 9
    · subst h9
      have : c = 1 := by unfold Pl.goodB at hb; simp at hb; exact hb.2
      subst this
      have e9 : (2 : Int) ^ (7 * 9) = 9223372036854775808 := by decide
      rw [e9] at x1 ⊢; omega
    · have h1 := group_lt X c k x1 (by omega)
      have h2 := pow7 k (by omega)
      rw [pow_succ7] at h1
      omega
  rw [e, Pl.or_group X c k x0 x1 c0 hlt]
theorem step_more {g : Int × Int × Int} {zs r : List Int} {k : Nat} {X c : Int} (hd : g = Pl.getF (10 - k) X k zs) (hz : zs = c :: r) (hf : 10 - k = 9 - k + 1) (hX : k ≤ 9 → 0 ≤ X ∧ X < 2 ^ (7 * k)) (h10 : k < 10) (c0 : 0 ≤ c) (c1 : c ≤ 255) (hc : 128 ≤ c) :
    (k + 1 ≤ 9 → 0 ≤ bits .or .u64 X (IntKind.u64.wrap (c % 128 * 2 ^ (7 * k))) ∧ bits .or .u64 X (IntKind.u64.wrap (c % 128 * 2 ^ (7 * k))) < 2 ^ (7 * (k + 1))) ∧
    g = Pl.getF (10 - (k + 1)) (bits .or .u64 X (IntKind.u64.wrap (c % 128 * 2 ^ (7 * k)))) (k + 1) r := by
  obtain ⟨x0, x1⟩ := hX (by omega)
  have e : 10 - (k + 1) = 9 - k := by omega
  rw [hd, hz, hf, Pl.get_more hc, e]
  by_cases h9 : k = 9
  · subst h9; exact ⟨fun h => by omega, rfl⟩
  · have h1 := group_lt X (c % 128) k x1 (by omega)
    have h2 := pow7 k (by omega)
    have hp : (0 : Int) < 2 ^ (7 * k) := Int.pow_pos (by omega)
    have hm : 0 ≤ c % 128 * 2 ^ (7 * k) := Int.mul_nonneg (by omega) (by omega)
    have h3 := h1
    rw [pow_succ7] at h3
    rw [Pl.or_group X (c % 128) k x0 x1 (by omega) (by omega)]
    exact ⟨fun _ => ⟨by omega, h1⟩, rfl⟩
theorem step_out {g : Int × Int × Int} {zs : List Int} {k len : Nat} {X : Int} (hd : g = Pl.getF (10 - k) X k (zs.drop k)) (hl : len = zs.length) (h : ¬ (k < len ∧ k < 10)) : g = (0, 0, 3) := by
  rw [hd]
  by_cases h10 : k < 10
  · rw [List.drop_eq_nil_of_le (by omega), Pl.get_nil]
  · have : 10 - k = 0 := by omega
    rw [this, Pl.get_none]

theorem get_any (a : Option Addr) (cap : Nat) (zs : List Int) (w : World) (hrow : Row w a zs) (hmax : zs.length ≤ 140737488351232) :
    Calls Try.prog 10 #[.slice a zs.length cap] w fun e w' =>
      e = .returned (.tuple #[.int .u64 (Pl.getI zs).1, .int .i64 (Pl.getI zs).2.1, .int .i64 (Pl.getI zs).2.2]) ∧ w' = w := by
  obtain ⟨hbytes, hcells⟩ := hrow
  rcases hcells with rfl | ⟨b, off, rfl, hc⟩
  · clear hbytes hmax
    go_enter Try.func10, Try.ntmps10
    go_wp2
    refine wp_loop_rounds 1 ?_
    rw [rounds_succ]
    go_wp2
    go_ret3
    exact ⟨rfl, rfl⟩
  · obtain ⟨len, hlen⟩ : ∃ len, len = zs.length := ⟨_, rfl⟩
    rw [← hlen] at hc hmax ⊢
    go_enter Try.func10, Try.ntmps10
    go_wp2
    go_loop [2, 5] (fun x i => ∃ (k : Nat) (X : Int), k ≤ len ∧ k ≤ 10 ∧ i = .int .i64 k ∧ x = .int .u64 X ∧ (k ≤ 9 → 0 ≤ X ∧ X < 2 ^ (7 * k)) ∧ Pl.getI zs = Pl.getF (10 - k) X k (zs.drop k)) (fun _ i => len - (intOf i).toNat)
    case atStart => exact ⟨0, 0, by omega, by omega, rfl, rfl, fun _ => by simp, rfl⟩
    case round =>
      obtain ⟨k, X, hk, hk10, rfl, rfl, hX, hd⟩ := hrel
      have HD : Hid (Pl.getI zs = Pl.getF (10 - k) X k (zs.drop k)) := hd
      clear hd
      by_cases hlt : k < len ∧ k < 10
      · obtain ⟨hlt, h10⟩ := hlt
        have hcell : w.cell? ⟨b, off + k, none⟩ = some (.int .u8 (zs.getD k 0)) := hc k hlt
        have hrk := at_byte hbytes k
        have hmask := Pl.mask127 hrk.1 hrk.2
        have HDR : Hid (zs.drop k = zs[k]?.getD 0 :: zs.drop (k + 1)) := drop_at zs k (by omega)
        have HF : Hid (10 - k = (9 - k) + 1) := by show _ = _; omega
        have HL : Hid (len = zs.length) := hlen
        clear hlen hbytes hc
        go_wp2_with (go_at_call 23; refine (good_any _ _ _).mono ?_; rintro e w' ⟨rfl, rfl⟩)
        · have hb : (!Pl.goodB (zs[k]?.getD 0) k) = true := by assumption
          have hlt' : zs[k]?.getD 0 < 128 := by assumption
          go_ret3
          exact ⟨ret3 (step_bad HD.out HDR.out HF.out hlt' hb).symm, rfl⟩
        · have hb : (!Pl.goodB (zs[k]?.getD 0) k) = false := by assumption
          have hlt' : zs[k]?.getD 0 < 128 := by assumption
          go_ret3
          exact ⟨ret3 (step_good HD.out HDR.out HF.out hX h10 hrk.1 hlt' (by simpa using hb)).symm, rfl⟩
        · have hge : 128 ≤ zs[k]?.getD 0 := by assumption
          have R := step_more HD.out HDR.out HF.out hX h10 hrk.1 hrk.2 hge
          go_round
          case rel => exact ⟨k + 1, _, by omega, by omega, by go_num, rfl, R.1, R.2⟩
          case measure => simp [intOf]; omega
      · have HO : Hid (Pl.getI zs = (0, 0, 3)) := step_out HD.out hlen hlt
        clear HD hX hc hbytes hlen
        by_cases h10 : k < 10
        · have hkl : k = len := by omega
          subst hkl
          clear hlt
          go_wp2
          go_ret3
          exact ⟨ret3 HO.out.symm, rfl⟩
        · have hkl : k = 10 := by omega
          subst hkl
          clear hlt
          go_wp2
          all_goals
            go_ret3
            exact ⟨ret3 HO.out.symm, rfl⟩
end Go.Proofs.Ytpbjdhinogphfaa
