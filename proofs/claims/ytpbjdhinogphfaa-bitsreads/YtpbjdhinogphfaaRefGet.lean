/-
  What the document's own Get answers at every list of bytes: the same number, of as many bytes.
-/
import Derived.Test.YtpbjdhinogphfaaGet
namespace Go.Proofs.Ytpbjdhinogphfaa
open Go.RowKit
set_option linter.unusedVariables false

theorem ret2 {a b a' b' : Int} (h : a = a' ∧ b = b') : Ending.returned (.tuple #[.int .u64 a, .int .i64 b]) = .returned (.tuple #[.int .u64 a', .int .i64 b']) := by
  obtain ⟨rfl, rfl⟩ := h; rfl
theorem fst_of {g : Int × Int × Int} {a b c : Int} (h : g = (a, b, c)) : a = g.1 ∧ b = g.2.1 := by rw [h]; exact ⟨rfl, rfl⟩
/-- The tenth byte with more than one bit. -/
theorem step_ten {g : Int × Int × Int} {zs r : List Int} {X c : Int} (hd : g = Pl.getF (10 - 9) X 9 zs) (hz : zs = c :: r) (h0 : 0 ≤ c) (h1 : c ≤ 255) (hc : 1 < c % 128) : g = (0, 0, 3) := by
  have e : 10 - 9 = 0 + 1 := rfl
  rw [hd, hz, e]
  by_cases h : c < 128
  · refine Pl.get_bad h ?_
    have h2 : ¬ c = 1 := by omega
    simp [Pl.goodB, h2]
  · rw [Pl.get_more (by omega), Pl.get_none]
theorem good_of {c : Int} {k : Nat} (h0 : 0 ≤ c) (hc : c < 128) (hk : k < 10) (h9 : k = 9 → c % 128 ≤ 1) (hz : ¬ (c = 0 ∧ 0 < k)) : Pl.goodB c k = true := by
  have h1 : ¬ (0 < (k : Int) ∧ c = 0) := fun h => hz ⟨h.2, by omega⟩
  have h2 : (k : Int) < 9 ∨ c = 1 := by
    by_cases hk9 : k = 9
    · have := h9 hk9
      have : ¬ c = 0 := fun h => hz ⟨h, by omega⟩
      omega
    · omega
  unfold Pl.goodB
  rw [Bool.and_eq_true]
  refine ⟨?_, ?_⟩
  · have : (decide (0 < (k : Int)) && c == 0) = false := by
      rw [Bool.eq_false_iff]; intro h; rw [Bool.and_eq_true] at h; exact h1 ⟨of_decide_eq_true h.1, eq_of_beq h.2⟩
    rw [this]; rfl
  · rw [Bool.or_eq_true]
    rcases h2 with h | h
    · exact .inl (decide_eq_true h)
    · exact .inr (by rw [h]; rfl)
theorem bad_of {c : Int} {k : Nat} (hc : c = 0) (hk : 0 < k) : (!Pl.goodB c k) = true := by
  simp [Pl.goodB, hc]
  omega

theorem rget_any (a : Option Addr) (cap : Nat) (zs : List Int) (w : World) (hrow : Row w a zs) (hmax : zs.length ≤ 140737488351232) :
    Calls Try.prog 22 #[.slice a zs.length cap] w fun e w' =>
      e = .returned (.tuple #[.int .u64 (Pl.getI zs).1, .int .i64 (Pl.getI zs).2.1]) ∧ w' = w := by
  obtain ⟨hbytes, hcells⟩ := hrow
  rcases hcells with rfl | ⟨b, off, rfl, hc⟩
  · clear hbytes hmax
    go_enter Try.func22, Try.ntmps22
    go_wp2
    refine wp_loop_rounds 1 ?_
    rw [rounds_succ]
    go_wp2
    go_ret2
    exact ⟨rfl, rfl⟩
  · obtain ⟨len, hlen⟩ : ∃ len, len = zs.length := ⟨_, rfl⟩
    rw [← hlen] at hc hmax ⊢
    go_enter Try.func22, Try.ntmps22
    go_wp2
    go_loop [4, 5] (fun x i => ∃ (k : Nat) (X : Int), k ≤ len ∧ k ≤ 10 ∧ i = .int .i64 k ∧ x = .int .u64 X ∧ (k ≤ 9 → 0 ≤ X ∧ X < 2 ^ (7 * k)) ∧ Pl.getI zs = Pl.getF (10 - k) X k (zs.drop k)) (fun _ i => len - (intOf i).toNat)
    case atStart => exact ⟨0, 0, by omega, by omega, rfl, rfl, fun _ => by simp, rfl⟩
    case round =>
      obtain ⟨k, X, hk, hk10, rfl, rfl, hX, hd⟩ := hrel
      have HD : Hid (Pl.getI zs = Pl.getF (10 - k) X k (zs.drop k)) := hd
      clear hd
      by_cases hlt : k < len ∧ k < 10
      · obtain ⟨hlt, h10⟩ := hlt
        have hcell : w.cell? ⟨b, off + k, none⟩ = some (.int .u8 (zs.getD k 0)) := hc k hlt
        have hrk := at_byte hbytes k
        have hmask := Pl.mask127 hrk.1 hrk.2
        have HDR : Hid (zs.drop k = zs[k]?.getD 0 :: zs.drop (k + 1)) := drop_at zs k (by omega)
        have HF : Hid (10 - k = (9 - k) + 1) := by show _ = _; omega
        clear hlen hbytes hc
        by_cases h9 : k = 9 ∧ 1 < zs[k]?.getD 0 % 128
        · obtain ⟨rfl, hb1⟩ := h9
          have HB : Hid (Pl.getI zs = (0, 0, 3)) := step_ten HD.out HDR.out hrk.1 hrk.2 hb1
          clear HD HDR HF hX
          go_wp2
          go_ret2
          exact ⟨ret2 (fst_of HB.out), rfl⟩
        · have H9 : Hid (k = 9 → zs[k]?.getD 0 % 128 ≤ 1) := fun h => by omega
          have hq : (((k : Int) == 9) = true ∧ zs[k]?.getD 0 % 128 ≤ 1) ∨ ((k : Int) == 9) = false := by
            by_cases h : k = 9
            · left; exact ⟨by rw [h]; rfl, by omega⟩
            · right; exact beq_eq_false_iff_ne.2 (by omega)
          clear h9
          rcases hq with ⟨e9, hle⟩ | e9
          all_goals
            by_cases hc128 : zs[k]?.getD 0 < 128
            · by_cases hz : zs[k]?.getD 0 = 0 ∧ 0 < k
              · have HB : Hid (Pl.getI zs = (0, 0, 3)) := step_bad HD.out HDR.out HF.out hc128 (bad_of hz.1 hz.2)
                have hz1 : (zs[k]?.getD 0 == 0) = true := by simp [hz.1]
                have hz2 : (0 : Int) < (k : Int) := by omega
                clear HD HDR HF hX hz H9
                go_wp2
                go_ret2
                exact ⟨ret2 (fst_of HB.out), rfl⟩
              · have hg := good_of hrk.1 hc128 h10 H9.out hz
                have HB : Hid _ := step_good HD.out HDR.out HF.out hX h10 hrk.1 hc128 hg
                clear HD HDR HF hX hg H9
                by_cases hz0 : zs[k]?.getD 0 = 0
                · have hz1 : (zs[k]?.getD 0 == 0) = true := by simp [hz0]
                  have hz2 : ¬ (0 : Int) < (k : Int) := by omega
                  clear hz hz0
                  go_wp2
                  go_ret2
                  exact ⟨ret2 (fst_of HB.out), rfl⟩
                · have hz1 : (zs[k]?.getD 0 == 0) = false := by simp [hz0]
                  clear hz hz0
                  go_wp2
                  go_ret2
                  exact ⟨ret2 (fst_of HB.out), rfl⟩
            · have R := step_more HD.out HDR.out HF.out hX h10 hrk.1 hrk.2 (by omega)
              have R1 : Hid _ := R
              clear HD HDR HF hX R H9
              go_wp2
              go_round
              case rel => exact ⟨k + 1, _, by omega, by omega, by go_num, rfl, R1.out.1, R1.out.2⟩
              case measure => simp [intOf]; omega
      · have HO : Hid (Pl.getI zs = (0, 0, 3)) := step_out HD.out hlen hlt
        clear HD hX hc hbytes hlen
        by_cases h10 : k < 10
        · have hkl : k = len := by omega
          subst hkl
          clear hlt
          go_wp2
          go_ret2
          exact ⟨ret2 (fst_of HO.out), rfl⟩
        · have hkl : k = 10 := by omega
          subst hkl
          clear hlt
          go_wp2
          all_goals
            go_ret2
            exact ⟨ret2 (fst_of HO.out), rfl⟩
end Go.Proofs.Ytpbjdhinogphfaa
