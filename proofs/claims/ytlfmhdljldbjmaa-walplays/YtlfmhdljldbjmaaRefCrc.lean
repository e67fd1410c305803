/-
  What the document's own sums (hourglassref1: Crc, w32, at32) answer.
-/
import Derived.Test.YtlfmhdljldbjmaaBase
import Derived.Test.YtlfmhdljldbjmaaMine
namespace Go.Proofs.Ytlfmhdljldbjmaa
open Go.RowKit
set_option linter.unusedVariables false

theorem low_bit (d : Nat) (hd : d < 4294967296) : bits BinOp.and IntKind.u32 (d : Int) 1 = ((d % 2 : Nat) : Int) := by
  have := u32_and_nat d 1 hd (by decide)
  rw [nat_mask1] at this
  exact this
theorem step_odd (d : Nat) (hd : d < 4294967296) (h : d % 2 = 1) : bits BinOp.xor IntKind.u32 ((d : Int) / 2) 2197175160 = ((Crc.step1 d : Nat) : Int) := by
  have e2 : (d : Int) / 2 = ((d / 2 : Nat) : Int) := by omega
  rw [e2]
  unfold Crc.step1
  rw [if_pos h]
  exact u32_xor_nat _ _ (by omega) (by decide)
theorem step_even (d : Nat) (h : ¬ d % 2 = 1) : (d : Int) / 2 = ((Crc.step1 d : Nat) : Int) := by
  unfold Crc.step1
  rw [if_neg h]; omega

theorem rcrc_any (a : Option Addr) (cap : Nat) (zs : List Int) (w : World) (hrow : Row w a zs) (hmax : zs.length ≤ 140737488351232) :
    Calls Try.prog 63 #[.slice a zs.length cap] w fun e w' => e = .returned (.int .u32 (ofN zs : Nat)) ∧ w' = w := by
  obtain ⟨hbytes, hcells⟩ := hrow
  obtain ⟨len, hlen⟩ : ∃ len, len = zs.length := ⟨_, rfl⟩
  rw [← hlen] at hmax ⊢
  have HL : Hid (len = zs.length) := hlen
  clear hlen
  go_enter Try.func63, Try.ntmps63
  go_wp2
  go_loop [3, 4] (fun x i => ∃ (k d : Nat), k ≤ len ∧ i = .int .i64 k ∧ x = .int .u32 d ∧ d < 4294967296 ∧ Crc.run d (zs.drop k) = Crc.run (notN 0) zs) (fun _ i => len - (intOf i).toNat)
  case atStart => exact ⟨0, 4294967295, by omega, rfl, rfl, by decide, rfl⟩
  case round =>
    obtain ⟨k, d, hk, rfl, rfl, hd, he⟩ := hrel
    have HE : Hid (Crc.run d (zs.drop k) = Crc.run (notN 0) zs) := he
    clear he
    by_cases hlt : k < len
    · rcases hcells with rfl | ⟨b, off, rfl, hc⟩
      · exact absurd HL.out (by simp; omega)
      have hcell : w.cell? ⟨b, off + k, none⟩ = some (.int .u8 (zs.getD k 0)) := hc k (by have := HL.out; omega)
      have hrk := at_byte hbytes k
      have HDR : Hid (zs.drop k = zs[k]?.getD 0 :: zs.drop (k + 1)) := drop_at zs k (by have := HL.out; omega)
      clear hbytes hc
      have HM : zs[k]?.getD 0 % 4294967296 = zs[k]?.getD 0 := by omega
      have HX : bits BinOp.xor IntKind.u32 (d : Int) (zs[k]?.getD 0) = ((d ^^^ (zs[k]?.getD 0).toNat : Nat) : Int) := by
        have := u32_xor d (zs[k]?.getD 0) (by omega) (by omega) hrk.1 (by omega)
        simpa using this
      have hx : d ^^^ (zs[k]?.getD 0).toNat < 4294967296 := Nat.xor_lt_two_pow (n := 32) hd (by omega)
      obtain ⟨c, hc⟩ : ∃ c, c = d ^^^ (zs[k]?.getD 0).toNat := ⟨_, rfl⟩
      rw [← hc] at HX hx
      have HC : Hid (c = d ^^^ (zs[k]?.getD 0).toNat) := hc
      clear hc
      go_wp2
      go_loop [3, 5] (fun x i => ∃ (j q : Nat), j ≤ 8 ∧ i = .int .i64 j ∧ x = .int .u32 q ∧ q < 4294967296 ∧ Crc.steps (8 - j) q = Crc.step8 c) (fun _ i => 8 - (intOf i).toNat)
      case atStart => exact ⟨0, c, by omega, rfl, rfl, hx, rfl⟩
      case round =>
        obtain ⟨j, q, hj, rfl, rfl, hq, hqe⟩ := hrel
        have HQ : Hid (Crc.steps (8 - j) q = Crc.step8 c) := hqe
        clear hqe HX
        by_cases hlt8 : j < 8
        · have HS : Hid (Crc.steps (8 - (j + 1)) (Crc.step1 q) = Crc.step8 c) := by
            have h := HQ.out
            have e8 : 8 - j = (8 - (j + 1)) + 1 := by omega
            rw [e8] at h; exact h
          have hlb := low_bit q hq
          by_cases ho : q % 2 = 1
          · have hlb' : (((q % 2 : Nat) : Int) == 1) = true := by simp; omega
            have hs := step_odd q hq ho
            go_wp2
            go_round
            case rel => exact ⟨j + 1, Crc.step1 q, by omega, by go_num, rfl, Crc.step1_lt q hq, HS.out⟩
            case measure => simp [intOf]; omega
          · have hlb' : (((q % 2 : Nat) : Int) == 1) = false := by simp; omega
            have hs := step_even q ho
            go_wp2
            go_round
            case rel => exact ⟨j + 1, Crc.step1 q, by omega, by go_num, rfl, Crc.step1_lt q hq, HS.out⟩
            case measure => simp [intOf]; omega
        · have HD : Hid (q = Crc.feed d (zs[k]?.getD 0)) := by
            have h := HQ.out
            have e8 : 8 - j = 0 := by omega
            rw [e8, HC.out] at h
            exact h
          go_wp2
          go_round
          case rel => exact ⟨k + 1, q, by omega, by go_num, rfl, hq, by rw [HD.out, ← HE.out, HDR.out]; rfl⟩
          case measure => simp [intOf]; omega
    · clear hcells
      have HD := bits_not d hd
      have HA : Hid (notN d = ofN zs) := by
        have h := HE.out
        rw [List.drop_eq_nil_of_le (by have := HL.out; omega)] at h
        show _ = notN _
        rw [← h]; rfl
      go_wp2
      go_ret
      exact ⟨by rw [← HA.out]; rfl, rfl⟩
end Go.Proofs.Ytlfmhdljldbjmaa
