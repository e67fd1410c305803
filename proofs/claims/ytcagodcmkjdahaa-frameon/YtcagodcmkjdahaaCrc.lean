/-
  What divide, Add and Of of package crc answer, at every list of bytes.
-/
import Derived.Test.YtcagodcmkjdahaaRowBase
import Derived.Test.YtcagodcmkjdahaaCrcPlain
namespace Go.Proofs.Ytcagodcmkjdahaa
open Go.RowKit
set_option linter.unusedVariables false

theorem step_bits (d : Nat) (hd : d < 4294967296) : bits BinOp.xor IntKind.u32 ((d : Int) / 2) (bits BinOp.and IntKind.u32 2197175160 (-bits BinOp.and IntKind.u32 (d : Int) 1 % 4294967296)) = ((Crc.step1 d : Nat) : Int) := by
  have e1 : bits BinOp.and IntKind.u32 (d : Int) 1 = ((d % 2 : Nat) : Int) := by
    have := u32_and_nat d 1 hd (by decide)
    rw [nat_mask1] at this
    exact this
  have e2 : (d : Int) / 2 = ((d / 2 : Nat) : Int) := by omega
  rw [e1, e2]
  unfold Crc.step1
  by_cases h : d % 2 = 1
  · rw [if_pos h, h]
    have e3 : -((1 : Nat) : Int) % 4294967296 = ((4294967295 : Nat) : Int) := by decide
    rw [e3]
    have e4 : bits BinOp.and IntKind.u32 2197175160 ((4294967295 : Nat) : Int) = ((Crc.poly : Nat) : Int) := by decide +kernel
    rw [e4]
    exact u32_xor_nat _ _ (by omega) (by decide)
  · have h0 : d % 2 = 0 := by omega
    rw [if_neg h, h0]
    have e4 : bits BinOp.and IntKind.u32 2197175160 (-((0 : Nat) : Int) % 4294967296) = ((0 : Nat) : Int) := by decide +kernel
    rw [e4, u32_xor_nat _ _ (by omega) (by decide), Nat.xor_zero]

theorem divide_any (c : Nat) (w : World) (hc : c < 4294967296) :
    Calls Try.prog 22 #[.int .u32 c] w fun e w' => e = .returned (.int .u32 (Crc.step8 c : Nat)) ∧ w' = w := by
  go_enter Try.func22, Try.ntmps22
  go_wp2
  go_loop [0, 4] (fun x i => ∃ (k d : Nat), k ≤ 8 ∧ i = .int .i64 k ∧ x = .int .u32 d ∧ d < 4294967296 ∧ Crc.steps (8 - k) d = Crc.step8 c) (fun _ i => 8 - (intOf i).toNat)
  case atStart => exact ⟨0, c, by omega, rfl, rfl, hc, rfl⟩
  case round =>
    obtain ⟨k, d, hk, rfl, rfl, hd, he⟩ := hrel
    have HE : Hid (Crc.steps (8 - k) d = Crc.step8 c) := he
    clear he
    by_cases hlt : k < 8
    · have HS := step_bits d hd
      go_wp2
      go_round
      case rel => exact ⟨k + 1, Crc.step1 d, by omega, by go_num, rfl, Crc.step1_lt d hd, by rw [← HE.out]; have : 8 - k = (8 - (k + 1)) + 1 := by omega
                                                                                             rw [this]; rfl⟩
      case measure => simp [intOf]; omega
    · have HD : Hid (d = Crc.step8 c) := by have h := HE.out
                                            have : 8 - k = 0 := by omega
                                            rw [this] at h
                                            exact h
      clear HE
      go_wp2
      go_ret
      exact ⟨by rw [← HD.out]; rfl, rfl⟩

/-- All bits turned. -/
def notN (s : Nat) : Nat := 4294967295 - s
theorem notN_lt (s : Nat) : notN s < 4294967296 := by unfold notN; omega
theorem notN_notN (s : Nat) (h : s < 4294967296) : notN (notN s) = s := by unfold notN; omega
theorem notN_inj {a b : Nat} (ha : a < 4294967296) (hb : b < 4294967296) (h : notN a = notN b) : a = b := by unfold notN at h; omega
theorem nat_not (s : Nat) (h : s < 4294967296) : 4294967295 ^^^ s = 4294967295 - s := by
  have h1 : (BitVec.allOnes 32 ^^^ BitVec.ofNat 32 s).toNat = (~~~ BitVec.ofNat 32 s).toNat := by rw [BitVec.allOnes_xor]
  rw [BitVec.toNat_xor, BitVec.toNat_not, BitVec.toNat_allOnes, BitVec.toNat_ofNat, Nat.mod_eq_of_lt h] at h1
  exact h1
theorem bits_not (s : Nat) (h : s < 4294967296) : bits BinOp.xor IntKind.u32 IntKind.u32.max (s : Int) = ((notN s : Nat) : Int) := by
  have e : IntKind.u32.max = ((4294967295 : Nat) : Int) := by decide
  rw [e, u32_xor_nat _ _ (by decide) h, nat_not s h]
  rfl
theorem bits_not_if (s : Nat) (h : s < 4294967296) : bits BinOp.xor IntKind.u32 (if IntKind.u32.signed = true then -1 else IntKind.u32.max) (s : Int) = ((notN s : Nat) : Int) := by
  rw [if_neg (by decide)]; exact bits_not s h
/-- What Add answers: the state all turned, the bytes fed, turned again. -/
def addN (s : Nat) (zs : List Int) : Nat := notN (Crc.run (notN s) zs)
theorem add_lt (s : Nat) (zs : List Int) : addN s zs < 4294967296 := notN_lt _

theorem add_any (s : Nat) (a : Option Addr) (cap : Nat) (zs : List Int) (w : World) (hs : s < 4294967296) (hrow : Row w a zs) (hmax : zs.length ≤ 140737488351232) :
    Calls Try.prog 19 #[.int .u32 s, .slice a zs.length cap] w fun e w' => e = .returned (.int .u32 (addN s zs : Nat)) ∧ w' = w := by
  obtain ⟨hbytes, hcells⟩ := hrow
  obtain ⟨len, hlen⟩ : ∃ len, len = zs.length := ⟨_, rfl⟩
  rw [← hlen] at hmax ⊢
  have HL : Hid (len = zs.length) := hlen
  clear hlen
  have HN := bits_not s hs
  go_enter Try.func19, Try.ntmps19
  go_wp2
  go_loop [5, 12] (fun x i => ∃ (k d : Nat), k ≤ len ∧ i = .int .i64 k ∧ x = .int .u32 d ∧ d < 4294967296 ∧ Crc.run d (zs.drop k) = Crc.run (notN s) zs) (fun _ i => len - (intOf i).toNat)
  case atStart => exact ⟨0, notN s, by omega, rfl, rfl, notN_lt s, rfl⟩
  case round =>
    obtain ⟨k, d, hk, rfl, rfl, hd, he⟩ := hrel
    have HE : Hid (Crc.run d (zs.drop k) = Crc.run (notN s) zs) := he
    clear he
    by_cases hlt : k < len
    · rcases hcells with rfl | ⟨b, off, rfl, hc⟩
      · exact absurd HL.out (by simp; omega)
      have hcell : w.cell? ⟨b, off + k, none⟩ = some (.int .u8 (zs.getD k 0)) := hc k (by have := HL.out; omega)
      have hrk := at_byte hbytes k
      have HDR : Hid (zs.drop k = zs[k]?.getD 0 :: zs.drop (k + 1)) := drop_at zs k (by have := HL.out; omega)
      clear hbytes hc
      have HM : zs[k]?.getD 0 % 4294967296 = zs[k]?.getD 0 := by omega
      have HX : bits BinOp.xor IntKind.u32 (d : Int) (zs[k]?.getD 0) = ((d ^^^ (zs[k]?.getD 0).toNat : Nat) : Int) := by
        have := u32_xor d (zs[k]?.getD 0) (by omega) (by omega) hrk.1 (by omega)
        simpa using this
      have hx : d ^^^ (zs[k]?.getD 0).toNat < 4294967296 := Nat.xor_lt_two_pow (n := 32) hd (by omega)
      go_wp2_with (go_at_call 22; refine (divide_any _ _ hx).mono ?_; rintro e w1 ⟨rfl, hw⟩; obtain rfl := hw.symm; clear hw)
      go_round
      case rel => exact ⟨k + 1, Crc.feed d (zs[k]?.getD 0), by omega, by go_num, rfl, Crc.feed_lt d _ hd hrk, by rw [← HE.out, HDR.out]; rfl⟩
      case measure => simp [intOf]; omega
    · clear hcells
      have HD := bits_not d hd
      have HA : Hid (notN d = addN s zs) := by
        have h := HE.out
        rw [List.drop_eq_nil_of_le (by have := HL.out; omega)] at h
        show _ = notN _
        rw [← h]; rfl
      go_wp2
      go_ret
      exact ⟨by rw [← HA.out]; rfl, rfl⟩
/-- What Of answers. -/
def ofN (zs : List Int) : Nat := addN 0 zs
theorem of_lt (zs : List Int) : ofN zs < 4294967296 := notN_lt _
theorem of_any (a : Option Addr) (cap : Nat) (zs : List Int) (w : World) (hrow : Row w a zs) (hmax : zs.length ≤ 140737488351232) :
    Calls Try.prog 20 #[.slice a zs.length cap] w fun e w' => e = .returned (.int .u32 (ofN zs : Nat)) ∧ w' = w := by
  obtain ⟨len, hlen⟩ : ∃ len, len = zs.length := ⟨_, rfl⟩
  have HA := add_any 0 a cap zs w (by decide) hrow hmax
  rw [← hlen] at hmax HA ⊢
  have HB : Hid (Calls Try.prog 19 #[.int .u32 0, .slice a len cap] w fun e w' => e = .returned (.int .u32 (ofN zs : Nat)) ∧ w' = w) := HA
  clear hlen HA
  go_enter Try.func20, Try.ntmps20
  go_wp2_with (go_at_call 19; refine HB.out.mono ?_; rintro e w1 ⟨rfl, hw⟩; obtain rfl := hw.symm; clear hw)
  go_ret
  exact ⟨rfl, rfl⟩
end Go.Proofs.Ytcagodcmkjdahaa
