/-
  What package key answers: Text, Sum, Within, Of.
-/
import Derived.Test.YtfgbgcaackhcmaaKeyC1
namespace Go.Proofs.Ytfgbgcaackhcmaa
open Go.RowKit
set_option linter.unusedVariables false

set_option maxHeartbeats 1000000 in
theorem ktext_any (k : List Int) (hk : Ky k) (w : World) :
    Calls Try.prog 12 #[kv k] w fun e w' => e = .returned (.string (strOfNums (textK k))) ∧ Below w.heap.size w w' := by
  have HK : Hid (Ky k) := hk
  have CG : Hid (∀ u, Calls Try.prog 13 #[kv k] u fun e w' => e = .returned (.bool (goodK k)) ∧ Below u.heap.size u w') := fun u => kgood_any k hk u
  have CT : Hid (∀ u, Calls Try.prog 28 #[kv k] u fun e w' => e = .returned (.int .i64 ((txK k).length : Int)) ∧ Below u.heap.size u w') := fun u => ktlen_any k hk u
  have HA : Hid (KeyAt (w.alloc (.cells (kcs k) 24)) w.heap.size 0 k) := KeyAt.made w 24 k hk
  have HB : Hid (Below w.heap.size w (w.alloc (.cells (kcs k) 24))) := (Below.refl _ _).alloc (Nat.le_refl _) _
  clear hk
  by_cases hg : goodK k = true
  · have HR : Hid (textK k = txK k) := if_pos hg
    rw [hg] at CG
    clear hg
    have HS : Hid (∀ u, KeyAt u w.heap.size 0 k → (convert 45 9 (.slice (some ⟨w.heap.size, 0, none⟩) (txK k).length 16)).run Try.prog u = .ok (.string (strOfNums (txK k))) u) := fun u hu => str_at rfl (hu.tx HK.out) 16
    have hT16 : (txK k).length ≤ 16 := by rw [← HK.out.len]; exact txK_le k
    obtain ⟨T, hT⟩ : ∃ T, T = (txK k).length := ⟨_, rfl⟩
    rw [← hT] at CT HS hT16
    clear hT
    have h0 : (0 : Int) ≤ (T : Int) := by omega
    have h16 : (T : Int) ≤ 16 := by omega
    go_enter Try.func12, Try.ntmps12
    go_wp2_with (first | (have hgo := CG.out; clear hgo; refine wpList_load_key (by rfl) _ (by rfl) w.heap.size 0 (by rfl) k HK.out HA.out ?_) | (go_at_call 13; refine (CG.out _).mono ?_; rintro e w1 ⟨rfl, hb1⟩; have HA1 : Hid (KeyAt w1 w.heap.size 0 k) := HA.out.past hb1; have HB1 : Hid (Below w.heap.size w w1) := HB.out.trans (hb1.mono HB.out.size); clear hb1 CG) | (have hgo := HA1.out; clear hgo; refine wpList_load_key (by rfl) _ (by rfl) w.heap.size 0 (by rfl) k HK.out HA1.out ?_) | (go_at_call 28; refine (CT.out _).mono ?_; rintro e w2 ⟨rfl, hb2⟩; have HB2 : Hid (Below w.heap.size w w2) := HB1.out.trans (hb2.mono HB1.out.size); have hs := HS.out _ (HA1.out.past hb2); clear hb2))
    go_ret
    exact ⟨by rw [HR.out]; rfl, HB2.out⟩
  · have HR : Hid (textK k = []) := if_neg hg
    rw [show goodK k = false by simpa using hg] at CG
    clear hg
    go_enter Try.func12, Try.ntmps12
    go_wp2_with (first | (refine wpList_load_key (by rfl) _ (by rfl) w.heap.size 0 (by rfl) k HK.out HA.out ?_) | (go_at_call 13; refine (CG.out _).mono ?_; rintro e w1 ⟨rfl, hb1⟩))
    go_ret
    exact ⟨by rw [HR.out]; rfl, HB.out.trans (hb1.mono HB.out.size)⟩
set_option maxHeartbeats 1000000 in
theorem kwithin_any (k a b : List Int) (hk : Ky k) (ha : Ky a) (hb : Ky b) (w : World) :
    Calls Try.prog 14 #[kv k, kv a, kv b] w fun e w' => e = .returned (.bool (withinK k a b)) ∧ Below w.heap.size w w' := by
  have KK : Hid (Ky k) := hk
  have KA : Hid (Ky a) := ha
  have KB : Hid (Ky b) := hb
  have C1 : Hid (∀ u, Calls Try.prog 18 #[kv k, kv a] u fun e w' => e = .returned (.int .i64 (lexC k a)) ∧ Below u.heap.size u w') := fun u => kcmp_any k a hk ha u
  have C2 : Hid (∀ u, Calls Try.prog 18 #[kv k, kv b] u fun e w' => e = .returned (.int .i64 (lexC k b)) ∧ Below u.heap.size u w') := fun u => kcmp_any k b hk hb u
  have H0 : Hid (Three3 w (((w.alloc (.cells (kcs k) 24)).alloc (.cells (kcs a) 24)).alloc (.cells (kcs b) 24)) k a b) := Three3.made w 24 hk ha hb
  have HQ : Hid (∀ u, (Op.equalIn 10000 24 (kv b) (kv zeroK)).run Try.prog u = .ok (decide (b = zeroK)) u) := fun u => eq_key u b zeroK hb zeroK_ky
  clear hk ha hb
  obtain ⟨X, hX⟩ : ∃ X, X = lexC k a := ⟨_, rfl⟩
  obtain ⟨Y, hY⟩ : ∃ Y, Y = lexC k b := ⟨_, rfl⟩
  have HR : Hid (withinK k a b = (decide (0 ≤ X) && (decide (b = zeroK) || decide (Y < 0)))) := by rw [hX, hY]; rfl
  rw [← hX] at C1
  rw [← hY] at C2
  clear hX hY
  have hq := HQ.out
  rw [show (kv zeroK) = .agg #[.int .u8 0, .int .u8 0, .int .u8 0, .int .u8 0, .int .u8 0, .int .u8 0, .int .u8 0, .int .u8 0, .int .u8 0, .int .u8 0, .int .u8 0, .int .u8 0, .int .u8 0, .int .u8 0, .int .u8 0, .int .u8 0] from rfl] at hq
  clear HQ
  by_cases h1 : 0 ≤ X
  · have d1 : decide (0 ≤ X) = true := decide_eq_true h1
    by_cases h2 : b = zeroK
    · rw [decide_eq_true h2] at HR hq
      clear h2
      go_enter Try.func14, Try.ntmps14
      go_wp2_with (first | (have hgo := C1.out; clear hgo; refine wpList_load_key (by rfl) _ (by rfl) (w.heap.size + 2) 0 (by rfl) b KB.out H0.out.b ?_) | (have hgo := C1.out; clear hgo; refine wpList_load_key (by rfl) _ (by rfl) w.heap.size 0 (by rfl) k KK.out H0.out.k ?_) | (have hgo := C1.out; clear hgo; refine wpList_load_key (by rfl) _ (by rfl) (w.heap.size + 1) 0 (by rfl) a KA.out H0.out.a ?_) | (have hgo := C1.out; clear hgo; go_at_call 18; refine (C1.out _).mono ?_; rintro e w1 ⟨rfl, hb1⟩; have H1 : Hid (Three3 w w1 k a b) := H0.out.past hb1; clear hb1 C1))
      go_ret
      exact ⟨by rw [HR.out, d1]; rfl, H1.out.below⟩
    · rw [decide_eq_false h2] at HR hq
      clear h2
      go_enter Try.func14, Try.ntmps14
      go_wp2_with (first | (have hgo := C1.out; clear hgo; refine wpList_load_key (by rfl) _ (by rfl) (w.heap.size + 2) 0 (by rfl) b KB.out H0.out.b ?_) | (have hgo := C1.out; clear hgo; refine wpList_load_key (by rfl) _ (by rfl) w.heap.size 0 (by rfl) k KK.out H0.out.k ?_) | (have hgo := C1.out; clear hgo; refine wpList_load_key (by rfl) _ (by rfl) (w.heap.size + 1) 0 (by rfl) a KA.out H0.out.a ?_) | (have hgo := C1.out; clear hgo; go_at_call 18; refine (C1.out _).mono ?_; rintro e w1 ⟨rfl, hb1⟩; have H1 : Hid (Three3 w w1 k a b) := H0.out.past hb1; clear hb1 C1) | (have hgo := H1.out; clear hgo; refine wpList_load_keyG (by rfl) _ (by rfl) (w.heap.size + 2) 0 (by rfl) b KB.out H1.out.b ?_) | (have hgo := H1.out; clear hgo; refine wpList_load_keyG (by rfl) _ (by rfl) w.heap.size 0 (by rfl) k KK.out H1.out.k ?_) | (have hgo := H1.out; clear hgo; go_at_call 18; refine (C2.out _).mono ?_; rintro e w2 ⟨rfl, hb2⟩))
      go_ret
      exact ⟨by rw [HR.out, d1]; rfl, H1.out.below.trans (hb2.mono H1.out.below.size)⟩
  · have d1 : decide (0 ≤ X) = false := decide_eq_false h1
    go_enter Try.func14, Try.ntmps14
    go_wp2_with (first | (have hgo := C1.out; clear hgo; refine wpList_load_key (by rfl) _ (by rfl) (w.heap.size + 2) 0 (by rfl) b KB.out H0.out.b ?_) | (have hgo := C1.out; clear hgo; refine wpList_load_key (by rfl) _ (by rfl) w.heap.size 0 (by rfl) k KK.out H0.out.k ?_) | (have hgo := C1.out; clear hgo; refine wpList_load_key (by rfl) _ (by rfl) (w.heap.size + 1) 0 (by rfl) a KA.out H0.out.a ?_) | (have hgo := C1.out; clear hgo; go_at_call 18; refine (C1.out _).mono ?_; rintro e w1 ⟨rfl, hb1⟩; have H1 : Hid (Three3 w w1 k a b) := H0.out.past hb1; clear hb1 C1))
    go_ret
    exact ⟨by rw [HR.out, d1]; rfl, H1.out.below⟩
theorem rot_any (x : Int) (h : 0 ≤ x ∧ x ≤ 4294967295) (w : World) :
    Calls Try.prog 30 #[.int .u32 x, .int .i64 5] w fun e w' => e = .returned (.int .u32 (bits .or .u32 (x * 32 % 4294967296) (x / 134217728))) ∧ w' = w := by
  have hb : bits .and .u64 5 31 = 5 := by decide
  go_enter Try.func30, Try.ntmps30
  go_wp2
  go_ret
  exact ⟨rfl, rfl⟩
theorem idx_key (w : World) (k : List Int) (hk : Ky k) (n : Nat) (hn : n < 16) : (Instr.index 24 (kv k) (.int .i64 n)).run Try.prog w = .ok (.int .u8 (k.getD n 0)) w := by
  have hu := run_underlying (P := Try.prog) Try.underlying24 w
  have hl : n < k.length := by rw [hk.len]; exact hn
  simp [Instr.index, asIntOf, hu, Result.andThen, Try.sizeOf5, hn, hl]
  exact run_part_plain (P := Try.prog) w (by kernel_rfl) (by simp [hl])
set_option maxHeartbeats 1000000 in
theorem ksum_any (k : List Int) (hk : Ky k) (w : World) :
    Calls Try.prog 21 #[kv k] w fun e w' => e = .returned (.int .u32 (sumK k)) ∧ Below w.heap.size w w' := by
  have HK : Hid (Ky k) := hk
  have HA : Hid (KeyAt (w.alloc (.cells (kcs k) 24)) w.heap.size 0 k) := KeyAt.made w 24 k hk
  have HB : Hid (Below w.heap.size w (w.alloc (.cells (kcs k) 24))) := (Below.refl _ _).alloc (Nat.le_refl _) _
  clear hk
  go_enter Try.func21, Try.ntmps21
  go_wp2_with (refine wpList_load_key (by rfl) _ (by rfl) w.heap.size 0 (by rfl) k HK.out HA.out ?_)
  generalize hU : w.alloc (.cells (kcs k) 24) = u at *
  clear hU
  go_loop [3, 7] (fun sv i => ∃ n : Nat, n ≤ 16 ∧ i = .int .i64 n ∧ sv = .int .u32 (sumK (k.take n))) (fun _ i => 16 - (intOf i).toNat)
  case atStart => exact ⟨0, Nat.zero_le _, rfl, rfl⟩
  case round =>
    obtain ⟨n, hn, rfl, rfl⟩ := hrel
    have h0 : (0 : Int) ≤ (n : Int) := by omega
    by_cases hlt : n < 16
    · have hb := HK.out.at n
      have h1 : (n : Int) < 16 := by omega
      have hix := idx_key u k HK.out n hlt
      have HN : Hid (sumK (k.take (n + 1)) = stepK (sumK (k.take n)) (k.getD n 0)) := sumK_take (by rw [HK.out.len]; exact hlt)
      have hr := sumK_range (k.take n)
      have CR : Hid (∀ u, Calls Try.prog 30 #[.int .u32 (sumK (k.take n)), .int .i64 5] u fun e w' => e = .returned (.int .u32 (bits .or .u32 ((sumK (k.take n)) * 32 % 4294967296) ((sumK (k.take n)) / 134217728))) ∧ w' = u) := fun u => rot_any _ hr u
      obtain ⟨Z, hZ⟩ : ∃ Z, Z = k.getD n 0 := ⟨_, rfl⟩
      obtain ⟨V, hV⟩ : ∃ V, V = sumK (k.take n) := ⟨_, rfl⟩
      rw [← hZ] at hix hb HN
      rw [← hV] at HN hr CR ⊢
      clear hV hZ
      go_wp2_with (go_at_call 30; refine (CR.out _).mono ?_; rintro e w1 ⟨rfl, rfl⟩)
      go_round
      case rel => exact ⟨n + 1, by omega, by go_num, by rw [HN.out]; rfl⟩
      case measure => simp [intOf]; omega
    · obtain rfl : n = 16 := by omega
      have HR : Hid (k.take 16 = k) := List.take_of_length_le (by rw [HK.out.len]; exact Nat.le_refl _)
      go_wp2
      go_ret
      exact ⟨by rw [HR.out]; rfl, HB.out⟩
end Go.Proofs.Ytfgbgcaackhcmaa
