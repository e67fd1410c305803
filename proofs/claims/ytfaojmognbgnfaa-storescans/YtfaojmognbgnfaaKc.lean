/-
  What package key answers: Cmp, textLen, Good, Text, Sum, Within, Of.
  What package key answers: Text, Sum, Within, Of.
-/
import Derived.Test.YtfaojmognbgnfaaKeyL
import Derived.Test.YtfaojmognbgnfaaRefKeyOf
import Derived.Deep.QuietTactic
import Derived.Sort.Grow
namespace Go.Proofs.Ytfaojmognbgnfaa
open Go.RowKit
open Go.Sort (grow grow_grow alloc_eq_grow)
set_option linter.unusedVariables false

set_option maxHeartbeats 1000000 in
/-- Cmp, and all that it leaves. -/
theorem kcmp_to (a b : List Int) (ha : Ky a) (hb : Ky b) (w : World) :
    Calls Try.prog 40 #[kv a, kv b] w fun e w' => e = .returned (.int .i64 (lexC a b)) ∧ ∃ q, w' = ((w.alloc (.cells (kcs a) 31)).alloc (.cells (kcs b) 31)).drewN q := by
  have HA : Hid (KeyAt ((w.alloc (.cells (kcs a) 31)).alloc (.cells (kcs b) 31)) w.heap.size 0 a) := (KeyAt.made w 31 a ha).alloc _
  have HC : Hid (KeyAt ((w.alloc (.cells (kcs a) 31)).alloc (.cells (kcs b) 31)) (w.heap.size + 1) 0 b) := by
    have := KeyAt.made (w.alloc (.cells (kcs a) 31)) 31 b hb
    rw [World.size_alloc] at this
    exact this
  have CC : Hid (∀ u, u.heap = ((w.alloc (.cells (kcs a) 31)).alloc (.cells (kcs b) 31)).heap → Calls Try.prog 56 #[.slice (some ⟨w.heap.size, 0, none⟩) 16 16, .slice (some ⟨w.heap.size + 1, 0, none⟩) 16 16] u fun e w' => e = .returned (.int .i64 (lexC a b)) ∧ w' = u) :=
    fun u hu => compare_any u _ _ a b ha hb (HA.out.same hu) (HC.out.same hu)
  clear ha hb HA HC
  go_enter Try.func40, Try.ntmps40
  go_wp2
  go_quiet ((go_at_call 56; refine Calls.quiet_of_same (CC.out _ rfl)))
  go_wp2
  go_ret
  exact ⟨rfl, _, rfl⟩
theorem kcmp_any (a b : List Int) (ha : Ky a) (hb : Ky b) (w : World) :
    Calls Try.prog 40 #[kv a, kv b] w fun e w' => e = .returned (.int .i64 (lexC a b)) ∧ Below w.heap.size w w' :=
  (kcmp_to a b ha hb w).mono fun e w' ⟨h1, q, h2⟩ => ⟨h1, by rw [h2]; exact below_dN (((Below.refl _ _).alloc (Nat.le_refl _) _).alloc (by simp) _) q⟩
theorem ktlen_any (k : List Int) (hk : Ky k) (w : World) :
    Calls Try.prog 68 #[kv k] w fun e w' => e = .returned (.int .i64 ((txK k).length : Int)) ∧ Below w.heap.size w w' := by
  have HA : Hid (KeyAt (w.alloc (.cells (kcs k) 31)) w.heap.size 0 k) := KeyAt.made w 31 k hk
  have HB : Hid (Below w.heap.size w (w.alloc (.cells (kcs k) 31))) := (Below.refl _ _).alloc (Nat.le_refl _) _
  have CI := bindex_any _ _ k hk HA.out
  have hle : (txK k).length ≤ 16 := by rw [← hk.len]; exact txK_le k
  generalize (txK k).length = T at CI hle ⊢
  clear hk HA
  by_cases h : T < 16
  · rw [if_pos h] at CI
    have h0 : (0 : Int) ≤ (T : Int) := by omega
    go_enter Try.func68, Try.ntmps68
    go_wp2_with (go_at_call 85; refine CI.mono ?_; rintro e w1 ⟨rfl, rfl⟩)
    go_ret
    exact ⟨rfl, HB.out⟩
  · rw [if_neg h] at CI
    obtain rfl : T = 16 := by omega
    go_enter Try.func68, Try.ntmps68
    go_wp2_with (go_at_call 85; refine CI.mono ?_; rintro e w1 ⟨rfl, rfl⟩)
    go_ret
    exact ⟨rfl, HB.out⟩
theorem good_tx {k : List Int} (hk : Ky k) : goodK k = true ↔ ((txK k).length ≠ 0 ∧ ∀ i, (txK k).length ≤ i → i < 16 → k.getD i 0 = 0) := by
  have hl := hk.len
  have h1 : (txK k).length ≠ 0 ↔ k.getD 0 0 ≠ 0 := by
    cases k with
    | nil => simp at hl
    | cons a r =>
      by_cases ha : a = 0
      · simp [txK, ha]
      · simp [txK, ha]
  have h2 : (∀ z ∈ k.drop (txK k).length, z = 0) ↔ ∀ i, (txK k).length ≤ i → i < 16 → k.getD i 0 = 0 := by
    constructor
    · intro h i h3 h4
      refine h _ ?_
      have e : k.getD i 0 = (k.drop (txK k).length)[i - (txK k).length]'(by simp; omega) := by
        rw [List.getElem_drop]
        have : i < k.length := by omega
        simp [List.getD, this, show (txK k).length + (i - (txK k).length) = i by omega]
      rw [e]
      exact List.getElem_mem _
    · intro h z hz
      obtain ⟨j, hj, rfl⟩ := List.getElem_of_mem hz
      simp at hj
      rw [List.getElem_drop]
      have := h ((txK k).length + j) (by omega) (by omega)
      have e : (txK k).length + j < k.length := by omega
      simpa [List.getD, e] using this
  unfold goodK
  rw [decide_eq_true_iff, h1, h2]
set_option maxHeartbeats 1000000 in
theorem kgood_any (k : List Int) (hk : Ky k) (w : World) :
    Calls Try.prog 58 #[kv k] w fun e w' => e = .returned (.bool (goodK k)) ∧ Below w.heap.size w w' := by
  have HK : Hid (Ky k) := hk
  have CT : Hid (∀ u, Calls Try.prog 68 #[kv k] u fun e w' => e = .returned (.int .i64 ((txK k).length : Int)) ∧ Below u.heap.size u w') := fun u => ktlen_any k hk u
  have HA : Hid (KeyAt (w.alloc (.cells (kcs k) 31)) w.heap.size 0 k) := KeyAt.made w 31 k hk
  have HB : Hid (Below w.heap.size w (w.alloc (.cells (kcs k) 31))) := (Below.refl _ _).alloc (Nat.le_refl _) _
  have hle : (txK k).length ≤ 16 := by rw [← hk.len]; exact txK_le k
  have HG : Hid (goodK k = true ↔ ((txK k).length ≠ 0 ∧ ∀ i, (txK k).length ≤ i → i < 16 → k.getD i 0 = 0)) := good_tx hk
  generalize (txK k).length = T at CT HG hle
  clear hk
  by_cases hT : T = 0
  · subst hT
    have HR : Hid (goodK k = false) := by
      show _ = _
      cases hg : goodK k
      · rfl
      · exact absurd rfl (HG.out.1 hg).1
    go_enter Try.func58, Try.ntmps58
    go_wp2_with (first | (refine wpList_load_key (by rfl) _ (by rfl) w.heap.size 0 (by rfl) k HK.out HA.out ?_) | (go_at_call 68; refine (CT.out _).mono ?_; rintro e w1 ⟨rfl, hb1⟩; have HB1 : Hid (Below w.heap.size w w1) := HB.out.trans (hb1.mono HB.out.size); clear hb1))
    go_ret
    exact ⟨by rw [HR.out]; rfl, HB1.out⟩
  · have h0 : (0 : Int) ≤ (T : Int) := by omega
    have h16 : (T : Int) ≤ 16 := by omega
    have hb0 : ((T : Int) == 0) = false := by simpa using hT
    by_cases hT2 : T = 16
    · have HR : Hid (goodK k = true) := HG.out.2 ⟨hT, fun i h1 h2 => by omega⟩
      subst hT2
      clear hT
      go_enter Try.func58, Try.ntmps58
      go_wp2_with (first | (refine wpList_load_key (by rfl) _ (by rfl) w.heap.size 0 (by rfl) k HK.out HA.out ?_) | (go_at_call 68; refine (CT.out _).mono ?_; rintro e w1 ⟨rfl, hb1⟩; have HA1 : Hid (KeyAt w1 w.heap.size 0 k) := HA.out.past hb1; have HB1 : Hid (Below w.heap.size w w1) := HB.out.trans (hb1.mono HB.out.size); clear hb1))
      refine wp_loop_rounds 1 ?_
      rw [rounds_succ]
      go_wp2
      go_ret
      exact ⟨by rw [HR.out]; rfl, HB1.out⟩
    · have hne : ¬ 16 = T := fun h => hT2 h.symm
      have hlt : T < 16 := by omega
      have HT0 : Hid (¬ T = 0) := hT
      clear hT hT2
      go_enter Try.func58, Try.ntmps58
      go_wp2_with (first | (refine wpList_load_key (by rfl) _ (by rfl) w.heap.size 0 (by rfl) k HK.out HA.out ?_) | (go_at_call 68; refine (CT.out _).mono ?_; rintro e w1 ⟨rfl, hb1⟩; have HA1 : Hid (KeyAt w1 w.heap.size 0 k) := HA.out.past hb1; have HB1 : Hid (Below w.heap.size w w1) := HB.out.trans (hb1.mono HB.out.size); clear hb1))
      go_loop [13] (fun i => ∃ n : Nat, n ≤ 16 - T ∧ i = .int .i64 n ∧ Hid (∀ i, T ≤ i → i < T + n → k.getD i 0 = 0)) (fun i => 16 - T - (intOf i).toNat)
      case atStart => exact ⟨0, Nat.zero_le _, rfl, by intro i h1 h2; omega⟩
      case round =>
        obtain ⟨n, hn, rfl, HZ⟩ := hrel
        have hn0 : (0 : Int) ≤ (n : Int) := by omega
        by_cases hlt2 : n < 16 - T
        · have hc := HA1.out.cell0 (T + n) (by omega)
          have hb := HK.out.at (T + n)
          have h1 : (n : Int) < ((16 - T : Nat) : Int) := by omega
          obtain ⟨Z, hZ⟩ : ∃ Z, Z = k.getD (T + n) 0 := ⟨_, rfl⟩
          rw [← hZ] at hc hb
          by_cases hz : Z = 0
          · subst hz
            have HZ' : Hid (∀ i, T ≤ i → i < T + (n + 1) → k.getD i 0 = 0) := by
              intro i h2 h3
              by_cases h4 : i < T + n
              · exact HZ.out i h2 h4
              · obtain rfl : i = T + n := by omega
                exact hZ.symm
            clear hZ
            go_wp2
            go_round
            case rel => exact ⟨n + 1, by omega, by go_num, HZ'⟩
            case measure => simp [intOf]; omega
          · have hzb : (Z != 0) = true := bne_iff_ne.2 hz
            have HR : Hid (goodK k = false) := by
              show _ = _
              cases hg : goodK k
              · rfl
              · exact absurd (hZ.trans ((HG.out.1 hg).2 (T + n) (by omega) (by omega))) hz
            clear hZ hz
            go_wp2
            go_ret
            exact ⟨by rw [HR.out]; rfl, HB1.out⟩
        · obtain rfl : n = 16 - T := by omega
          have HR : Hid (goodK k = true) := HG.out.2 ⟨HT0.out, fun i h1 h2 => HZ.out i h1 (by omega)⟩
          have h1 : ¬ ((16 - T : Nat) : Int) < ((16 - T : Nat) : Int) := by omega
          go_wp2
          go_ret
          exact ⟨by rw [HR.out]; rfl, HB1.out⟩
end Go.Proofs.Ytfaojmognbgnfaa

namespace Go.Proofs.Ytfaojmognbgnfaa
open Go.RowKit
set_option linter.unusedVariables false

set_option maxHeartbeats 1000000 in
theorem kwithin_any (k a b : List Int) (hk : Ky k) (ha : Ky a) (hb : Ky b) (w : World) :
    Calls Try.prog 34 #[kv k, kv a, kv b] w fun e w' => e = .returned (.bool (withinK k a b)) ∧ Below w.heap.size w w' := by
  have KK : Hid (Ky k) := hk
  have KA : Hid (Ky a) := ha
  have KB : Hid (Ky b) := hb
  have C1 : Hid (∀ u, Calls Try.prog 40 #[kv k, kv a] u fun e w' => e = .returned (.int .i64 (lexC k a)) ∧ Below u.heap.size u w') := fun u => kcmp_any k a hk ha u
  have C2 : Hid (∀ u, Calls Try.prog 40 #[kv k, kv b] u fun e w' => e = .returned (.int .i64 (lexC k b)) ∧ Below u.heap.size u w') := fun u => kcmp_any k b hk hb u
  have H0 : Hid (Three3 w (((w.alloc (.cells (kcs k) 31)).alloc (.cells (kcs a) 31)).alloc (.cells (kcs b) 31)) k a b) := Three3.made w 31 hk ha hb
  have HQ : Hid (∀ u, (Op.equalIn 10000 31 (kv b) (kv zeroK)).run Try.prog u = .ok (decide (b = zeroK)) u) := fun u => eq_key u b zeroK hb zeroK_ky
  clear hk ha hb
  obtain ⟨X, hX⟩ : ∃ X, X = lexC k a := ⟨_, rfl⟩
  obtain ⟨Y, hY⟩ : ∃ Y, Y = lexC k b := ⟨_, rfl⟩
  have HR : Hid (withinK k a b = (decide (0 ≤ X) && (decide (b = zeroK) || decide (Y < 0)))) := by rw [hX, hY]; rfl
  rw [← hX] at C1
  rw [← hY] at C2
  clear hX hY
  have hq := HQ.out
  rw [show (kv zeroK) = .agg #[.int .u8 0, .int .u8 0, .int .u8 0, .int .u8 0, .int .u8 0, .int .u8 0, .int .u8 0, .int .u8 0, .int .u8 0, .int .u8 0, .int .u8 0, .int .u8 0, .int .u8 0, .int .u8 0, .int .u8 0, .int .u8 0] from rfl] at hq
  clear HQ
  by_cases h1 : 0 ≤ X
  · have d1 : decide (0 ≤ X) = true := decide_eq_true h1
    by_cases h2 : b = zeroK
    · rw [decide_eq_true h2] at HR hq
      clear h2
      go_enter Try.func34, Try.ntmps34
      go_wp2_with (first | (have hgo := C1.out; clear hgo; refine wpList_load_key (by rfl) _ (by rfl) (w.heap.size + 2) 0 (by rfl) b KB.out H0.out.b ?_) | (have hgo := C1.out; clear hgo; refine wpList_load_key (by rfl) _ (by rfl) w.heap.size 0 (by rfl) k KK.out H0.out.k ?_) | (have hgo := C1.out; clear hgo; refine wpList_load_key (by rfl) _ (by rfl) (w.heap.size + 1) 0 (by rfl) a KA.out H0.out.a ?_) | (have hgo := C1.out; clear hgo; go_at_call 40; refine (C1.out _).mono ?_; rintro e w1 ⟨rfl, hb1⟩; have H1 : Hid (Three3 w w1 k a b) := H0.out.past hb1; clear hb1 C1))
      go_ret
      exact ⟨by rw [HR.out, d1]; rfl, H1.out.below⟩
    · rw [decide_eq_false h2] at HR hq
      clear h2
      go_enter Try.func34, Try.ntmps34
      go_wp2_with (first | (have hgo := C1.out; clear hgo; refine wpList_load_key (by rfl) _ (by rfl) (w.heap.size + 2) 0 (by rfl) b KB.out H0.out.b ?_) | (have hgo := C1.out; clear hgo; refine wpList_load_key (by rfl) _ (by rfl) w.heap.size 0 (by rfl) k KK.out H0.out.k ?_) | (have hgo := C1.out; clear hgo; refine wpList_load_key (by rfl) _ (by rfl) (w.heap.size + 1) 0 (by rfl) a KA.out H0.out.a ?_) | (have hgo := C1.out; clear hgo; go_at_call 40; refine (C1.out _).mono ?_; rintro e w1 ⟨rfl, hb1⟩; have H1 : Hid (Three3 w w1 k a b) := H0.out.past hb1; clear hb1 C1) | (have hgo := H1.out; clear hgo; refine wpList_load_keyG (by rfl) _ (by rfl) (w.heap.size + 2) 0 (by rfl) b KB.out H1.out.b ?_) | (have hgo := H1.out; clear hgo; refine wpList_load_keyG (by rfl) _ (by rfl) w.heap.size 0 (by rfl) k KK.out H1.out.k ?_) | (have hgo := H1.out; clear hgo; go_at_call 40; refine (C2.out _).mono ?_; rintro e w2 ⟨rfl, hb2⟩))
      go_ret
      exact ⟨by rw [HR.out, d1]; rfl, H1.out.below.trans (hb2.mono H1.out.below.size)⟩
  · have d1 : decide (0 ≤ X) = false := decide_eq_false h1
    go_enter Try.func34, Try.ntmps34
    go_wp2_with (first | (have hgo := C1.out; clear hgo; refine wpList_load_key (by rfl) _ (by rfl) (w.heap.size + 2) 0 (by rfl) b KB.out H0.out.b ?_) | (have hgo := C1.out; clear hgo; refine wpList_load_key (by rfl) _ (by rfl) w.heap.size 0 (by rfl) k KK.out H0.out.k ?_) | (have hgo := C1.out; clear hgo; refine wpList_load_key (by rfl) _ (by rfl) (w.heap.size + 1) 0 (by rfl) a KA.out H0.out.a ?_) | (have hgo := C1.out; clear hgo; go_at_call 40; refine (C1.out _).mono ?_; rintro e w1 ⟨rfl, hb1⟩; have H1 : Hid (Three3 w w1 k a b) := H0.out.past hb1; clear hb1 C1))
    go_ret
    exact ⟨by rw [HR.out, d1]; rfl, H1.out.below⟩
theorem idx_key (w : World) (k : List Int) (hk : Ky k) (n : Nat) (hn : n < 16) : (Instr.index 31 (kv k) (.int .i64 n)).run Try.prog w = .ok (.int .u8 (k.getD n 0)) w := by
  have hu := run_underlying (P := Try.prog) Try.underlying31 w
  have hl : n < k.length := by rw [hk.len]; exact hn
  simp [Instr.index, asIntOf, hu, Result.andThen, Try.sizeOf5, hn, hl]
  exact run_part_plain (P := Try.prog) w (by kernel_rfl) (by simp [hl])
end Go.Proofs.Ytfaojmognbgnfaa

