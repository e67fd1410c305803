/-
  What the library's own searches and comparisons answer at keys and at texts.
  What package key answers: Cmp, textLen, Good, Text, Sum, Within, Of.
-/
import Derived.Test.YtcppihpehipelaaAu42
import Derived.Lib.BytesEntry
import Derived.BigRegion
import Derived.BigQuiet
import Derived.Deep.QuietTactic
import Derived.Sort.Grow
namespace Go.Proofs.Ytcppihpehipelaa
open Go.RowKit
set_option linter.unusedVariables false

theorem byte_nat {x : Int} (hx : 0 ≤ x ∧ x ≤ 255) : x.toNat.toUInt8.toNat = x.toNat := by
  have : x.toNat < 256 := by omega
  simp [Nat.toUInt8, Nat.mod_eq_of_lt this]
theorem byte_zero {x : Int} (hx : 0 ≤ x ∧ x ≤ 255) : x.toNat.toUInt8 = 0 ↔ x = 0 := by
  rw [← UInt8.toNat_inj, byte_nat hx]
  show x.toNat = 0 ↔ _
  omega
theorem idx_zero : ∀ (k : List Int), (∀ z ∈ k, 0 ≤ z ∧ z ≤ 255) → Lib.indexByte (Lib.bytesOf k) 0 = if (txK k).length < k.length then ((txK k).length : Int) else -1
  | [], _ => rfl
  | a :: r, h => by
    have ih := idx_zero r (fun z hz => h z (by simp [hz]))
    have h0 := byte_zero (h a (by simp))
    unfold Lib.bytesOf at ih ⊢
    rw [List.map_cons]
    unfold Lib.indexByte
    rw [ih]
    unfold txK
    rw [List.takeWhile_cons]
    by_cases e : a = 0
    · subst e; simp
    · have e1 : ¬ a.toNat.toUInt8 = 0 := fun x => e (h0.1 x)
      have e2 : (a.toNat.toUInt8 == 0) = false := beq_eq_false_iff_ne.2 e1
      have e3 : (a != 0) = true := bne_iff_ne.2 e
      rw [e2, if_pos e3]
      simp only [Bool.false_eq_true, if_false, List.length_cons]
      generalize (r.takeWhile fun z => z != 0).length = n
      by_cases hl : n < r.length
      · rw [if_pos hl, if_pos (show n + 1 < r.length + 1 by omega), beq_eq_false_iff_ne.2 (show (n : Int) ≠ -1 by omega)]
        simp
      · rw [if_neg hl, if_neg (show ¬ n + 1 < r.length + 1 by omega)]
        rfl
/-- Two keys' bytes, as the library reads them. -/
theorem KeyAt.bytes {w : World} {b : Nat} {k : List Int} (h : KeyAt w b 0 k) (hk : Ky k) (acc : ByteArray) : (Extern.Bytes.loadBytes ⟨b, 0, none⟩ 16 acc).run Try.prog w = .ok ⟨acc.data ++ (Lib.bytesOf k).toArray⟩ w := by
  have hl := Lib.run_loadBytesX (P := Try.prog) w k ⟨b, 0, none⟩ acc (fun j x hj => by
    have hjl : j < k.length := (List.getElem?_eq_some_iff.1 hj).1
    have e : (⟨b, 0, none⟩ : Addr).add j = ⟨b, j, none⟩ := by unfold Addr.add; split <;> simp_all
    rw [e, h.cell0 j (by rw [← hk.len]; exact hjl), List.getD_eq_getElem?_getD, hj]
    rfl)
  rw [hk.len] at hl
  exact hl
set_option maxRecDepth 100000 in
theorem bindex_any (w : World) (p : Nat) (k : List Int) (hk : Ky k) (h : KeyAt w p 0 k) :
    Calls Try.prog 93 #[.slice (some ⟨p, 0, none⟩) 16 16, .int .u8 0] w fun e w' => e = .returned (.int .i64 (if (txK k).length < 16 then ((txK k).length : Int) else -1)) ∧ w' = w := by
  have hx := Lib.run_indexByteSlice (P := Try.prog) w p 0 16 16 k hk.len (fun i hi => h.cell i hi) 0
  have hi := idx_zero k hk.bytes
  rw [hk.len] at hi
  rw [show (0 : Int).toNat.toUInt8 = 0 from rfl, hi] at hx
  generalize (if (txK k).length < 16 then ((txK k).length : Int) else -1) = Z at hx ⊢
  go_enter Try.func93, Try.ntmps93
  go_wp2
  rw [run_callFunc_extern Try.func94 (by kernel_rfl) (by kernel_rfl) (by kernel_rfl) (e := Extern.BytealgIndexByte.indexByte) (by kernel_rfl), hx]
  simp only [Result.andThen]
  rw [Oper.upon_value]
  go_wp2
  go_ret
  exact ⟨rfl, rfl⟩
end Go.Proofs.Ytcppihpehipelaa

namespace Go.Proofs.Ytcppihpehipelaa
open Go.RowKit
open Go.Sort (grow grow_grow alloc_eq_grow)
set_option linter.unusedVariables false

theorem ktlen_any (k : List Int) (hk : Ky k) (w : World) :
    Calls Try.prog 91 #[kv k] w fun e w' => e = .returned (.int .i64 ((txK k).length : Int)) ∧ Below w.heap.size w w' := by
  have HA : Hid (KeyAt (w.alloc (.cells (kcs k) 84)) w.heap.size 0 k) := KeyAt.made w 84 k hk
  have HB : Hid (Below w.heap.size w (w.alloc (.cells (kcs k) 84))) := (Below.refl _ _).alloc (Nat.le_refl _) _
  have CI := bindex_any _ _ k hk HA.out
  have hle : (txK k).length ≤ 16 := by rw [← hk.len]; exact txK_le k
  generalize (txK k).length = T at CI hle ⊢
  clear hk HA
  by_cases h : T < 16
  · rw [if_pos h] at CI
    have h0 : (0 : Int) ≤ (T : Int) := by omega
    go_enter Try.func91, Try.ntmps91
    go_wp2_with (go_at_call 93; refine CI.mono ?_; rintro e w1 ⟨rfl, rfl⟩)
    go_ret
    exact ⟨rfl, HB.out⟩
  · rw [if_neg h] at CI
    obtain rfl : T = 16 := by omega
    go_enter Try.func91, Try.ntmps91
    go_wp2_with (go_at_call 93; refine CI.mono ?_; rintro e w1 ⟨rfl, rfl⟩)
    go_ret
    exact ⟨rfl, HB.out⟩
theorem good_tx {k : List Int} (hk : Ky k) : goodK k = true ↔ ((txK k).length ≠ 0 ∧ ∀ i, (txK k).length ≤ i → i < 16 → k.getD i 0 = 0) := by
  have hl := hk.len
  have h1 : (txK k).length ≠ 0 ↔ k.getD 0 0 ≠ 0 := by
    cases k with
    | nil => simp at hl
    | cons a r =>
      by_cases ha : a = 0
      · simp [txK, ha]
      · simp [txK, ha]
  have h2 : (∀ z ∈ k.drop (txK k).length, z = 0) ↔ ∀ i, (txK k).length ≤ i → i < 16 → k.getD i 0 = 0 := by
    constructor
    · intro h i h3 h4
      refine h _ ?_
      have e : k.getD i 0 = (k.drop (txK k).length)[i - (txK k).length]'(by simp; omega) := by
        rw [List.getElem_drop]
        have : i < k.length := by omega
        simp [List.getD, this, show (txK k).length + (i - (txK k).length) = i by omega]
      rw [e]
      exact List.getElem_mem _
    · intro h z hz
      obtain ⟨j, hj, rfl⟩ := List.getElem_of_mem hz
      simp at hj
      rw [List.getElem_drop]
      have := h ((txK k).length + j) (by omega) (by omega)
      have e : (txK k).length + j < k.length := by omega
      simpa [List.getD, e] using this
  unfold goodK
  rw [decide_eq_true_iff, h1, h2]
set_option maxHeartbeats 1000000 in
theorem kgood_any (k : List Int) (hk : Ky k) (w : World) :
    Calls Try.prog 84 #[kv k] w fun e w' => e = .returned (.bool (goodK k)) ∧ Below w.heap.size w w' := by
  have HK : Hid (Ky k) := hk
  have CT : Hid (∀ u, Calls Try.prog 91 #[kv k] u fun e w' => e = .returned (.int .i64 ((txK k).length : Int)) ∧ Below u.heap.size u w') := fun u => ktlen_any k hk u
  have HA : Hid (KeyAt (w.alloc (.cells (kcs k) 84)) w.heap.size 0 k) := KeyAt.made w 84 k hk
  have HB : Hid (Below w.heap.size w (w.alloc (.cells (kcs k) 84))) := (Below.refl _ _).alloc (Nat.le_refl _) _
  have hle : (txK k).length ≤ 16 := by rw [← hk.len]; exact txK_le k
  have HG : Hid (goodK k = true ↔ ((txK k).length ≠ 0 ∧ ∀ i, (txK k).length ≤ i → i < 16 → k.getD i 0 = 0)) := good_tx hk
  generalize (txK k).length = T at CT HG hle
  clear hk
  by_cases hT : T = 0
  · subst hT
    have HR : Hid (goodK k = false) := by
      show _ = _
      cases hg : goodK k
      · rfl
      · exact absurd rfl (HG.out.1 hg).1
    go_enter Try.func84, Try.ntmps84
    go_wp2_with (first | (refine wpList_load_key (by rfl) _ (by rfl) w.heap.size 0 (by rfl) k HK.out HA.out ?_) | (go_at_call 91; refine (CT.out _).mono ?_; rintro e w1 ⟨rfl, hb1⟩; have HB1 : Hid (Below w.heap.size w w1) := HB.out.trans (hb1.mono HB.out.size); clear hb1))
    go_ret
    exact ⟨by rw [HR.out]; rfl, HB1.out⟩
  · have h0 : (0 : Int) ≤ (T : Int) := by omega
    have h16 : (T : Int) ≤ 16 := by omega
    have hb0 : ((T : Int) == 0) = false := by simpa using hT
    by_cases hT2 : T = 16
    · have HR : Hid (goodK k = true) := HG.out.2 ⟨hT, fun i h1 h2 => by omega⟩
      subst hT2
      clear hT
      go_enter Try.func84, Try.ntmps84
      go_wp2_with (first | (refine wpList_load_key (by rfl) _ (by rfl) w.heap.size 0 (by rfl) k HK.out HA.out ?_) | (go_at_call 91; refine (CT.out _).mono ?_; rintro e w1 ⟨rfl, hb1⟩; have HA1 : Hid (KeyAt w1 w.heap.size 0 k) := HA.out.past hb1; have HB1 : Hid (Below w.heap.size w w1) := HB.out.trans (hb1.mono HB.out.size); clear hb1))
      refine wp_loop_rounds 1 ?_
      rw [rounds_succ]
      go_wp2
      go_ret
      exact ⟨by rw [HR.out]; rfl, HB1.out⟩
    · have hne : ¬ 16 = T := fun h => hT2 h.symm
      have hlt : T < 16 := by omega
      have HT0 : Hid (¬ T = 0) := hT
      clear hT hT2
      go_enter Try.func84, Try.ntmps84
      go_wp2_with (first | (refine wpList_load_key (by rfl) _ (by rfl) w.heap.size 0 (by rfl) k HK.out HA.out ?_) | (go_at_call 91; refine (CT.out _).mono ?_; rintro e w1 ⟨rfl, hb1⟩; have HA1 : Hid (KeyAt w1 w.heap.size 0 k) := HA.out.past hb1; have HB1 : Hid (Below w.heap.size w w1) := HB.out.trans (hb1.mono HB.out.size); clear hb1))
      go_loop [13] (fun i => ∃ n : Nat, n ≤ 16 - T ∧ i = .int .i64 n ∧ Hid (∀ i, T ≤ i → i < T + n → k.getD i 0 = 0)) (fun i => 16 - T - (intOf i).toNat)
      case atStart => exact ⟨0, Nat.zero_le _, rfl, by intro i h1 h2; omega⟩
      case round =>
        obtain ⟨n, hn, rfl, HZ⟩ := hrel
        have hn0 : (0 : Int) ≤ (n : Int) := by omega
        by_cases hlt2 : n < 16 - T
        · have hc := HA1.out.cell0 (T + n) (by omega)
          have hb := HK.out.at (T + n)
          have h1 : (n : Int) < ((16 - T : Nat) : Int) := by omega
          obtain ⟨Z, hZ⟩ : ∃ Z, Z = k.getD (T + n) 0 := ⟨_, rfl⟩
          rw [← hZ] at hc hb
          by_cases hz : Z = 0
          · subst hz
            have HZ' : Hid (∀ i, T ≤ i → i < T + (n + 1) → k.getD i 0 = 0) := by
              intro i h2 h3
              by_cases h4 : i < T + n
              · exact HZ.out i h2 h4
              · obtain rfl : i = T + n := by omega
                exact hZ.symm
            clear hZ
            go_wp2
            go_round
            case rel => exact ⟨n + 1, by omega, by go_num, HZ'⟩
            case measure => simp [intOf]; omega
          · have hzb : (Z != 0) = true := bne_iff_ne.2 hz
            have HR : Hid (goodK k = false) := by
              show _ = _
              cases hg : goodK k
              · rfl
              · exact absurd (hZ.trans ((HG.out.1 hg).2 (T + n) (by omega) (by omega))) hz
            clear hZ hz
            go_wp2
            go_ret
            exact ⟨by rw [HR.out]; rfl, HB1.out⟩
        · obtain rfl : n = 16 - T := by omega
          have HR : Hid (goodK k = true) := HG.out.2 ⟨HT0.out, fun i h1 h2 => HZ.out i h1 (by omega)⟩
          have h1 : ¬ ((16 - T : Nat) : Int) < ((16 - T : Nat) : Int) := by omega
          go_wp2
          go_ret
          exact ⟨by rw [HR.out]; rfl, HB1.out⟩
end Go.Proofs.Ytcppihpehipelaa

