/-
  slices.IndexFunc and ContainsFunc with the landed part's closures (package part: anyBlocked, anyConflict, anyFull).
-/
import Derived.Test.YtileidbdmpeciaaGreatAu49
namespace Go.Proofs.YtileidbdmpeciaaGreat
open Go.RowKit
set_option linter.unusedVariables false

set_option maxHeartbeats 2000000 in
theorem paic_any (a : Option Addr) (N cap : Nat) (l : List Wrt) (P : Wrt → Bool) (x1 x2 : Nat) (w : World) (hl : l.length = N) (hc : N ≤ cap) (hN : N ≤ 1000000) (hat : WrtsAt w a l)
    (hcc : ∀ W ∈ l, ∀ u, Below w.heap.size w u → Calls Tryz.prog 84 #[wv W, .pointer (some ⟨x1, 0, none⟩), .pointer (some ⟨x2, 0, none⟩)] u fun e w' => e = .returned (.bool (P W)) ∧ Below u.heap.size u w') :
    Calls Tryz.prog 124 #[.slice a N cap, .func (.func 84) #[] #[.pointer (some ⟨x1, 0, none⟩), .pointer (some ⟨x2, 0, none⟩)]] w fun e w' => (∃ i : Int, e = .returned (.int .i64 i) ∧ -1 ≤ i ∧ i ≤ 1000000 ∧ (0 ≤ i ↔ l.any P = true)) ∧ Below w.heap.size w w' := by
  have HL : Hid (l.length = N) := hl
  have HA : Hid (WrtsAt w a l) := hat
  have HC : Hid (∀ W ∈ l, ∀ u, Below w.heap.size w u → Calls Tryz.prog 84 #[wv W, .pointer (some ⟨x1, 0, none⟩), .pointer (some ⟨x2, 0, none⟩)] u fun e w' => e = .returned (.bool (P W)) ∧ Below u.heap.size u w') := hcc
  clear hl hat hcc
  go_enter Tryz.func124, Tryz.ntmps124
  go_wp2
  go_loopw [8] (fun i wr => ∃ n : Nat, n ≤ N ∧ i = .int .i64 n ∧ Hid (IdxSk w wr P l n)) (fun i _ => N - (intOf i).toNat)
  case atStart => exact ⟨0, Nat.zero_le _, rfl, ⟨Below.refl _ _, fun W hW => by simp at hW⟩⟩
  case round =>
    obtain ⟨n, hn, rfl, HS⟩ := hrel
    have hn0 : (0 : Int) ≤ (n : Int) := by omega
    by_cases hlt : n < N
    · have h1 : (n : Int) < (N : Int) := by omega
      obtain ⟨W, hW⟩ : ∃ W, l[n]? = some W := ⟨_, List.getElem?_eq_getElem (by rw [HL.out]; exact hlt)⟩
      obtain ⟨b, o, rfl, hwa, hwo⟩ := (HA.out.past (w' := wr) HS.out.below).wrt hW
      have HWA : Hid (WrtAt wr b (o + n * 18) W) := hwa
      have HT : Hid (l.take (n + 1) = l.take n ++ [W]) := by show _ = _; rw [List.take_add_one, hW]; rfl
      have HWM : Hid (W ∈ l) := List.mem_of_getElem? hW
      have KW : Hid (Ky W.k) := hwo.key
      have CG0 := HC.out W HWM.out wr HS.out.below
      obtain ⟨pw, hpw⟩ : ∃ x, x = P W := ⟨_, rfl⟩
      have HPW : Hid (pw = P W) := hpw
      rw [← hpw] at CG0
      have CG : Hid (Calls Tryz.prog 84 #[wv W, .pointer (some ⟨x1, 0, none⟩), .pointer (some ⟨x2, 0, none⟩)] wr fun e w' => e = .returned (.bool pw) ∧ Below wr.heap.size wr w') := CG0
      clear hwa hwo hW CG0 hpw
      cases pw with
      | true =>
        go_wp2_with (first | (have hgo := HWA.out; clear hgo; refine wpList_load_wrt 15 (by rfl) (by rfl) _ (by rfl) b (o + n * 18) (by rfl) W KW.out HWA.out ?_) | (go_at_call 84; refine CG.out.mono ?_; rintro e w3 ⟨rfl, hb3⟩; have H3 : Hid (Below w.heap.size w w3) := HS.out.below.trans (hb3.mono HS.out.below.size); clear hb3))
        go_ret
        refine ⟨⟨(n : Int), rfl, by omega, by omega, ?_⟩, H3.out⟩
        exact ⟨fun _ => List.any_eq_true.2 ⟨W, HWM.out, HPW.out.symm⟩, fun _ => hn0⟩
      | false =>
        go_wp2_with (first | (have hgo := HWA.out; clear hgo; refine wpList_load_wrt 15 (by rfl) (by rfl) _ (by rfl) b (o + n * 18) (by rfl) W KW.out HWA.out ?_) | (go_at_call 84; refine CG.out.mono ?_; rintro e w3 ⟨rfl, hb3⟩; have H3 : Hid (IdxSk w w3 P l (n + 1)) := ⟨HS.out.below.trans (hb3.mono HS.out.below.size), fun V hV => by rw [HT.out] at hV; rcases List.mem_append.1 hV with e | e; exact HS.out.none V e; simp at e; rw [e]; exact HPW.out.symm⟩; clear hb3))
        go_roundw
        case rel => exact ⟨n + 1, by omega, by go_num, H3⟩
        case measure => simp [intOf]; omega
    · obtain rfl : n = N := by omega
      have HT : Hid (l.take n = l) := List.take_of_length_le (by rw [HL.out]; exact Nat.le_refl _)
      go_wp2
      go_ret
      refine ⟨⟨-1, rfl, by omega, by omega, fun e => by omega, fun e => ?_⟩, HS.out.below⟩
      obtain ⟨W, hW, e2⟩ := List.any_eq_true.1 e
      rw [HS.out.none W (by rw [HT.out]; exact hW)] at e2
      cases e2
theorem pacc_any (a : Option Addr) (N cap : Nat) (l : List Wrt) (P : Wrt → Bool) (x1 x2 : Nat) (w : World) (hl : l.length = N) (hc : N ≤ cap) (hN : N ≤ 1000000) (hat : WrtsAt w a l)
    (hcc : ∀ W ∈ l, ∀ u, Below w.heap.size w u → Calls Tryz.prog 84 #[wv W, .pointer (some ⟨x1, 0, none⟩), .pointer (some ⟨x2, 0, none⟩)] u fun e w' => e = .returned (.bool (P W)) ∧ Below u.heap.size u w') :
    Calls Tryz.prog 83 #[.slice a N cap, .func (.func 84) #[] #[.pointer (some ⟨x1, 0, none⟩), .pointer (some ⟨x2, 0, none⟩)]] w fun e w' => e = .returned (.bool (l.any P)) ∧ Below w.heap.size w w' := by
  have CI : Hid (Calls Tryz.prog 124 #[.slice a N cap, .func (.func 84) #[] #[.pointer (some ⟨x1, 0, none⟩), .pointer (some ⟨x2, 0, none⟩)]] w fun e w' => (∃ i : Int, e = .returned (.int .i64 i) ∧ -1 ≤ i ∧ i ≤ 1000000 ∧ (0 ≤ i ↔ l.any P = true)) ∧ Below w.heap.size w w') := paic_any a N cap l P x1 x2 w hl hc hN hat hcc
  obtain ⟨R, hR⟩ : ∃ R, R = l.any P := ⟨_, rfl⟩
  rw [← hR] at CI ⊢
  clear hl hat hcc hR
  go_enter Tryz.func83, Tryz.ntmps83
  go_wp2_with (go_at_call 124; refine CI.out.mono ?_; rintro e w1 ⟨⟨i, rfl, hi1, hi2, hi3⟩, hb1⟩; have HI : Hid (0 ≤ i ↔ R = true) := hi3; have HB : Hid (Below w.heap.size w w1) := hb1; clear hi3 hb1)
  go_ret
  refine ⟨?_, HB.out⟩
  by_cases h : 0 ≤ i
  · rw [HI.out.1 h]; simp [h]
  · have : R = false := by
      cases hR : R with
      | false => rfl
      | true => exact absurd (HI.out.2 hR) h
    rw [this]; simp [h]
set_option maxHeartbeats 2000000 in
theorem paif_any (a : Option Addr) (N cap : Nat) (l : List Wrt) (P : Wrt → Bool) (x1 : Nat) (w : World) (hl : l.length = N) (hc : N ≤ cap) (hN : N ≤ 1000000) (hat : WrtsAt w a l)
    (hcc : ∀ W ∈ l, ∀ u, Below w.heap.size w u → Calls Tryz.prog 87 #[wv W, .pointer (some ⟨x1, 0, none⟩)] u fun e w' => e = .returned (.bool (P W)) ∧ Below u.heap.size u w') :
    Calls Tryz.prog 124 #[.slice a N cap, .func (.func 87) #[] #[.pointer (some ⟨x1, 0, none⟩)]] w fun e w' => (∃ i : Int, e = .returned (.int .i64 i) ∧ -1 ≤ i ∧ i ≤ 1000000 ∧ (0 ≤ i ↔ l.any P = true)) ∧ Below w.heap.size w w' := by
  have HL : Hid (l.length = N) := hl
  have HA : Hid (WrtsAt w a l) := hat
  have HC : Hid (∀ W ∈ l, ∀ u, Below w.heap.size w u → Calls Tryz.prog 87 #[wv W, .pointer (some ⟨x1, 0, none⟩)] u fun e w' => e = .returned (.bool (P W)) ∧ Below u.heap.size u w') := hcc
  clear hl hat hcc
  go_enter Tryz.func124, Tryz.ntmps124
  go_wp2
  go_loopw [8] (fun i wr => ∃ n : Nat, n ≤ N ∧ i = .int .i64 n ∧ Hid (IdxSk w wr P l n)) (fun i _ => N - (intOf i).toNat)
  case atStart => exact ⟨0, Nat.zero_le _, rfl, ⟨Below.refl _ _, fun W hW => by simp at hW⟩⟩
  case round =>
    obtain ⟨n, hn, rfl, HS⟩ := hrel
    have hn0 : (0 : Int) ≤ (n : Int) := by omega
    by_cases hlt : n < N
    · have h1 : (n : Int) < (N : Int) := by omega
      obtain ⟨W, hW⟩ : ∃ W, l[n]? = some W := ⟨_, List.getElem?_eq_getElem (by rw [HL.out]; exact hlt)⟩
      obtain ⟨b, o, rfl, hwa, hwo⟩ := (HA.out.past (w' := wr) HS.out.below).wrt hW
      have HWA : Hid (WrtAt wr b (o + n * 18) W) := hwa
      have HT : Hid (l.take (n + 1) = l.take n ++ [W]) := by show _ = _; rw [List.take_add_one, hW]; rfl
      have HWM : Hid (W ∈ l) := List.mem_of_getElem? hW
      have KW : Hid (Ky W.k) := hwo.key
      have CG0 := HC.out W HWM.out wr HS.out.below
      obtain ⟨pw, hpw⟩ : ∃ x, x = P W := ⟨_, rfl⟩
      have HPW : Hid (pw = P W) := hpw
      rw [← hpw] at CG0
      have CG : Hid (Calls Tryz.prog 87 #[wv W, .pointer (some ⟨x1, 0, none⟩)] wr fun e w' => e = .returned (.bool pw) ∧ Below wr.heap.size wr w') := CG0
      clear hwa hwo hW CG0 hpw
      cases pw with
      | true =>
        go_wp2_with (first | (have hgo := HWA.out; clear hgo; refine wpList_load_wrt 15 (by rfl) (by rfl) _ (by rfl) b (o + n * 18) (by rfl) W KW.out HWA.out ?_) | (go_at_call 87; refine CG.out.mono ?_; rintro e w3 ⟨rfl, hb3⟩; have H3 : Hid (Below w.heap.size w w3) := HS.out.below.trans (hb3.mono HS.out.below.size); clear hb3))
        go_ret
        refine ⟨⟨(n : Int), rfl, by omega, by omega, ?_⟩, H3.out⟩
        exact ⟨fun _ => List.any_eq_true.2 ⟨W, HWM.out, HPW.out.symm⟩, fun _ => hn0⟩
      | false =>
        go_wp2_with (first | (have hgo := HWA.out; clear hgo; refine wpList_load_wrt 15 (by rfl) (by rfl) _ (by rfl) b (o + n * 18) (by rfl) W KW.out HWA.out ?_) | (go_at_call 87; refine CG.out.mono ?_; rintro e w3 ⟨rfl, hb3⟩; have H3 : Hid (IdxSk w w3 P l (n + 1)) := ⟨HS.out.below.trans (hb3.mono HS.out.below.size), fun V hV => by rw [HT.out] at hV; rcases List.mem_append.1 hV with e | e; exact HS.out.none V e; simp at e; rw [e]; exact HPW.out.symm⟩; clear hb3))
        go_roundw
        case rel => exact ⟨n + 1, by omega, by go_num, H3⟩
        case measure => simp [intOf]; omega
    · obtain rfl : n = N := by omega
      have HT : Hid (l.take n = l) := List.take_of_length_le (by rw [HL.out]; exact Nat.le_refl _)
      go_wp2
      go_ret
      refine ⟨⟨-1, rfl, by omega, by omega, fun e => by omega, fun e => ?_⟩, HS.out.below⟩
      obtain ⟨W, hW, e2⟩ := List.any_eq_true.1 e
      rw [HS.out.none W (by rw [HT.out]; exact hW)] at e2
      cases e2
theorem pacf_any (a : Option Addr) (N cap : Nat) (l : List Wrt) (P : Wrt → Bool) (x1 : Nat) (w : World) (hl : l.length = N) (hc : N ≤ cap) (hN : N ≤ 1000000) (hat : WrtsAt w a l)
    (hcc : ∀ W ∈ l, ∀ u, Below w.heap.size w u → Calls Tryz.prog 87 #[wv W, .pointer (some ⟨x1, 0, none⟩)] u fun e w' => e = .returned (.bool (P W)) ∧ Below u.heap.size u w') :
    Calls Tryz.prog 83 #[.slice a N cap, .func (.func 87) #[] #[.pointer (some ⟨x1, 0, none⟩)]] w fun e w' => e = .returned (.bool (l.any P)) ∧ Below w.heap.size w w' := by
  have CI : Hid (Calls Tryz.prog 124 #[.slice a N cap, .func (.func 87) #[] #[.pointer (some ⟨x1, 0, none⟩)]] w fun e w' => (∃ i : Int, e = .returned (.int .i64 i) ∧ -1 ≤ i ∧ i ≤ 1000000 ∧ (0 ≤ i ↔ l.any P = true)) ∧ Below w.heap.size w w') := paif_any a N cap l P x1 w hl hc hN hat hcc
  obtain ⟨R, hR⟩ : ∃ R, R = l.any P := ⟨_, rfl⟩
  rw [← hR] at CI ⊢
  clear hl hat hcc hR
  go_enter Tryz.func83, Tryz.ntmps83
  go_wp2_with (go_at_call 124; refine CI.out.mono ?_; rintro e w1 ⟨⟨i, rfl, hi1, hi2, hi3⟩, hb1⟩; have HI : Hid (0 ≤ i ↔ R = true) := hi3; have HB : Hid (Below w.heap.size w w1) := hb1; clear hi3 hb1)
  go_ret
  refine ⟨?_, HB.out⟩
  by_cases h : 0 ≤ i
  · rw [HI.out.1 h]; simp [h]
  · have : R = false := by
      cases hR : R with
      | false => rfl
      | true => exact absurd (HI.out.2 hR) h
    rw [this]; simp [h]
end Go.Proofs.YtileidbdmpeciaaGreat
