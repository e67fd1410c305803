/-
  What the landed route answers: New and what it asks, Nodes, Of.
-/
import Derived.Test.YtdbgkbgodnknnaaRouMem
import Derived.Deep.RegionHeld3
import Derived.BigQuiet
namespace Go.Proofs.Ytdbgkbgodnknnaa
open Go.RowKit
set_option linter.unusedVariables false
set_option linter.unusedSimpArgs false

set_option maxHeartbeats 1000000 in
theorem rog1_any (k : List Int) (hk : Ky k) (w : World) :
    Calls Try.prog 36 #[kv k] w fun e w' => e = .returned (.bool (!goodK k)) ∧ Below w.heap.size w w' := by
  have HK : Hid (Ky k) := hk
  have HA : Hid (KeyAt (w.alloc (.cells (kcs k) 28)) w.heap.size 0 k) := KeyAt.made w 28 k hk
  have HB : Hid (Below w.heap.size w (w.alloc (.cells (kcs k) 28))) := (Below.refl _ _).alloc (Nat.le_refl _) _
  have CG : Hid (∀ u, Calls Try.prog 30 #[kv k] u fun e w' => e = .returned (.bool (goodK k)) ∧ Below u.heap.size u w') := fun u => kgood_any k hk u
  clear hk
  generalize goodK k = gk at CG ⊢
  go_enter Try.func36, Try.ntmps36
  go_wp2_with (first | (refine wpList_load_keyD 3 (by rfl) (by rfl) _ (by rfl) w.heap.size 0 (by rfl) k HK.out HA.out ?_) | (go_at_call 30; refine (CG.out _).mono ?_; rintro e w1 ⟨rfl, hb1⟩; have HB1 : Hid (Below w.heap.size w w1) := HB.out.trans (hb1.mono HB.out.size); clear hb1))
  go_ret
  exact ⟨rfl, HB1.out⟩
/-- What a walk over points knows: all up to here may be. -/
structure IdxR (w u : World) (l : List (List Int)) (n : Nat) : Prop where
  below : Below w.heap.size w u
  each : ∀ k ∈ l.take n, goodK k = true
theorem take_nextR {l : List (List Int)} {n : Nat} (h : n < l.length) : l.take (n + 1) = l.take n ++ [l.getD n []] := by rw [List.take_add_one]; simp [List.getD, h]
theorem getD_memR {l : List (List Int)} {n : Nat} (h : n < l.length) : l.getD n [] ∈ l := by
  have : l.getD n [] = l[n] := by simp [List.getD, h]
  rw [this]; exact List.getElem_mem h
set_option maxHeartbeats 2000000 in
theorem roidx_any (a : Option Addr) (N cap : Nat) (l : List (List Int)) (w : World) (hl : l.length = N) (hc : N ≤ cap) (hN : N ≤ 1000000) (hat : KeysAt w a l) :
    Calls Try.prog 39 #[.slice a N cap, .func (.func 36) #[] #[]] w fun e w' => (∃ i : Int, e = .returned (.int .i64 i) ∧ -1 ≤ i ∧ i ≤ 1000000 ∧ (0 ≤ i ↔ l.all goodK = false)) ∧ Below w.heap.size w w' := by
  have HL : Hid (l.length = N) := hl
  have HA : Hid (KeysAt w a l) := hat
  clear hl hat
  go_enter Try.func39, Try.ntmps39
  go_wp2
  go_loopw [8] (fun i wr => ∃ n : Nat, n ≤ N ∧ i = .int .i64 n ∧ Hid (IdxR w wr l n)) (fun i _ => N - (intOf i).toNat)
  case atStart => exact ⟨0, Nat.zero_le _, rfl, ⟨Below.refl _ _, fun W hW => by simp at hW⟩⟩
  case round =>
    obtain ⟨n, hn, rfl, HS⟩ := hrel
    have hn0 : (0 : Int) ≤ (n : Int) := by omega
    by_cases hlt : n < N
    · have h1 : (n : Int) < (N : Int) := by omega
      obtain ⟨b, o, hao, hka, hko⟩ := (HA.out.past HS.out.below).key (i := n) (by rw [HL.out]; exact hlt)
      subst hao
      obtain ⟨p, hp⟩ : ∃ x, x = l.getD n [] := ⟨_, rfl⟩
      rw [← hp] at hka hko
      have FK : Hid (KeyAt wr b (o + n * 16) p) := hka
      have HK : Hid (Ky p) := hko
      have HT : Hid (l.take (n + 1) = l.take n ++ [p]) := by rw [hp]; exact take_nextR (by rw [HL.out]; exact hlt)
      have HM : Hid (p ∈ l) := by rw [hp]; exact getD_memR (by rw [HL.out]; exact hlt)
      obtain ⟨g, hg⟩ : ∃ x, x = goodK p := ⟨_, rfl⟩
      have CG : Hid (Calls Try.prog 36 #[kv p] wr fun e w' => e = .returned (.bool (!g)) ∧ Below wr.heap.size wr w') := by rw [hg]; exact rog1_any p hko wr
      have HG : Hid (g = goodK p) := hg
      clear hka hko hp hg
      cases g with
      | false =>
        go_wp2_with (first | ((with_reducible show wpList _ _ _ (Oper.mk (some 15) _ _ _ _ _ :: _) _ _); refine wpList_load_keyD 15 (by rfl) (by rfl) _ (by rfl) b (o + n * 16) (by rfl) p HK.out FK.out ?_) | (go_at_call 36; refine CG.out.mono ?_; rintro e w3 ⟨rfl, hb3⟩; have H3 : Hid (Below w.heap.size w w3) := HS.out.below.trans (hb3.mono HS.out.below.size); clear hb3))
        go_ret
        refine ⟨⟨(n : Int), rfl, by omega, by omega, fun _ => ?_, fun _ => hn0⟩, H3.out⟩
        rw [Bool.eq_false_iff]
        intro hall
        have := List.all_eq_true.1 hall p HM.out
        rw [← HG.out] at this
        cases this
      | true =>
        go_wp2_with (first | ((with_reducible show wpList _ _ _ (Oper.mk (some 15) _ _ _ _ _ :: _) _ _); refine wpList_load_keyD 15 (by rfl) (by rfl) _ (by rfl) b (o + n * 16) (by rfl) p HK.out FK.out ?_) | (go_at_call 36; refine CG.out.mono ?_; rintro e w3 ⟨rfl, hb3⟩; have H3 : Hid (IdxR w w3 l (n + 1)) := ⟨HS.out.below.trans (hb3.mono HS.out.below.size), fun V hV => by rw [HT.out] at hV; rcases List.mem_append.1 hV with e | e; exact HS.out.each V e; simp at e; rw [e]; exact HG.out.symm⟩; clear hb3))
        go_roundw
        case rel => exact ⟨n + 1, by omega, by go_num, H3⟩
        case measure => simp [intOf]; omega
    · obtain rfl : n = N := by omega
      have HT : Hid (l.take n = l) := List.take_of_length_le (by rw [HL.out]; exact Nat.le_refl _)
      go_wp2
      go_ret
      refine ⟨⟨-1, rfl, by omega, by omega, fun e => by omega, fun e => ?_⟩, HS.out.below⟩
      have : l.all goodK = true := List.all_eq_true.2 (fun x hx => HS.out.each x (by rw [HT.out]; exact hx))
      rw [this] at e
      cases e
theorem rocf_any (a : Option Addr) (N cap : Nat) (l : List (List Int)) (w : World) (hl : l.length = N) (hc : N ≤ cap) (hN : N ≤ 1000000) (hat : KeysAt w a l) :
    Calls Try.prog 35 #[.slice a N cap, .func (.func 36) #[] #[]] w fun e w' => e = .returned (.bool (!l.all goodK)) ∧ Below w.heap.size w w' := by
  have CI : Hid (Calls Try.prog 39 #[.slice a N cap, .func (.func 36) #[] #[]] w fun e w' => (∃ i : Int, e = .returned (.int .i64 i) ∧ -1 ≤ i ∧ i ≤ 1000000 ∧ (0 ≤ i ↔ l.all goodK = false)) ∧ Below w.heap.size w w') := roidx_any a N cap l w hl hc hN hat
  obtain ⟨R, hR⟩ : ∃ R, R = l.all goodK := ⟨_, rfl⟩
  rw [← hR] at CI ⊢
  clear hl hat hR
  go_enter Try.func35, Try.ntmps35
  go_wp2_with (go_at_call 39; refine CI.out.mono ?_; rintro e w1 ⟨⟨i, rfl, hi1, hi2, hi3⟩, hb1⟩; have HI : Hid (0 ≤ i ↔ R = false) := hi3; have HB : Hid (Below w.heap.size w w1) := hb1; clear hi3 hb1)
  go_ret
  refine ⟨?_, HB.out⟩
  by_cases h : 0 ≤ i
  · rw [HI.out.1 h]; simp [h]
  · have : R = true := by
      cases hR : R with
      | true => rfl
      | false => exact absurd (HI.out.2 hR) h
    rw [this]; simp [h]
theorem rogood_any (a : Option Addr) (N cap : Nat) (l : List (List Int)) (w : World) (hl : l.length = N) (hc : N ≤ cap) (hN : N ≤ 1000000) (hat : KeysAt w a l) :
    Calls Try.prog 26 #[.slice a N cap] w fun e w' => e = .returned (.bool (l.all goodK)) ∧ Below w.heap.size w w' := by
  have CI : Hid (Calls Try.prog 35 #[.slice a N cap, .func (.func 36) #[] #[]] w fun e w' => e = .returned (.bool (!l.all goodK)) ∧ Below w.heap.size w w') := rocf_any a N cap l w hl hc hN hat
  obtain ⟨R, hR⟩ : ∃ R, R = l.all goodK := ⟨_, rfl⟩
  rw [← hR] at CI ⊢
  clear hl hat hR
  go_enter Try.func26, Try.ntmps26
  go_wp2_with (go_at_call 35; refine CI.out.mono ?_; rintro e w1 ⟨rfl, hb1⟩; have HB : Hid (Below w.heap.size w w1) := hb1; clear hb1)
  go_ret
  exact ⟨by simp, HB.out⟩
set_option maxHeartbeats 2000000 in
theorem rorise_any (a : Option Addr) (N cap : Nat) (l : List (List Int)) (w : World) (hl : l.length = N) (hc : N ≤ cap) (hN : N ≤ 1000000) (hat : KeysAt w a l) :
    Calls Try.prog 27 #[.slice a N cap] w fun e w' => e = .returned (.bool (riseR l)) ∧ Below w.heap.size w w' := by
  have HL : Hid (l.length = N) := hl
  have HA : Hid (KeysAt w a l) := hat
  obtain ⟨R, hR⟩ : ∃ R, R = riseR l := ⟨_, rfl⟩
  have HR : Hid (R = riseR l) := hR
  rw [← hR]
  clear hl hat hR
  go_enter Try.func27, Try.ntmps27
  go_wp2
  go_loopw [3] (fun iv wr => ∃ j : Nat, j ≤ N ∧ iv = .int .i64 ((j + 1 : Nat) : Int) ∧ Hid (Below w.heap.size w wr) ∧ Hid (∀ i, i < j → lexC (l.getD i []) (l.getD (i + 1) []) < 0)) (fun iv _ => N + 1 - (intOf iv).toNat)
  case atStart => exact ⟨0, Nat.zero_le _, rfl, Below.refl _ _, fun i hi => by omega⟩
  case round =>
    obtain ⟨j, hj, rfl, HB, HS⟩ := hrel
    have hj0 : (0 : Int) ≤ (j : Int) := by omega
    have hj1 : (0 : Int) ≤ (j : Int) + 1 := by omega
    by_cases hlt : j + 1 < N
    · have h1 : (j : Int) + 1 < (N : Int) := by omega
      have h2 : (j : Int) < (N : Int) := by omega
      have hwj : IntKind.i64.wrap (j : Int) = (j : Int) := by rw [IntKind.wrap_i64]; omega
      have hk0 := fun u (hu : Below wr.heap.size wr u) => (HA.out.past (HB.out.trans (hu.mono HB.out.size))).key (i := j) (by rw [HL.out]; omega)
      have hk1 := fun u (hu : Below wr.heap.size wr u) => (HA.out.past (HB.out.trans (hu.mono HB.out.size))).key (i := j + 1) (by rw [HL.out]; omega)
      obtain ⟨b, o, hao, -, hky0⟩ := hk0 wr (Below.refl _ _)
      subst hao
      have F0 : Hid (∀ u, Below wr.heap.size wr u → KeyAt u b (o + j * 16) (l.getD j [])) := fun u hu => by
        obtain ⟨b2, o2, e, h3, _⟩ := hk0 u hu
        injection e with e
        injection e with e1 e2
        subst e1
        subst e2
        exact h3
      have F1 : Hid (∀ u, Below wr.heap.size wr u → KeyAt u b (o + (j + 1) * 16) (l.getD (j + 1) [])) := fun u hu => by
        obtain ⟨b2, o2, e, h3, _⟩ := hk1 u hu
        injection e with e
        injection e with e1 e2
        subst e1
        subst e2
        exact h3
      obtain ⟨_, _, -, -, hky1⟩ := hk1 wr (Below.refl _ _)
      obtain ⟨p, hp⟩ : ∃ x, x = l.getD j [] := ⟨_, rfl⟩
      obtain ⟨p2, hp2⟩ : ∃ x, x = l.getD (j + 1) [] := ⟨_, rfl⟩
      rw [← hp] at F0 hky0
      rw [← hp2] at F1 hky1
      have K0 : Hid (Ky p) := hky0
      have K1 : Hid (Ky p2) := hky1
      obtain ⟨r, hr⟩ : ∃ x, x = lexC p p2 := ⟨_, rfl⟩
      have CC : Hid (∀ u, Calls Try.prog 31 #[kv p, kv p2] u fun e w' => e = .returned (.int .i64 r) ∧ Below u.heap.size u w') := fun u => by rw [hr]; exact kcmp_any p p2 hky0 hky1 u
      have HP : Hid (r = lexC (l.getD j []) (l.getD (j + 1) [])) := by rw [← hp, ← hp2]; exact hr
      clear hk0 hk1 hky0 hky1 hp hp2 hr
      by_cases hr0 : 0 ≤ r
      · have HR2 : Hid (R = false) := by
          show _ = _
          rw [HR.out]
          refine decide_eq_false (fun h => ?_)
          have := h j (by rw [HL.out]; omega)
          rw [← HP.out] at this
          omega
        have d1 : decide (0 ≤ r) = true := decide_eq_true hr0
        go_wp2
        refine wp_region_noPanic ?_
        refine wp_region_held_drew (S := fun u => Below wr.heap.size wr u) (by kernel_rfl) ?_ (fun hHeld => ?_)
        · exact (Below.refl _ _).drew
        refine wpAnyH_take (i := 0) (v := ?_) rfl (by kernel_rfl) (by kernel_rfl) (by kernel_rfl) (fun _ _ _ h => h) (Or.inl ⟨by rfl, ?_⟩) hHeld ?_
        rotate_left
        · intro u hSu
          (go_simp) <;> (with_reducible rfl)
        change wpAnyH _ _ _ _ _ _ _ (Act.put _ (some 10) _) _
        simp only [Act.put, List.setIfInBounds_toArray, List.set_cons_zero, List.set_cons_succ]
        refine wpAnyH_take (i := 1) (v := ?_) rfl (by kernel_rfl) (by kernel_rfl) (by kernel_rfl) (fun _ _ _ h => h) (Or.inl ⟨by rfl, ?_⟩) hHeld ?_
        rotate_left
        · intro u hSu
          (go_simp) <;> (with_reducible rfl)
        change wpAnyH _ _ _ _ _ _ _ (Act.put _ (some 11) _) _
        simp only [Act.put, List.setIfInBounds_toArray, List.set_cons_zero, List.set_cons_succ]
        refine wpAnyH_take (i := 2) (v := ?_) rfl (by kernel_rfl) (by kernel_rfl) (by kernel_rfl) (fun _ _ _ h => h) (Or.inl ⟨by rfl, ?_⟩) hHeld ?_
        rotate_left
        · intro u hSu
          (go_simp) <;> (with_reducible rfl)
        change wpAnyH _ _ _ _ _ _ _ (Act.put _ (some 12) _) _
        simp only [Act.put, List.setIfInBounds_toArray, List.set_cons_zero, List.set_cons_succ]
        refine wpAnyH_take (i := 3) (v := ?_) rfl (by kernel_rfl) (by kernel_rfl) (by kernel_rfl) (fun _ _ _ h => h) (Or.inl ⟨by rfl, ?_⟩) hHeld ?_
        rotate_left
        · intro u hSu
          (go_simp) <;> (with_reducible rfl)
        change wpAnyH _ _ _ _ _ _ _ (Act.put _ (some 13) _) _
        simp only [Act.put, List.setIfInBounds_toArray, List.set_cons_zero, List.set_cons_succ]
        refine wpAnyH_take (i := 4) (v := kv p) rfl (by kernel_rfl) (by kernel_rfl) (by kernel_rfl) (fun _ _ _ h => h) (yieldsIf_load_mid (by rfl) _ _ rfl _ _ rfl (p.map (Value.int .u8)) _ (fun u hu => (F0.out u hu).range K0.out) Try.underlying28 rfl (info_keyl p K0.out)) hHeld ?_
        change wpAnyH _ _ _ _ _ _ _ (Act.put _ (some 14) _) _
        simp only [Act.put, List.setIfInBounds_toArray, List.set_cons_zero, List.set_cons_succ]
        refine wpAnyH_take (i := 5) (v := ?_) rfl (by kernel_rfl) (by kernel_rfl) (by kernel_rfl) (fun _ _ _ h => h) (Or.inl ⟨by rfl, ?_⟩) hHeld ?_
        rotate_left
        · intro u hSu
          (go_simp) <;> (with_reducible rfl)
        change wpAnyH _ _ _ _ _ _ _ (Act.put _ (some 15) _) _
        simp only [Act.put, List.setIfInBounds_toArray, List.set_cons_zero, List.set_cons_succ]
        refine wpAnyH_take (i := 6) (v := ?_) rfl (by kernel_rfl) (by kernel_rfl) (by kernel_rfl) (fun _ _ _ h => h) (Or.inl ⟨by rfl, ?_⟩) hHeld ?_
        rotate_left
        · intro u hSu
          (go_simp) <;> (with_reducible rfl)
        change wpAnyH _ _ _ _ _ _ _ (Act.put _ (some 16) _) _
        simp only [Act.put, List.setIfInBounds_toArray, List.set_cons_zero, List.set_cons_succ]
        refine wpAnyH_take (i := 7) (v := ?_) rfl (by kernel_rfl) (by kernel_rfl) (by kernel_rfl) (fun _ _ _ h => h) (Or.inl ⟨by rfl, ?_⟩) hHeld ?_
        rotate_left
        · intro u hSu
          (go_simp) <;> (with_reducible rfl)
        change wpAnyH _ _ _ _ _ _ _ (Act.put _ (some 17) _) _
        simp only [Act.put, List.setIfInBounds_toArray, List.set_cons_zero, List.set_cons_succ]
        refine wpAnyH_take (i := 8) (v := kv p2) rfl (by kernel_rfl) (by kernel_rfl) (by kernel_rfl) (fun _ _ _ h => h) (yieldsIf_load_mid (by rfl) _ _ rfl _ _ rfl (p2.map (Value.int .u8)) _ (fun u hu => (F1.out u hu).range K1.out) Try.underlying28 rfl (info_keyl p2 K1.out)) hHeld ?_
        change wpAnyH _ _ _ _ _ _ _ (Act.put _ (some 18) _) _
        simp only [Act.put, List.setIfInBounds_toArray, List.set_cons_zero, List.set_cons_succ]
        refine wpAnyH_ready (rs := [9]) (by kernel_rfl) (by simp) ?_
        refine AllReadyH.cons rfl (fun K hK => ?_) AllReadyH.nil
        go_simp
        go_at_call 31
        refine (CC.out _).mono ?_
        rintro e w3 ⟨rfl, hbw3⟩
        have B3 : Hid (Below wr.heap.size wr w3) := hHeld.trans (hbw3.mono hHeld.size)
        clear hbw3
        refine hK.out _ _ ?_ (fun hHeld2 => ?_)
        · exact B3.out
        clear hK K hHeld
        have hHeld := hHeld2
        clear hHeld2
        refine wpAnyH_take (i := 10) (v := ?_) rfl (by kernel_rfl) (by kernel_rfl) (by kernel_rfl) (fun _ _ _ h => h) (Or.inl ⟨by rfl, ?_⟩) hHeld ?_
        rotate_left
        · intro u hSu
          (go_simp) <;> (with_reducible rfl)
        change wpAnyH _ _ _ _ _ _ _ (Act.put _ (some 20) _) _
        simp only [Act.put, List.setIfInBounds_toArray, List.set_cons_zero, List.set_cons_succ]
        refine wpAnyH_done (by kernel_rfl) ?_ _
        refine NoPanic.normal ?_
        go_wp2
        go_ret
        exact ⟨by rw [HR2.out]; rfl, HB.out.trans (B3.out.mono HB.out.size)⟩
      · have d1 : decide (0 ≤ r) = false := decide_eq_false hr0
        have HS2 : Hid (∀ i, i < j + 1 → lexC (l.getD i []) (l.getD (i + 1) []) < 0) := fun i hi => by
          by_cases e : i = j
          · rw [e, ← HP.out]; omega
          · exact HS.out i (by omega)
        go_wp2
        refine wp_region_noPanic ?_
        refine wp_region_held_drew (S := fun u => Below wr.heap.size wr u) (by kernel_rfl) ?_ (fun hHeld => ?_)
        · exact (Below.refl _ _).drew
        refine wpAnyH_take (i := 0) (v := ?_) rfl (by kernel_rfl) (by kernel_rfl) (by kernel_rfl) (fun _ _ _ h => h) (Or.inl ⟨by rfl, ?_⟩) hHeld ?_
        rotate_left
        · intro u hSu
          (go_simp) <;> (with_reducible rfl)
        change wpAnyH _ _ _ _ _ _ _ (Act.put _ (some 10) _) _
        simp only [Act.put, List.setIfInBounds_toArray, List.set_cons_zero, List.set_cons_succ]
        refine wpAnyH_take (i := 1) (v := ?_) rfl (by kernel_rfl) (by kernel_rfl) (by kernel_rfl) (fun _ _ _ h => h) (Or.inl ⟨by rfl, ?_⟩) hHeld ?_
        rotate_left
        · intro u hSu
          (go_simp) <;> (with_reducible rfl)
        change wpAnyH _ _ _ _ _ _ _ (Act.put _ (some 11) _) _
        simp only [Act.put, List.setIfInBounds_toArray, List.set_cons_zero, List.set_cons_succ]
        refine wpAnyH_take (i := 2) (v := ?_) rfl (by kernel_rfl) (by kernel_rfl) (by kernel_rfl) (fun _ _ _ h => h) (Or.inl ⟨by rfl, ?_⟩) hHeld ?_
        rotate_left
        · intro u hSu
          (go_simp) <;> (with_reducible rfl)
        change wpAnyH _ _ _ _ _ _ _ (Act.put _ (some 12) _) _
        simp only [Act.put, List.setIfInBounds_toArray, List.set_cons_zero, List.set_cons_succ]
        refine wpAnyH_take (i := 3) (v := ?_) rfl (by kernel_rfl) (by kernel_rfl) (by kernel_rfl) (fun _ _ _ h => h) (Or.inl ⟨by rfl, ?_⟩) hHeld ?_
        rotate_left
        · intro u hSu
          (go_simp) <;> (with_reducible rfl)
        change wpAnyH _ _ _ _ _ _ _ (Act.put _ (some 13) _) _
        simp only [Act.put, List.setIfInBounds_toArray, List.set_cons_zero, List.set_cons_succ]
        refine wpAnyH_take (i := 4) (v := kv p) rfl (by kernel_rfl) (by kernel_rfl) (by kernel_rfl) (fun _ _ _ h => h) (yieldsIf_load_mid (by rfl) _ _ rfl _ _ rfl (p.map (Value.int .u8)) _ (fun u hu => (F0.out u hu).range K0.out) Try.underlying28 rfl (info_keyl p K0.out)) hHeld ?_
        change wpAnyH _ _ _ _ _ _ _ (Act.put _ (some 14) _) _
        simp only [Act.put, List.setIfInBounds_toArray, List.set_cons_zero, List.set_cons_succ]
        refine wpAnyH_take (i := 5) (v := ?_) rfl (by kernel_rfl) (by kernel_rfl) (by kernel_rfl) (fun _ _ _ h => h) (Or.inl ⟨by rfl, ?_⟩) hHeld ?_
        rotate_left
        · intro u hSu
          (go_simp) <;> (with_reducible rfl)
        change wpAnyH _ _ _ _ _ _ _ (Act.put _ (some 15) _) _
        simp only [Act.put, List.setIfInBounds_toArray, List.set_cons_zero, List.set_cons_succ]
        refine wpAnyH_take (i := 6) (v := ?_) rfl (by kernel_rfl) (by kernel_rfl) (by kernel_rfl) (fun _ _ _ h => h) (Or.inl ⟨by rfl, ?_⟩) hHeld ?_
        rotate_left
        · intro u hSu
          (go_simp) <;> (with_reducible rfl)
        change wpAnyH _ _ _ _ _ _ _ (Act.put _ (some 16) _) _
        simp only [Act.put, List.setIfInBounds_toArray, List.set_cons_zero, List.set_cons_succ]
        refine wpAnyH_take (i := 7) (v := ?_) rfl (by kernel_rfl) (by kernel_rfl) (by kernel_rfl) (fun _ _ _ h => h) (Or.inl ⟨by rfl, ?_⟩) hHeld ?_
        rotate_left
        · intro u hSu
          (go_simp) <;> (with_reducible rfl)
        change wpAnyH _ _ _ _ _ _ _ (Act.put _ (some 17) _) _
        simp only [Act.put, List.setIfInBounds_toArray, List.set_cons_zero, List.set_cons_succ]
        refine wpAnyH_take (i := 8) (v := kv p2) rfl (by kernel_rfl) (by kernel_rfl) (by kernel_rfl) (fun _ _ _ h => h) (yieldsIf_load_mid (by rfl) _ _ rfl _ _ rfl (p2.map (Value.int .u8)) _ (fun u hu => (F1.out u hu).range K1.out) Try.underlying28 rfl (info_keyl p2 K1.out)) hHeld ?_
        change wpAnyH _ _ _ _ _ _ _ (Act.put _ (some 18) _) _
        simp only [Act.put, List.setIfInBounds_toArray, List.set_cons_zero, List.set_cons_succ]
        refine wpAnyH_ready (rs := [9]) (by kernel_rfl) (by simp) ?_
        refine AllReadyH.cons rfl (fun K hK => ?_) AllReadyH.nil
        go_simp
        go_at_call 31
        refine (CC.out _).mono ?_
        rintro e w3 ⟨rfl, hbw3⟩
        have B3 : Hid (Below wr.heap.size wr w3) := hHeld.trans (hbw3.mono hHeld.size)
        clear hbw3
        refine hK.out _ _ ?_ (fun hHeld2 => ?_)
        · exact B3.out
        clear hK K hHeld
        have hHeld := hHeld2
        clear hHeld2
        refine wpAnyH_take (i := 10) (v := ?_) rfl (by kernel_rfl) (by kernel_rfl) (by kernel_rfl) (fun _ _ _ h => h) (Or.inl ⟨by rfl, ?_⟩) hHeld ?_
        rotate_left
        · intro u hSu
          (go_simp) <;> (with_reducible rfl)
        change wpAnyH _ _ _ _ _ _ _ (Act.put _ (some 20) _) _
        simp only [Act.put, List.setIfInBounds_toArray, List.set_cons_zero, List.set_cons_succ]
        refine wpAnyH_done (by kernel_rfl) ?_ _
        refine NoPanic.normal ?_
        go_wp2
        go_roundw
        case rel => exact ⟨j + 1, by omega, by go_num, HB.out.trans (B3.out.mono HB.out.size), HS2⟩
        case measure => simp [intOf]; omega
    · have h1 : ¬ (j : Int) + 1 < (N : Int) := by omega
      have HR2 : Hid (R = true) := by
        show _ = _
        rw [HR.out]
        exact decide_eq_true (fun i hi => HS.out i (by rw [HL.out] at hi; omega))
      go_wp2
      go_ret
      exact ⟨by rw [HR2.out]; rfl, HB.out⟩
end Go.Proofs.Ytdbgkbgodnknnaa
