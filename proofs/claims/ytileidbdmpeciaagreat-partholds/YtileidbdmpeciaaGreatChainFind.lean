/-
  Where a stamp lies in the landed chains: the closure that find hands on, slices.BinarySearchFunc at lists of versions, find, upTo.
-/
import Derived.Test.YtileidbdmpeciaaGreatAu72
import Derived.Deep.RegionHeld3
namespace Go.Proofs.YtileidbdmpeciaaGreat
open Go.RowKit
set_option linter.unusedVariables false

theorem cclos_any (V : Ver) (t n : Int) (w : World) :
    Calls Tryz.prog 167 #[cvv V, .agg #[.int .i64 t, .int .u8 n]] w fun e w' => e = .returned (.int .i64 (cmpS V.t V.n t n)) ∧ Below w.heap.size w w' := by
  obtain ⟨t1, n1, S1, g1, h⟩ : ∃ t1 n1 S1 g1, t1 = V.t ∧ n1 = V.n ∧ S1 = strOfNums V.v ∧ g1 = V.g := ⟨_, _, _, _, rfl, rfl, rfl, rfl⟩
  obtain ⟨e1, e2, e3, e4⟩ := h
  show Calls Tryz.prog 167 #[.agg #[.int .i64 V.t, .int .u8 V.n, .string (strOfNums V.v), .bool V.g], .agg #[.int .i64 t, .int .u8 n]] w fun e w' => e = .returned (.int .i64 (cmpS V.t V.n t n)) ∧ Below w.heap.size w w'
  rw [← e1, ← e2, ← e3, ← e4]
  clear e1 e2 e3 e4
  obtain ⟨c1, hc1⟩ : ∃ c, c = cmpS t1 n1 t n := ⟨_, rfl⟩
  have CC : Hid (∀ u, Calls Tryz.prog 49 #[.agg #[.int .i64 t1, .int .u8 n1], .agg #[.int .i64 t, .int .u8 n]] u fun e w' => e = .returned (.int .i64 c1) ∧ Below u.heap.size u w') := fun u => by rw [hc1]; exact scmp_any t1 n1 t n u
  have HB : Hid (Below w.heap.size w ((w.alloc (.cells #[.int .i64 t1, .int .u8 n1, .string S1, .bool g1] 136)).alloc (.cells #[.int .i64 t, .int .u8 n] 28))) := ((Below.refl _ _).alloc (Nat.le_refl _) _).alloc (by simp) _
  rw [← hc1]
  clear hc1
  go_enter Tryz.func167, Tryz.ntmps167
  go_wp2_with (go_at_call 49; refine (CC.out _).mono ?_; rintro e w1 ⟨rfl, hb1⟩; have HB1 : Hid (Below w.heap.size w w1) := HB.out.trans (hb1.mono HB.out.size); clear hb1)
  go_ret
  exact ⟨rfl, HB1.out⟩
set_option maxHeartbeats 4000000 in
set_option maxRecDepth 4000 in
theorem csearch_any (a : Option Addr) (c N : Nat) (L : List Ver) (t n : Int) (w : World) (hN : L.length = N) (hu : Ups L) (hfew : N ≤ 1000) (hrow : CRow w (.slice a L.length c) L) :
    Calls Tryz.prog 166 #[.slice a N c, .agg #[.int .i64 t, .int .u8 n], .func (.func 167) #[] #[]] w fun e w' => e = .returned (.tuple #[.int .i64 (loN L t n : Nat), .bool (hitN L t n)]) ∧ Below w.heap.size w w' := by
  obtain ⟨w1, hw1⟩ : ∃ u, u = w.alloc (.cells #[.int .i64 t, .int .u8 n] 28) := ⟨_, rfl⟩
  have HB1 : Hid (Below w.heap.size w w1) := by rw [hw1]; exact (Below.refl _ _).alloc (Nat.le_refl _) _
  have FT : Hid (∀ u, Below w1.heap.size w1 u → u.cell? ⟨w.heap.size, 0, none⟩ = some (.int .i64 t) ∧ u.cell? ⟨w.heap.size, 1, none⟩ = some (.int .u8 n)) := fun u hb => by
    have hlt : w.heap.size < w1.heap.size := by rw [hw1]; simp
    refine ⟨(hb.cell (p := ⟨w.heap.size, 0, none⟩) hlt).trans ?_, (hb.cell (p := ⟨w.heap.size, 1, none⟩) hlt).trans ?_⟩ <;> (rw [hw1, World.cell?_alloc_new]; rfl)
  have HROW : Hid (∀ u, Below w1.heap.size w1 u → CRow u (.slice a L.length c) L) := fun u hb => own_below hrow (HB1.out.trans (hb.mono HB1.out.size)) (Nat.le_refl _)
  have HNL : Hid (L.length = N) := hN
  have HU : Hid (Ups L) := hu
  have hlo := lo_le L t n
  obtain ⟨lo, hlo1⟩ : ∃ k, k = loN L t n := ⟨_, rfl⟩
  obtain ⟨ht, hht⟩ : ∃ b, b = hitN L t n := ⟨_, rfl⟩
  have HLO : Hid (lo = loN L t n) := hlo1
  have HHT : Hid (ht = hitN L t n) := hht
  rw [← hlo1, ← hht]
  have HW1 : Hid (w.alloc (.cells #[.int .i64 t, .int .u8 n] 28) = w1) := hw1.symm
  have CL : Hid (∀ V : Ver, ∀ u, Calls Tryz.prog 167 #[cvv V, .agg #[.int .i64 t, .int .u8 n]] u fun e w' => e = .returned (.int .i64 (cmpS V.t V.n t n)) ∧ Below u.heap.size u w') := fun V u => cclos_any V t n u
  clear hlo hlo1 hht hN hu hrow hw1
  go_enter Tryz.func166, Tryz.ntmps166
  go_wp2
  rw [HW1.out]
  go_loopw [9, 10] (fun iv jv wr => ∃ i j : Nat, iv = .int .i64 i ∧ jv = .int .i64 j ∧ i ≤ j ∧ j ≤ N ∧ Hid (Below w1.heap.size w1 wr) ∧ Hid ((∀ k V, k < i → L[k]? = some V → cmpS V.t V.n t n < 0) ∧ (∀ k V, j ≤ k → L[k]? = some V → 0 ≤ cmpS V.t V.n t n))) (fun iv jv _ => (intOf jv - intOf iv).toNat)
  case atStart => exact ⟨0, N, rfl, rfl, Nat.zero_le _, Nat.le_refl _, Below.refl _ _, fun k V h => absurd h (Nat.not_lt_zero _), fun k V h1 h2 => by have := (List.getElem?_eq_some_iff.1 h2).1; rw [HNL.out] at this; omega⟩
  case round =>
    obtain ⟨i, j, rfl, rfl, hij, hjN, HW, HI⟩ := hrel
    by_cases hlt : i < j
    · obtain ⟨h, hh⟩ : ∃ h : Nat, h = (i + j) / 2 := ⟨_, rfl⟩
      have hhi : ((i : Int) + (j : Int)) / 2 = (h : Int) := by omega
      have h1 : i ≤ h := by omega
      have h2 : h < j := by omega
      have hhN : h < N := by omega
      clear hh
      obtain ⟨V1, hV1⟩ : ∃ V, L[h]? = some V := ⟨_, List.getElem?_eq_getElem (by rw [HNL.out]; exact hhN)⟩
      have HV : Hid (L[h]? = some V1) := hV1
      obtain ⟨g, hag, _, _⟩ := (HROW.out _ (Below.refl _ _)).ver hV1
      subst hag
      obtain ⟨t1, n1, S1, g1, hq⟩ : ∃ t1 n1 S1 g1, t1 = V1.t ∧ n1 = V1.n ∧ S1 = strOfNums V1.v ∧ g1 = V1.g := ⟨_, _, _, _, rfl, rfl, rfl, rfl⟩
      obtain ⟨e1, e2, e3, e4⟩ := hq
      have FV : Hid (∀ u, Below wr.heap.size wr u → u.cell? ⟨g, h * 4, none⟩ = some (.int .i64 t1) ∧ u.cell? ⟨g, h * 4 + 1, none⟩ = some (.int .u8 n1) ∧ u.cell? ⟨g, h * 4 + 2, none⟩ = some (.string S1) ∧ u.cell? ⟨g, h * 4 + 3, none⟩ = some (.bool g1)) := fun u hb => by
        obtain ⟨g', e, _, hat⟩ := (HROW.out u (HW.out.trans (hb.mono HW.out.size))).ver HV.out
        injection e with e
        injection e with e
        subst e
        rw [e1, e2, e3, e4]
        exact ⟨hat.c0, hat.c1, hat.c2, hat.c3⟩
      have FT2 : Hid (∀ u, Below wr.heap.size wr u → u.cell? ⟨w.heap.size, 0, none⟩ = some (.int .i64 t) ∧ u.cell? ⟨w.heap.size, 1, none⟩ = some (.int .u8 n)) := fun u hb => FT.out u (HW.out.trans (hb.mono HW.out.size))
      obtain ⟨c1, hc1⟩ : ∃ c, c = cmpS V1.t V1.n t n := ⟨_, rfl⟩
      have HC1 : Hid (c1 = cmpS V1.t V1.n t n) := hc1
      have CL1 : Hid (∀ u, Calls Tryz.prog 167 #[.agg #[.int .i64 t1, .int .u8 n1, .string S1, .bool g1], .agg #[.int .i64 t, .int .u8 n]] u fun e w' => e = .returned (.int .i64 c1) ∧ Below u.heap.size u w') := fun u => by rw [hc1, e1, e2, e3, e4]; exact CL.out V1 u
      clear hV1 e1 e2 e3 e4 hc1
      by_cases hc : c1 < 0
      · have bc : decide (c1 < 0) = true := decide_eq_true hc
        go_wp2
        refine wp_region_noPanic ?_
        refine wp_region_held_drew (S := fun u => Below wr.heap.size wr u) (by kernel_rfl) ?_ (fun hHeld => ?_)
        · exact (Below.refl _ _).drew
        refine wpAnyH_take (i := 0) (v := ?_) rfl (by kernel_rfl) (by kernel_rfl) (by kernel_rfl) (fun _ _ _ h => h) (Or.inl ⟨by rfl, ?_⟩) hHeld ?_
        rotate_left
        · intro u hSu
          (go_simp) <;> (with_reducible rfl)
        change wpAnyH _ _ _ _ _ _ _ (Act.put _ (some 24) _) _
        simp only [Act.put, List.setIfInBounds_toArray, List.set_cons_zero, List.set_cons_succ]
        refine wpAnyH_take (i := 1) (v := ?_) rfl (by kernel_rfl) (by kernel_rfl) (by kernel_rfl) (fun _ _ _ h => h) (Or.inl ⟨by rfl, ?_⟩) hHeld ?_
        rotate_left
        · intro u hSu
          (go_simp) <;> (with_reducible rfl)
        change wpAnyH _ _ _ _ _ _ _ (Act.put _ (some 25) _) _
        simp only [Act.put, List.setIfInBounds_toArray, List.set_cons_zero, List.set_cons_succ]
        refine wpAnyH_take (i := 2) (v := ?_) rfl (by kernel_rfl) (by kernel_rfl) (by kernel_rfl) (fun _ _ _ h => h) (Or.inl ⟨by rfl, ?_⟩) hHeld ?_
        rotate_left
        · intro u hSu
          (go_simp) <;> (with_reducible rfl)
        change wpAnyH _ _ _ _ _ _ _ (Act.put _ (some 26) _) _
        simp only [Act.put, List.setIfInBounds_toArray, List.set_cons_zero, List.set_cons_succ]
        refine wpAnyH_take (i := 3) (v := ?_) rfl (by kernel_rfl) (by kernel_rfl) (by kernel_rfl) (fun _ _ _ h => h) (Or.inl ⟨by rfl, ?_⟩) hHeld ?_
        rotate_left
        · intro u hSu
          (go_simp) <;> (with_reducible rfl)
        change wpAnyH _ _ _ _ _ _ _ (Act.put _ (some 27) _) _
        simp only [Act.put, List.setIfInBounds_toArray, List.set_cons_zero, List.set_cons_succ]
        refine wpAnyH_take (i := 4) (v := ?_) rfl (by kernel_rfl) (by kernel_rfl) (by kernel_rfl) (fun _ _ _ h => h) (Or.inl ⟨by rfl, ?_⟩) hHeld ?_
        rotate_left
        · intro u hSu
          obtain ⟨y0, y1, y2, y3⟩ := FV.out u hSu
          (go_simp) <;> (with_reducible rfl)
        change wpAnyH _ _ _ _ _ _ _ (Act.put _ (some 28) _) _
        simp only [Act.put, List.setIfInBounds_toArray, List.set_cons_zero, List.set_cons_succ]
        refine wpAnyH_take (i := 5) (v := ?_) rfl (by kernel_rfl) (by kernel_rfl) (by kernel_rfl) (fun _ _ _ h => h) (Or.inl ⟨by rfl, ?_⟩) hHeld ?_
        rotate_left
        · intro u hSu
          obtain ⟨y0, y1⟩ := FT2.out u hSu
          (go_simp) <;> (with_reducible rfl)
        change wpAnyH _ _ _ _ _ _ _ (Act.put _ (some 29) _) _
        simp only [Act.put, List.setIfInBounds_toArray, List.set_cons_zero, List.set_cons_succ]
        refine wpAnyH_ready (rs := [6]) (by kernel_rfl) (by simp) ?_
        refine AllReadyH.cons rfl (fun K hK => ?_) AllReadyH.nil
        go_simp
        go_at_call 167
        refine (CL1.out _).mono ?_
        rintro e x1 ⟨rfl, hbx1⟩
        have B1 : Hid (Below wr.heap.size wr x1) := hHeld.trans (hbx1.mono hHeld.size)
        clear hbx1
        refine hK.out _ _ ?_ (fun hHeld2 => ?_)
        · exact B1.out
        clear hK K hHeld
        have hHeld := hHeld2
        clear hHeld2
        refine wpAnyH_take (i := 7) (v := ?_) rfl (by kernel_rfl) (by kernel_rfl) (by kernel_rfl) (fun _ _ _ h => h) (Or.inl ⟨by rfl, ?_⟩) hHeld ?_
        rotate_left
        · intro u hSu
          (go_simp) <;> (with_reducible rfl)
        change wpAnyH _ _ _ _ _ _ _ (Act.put _ (some 31) _) _
        simp only [Act.put, List.setIfInBounds_toArray, List.set_cons_zero, List.set_cons_succ]
        refine wpAnyH_done (by kernel_rfl) ?_ _
        refine NoPanic.normal ?_
        go_wp2
        go_roundw
        case rel =>
          refine ⟨h + 1, j, by go_num, rfl, by omega, hjN, HW.out.trans (B1.out.mono HW.out.size), fun k V hk hV => ?_, HI.out.2⟩
          by_cases e : k = h
          · subst e
            rw [HV.out] at hV
            injection hV with hV
            rw [← hV, ← HC1.out]; exact hc
          · have h3 := HU.out.at (by omega) hV HV.out
            have h4 := cmp_neg.1 (by rw [← HC1.out]; exact hc)
            exact cmp_neg.2 (ltS_trans h3 h4)
        case measure => simp [intOf]; omega
      · have bc : decide (c1 < 0) = false := decide_eq_false hc
        go_wp2
        refine wp_region_noPanic ?_
        refine wp_region_held_drew (S := fun u => Below wr.heap.size wr u) (by kernel_rfl) ?_ (fun hHeld => ?_)
        · exact (Below.refl _ _).drew
        refine wpAnyH_take (i := 0) (v := ?_) rfl (by kernel_rfl) (by kernel_rfl) (by kernel_rfl) (fun _ _ _ h => h) (Or.inl ⟨by rfl, ?_⟩) hHeld ?_
        rotate_left
        · intro u hSu
          (go_simp) <;> (with_reducible rfl)
        change wpAnyH _ _ _ _ _ _ _ (Act.put _ (some 24) _) _
        simp only [Act.put, List.setIfInBounds_toArray, List.set_cons_zero, List.set_cons_succ]
        refine wpAnyH_take (i := 1) (v := ?_) rfl (by kernel_rfl) (by kernel_rfl) (by kernel_rfl) (fun _ _ _ h => h) (Or.inl ⟨by rfl, ?_⟩) hHeld ?_
        rotate_left
        · intro u hSu
          (go_simp) <;> (with_reducible rfl)
        change wpAnyH _ _ _ _ _ _ _ (Act.put _ (some 25) _) _
        simp only [Act.put, List.setIfInBounds_toArray, List.set_cons_zero, List.set_cons_succ]
        refine wpAnyH_take (i := 2) (v := ?_) rfl (by kernel_rfl) (by kernel_rfl) (by kernel_rfl) (fun _ _ _ h => h) (Or.inl ⟨by rfl, ?_⟩) hHeld ?_
        rotate_left
        · intro u hSu
          (go_simp) <;> (with_reducible rfl)
        change wpAnyH _ _ _ _ _ _ _ (Act.put _ (some 26) _) _
        simp only [Act.put, List.setIfInBounds_toArray, List.set_cons_zero, List.set_cons_succ]
        refine wpAnyH_take (i := 3) (v := ?_) rfl (by kernel_rfl) (by kernel_rfl) (by kernel_rfl) (fun _ _ _ h => h) (Or.inl ⟨by rfl, ?_⟩) hHeld ?_
        rotate_left
        · intro u hSu
          (go_simp) <;> (with_reducible rfl)
        change wpAnyH _ _ _ _ _ _ _ (Act.put _ (some 27) _) _
        simp only [Act.put, List.setIfInBounds_toArray, List.set_cons_zero, List.set_cons_succ]
        refine wpAnyH_take (i := 4) (v := ?_) rfl (by kernel_rfl) (by kernel_rfl) (by kernel_rfl) (fun _ _ _ h => h) (Or.inl ⟨by rfl, ?_⟩) hHeld ?_
        rotate_left
        · intro u hSu
          obtain ⟨y0, y1, y2, y3⟩ := FV.out u hSu
          (go_simp) <;> (with_reducible rfl)
        change wpAnyH _ _ _ _ _ _ _ (Act.put _ (some 28) _) _
        simp only [Act.put, List.setIfInBounds_toArray, List.set_cons_zero, List.set_cons_succ]
        refine wpAnyH_take (i := 5) (v := ?_) rfl (by kernel_rfl) (by kernel_rfl) (by kernel_rfl) (fun _ _ _ h => h) (Or.inl ⟨by rfl, ?_⟩) hHeld ?_
        rotate_left
        · intro u hSu
          obtain ⟨y0, y1⟩ := FT2.out u hSu
          (go_simp) <;> (with_reducible rfl)
        change wpAnyH _ _ _ _ _ _ _ (Act.put _ (some 29) _) _
        simp only [Act.put, List.setIfInBounds_toArray, List.set_cons_zero, List.set_cons_succ]
        refine wpAnyH_ready (rs := [6]) (by kernel_rfl) (by simp) ?_
        refine AllReadyH.cons rfl (fun K hK => ?_) AllReadyH.nil
        go_simp
        go_at_call 167
        refine (CL1.out _).mono ?_
        rintro e x1 ⟨rfl, hbx1⟩
        have B1 : Hid (Below wr.heap.size wr x1) := hHeld.trans (hbx1.mono hHeld.size)
        clear hbx1
        refine hK.out _ _ ?_ (fun hHeld2 => ?_)
        · exact B1.out
        clear hK K hHeld
        have hHeld := hHeld2
        clear hHeld2
        refine wpAnyH_take (i := 7) (v := ?_) rfl (by kernel_rfl) (by kernel_rfl) (by kernel_rfl) (fun _ _ _ h => h) (Or.inl ⟨by rfl, ?_⟩) hHeld ?_
        rotate_left
        · intro u hSu
          (go_simp) <;> (with_reducible rfl)
        change wpAnyH _ _ _ _ _ _ _ (Act.put _ (some 31) _) _
        simp only [Act.put, List.setIfInBounds_toArray, List.set_cons_zero, List.set_cons_succ]
        refine wpAnyH_done (by kernel_rfl) ?_ _
        refine NoPanic.normal ?_
        go_wp2
        go_roundw
        case rel =>
          refine ⟨i, h, rfl, rfl, h1, by omega, HW.out.trans (B1.out.mono HW.out.size), HI.out.1, fun k V hk hV => Int.not_lt.1 (fun hneg => ?_)⟩
          by_cases e : k = h
          · subst e
            rw [HV.out] at hV
            injection hV with hV
            rw [← hV, ← HC1.out] at hneg; omega
          · have h3 := HU.out.at (by omega) HV.out hV
            have h4 := cmp_neg.1 hneg
            have h5 : c1 < 0 := by rw [HC1.out]; exact cmp_neg.2 (ltS_trans h3 h4)
            omega
        case measure => simp [intOf]; omega
    · obtain rfl : j = i := by omega
      have elo : lo = j := by
        rw [HLO.out]
        exact tw_len (by rw [HNL.out]; exact hjN) (fun k V hk hV => decide_eq_true (HI.out.1 k V hk hV)) (by
          by_cases hN : j = L.length
          · exact .inl hN
          · have hlt2 : j < L.length := by rw [HNL.out] at hN ⊢; omega
            exact .inr ⟨_, List.getElem?_eq_getElem hlt2, decide_eq_false (Int.not_lt.2 (HI.out.2 j _ (Nat.le_refl _) (List.getElem?_eq_getElem hlt2)))⟩)
      subst elo
      by_cases hN : lo < N
      · obtain ⟨V1, hV1⟩ : ∃ V, L[lo]? = some V := ⟨_, List.getElem?_eq_getElem (by rw [HNL.out]; exact hN)⟩
        have HV : Hid (L[lo]? = some V1) := hV1
        obtain ⟨g, hag, _, _⟩ := (HROW.out _ (Below.refl _ _)).ver hV1
        subst hag
        obtain ⟨t1, n1, S1, g1, hq⟩ : ∃ t1 n1 S1 g1, t1 = V1.t ∧ n1 = V1.n ∧ S1 = strOfNums V1.v ∧ g1 = V1.g := ⟨_, _, _, _, rfl, rfl, rfl, rfl⟩
        obtain ⟨e1, e2, e3, e4⟩ := hq
        have FV : Hid (∀ u, Below wr.heap.size wr u → u.cell? ⟨g, lo * 4, none⟩ = some (.int .i64 t1) ∧ u.cell? ⟨g, lo * 4 + 1, none⟩ = some (.int .u8 n1) ∧ u.cell? ⟨g, lo * 4 + 2, none⟩ = some (.string S1) ∧ u.cell? ⟨g, lo * 4 + 3, none⟩ = some (.bool g1)) := fun u hb => by
          obtain ⟨g', e, _, hat⟩ := (HROW.out u (HW.out.trans (hb.mono HW.out.size))).ver HV.out
          injection e with e
          injection e with e
          subst e
          rw [e1, e2, e3, e4]
          exact ⟨hat.c0, hat.c1, hat.c2, hat.c3⟩
        have FT2 : Hid (∀ u, Below wr.heap.size wr u → u.cell? ⟨w.heap.size, 0, none⟩ = some (.int .i64 t) ∧ u.cell? ⟨w.heap.size, 1, none⟩ = some (.int .u8 n)) := fun u hb => FT.out u (HW.out.trans (hb.mono HW.out.size))
        obtain ⟨c1, hc1⟩ : ∃ c, c = cmpS V1.t V1.n t n := ⟨_, rfl⟩
        have CL1 : Hid (∀ u, Calls Tryz.prog 167 #[.agg #[.int .i64 t1, .int .u8 n1, .string S1, .bool g1], .agg #[.int .i64 t, .int .u8 n]] u fun e w' => e = .returned (.int .i64 c1) ∧ Below u.heap.size u w') := fun u => by rw [hc1, e1, e2, e3, e4]; exact CL.out V1 u
        have HB2 : Hid (ht = (c1 == 0)) := by
          show ht = _
          have e5 : ht = decide (c1 = 0) := by rw [HHT.out, hc1]; unfold hitN; rw [← HLO.out, HV.out]
          rw [e5]
          rfl
        have b1 : decide (lo < N) = true := decide_eq_true hN
        clear hV1 e1 e2 e3 e4 hc1
        go_wp2
        refine wp_region_noPanic ?_
        refine wp_region_held_drew (S := fun u => Below wr.heap.size wr u) (by kernel_rfl) ?_ (fun hHeld => ?_)
        · exact (Below.refl _ _).drew
        refine wpAnyH_take (i := 0) (v := ?_) rfl (by kernel_rfl) (by kernel_rfl) (by kernel_rfl) (fun _ _ _ h => h) (Or.inl ⟨by rfl, ?_⟩) hHeld ?_
        rotate_left
        · intro u hSu
          (go_simp) <;> (with_reducible rfl)
        change wpAnyH _ _ _ _ _ _ _ (Act.put _ (some 35) _) _
        simp only [Act.put, List.setIfInBounds_toArray, List.set_cons_zero, List.set_cons_succ]
        refine wpAnyH_take (i := 1) (v := ?_) rfl (by kernel_rfl) (by kernel_rfl) (by kernel_rfl) (fun _ _ _ h => h) (Or.inl ⟨by rfl, ?_⟩) hHeld ?_
        rotate_left
        · intro u hSu
          (go_simp) <;> (with_reducible rfl)
        change wpAnyH _ _ _ _ _ _ _ (Act.put _ (some 36) _) _
        simp only [Act.put, List.setIfInBounds_toArray, List.set_cons_zero, List.set_cons_succ]
        refine wpAnyH_take (i := 2) (v := ?_) rfl (by kernel_rfl) (by kernel_rfl) (by kernel_rfl) (fun _ _ _ h => h) (Or.inl ⟨by rfl, ?_⟩) hHeld ?_
        rotate_left
        · intro u hSu
          (go_simp) <;> (with_reducible rfl)
        change wpAnyH _ _ _ _ _ _ _ (Act.put _ (some 37) _) _
        simp only [Act.put, List.setIfInBounds_toArray, List.set_cons_zero, List.set_cons_succ]
        refine wpAnyH_take (i := 3) (v := ?_) rfl (by kernel_rfl) (by kernel_rfl) (by kernel_rfl) (fun _ _ _ h => h) (Or.inl ⟨by rfl, ?_⟩) hHeld ?_
        rotate_left
        · intro u hSu
          (go_simp) <;> (with_reducible rfl)
        change wpAnyH _ _ _ _ _ _ _ (Act.put _ (some 38) _) _
        simp only [Act.put, List.setIfInBounds_toArray, List.set_cons_zero, List.set_cons_succ]
        refine wpAnyH_take (i := 4) (v := ?_) rfl (by kernel_rfl) (by kernel_rfl) (by kernel_rfl) (fun _ _ _ h => h) (Or.inl ⟨by rfl, ?_⟩) hHeld ?_
        rotate_left
        · intro u hSu
          (go_simp) <;> (with_reducible rfl)
        change wpAnyH _ _ _ _ _ _ _ (Act.put _ (some 39) _) _
        simp only [Act.put, List.setIfInBounds_toArray, List.set_cons_zero, List.set_cons_succ]
        refine wpAnyH_take (i := 5) (v := ?_) rfl (by kernel_rfl) (by kernel_rfl) (by kernel_rfl) (fun _ _ _ h => h) (Or.inl ⟨by rfl, ?_⟩) hHeld ?_
        rotate_left
        · intro u hSu
          (go_simp) <;> (with_reducible rfl)
        change wpAnyH _ _ _ _ _ _ _ (Act.put _ (some 40) _) _
        simp only [Act.put, List.setIfInBounds_toArray, List.set_cons_zero, List.set_cons_succ]
        refine wpAnyH_take (i := 6) (v := ?_) rfl (by kernel_rfl) (by kernel_rfl) (by kernel_rfl) (fun _ _ _ h => h) (Or.inl ⟨by rfl, ?_⟩) hHeld ?_
        rotate_left
        · intro u hSu
          (go_simp) <;> (with_reducible rfl)
        change wpAnyH _ _ _ _ _ _ _ (Act.put _ (some 41) _) _
        simp only [Act.put, List.setIfInBounds_toArray, List.set_cons_zero, List.set_cons_succ]
        refine wpAnyH_take (i := 7) (v := ?_) rfl (by kernel_rfl) (by kernel_rfl) (by kernel_rfl) (fun _ _ _ h => h) (Or.inl ⟨by rfl, ?_⟩) hHeld ?_
        rotate_left
        · intro u hSu
          (go_simp) <;> (with_reducible rfl)
        change wpAnyH _ _ _ _ _ _ _ (Act.put _ (some 42) _) _
        simp only [Act.put, List.setIfInBounds_toArray, List.set_cons_zero, List.set_cons_succ]
        refine wpAnyH_take (i := 8) (v := ?_) rfl (by kernel_rfl) (by kernel_rfl) (by kernel_rfl) (fun _ _ _ h => h) (Or.inl ⟨by rfl, ?_⟩) hHeld ?_
        rotate_left
        · intro u hSu
          (go_simp) <;> (with_reducible rfl)
        change wpAnyH _ _ _ _ _ _ _ (Act.put _ (some 43) _) _
        simp only [Act.put, List.setIfInBounds_toArray, List.set_cons_zero, List.set_cons_succ]
        refine wpAnyH_take (i := 9) (v := ?_) rfl (by kernel_rfl) (by kernel_rfl) (by kernel_rfl) (fun _ _ _ h => h) (Or.inl ⟨by rfl, ?_⟩) hHeld ?_
        rotate_left
        · intro u hSu
          obtain ⟨y0, y1, y2, y3⟩ := FV.out u hSu
          (go_simp) <;> (with_reducible rfl)
        change wpAnyH _ _ _ _ _ _ _ (Act.put _ (some 44) _) _
        simp only [Act.put, List.setIfInBounds_toArray, List.set_cons_zero, List.set_cons_succ]
        refine wpAnyH_take (i := 10) (v := ?_) rfl (by kernel_rfl) (by kernel_rfl) (by kernel_rfl) (fun _ _ _ h => h) (Or.inl ⟨by rfl, ?_⟩) hHeld ?_
        rotate_left
        · intro u hSu
          obtain ⟨y0, y1⟩ := FT2.out u hSu
          (go_simp) <;> (with_reducible rfl)
        change wpAnyH _ _ _ _ _ _ _ (Act.put _ (some 45) _) _
        simp only [Act.put, List.setIfInBounds_toArray, List.set_cons_zero, List.set_cons_succ]
        refine wpAnyH_ready (rs := [11]) (by kernel_rfl) (by simp) ?_
        refine AllReadyH.cons rfl (fun K hK => ?_) AllReadyH.nil
        go_simp
        go_at_call 167
        refine (CL1.out _).mono ?_
        rintro e x1 ⟨rfl, hbx1⟩
        have B1 : Hid (Below wr.heap.size wr x1) := hHeld.trans (hbx1.mono hHeld.size)
        clear hbx1
        refine hK.out _ _ ?_ (fun hHeld2 => ?_)
        · exact B1.out
        clear hK K hHeld
        have hHeld := hHeld2
        clear hHeld2
        refine wpAnyH_take (i := 12) (v := ?_) rfl (by kernel_rfl) (by kernel_rfl) (by kernel_rfl) (fun _ _ _ h => h) (Or.inl ⟨by rfl, ?_⟩) hHeld ?_
        rotate_left
        · intro u hSu
          (go_simp) <;> (with_reducible rfl)
        change wpAnyH _ _ _ _ _ _ _ (Act.put _ (some 47) _) _
        simp only [Act.put, List.setIfInBounds_toArray, List.set_cons_zero, List.set_cons_succ]
        refine wpAnyH_take (i := 13) (v := ?_) rfl (by kernel_rfl) (by kernel_rfl) (by kernel_rfl) (fun _ _ _ h => h) (Or.inl ⟨by rfl, ?_⟩) hHeld ?_
        rotate_left
        · intro u hSu
          (go_simp) <;> (with_reducible rfl)
        change wpAnyH _ _ _ _ _ _ _ (Act.put _ (some 48) _) _
        simp only [Act.put, List.setIfInBounds_toArray, List.set_cons_zero, List.set_cons_succ]
        refine wpAnyH_take (i := 14) (v := ?_) rfl (by kernel_rfl) (by kernel_rfl) (by kernel_rfl) (fun _ _ _ h => h) (Or.inl ⟨by rfl, ?_⟩) hHeld ?_
        rotate_left
        · intro u hSu
          (go_simp) <;> (with_reducible rfl)
        change wpAnyH _ _ _ _ _ _ _ (Act.put _ (some 6) _) _
        simp only [Act.put, List.setIfInBounds_toArray, List.set_cons_zero, List.set_cons_succ]
        refine wpAnyH_take (i := 15) (v := ?_) rfl (by kernel_rfl) (by kernel_rfl) (by kernel_rfl) (fun _ _ _ h => h) (Or.inl ⟨by rfl, ?_⟩) hHeld ?_
        rotate_left
        · intro u hSu
          (go_simp) <;> (with_reducible rfl)
        change wpAnyH _ _ _ _ _ _ _ (Act.put _ (some 7) _) _
        simp only [Act.put, List.setIfInBounds_toArray, List.set_cons_zero, List.set_cons_succ]
        refine wpAnyH_done (by kernel_rfl) ?_ _
        refine NoPanic.normal ?_
        go_wp2
        go_ret2
        rw [HB2.out]
        exact ⟨rfl, HB1.out.trans ((HW.out.trans (B1.out.mono HW.out.size)).mono HB1.out.size)⟩
      · have b1 : decide (lo < N) = false := decide_eq_false hN
        have HH1 : Hid (ht = false) := by
          show ht = false
          rw [HHT.out]
          unfold hitN
          rw [← HLO.out, List.getElem?_eq_none (by rw [HNL.out]; omega)]
        go_wp2
        refine wp_region_noPanic ?_
        refine wp_region_held_drew (S := fun u => Below wr.heap.size wr u) (by kernel_rfl) ?_ (fun hHeld => ?_)
        · exact (Below.refl _ _).drew
        refine wpAnyH_take (i := 0) (v := ?_) rfl (by kernel_rfl) (by kernel_rfl) (by kernel_rfl) (fun _ _ _ h => h) (Or.inl ⟨by rfl, ?_⟩) hHeld ?_
        rotate_left
        · intro u hSu
          (go_simp) <;> (with_reducible rfl)
        change wpAnyH _ _ _ _ _ _ _ (Act.put _ (some 35) _) _
        simp only [Act.put, List.setIfInBounds_toArray, List.set_cons_zero, List.set_cons_succ]
        refine wpAnyH_take (i := 1) (v := ?_) rfl (by kernel_rfl) (by kernel_rfl) (by kernel_rfl) (fun _ _ _ h => h) (Or.inl ⟨by rfl, ?_⟩) hHeld ?_
        rotate_left
        · intro u hSu
          (go_simp) <;> (with_reducible rfl)
        change wpAnyH _ _ _ _ _ _ _ (Act.put _ (some 36) _) _
        simp only [Act.put, List.setIfInBounds_toArray, List.set_cons_zero, List.set_cons_succ]
        refine wpAnyH_take (i := 2) (v := ?_) rfl (by kernel_rfl) (by kernel_rfl) (by kernel_rfl) (fun _ _ _ h => h) (Or.inl ⟨by rfl, ?_⟩) hHeld ?_
        rotate_left
        · intro u hSu
          (go_simp) <;> (with_reducible rfl)
        change wpAnyH _ _ _ _ _ _ _ (Act.put _ (some 37) _) _
        simp only [Act.put, List.setIfInBounds_toArray, List.set_cons_zero, List.set_cons_succ]
        refine wpAnyH_take (i := 3) (v := ?_) rfl (by kernel_rfl) (by kernel_rfl) (by kernel_rfl) (fun _ _ _ h => h) (Or.inl ⟨by rfl, ?_⟩) hHeld ?_
        rotate_left
        · intro u hSu
          (go_simp) <;> (with_reducible rfl)
        change wpAnyH _ _ _ _ _ _ _ (Act.put _ (some 38) _) _
        simp only [Act.put, List.setIfInBounds_toArray, List.set_cons_zero, List.set_cons_succ]
        refine wpAnyH_take (i := 4) (v := ?_) rfl (by kernel_rfl) (by kernel_rfl) (by kernel_rfl) (fun _ _ _ h => h) (Or.inl ⟨by rfl, ?_⟩) hHeld ?_
        rotate_left
        · intro u hSu
          (go_simp) <;> (with_reducible rfl)
        change wpAnyH _ _ _ _ _ _ _ (Act.put _ (some 39) _) _
        simp only [Act.put, List.setIfInBounds_toArray, List.set_cons_zero, List.set_cons_succ]
        refine wpAnyH_take (i := 5) (v := undef) rfl (by kernel_rfl) (by kernel_rfl) (by kernel_rfl) (fun _ _ _ h => h) (Or.inr ⟨by rfl, rfl⟩) hHeld ?_
        change wpAnyH _ _ _ _ _ _ _ (Act.put _ (some 40) _) _
        simp only [Act.put, List.setIfInBounds_toArray, List.set_cons_zero, List.set_cons_succ]
        refine wpAnyH_take (i := 6) (v := undef) rfl (by kernel_rfl) (by kernel_rfl) (by kernel_rfl) (fun _ _ _ h => h) (Or.inr ⟨by rfl, rfl⟩) hHeld ?_
        change wpAnyH _ _ _ _ _ _ _ (Act.put _ (some 41) _) _
        simp only [Act.put, List.setIfInBounds_toArray, List.set_cons_zero, List.set_cons_succ]
        refine wpAnyH_take (i := 7) (v := undef) rfl (by kernel_rfl) (by kernel_rfl) (by kernel_rfl) (fun _ _ _ h => h) (Or.inr ⟨by rfl, rfl⟩) hHeld ?_
        change wpAnyH _ _ _ _ _ _ _ (Act.put _ (some 42) _) _
        simp only [Act.put, List.setIfInBounds_toArray, List.set_cons_zero, List.set_cons_succ]
        refine wpAnyH_take (i := 8) (v := undef) rfl (by kernel_rfl) (by kernel_rfl) (by kernel_rfl) (fun _ _ _ h => h) (Or.inr ⟨by rfl, rfl⟩) hHeld ?_
        change wpAnyH _ _ _ _ _ _ _ (Act.put _ (some 43) _) _
        simp only [Act.put, List.setIfInBounds_toArray, List.set_cons_zero, List.set_cons_succ]
        refine wpAnyH_take (i := 9) (v := undef) rfl (by kernel_rfl) (by kernel_rfl) (by kernel_rfl) (fun _ _ _ h => h) (Or.inr ⟨by rfl, rfl⟩) hHeld ?_
        change wpAnyH _ _ _ _ _ _ _ (Act.put _ (some 44) _) _
        simp only [Act.put, List.setIfInBounds_toArray, List.set_cons_zero, List.set_cons_succ]
        refine wpAnyH_take (i := 10) (v := undef) rfl (by kernel_rfl) (by kernel_rfl) (by kernel_rfl) (fun _ _ _ h => h) (Or.inr ⟨by rfl, rfl⟩) hHeld ?_
        change wpAnyH _ _ _ _ _ _ _ (Act.put _ (some 45) _) _
        simp only [Act.put, List.setIfInBounds_toArray, List.set_cons_zero, List.set_cons_succ]
        refine wpAnyH_take (i := 11) (v := undef) rfl (by kernel_rfl) (by kernel_rfl) (by kernel_rfl) (fun _ _ _ h => h) (Or.inr ⟨by rfl, rfl⟩) hHeld ?_
        change wpAnyH _ _ _ _ _ _ _ (Act.put _ (some 46) _) _
        simp only [Act.put, List.setIfInBounds_toArray, List.set_cons_zero, List.set_cons_succ]
        refine wpAnyH_take (i := 12) (v := undef) rfl (by kernel_rfl) (by kernel_rfl) (by kernel_rfl) (fun _ _ _ h => h) (Or.inr ⟨by rfl, rfl⟩) hHeld ?_
        change wpAnyH _ _ _ _ _ _ _ (Act.put _ (some 47) _) _
        simp only [Act.put, List.setIfInBounds_toArray, List.set_cons_zero, List.set_cons_succ]
        refine wpAnyH_take (i := 13) (v := ?_) rfl (by kernel_rfl) (by kernel_rfl) (by kernel_rfl) (fun _ _ _ h => h) (Or.inl ⟨by rfl, ?_⟩) hHeld ?_
        rotate_left
        · intro u hSu
          (go_simp) <;> (with_reducible rfl)
        change wpAnyH _ _ _ _ _ _ _ (Act.put _ (some 48) _) _
        simp only [Act.put, List.setIfInBounds_toArray, List.set_cons_zero, List.set_cons_succ]
        refine wpAnyH_take (i := 14) (v := ?_) rfl (by kernel_rfl) (by kernel_rfl) (by kernel_rfl) (fun _ _ _ h => h) (Or.inl ⟨by rfl, ?_⟩) hHeld ?_
        rotate_left
        · intro u hSu
          (go_simp) <;> (with_reducible rfl)
        change wpAnyH _ _ _ _ _ _ _ (Act.put _ (some 6) _) _
        simp only [Act.put, List.setIfInBounds_toArray, List.set_cons_zero, List.set_cons_succ]
        refine wpAnyH_take (i := 15) (v := ?_) rfl (by kernel_rfl) (by kernel_rfl) (by kernel_rfl) (fun _ _ _ h => h) (Or.inl ⟨by rfl, ?_⟩) hHeld ?_
        rotate_left
        · intro u hSu
          (go_simp) <;> (with_reducible rfl)
        change wpAnyH _ _ _ _ _ _ _ (Act.put _ (some 7) _) _
        simp only [Act.put, List.setIfInBounds_toArray, List.set_cons_zero, List.set_cons_succ]
        refine wpAnyH_done (by kernel_rfl) ?_ _
        refine NoPanic.normal ?_
        go_wp2
        go_ret2
        rw [HH1.out]
        exact ⟨rfl, (HB1.out.trans (HW.out.mono HB1.out.size)).drew⟩
theorem cfind_any (p : Nat) (L : List Ver) (X : Foot) (t n : Int) (w : World) (h : ChD w p L X) :
    Calls Tryz.prog 158 #[.pointer (some ⟨p, 0, none⟩), .agg #[.int .i64 t, .int .u8 n]] w fun e w' => e = .returned (.tuple #[.int .i64 (loN L t n : Nat), .bool (hitN L t n)]) ∧ Below w.heap.size w w' := by
  obtain ⟨a, c, hc1, hc2, hc3, hcell, _⟩ := h.open
  obtain ⟨N, hN⟩ : ∃ N, N = L.length := ⟨_, rfl⟩
  obtain ⟨w1, hw1⟩ : ∃ u, u = w.alloc (.cells #[.int .i64 t, .int .u8 n] 28) := ⟨_, rfl⟩
  have HB1 : Hid (Below w.heap.size w w1) := by rw [hw1]; exact (Below.refl _ _).alloc (Nat.le_refl _) _
  have FT : Hid (∀ u, Below w1.heap.size w1 u → u.cell? ⟨w.heap.size, 0, none⟩ = some (.int .i64 t) ∧ u.cell? ⟨w.heap.size, 1, none⟩ = some (.int .u8 n)) := fun u hb => by
    have hlt : w.heap.size < w1.heap.size := by rw [hw1]; simp
    refine ⟨(hb.cell (p := ⟨w.heap.size, 0, none⟩) hlt).trans ?_, (hb.cell (p := ⟨w.heap.size, 1, none⟩) hlt).trans ?_⟩ <;> (rw [hw1, World.cell?_alloc_new]; rfl)
  have FC : Hid (∀ u, Below w1.heap.size w1 u → u.cell? ⟨p, 0, none⟩ = some (.slice a N c)) := fun u hb => by rw [hN]; exact (hcell u (HB1.out.trans (hb.mono HB1.out.size))).1
  obtain ⟨lo, hlo⟩ : ∃ k, k = loN L t n := ⟨_, rfl⟩
  obtain ⟨ht, hht⟩ : ∃ b, b = hitN L t n := ⟨_, rfl⟩
  have CS : Hid (∀ u, Below w1.heap.size w1 u → Calls Tryz.prog 166 #[.slice a N c, .agg #[.int .i64 t, .int .u8 n], .func (.func 167) #[] #[]] u fun e w' => e = .returned (.tuple #[.int .i64 (lo : Nat), .bool ht]) ∧ Below u.heap.size u w') := fun u hb => by
    rw [hlo, hht]
    exact csearch_any a c N L t n u hN.symm h.chn.ups (by rw [hN]; exact Nat.le_trans h.chn.few (by decide)) (hcell u (HB1.out.trans (hb.mono HB1.out.size))).2
  have HW1 : Hid (w.alloc (.cells #[.int .i64 t, .int .u8 n] 28) = w1) := hw1.symm
  rw [← hlo, ← hht]
  clear hw1 hlo hht hN hcell h
  go_enter Tryz.func158, Tryz.ntmps158
  go_wp2
  rw [HW1.out]
  refine wp_region_noPanic ?_
  refine wp_region_held_drew (S := fun u => Below w1.heap.size w1 u) (by kernel_rfl) ?_ (fun hHeld => ?_)
  · exact (Below.refl _ _).drew
  refine wpAnyH_take (i := 0) (v := ?_) rfl (by kernel_rfl) (by kernel_rfl) (by kernel_rfl) (fun _ _ _ h => h) (Or.inl ⟨by rfl, ?_⟩) hHeld ?_
  rotate_left
  · intro u hSu
    (go_simp) <;> (with_reducible rfl)
  change wpAnyH _ _ _ _ _ _ _ (Act.put _ (some 6) _) _
  simp only [Act.put, List.setIfInBounds_toArray, List.set_cons_zero, List.set_cons_succ]
  refine wpAnyH_take (i := 1) (v := ?_) rfl (by kernel_rfl) (by kernel_rfl) (by kernel_rfl) (fun _ _ _ h => h) (Or.inl ⟨by rfl, ?_⟩) hHeld ?_
  rotate_left
  · intro u hSu
    (go_simp) <;> (with_reducible rfl)
  change wpAnyH _ _ _ _ _ _ _ (Act.put _ (some 7) _) _
  simp only [Act.put, List.setIfInBounds_toArray, List.set_cons_zero, List.set_cons_succ]
  refine wpAnyH_take (i := 2) (v := ?_) rfl (by kernel_rfl) (by kernel_rfl) (by kernel_rfl) (fun _ _ _ h => h) (Or.inl ⟨by rfl, ?_⟩) hHeld ?_
  rotate_left
  · intro u hSu
    (go_simp) <;> (with_reducible rfl)
  change wpAnyH _ _ _ _ _ _ _ (Act.put _ (some 8) _) _
  simp only [Act.put, List.setIfInBounds_toArray, List.set_cons_zero, List.set_cons_succ]
  refine wpAnyH_take (i := 3) (v := ?_) rfl (by kernel_rfl) (by kernel_rfl) (by kernel_rfl) (fun _ _ _ h => h) (Or.inl ⟨by rfl, ?_⟩) hHeld ?_
  rotate_left
  · intro u hSu
    have q0 := FC.out u hSu
    (go_simp) <;> (with_reducible rfl)
  change wpAnyH _ _ _ _ _ _ _ (Act.put _ (some 9) _) _
  simp only [Act.put, List.setIfInBounds_toArray, List.set_cons_zero, List.set_cons_succ]
  refine wpAnyH_take (i := 4) (v := ?_) rfl (by kernel_rfl) (by kernel_rfl) (by kernel_rfl) (fun _ _ _ h => h) (Or.inl ⟨by rfl, ?_⟩) hHeld ?_
  rotate_left
  · intro u hSu
    obtain ⟨y0, y1⟩ := FT.out u hSu
    (go_simp) <;> (with_reducible rfl)
  change wpAnyH _ _ _ _ _ _ _ (Act.put _ (some 10) _) _
  simp only [Act.put, List.setIfInBounds_toArray, List.set_cons_zero, List.set_cons_succ]
  refine wpAnyH_ready (rs := [5]) (by kernel_rfl) (by simp) ?_
  refine AllReadyH.cons rfl (fun K hK => ?_) AllReadyH.nil
  go_simp
  go_at_call 166
  refine (CS.out _ hHeld).mono ?_
  rintro e x1 ⟨rfl, hb1⟩
  have B1 : Hid (Below w1.heap.size w1 x1) := hHeld.trans (hb1.mono hHeld.size); clear hb1
  refine hK.out _ _ ?_ (fun hHeld2 => ?_)
  · exact B1.out
  clear hK K hHeld
  have hHeld := hHeld2
  clear hHeld2
  refine wpAnyH_take (i := 6) (v := ?_) rfl (by kernel_rfl) (by kernel_rfl) (by kernel_rfl) (fun _ _ _ h => h) (Or.inl ⟨by rfl, ?_⟩) hHeld ?_
  rotate_left
  · intro u hSu
    (go_simp) <;> (with_reducible rfl)
  change wpAnyH _ _ _ _ _ _ _ (Act.put _ (some 12) _) _
  simp only [Act.put, List.setIfInBounds_toArray, List.set_cons_zero, List.set_cons_succ]
  refine wpAnyH_take (i := 7) (v := ?_) rfl (by kernel_rfl) (by kernel_rfl) (by kernel_rfl) (fun _ _ _ h => h) (Or.inl ⟨by rfl, ?_⟩) hHeld ?_
  rotate_left
  · intro u hSu
    (go_simp) <;> (with_reducible rfl)
  change wpAnyH _ _ _ _ _ _ _ (Act.put _ (some 13) _) _
  simp only [Act.put, List.setIfInBounds_toArray, List.set_cons_zero, List.set_cons_succ]
  refine wpAnyH_take (i := 8) (v := ?_) rfl (by kernel_rfl) (by kernel_rfl) (by kernel_rfl) (fun _ _ _ h => h) (Or.inl ⟨by rfl, ?_⟩) hHeld ?_
  rotate_left
  · intro u hSu
    (go_simp) <;> (with_reducible rfl)
  change wpAnyH _ _ _ _ _ _ _ (Act.put _ (some 4) _) _
  simp only [Act.put, List.setIfInBounds_toArray, List.set_cons_zero, List.set_cons_succ]
  refine wpAnyH_take (i := 9) (v := ?_) rfl (by kernel_rfl) (by kernel_rfl) (by kernel_rfl) (fun _ _ _ h => h) (Or.inl ⟨by rfl, ?_⟩) hHeld ?_
  rotate_left
  · intro u hSu
    (go_simp) <;> (with_reducible rfl)
  change wpAnyH _ _ _ _ _ _ _ (Act.put _ (some 5) _) _
  simp only [Act.put, List.setIfInBounds_toArray, List.set_cons_zero, List.set_cons_succ]
  refine wpAnyH_done (by kernel_rfl) ?_ _
  refine NoPanic.normal ?_
  go_wp2
  go_ret2
  exact ⟨rfl, HB1.out.trans (B1.out.mono HB1.out.size)⟩
theorem cupto_any (p : Nat) (L : List Ver) (X : Foot) (t n : Int) (w : World) (h : ChD w p L X) :
    Calls Tryz.prog 145 #[.pointer (some ⟨p, 0, none⟩), .agg #[.int .i64 t, .int .u8 n]] w fun e w' => e = .returned (.int .i64 (upN L t n : Nat)) ∧ Below w.heap.size w w' := by
  have hle := lo_le L t n
  have hfew := h.chn.few
  obtain ⟨lo, hlo⟩ : ∃ k, k = loN L t n := ⟨_, rfl⟩
  obtain ⟨ht, hht⟩ : ∃ b, b = hitN L t n := ⟨_, rfl⟩
  have HB1 : Hid (Below w.heap.size w (w.alloc (.cells #[.int .i64 t, .int .u8 n] 28))) := (Below.refl _ _).alloc (Nat.le_refl _) _
  have CF : Hid (∀ u, Below w.heap.size w u → Calls Tryz.prog 158 #[.pointer (some ⟨p, 0, none⟩), .agg #[.int .i64 t, .int .u8 n]] u fun e w' => e = .returned (.tuple #[.int .i64 (lo : Nat), .bool ht]) ∧ Below u.heap.size u w') := fun u hb => by
    rw [hlo, hht]; exact cfind_any p L X t n u (h.past hb)
  obtain ⟨up, hup⟩ : ∃ k, k = upN L t n := ⟨_, rfl⟩
  have HUP : Hid (up = lo + if ht = true then 1 else 0) := by show up = _; rw [hup, hlo, hht]; rfl
  rw [← hlo] at hle
  rw [← hup]
  clear hlo hht hup h
  cases ht with
  | true =>
    go_enter Tryz.func145, Tryz.ntmps145
    go_wp2_with (go_at_call 158; refine (CF.out _ HB1.out).mono ?_; rintro e w1 ⟨rfl, hb1⟩; have HB2 : Hid (Below w.heap.size w w1) := HB1.out.trans (hb1.mono HB1.out.size); clear hb1)
    go_ret
    rw [HUP.out]
    exact ⟨rfl, HB2.out⟩
  | false =>
    go_enter Tryz.func145, Tryz.ntmps145
    go_wp2_with (go_at_call 158; refine (CF.out _ HB1.out).mono ?_; rintro e w1 ⟨rfl, hb1⟩; have HB2 : Hid (Below w.heap.size w w1) := HB1.out.trans (hb1.mono HB1.out.size); clear hb1)
    go_ret
    rw [HUP.out]
    exact ⟨rfl, HB2.out⟩
end Go.Proofs.YtileidbdmpeciaaGreat
