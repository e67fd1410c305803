/-
  What last, At, Newest and Since of the landed chains answer.
-/
import Derived.Test.YtimiciellbdphaaChainC1
namespace Go.Proofs.Ytimiciellbdphaa
open Go.RowKit
set_option linter.unusedVariables false

set_option maxHeartbeats 2000000 in
theorem clast_any (p : Nat) (L : List Ver) (X : Foot) (k : Nat) (w : World) (h : ChD w p L X) (hk : k ≤ L.length) :
    Calls Try.prog 31 #[.pointer (some ⟨p, 0, none⟩), .int .i64 k] w fun e w' => e = .returned (.tuple #[cvv (orZero (lastN L k)), .bool (lastN L k).isSome]) ∧ Below w.heap.size w w' := by
  obtain ⟨a, c, hc1, hc2, hc3, hcell, hver⟩ := h.open
  have hfew := h.chn.few
  have HM0 : Hid (CMine (w.alloc (.cells (encC zeroV).toArray 31)) w.heap.size zeroV) := CMine.made w 31 zeroV
  have HB0 : Hid (Below w.heap.size w (w.alloc (.cells (encC zeroV).toArray 31))) := (Below.refl _ _).alloc (Nat.le_refl _) _
  have q0 := (hcell _ HB0.out).1
  rw [zeroC_cells] at HM0 HB0 q0
  obtain ⟨N, hN⟩ : ∃ N, N = L.length := ⟨_, rfl⟩
  rw [← hN] at hk hc1 q0 hfew
  by_cases h0 : k = 0
  · subst h0
    clear hcell hver h hc3
    go_enter Try.func31, Try.ntmps31
    go_wp2_with (refine wpList_store_cver (.tmp 4) (by rfl) _ (by rfl) w.heap.size zeroV zeroV (by rfl) (by rfl) HM0.out ?_; intro u hu; have HD : Hid (CMine u w.heap.size zeroV) := hu ▸ HM0.out.store zeroV; have HBU : Hid (Below w.heap.size w u) := hu ▸ below_cells (by omega) HB0.out; clear hu)
    (try simp only [Exit.inBlock, Exit.then])
    refine bodyPost_ret (results_cver rfl _ _ w.heap.size zeroV rfl HD.out.at_) rfl ?_
    exact ⟨rfl, HBU.out⟩
  · obtain ⟨j, rfl⟩ : ∃ j, k = j + 1 := ⟨k - 1, by omega⟩
    have hjN : j < N := by omega
    obtain ⟨V1, hV1⟩ : ∃ V, L[j]? = some V := ⟨_, List.getElem?_eq_getElem (by omega)⟩
    obtain ⟨g, hag, hg, hat⟩ : ∃ g, a = some ⟨g, 0, none⟩ ∧ g < w.heap.size ∧ ∀ v, Below w.heap.size w v → ∀ i V, L[i]? = some V → CVerAt v g (i * 4) V := by
      rcases hver with e | e
      · rw [e] at hV1; simp at hV1
      · exact e
    subst hag
    have HL : Hid (lastN L (j + 1) = some V1) := by show _ = _; unfold lastN; rw [if_neg (by omega), Nat.add_sub_cancel]; exact hV1
    have HVA : Hid (CVerAt (w.alloc (.cells #[.int .i64 0, .int .u8 0, .string ⟨#[]⟩, .bool false] 31)) g (j * 4) V1) := hat _ HB0.out j V1 hV1
    rw [HL.out]
    have hj1 : ((j + 1 : Nat) : Int) - 1 = (j : Int) := by omega
    have hj2 : ¬ (((j + 1 : Nat) : Int) = 0) := by omega
    clear hcell hver h hV1 hat hc3
    go_enter Try.func31, Try.ntmps31
    go_wp2_with (first | (refine wpList_load_cver 16 (by rfl) (by rfl) _ (by rfl) g (j * 4) (by rfl) V1 HVA.out ?_) | (refine wpList_store_cver (.tmp 4) (by rfl) _ (by rfl) w.heap.size zeroV V1 (by rfl) (by rfl) HM0.out ?_; intro u hu; have HD : Hid (CMine u w.heap.size V1) := hu ▸ HM0.out.store V1; have HBU : Hid (Below w.heap.size w u) := hu ▸ below_cells (by omega) HB0.out; clear hu))
    (try simp only [Exit.inBlock, Exit.then])
    refine bodyPost_ret (results_cver rfl _ _ w.heap.size V1 rfl HD.out.at_) rfl ?_
    exact ⟨rfl, HBU.out⟩
set_option maxHeartbeats 2000000 in
theorem cat_any (p : Nat) (L : List Ver) (X : Foot) (t n : Int) (w : World) (h : ChD w p L X) :
    Calls Try.prog 17 #[.pointer (some ⟨p, 0, none⟩), .agg #[.int .i64 t, .int .u8 n]] w fun e w' => e = .returned (.tuple #[cvv (orZero (atV L zeroK t n)), .bool (atV L zeroK t n).isSome]) ∧ Below w.heap.size w w' := by
  obtain ⟨W0, hW0⟩ : ∃ W0, W0 = w.alloc (.cells #[.int .i64 t, .int .u8 n] 28) := ⟨_, rfl⟩
  have e0 : W0.heap.size = w.heap.size + 1 := by rw [hW0]; simp
  have HB0 : Hid (Below w.heap.size w (W0.alloc (.cells (encC zeroV).toArray 31))) := by
    rw [hW0]; exact ((Below.refl _ _).alloc (Nat.le_refl _) _).alloc (by simp) _
  have HM0 : Hid (CMine (W0.alloc (.cells (encC zeroV).toArray 31)) (w.heap.size + 1) zeroV) := by
    have := CMine.made W0 31 zeroV
    rw [e0] at this
    exact this
  rw [at_last h.chn.one h.chn.ups]
  obtain ⟨k, hk⟩ : ∃ k, k = upN L t n := ⟨_, rfl⟩
  have hkl : k ≤ L.length := by rw [hk]; exact (up_facts h.chn.ups t n).1
  have CU : Hid (∀ u, Below w.heap.size w u → Calls Try.prog 30 #[.pointer (some ⟨p, 0, none⟩), .agg #[.int .i64 t, .int .u8 n]] u fun e w' => e = .returned (.int .i64 (k : Nat)) ∧ Below u.heap.size u w') := fun u hb => by rw [hk]; exact cupto_any p L X t n u (h.past hb)
  rw [← hk]
  obtain ⟨V1, hV1⟩ : ∃ V, V = orZero (lastN L k) := ⟨_, rfl⟩
  obtain ⟨ok, hok⟩ : ∃ b, b = (lastN L k).isSome := ⟨_, rfl⟩
  have CL : Hid (∀ u, Below w.heap.size w u → Calls Try.prog 31 #[.pointer (some ⟨p, 0, none⟩), .int .i64 k] u fun e w' => e = .returned (.tuple #[cvv V1, .bool ok]) ∧ Below u.heap.size u w') := fun u hb => by rw [hV1, hok]; exact clast_any p L X k u (h.past hb) hkl
  rw [← hV1, ← hok]
  rw [zeroC_cells, hW0] at HB0 HM0
  clear hk hkl hV1 hok h hW0 e0
  go_enter Try.func17, Try.ntmps17
  go_wp2_with (first | (go_at_call 30; refine (CU.out _ HB0.out).mono ?_; rintro e w1 ⟨rfl, hb1⟩; have HM1 : Hid (CMine w1 (w.heap.size + 1) zeroV) := HM0.out.past hb1; have HB1 : Hid (Below w.heap.size w w1) := HB0.out.trans (hb1.mono HB0.out.size); clear hb1) | (go_at_call 31; refine (CL.out _ HB1.out).mono ?_; rintro e w2 ⟨rfl, hb2⟩; have HM2 : Hid (CMine w2 (w.heap.size + 1) zeroV) := HM1.out.past hb2; have HB2 : Hid (Below w.heap.size w w2) := HB1.out.trans (hb2.mono HB1.out.size); clear hb2) | (have hgo := HM2.out; clear hgo; refine wpList_store_cver (.tmp 4) (by rfl) _ (by rfl) (w.heap.size + 1) zeroV V1 (by rfl) (by rfl) HM2.out ?_; intro u hu; have HD : Hid (CMine u (w.heap.size + 1) V1) := hu ▸ HM2.out.store V1; have HBU : Hid (Below w.heap.size w u) := hu ▸ below_cells (by omega) HB2.out; clear hu))
  (try simp only [Exit.inBlock, Exit.then])
  refine bodyPost_ret (results_cver rfl _ _ (w.heap.size + 1) V1 rfl HD.out.at_) rfl ?_
  exact ⟨rfl, HBU.out⟩
set_option maxHeartbeats 2000000 in
theorem cnewest_any (p : Nat) (L : List Ver) (X : Foot) (w : World) (h : ChD w p L X) :
    Calls Try.prog 19 #[.pointer (some ⟨p, 0, none⟩)] w fun e w' => e = .returned (.tuple #[cvv (orZero (newestV L zeroK)), .bool (newestV L zeroK).isSome]) ∧ Below w.heap.size w w' := by
  obtain ⟨a, c, hc1, hc2, hc3, hcell, _⟩ := h.open
  have HB0 : Hid (Below w.heap.size w (w.alloc (.cells (encC zeroV).toArray 31))) := (Below.refl _ _).alloc (Nat.le_refl _) _
  have HM0 : Hid (CMine (w.alloc (.cells (encC zeroV).toArray 31)) w.heap.size zeroV) := CMine.made w 31 zeroV
  have q0 := (hcell _ HB0.out).1
  rw [newest_last h.chn.one]
  obtain ⟨k, hk⟩ : ∃ k, k = L.length := ⟨_, rfl⟩
  obtain ⟨V1, hV1⟩ : ∃ V, V = orZero (lastN L k) := ⟨_, rfl⟩
  obtain ⟨ok, hok⟩ : ∃ b, b = (lastN L k).isSome := ⟨_, rfl⟩
  have CL : Hid (∀ u, Below w.heap.size w u → Calls Try.prog 31 #[.pointer (some ⟨p, 0, none⟩), .int .i64 k] u fun e w' => e = .returned (.tuple #[cvv V1, .bool ok]) ∧ Below u.heap.size u w') := fun u hb => by rw [hV1, hok]; exact clast_any p L X k u (h.past hb) (by omega)
  rw [← hk, ← hV1, ← hok]
  rw [← hk] at q0
  rw [zeroC_cells] at HB0 HM0 q0
  clear hk hV1 hok h hcell hc3 hc1 hc2
  go_enter Try.func19, Try.ntmps19
  go_wp2_with (first | (go_at_call 31; refine (CL.out _ HB0.out).mono ?_; rintro e w2 ⟨rfl, hb2⟩; have HM2 : Hid (CMine w2 w.heap.size zeroV) := HM0.out.past hb2; have HB2 : Hid (Below w.heap.size w w2) := HB0.out.trans (hb2.mono HB0.out.size); clear hb2) | (have hgo := HM2.out; clear hgo; refine wpList_store_cver (.tmp 2) (by rfl) _ (by rfl) w.heap.size zeroV V1 (by rfl) (by rfl) HM2.out ?_; intro u hu; have HD : Hid (CMine u w.heap.size V1) := hu ▸ HM2.out.store V1; have HBU : Hid (Below w.heap.size w u) := hu ▸ below_cells (by omega) HB2.out; clear hu))
  (try simp only [Exit.inBlock, Exit.then])
  refine bodyPost_ret (results_cver rfl _ _ w.heap.size V1 rfl HD.out.at_) rfl ?_
  exact ⟨rfl, HBU.out⟩
set_option maxHeartbeats 2000000 in
theorem csince_any (p : Nat) (L : List Ver) (X : Foot) (t n : Int) (w : World) (h : ChD w p L X) :
    Calls Try.prog 22 #[.pointer (some ⟨p, 0, none⟩), .agg #[.int .i64 t, .int .u8 n]] w fun e w' => e = .returned (.int .i64 (sinceV L t n : Nat)) ∧ Below w.heap.size w w' := by
  obtain ⟨a, c, hc1, hc2, hc3, hcell, _⟩ := h.open
  have hfew := h.chn.few
  obtain ⟨N, hN⟩ : ∃ N, N = L.length := ⟨_, rfl⟩
  obtain ⟨w1, hw1⟩ : ∃ u, u = w.alloc (.cells #[.int .i64 t, .int .u8 n] 28) := ⟨_, rfl⟩
  have HB1 : Hid (Below w.heap.size w w1) := by rw [hw1]; exact (Below.refl _ _).alloc (Nat.le_refl _) _
  have FT : Hid (∀ u, Below w1.heap.size w1 u → u.cell? ⟨w.heap.size, 0, none⟩ = some (.int .i64 t) ∧ u.cell? ⟨w.heap.size, 1, none⟩ = some (.int .u8 n)) := fun u hb => by
    have hlt : w.heap.size < w1.heap.size := by rw [hw1]; simp
    refine ⟨(hb.cell (p := ⟨w.heap.size, 0, none⟩) hlt).trans ?_, (hb.cell (p := ⟨w.heap.size, 1, none⟩) hlt).trans ?_⟩ <;> (rw [hw1, World.cell?_alloc_new]; rfl)
  have FC : Hid (∀ u, Below w1.heap.size w1 u → u.cell? ⟨p, 0, none⟩ = some (.slice a N c)) := fun u hb => by rw [hN]; exact (hcell u (HB1.out.trans (hb.mono HB1.out.size))).1
  obtain ⟨k, hk⟩ : ∃ k, k = upN L t n := ⟨_, rfl⟩
  have hkN : k ≤ N := by rw [hk, hN]; exact (up_facts h.chn.ups t n).1
  have CU : Hid (∀ u, Below w1.heap.size w1 u → Calls Try.prog 30 #[.pointer (some ⟨p, 0, none⟩), .agg #[.int .i64 t, .int .u8 n]] u fun e w' => e = .returned (.int .i64 (k : Nat)) ∧ Below u.heap.size u w') := fun u hb => by rw [hk]; exact cupto_any p L X t n u (h.past (HB1.out.trans (hb.mono HB1.out.size)))
  have HW1 : Hid (w.alloc (.cells #[.int .i64 t, .int .u8 n] 28) = w1) := hw1.symm
  have HS : Hid ((sinceV L t n : Int) = (N : Int) - (k : Int)) := by show _ = _; rw [since_up h.chn.ups, ← hk, ← hN]; omega
  rw [← hN] at hfew
  have hwr : IntKind.i64.wrap ((N : Int) - (k : Int)) = (N : Int) - (k : Int) := by rw [IntKind.wrap_i64]; omega
  clear hw1 hk hN hcell h hc1 hc2 hc3
  go_enter Try.func22, Try.ntmps22
  go_wp2
  rw [HW1.out]
  refine wp_region_noPanic ?_
  refine wp_region_held_drew (S := fun u => Below w1.heap.size w1 u) (by kernel_rfl) ?_ (fun hHeld => ?_)
  · exact (Below.refl _ _).drew
  refine wpAnyH_take (i := 0) (v := ?_) rfl (by kernel_rfl) (by kernel_rfl) (by kernel_rfl) (fun _ _ _ h => h) (Or.inl ⟨by rfl, ?_⟩) hHeld ?_
  rotate_left
  · intro u hSu
    (go_simp) <;> (with_reducible rfl)
  change wpAnyH _ _ _ _ _ _ _ (Act.put _ (some 5) _) _
  simp only [Act.put, List.setIfInBounds_toArray, List.set_cons_zero, List.set_cons_succ]
  refine wpAnyH_take (i := 1) (v := ?_) rfl (by kernel_rfl) (by kernel_rfl) (by kernel_rfl) (fun _ _ _ h => h) (Or.inl ⟨by rfl, ?_⟩) hHeld ?_
  rotate_left
  · intro u hSu
    (go_simp) <;> (with_reducible rfl)
  change wpAnyH _ _ _ _ _ _ _ (Act.put _ (some 6) _) _
  simp only [Act.put, List.setIfInBounds_toArray, List.set_cons_zero, List.set_cons_succ]
  refine wpAnyH_take (i := 2) (v := ?_) rfl (by kernel_rfl) (by kernel_rfl) (by kernel_rfl) (fun _ _ _ h => h) (Or.inl ⟨by rfl, ?_⟩) hHeld ?_
  rotate_left
  · intro u hSu
    (go_simp) <;> (with_reducible rfl)
  change wpAnyH _ _ _ _ _ _ _ (Act.put _ (some 7) _) _
  simp only [Act.put, List.setIfInBounds_toArray, List.set_cons_zero, List.set_cons_succ]
  refine wpAnyH_take (i := 3) (v := ?_) rfl (by kernel_rfl) (by kernel_rfl) (by kernel_rfl) (fun _ _ _ h => h) (Or.inl ⟨by rfl, ?_⟩) hHeld ?_
  rotate_left
  · intro u hSu
    have q0 := FC.out u hSu
    (go_simp) <;> (with_reducible rfl)
  change wpAnyH _ _ _ _ _ _ _ (Act.put _ (some 8) _) _
  simp only [Act.put, List.setIfInBounds_toArray, List.set_cons_zero, List.set_cons_succ]
  refine wpAnyH_take (i := 4) (v := ?_) rfl (by kernel_rfl) (by kernel_rfl) (by kernel_rfl) (fun _ _ _ h => h) (Or.inl ⟨by rfl, ?_⟩) hHeld ?_
  rotate_left
  · intro u hSu
    (go_simp) <;> (with_reducible rfl)
  change wpAnyH _ _ _ _ _ _ _ (Act.put _ (some 9) _) _
  simp only [Act.put, List.setIfInBounds_toArray, List.set_cons_zero, List.set_cons_succ]
  refine wpAnyH_take (i := 5) (v := ?_) rfl (by kernel_rfl) (by kernel_rfl) (by kernel_rfl) (fun _ _ _ h => h) (Or.inl ⟨by rfl, ?_⟩) hHeld ?_
  rotate_left
  · intro u hSu
    (go_simp) <;> (with_reducible rfl)
  change wpAnyH _ _ _ _ _ _ _ (Act.put _ (some 10) _) _
  simp only [Act.put, List.setIfInBounds_toArray, List.set_cons_zero, List.set_cons_succ]
  refine wpAnyH_take (i := 6) (v := ?_) rfl (by kernel_rfl) (by kernel_rfl) (by kernel_rfl) (fun _ _ _ h => h) (Or.inl ⟨by rfl, ?_⟩) hHeld ?_
  rotate_left
  · intro u hSu
    obtain ⟨y0, y1⟩ := FT.out u hSu
    (go_simp) <;> (with_reducible rfl)
  change wpAnyH _ _ _ _ _ _ _ (Act.put _ (some 11) _) _
  simp only [Act.put, List.setIfInBounds_toArray, List.set_cons_zero, List.set_cons_succ]
  refine wpAnyH_ready (rs := [7]) (by kernel_rfl) (by simp) ?_
  refine AllReadyH.cons rfl (fun K hK => ?_) AllReadyH.nil
  go_simp
  go_at_call 30
  refine (CU.out _ hHeld).mono ?_
  rintro e x1 ⟨rfl, hb1⟩
  have B1 : Hid (Below w1.heap.size w1 x1) := hHeld.trans (hb1.mono hHeld.size); clear hb1
  refine hK.out _ _ ?_ (fun hHeld2 => ?_)
  · exact B1.out
  clear hK K hHeld
  have hHeld := hHeld2
  clear hHeld2
  refine wpAnyH_take (i := 8) (v := ?_) rfl (by kernel_rfl) (by kernel_rfl) (by kernel_rfl) (fun _ _ _ h => h) (Or.inl ⟨by rfl, ?_⟩) hHeld ?_
  rotate_left
  · intro u hSu
    (go_simp) <;> (with_reducible rfl)
  change wpAnyH _ _ _ _ _ _ _ (Act.put _ (some 13) _) _
  simp only [Act.put, List.setIfInBounds_toArray, List.set_cons_zero, List.set_cons_succ]
  refine wpAnyH_take (i := 9) (v := ?_) rfl (by kernel_rfl) (by kernel_rfl) (by kernel_rfl) (fun _ _ _ h => h) (Or.inl ⟨by rfl, ?_⟩) hHeld ?_
  rotate_left
  · intro u hSu
    (go_simp) <;> (with_reducible rfl)
  change wpAnyH _ _ _ _ _ _ _ (Act.put _ (some 4) _) _
  simp only [Act.put, List.setIfInBounds_toArray, List.set_cons_zero, List.set_cons_succ]
  refine wpAnyH_done (by kernel_rfl) ?_ _
  refine NoPanic.normal ?_
  go_wp2
  go_ret
  rw [HS.out]
  exact ⟨rfl, HB1.out.trans (B1.out.mono HB1.out.size)⟩
end Go.Proofs.Ytimiciellbdphaa
