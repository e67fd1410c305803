/-
  What the landed parts ask of writes: is one of them held, or newer; is there room (package part: anyConflict, anyFull).
-/
import Derived.Test.YtileidbdmpeciaaGreatAu87
import Derived.Test.YtileidbdmpeciaaGreatAu112
import Derived.Test.YtileidbdmpeciaaGreatStoC2
namespace Go.Proofs.YtileidbdmpeciaaGreat
open Go.RowKit
set_option linter.unusedVariables false
set_option linter.unusedSimpArgs false

set_option maxHeartbeats 8000000 in
set_option maxRecDepth 8000 in
theorem pconf1_any {p s tb m : Nat} {P : PSt} {M : List EntM} {XS XT : Foot} (W : Wrt) (hW : WrtOk W) (es em : Int) (bp be : Nat) (w : World) (h : ParI w p s tb m P M XS XT) (hp : w.cell? ⟨bp, 0, none⟩ = some (.pointer (some ⟨p, 0, none⟩))) (he1 : w.cell? ⟨be, 1, none⟩ = some (.int .i64 es)) (he2 : w.cell? ⟨be, 2, none⟩ = some (.int .u8 em)) :
    Calls Tryz.prog 84 #[wv W, .pointer (some ⟨bp, 0, none⟩), .pointer (some ⟨be, 0, none⟩)] w fun e w' => e = .returned (.bool (cfW P.S P.T es em W)) ∧ Below w.heap.size w w' := by
  obtain ⟨C, hC⟩ : ∃ C, C = encW W := ⟨_, rfl⟩
  obtain ⟨W0, hW0⟩ : ∃ u, u = w.alloc (.cells C.toArray 80) := ⟨_, rfl⟩
  have hmine : WrtMine W0 w.heap.size 0 W := by rw [hW0, hC]; exact WrtMine.made w 80 W hW.key
  have HB0 : Hid (Below w.heap.size w W0) := by rw [hW0]; exact (Below.refl _ _).alloc (Nat.le_refl _) _
  obtain ⟨K1, hK1⟩ : ∃ K1, K1 = W.k := ⟨_, rfl⟩
  have KY1 : Hid (Ky K1) := by rw [hK1]; exact hW.key
  have FK : Hid (∀ u, Below W0.heap.size W0 u → KeyAt u w.heap.size 0 K1) := fun u hu => by rw [hK1]; exact hmine.keyat.past hu
  have HQ : Hid (∀ u, Below W0.heap.size W0 u → Below w.heap.size w u ∧ u.cell? ⟨bp, 0, none⟩ = some (.pointer (some ⟨p, 0, none⟩)) ∧ u.cell? ⟨p, 0, none⟩ = some (.pointer (some ⟨s, 0, none⟩)) ∧ u.cell? ⟨p, 1, none⟩ = some (.pointer (some ⟨tb, 0, none⟩)) ∧ u.cell? ⟨be, 1, none⟩ = some (.int .i64 es) ∧ u.cell? ⟨be, 2, none⟩ = some (.int .u8 em)) := fun u hu => by
    have hb := HB0.out.trans (hu.mono HB0.out.size)
    exact ⟨hb, (hb.cell (p := ⟨bp, 0, none⟩) (cell_lt hp)).trans hp, (h.past hb).c0, (h.past hb).c1, (hb.cell (p := ⟨be, 1, none⟩) (cell_lt he1)).trans he1, (hb.cell (p := ⟨be, 2, none⟩) (cell_lt he2)).trans he2⟩
  obtain ⟨nt, hnt⟩ : ∃ z, z = newT (newestV P.S K1) := ⟨_, rfl⟩
  obtain ⟨nn, hnn⟩ : ∃ z, z = newN (newestV P.S K1) := ⟨_, rfl⟩
  obtain ⟨ok, hok⟩ : ∃ z, z = (newestV P.S K1).isSome := ⟨_, rfl⟩
  obtain ⟨hi, hhi⟩ : ∃ z, z = (orE (holdM M K1)).e.id := ⟨_, rfl⟩
  obtain ⟨hd, hhd⟩ : ∃ z, z = (holdM M K1).isSome := ⟨_, rfl⟩
  obtain ⟨cn, hcn⟩ : ∃ z, z = cmpS nt nn es em := ⟨_, rfl⟩
  have CN : Hid (∀ u, Below w.heap.size w u → Calls Tryz.prog 85 #[.pointer (some ⟨s, 0, none⟩), kv K1] u fun e w' => e = .returned (.tuple #[.agg #[.int .i64 nt, .int .u8 nn], .bool ok]) ∧ Below u.heap.size u w') := fun u hu => by rw [hnt, hnn, hok]; exact snewest_any s P.S XS K1 KY1.out u (h.past hu).sto
  have CHO : Hid (∀ u, Below w.heap.size w u → Calls Tryz.prog 86 #[.pointer (some ⟨tb, 0, none⟩), kv K1] u fun e w' => e = .returned (.tuple #[.int .i64 hi, .bool hd]) ∧ Below u.heap.size u w') := fun u hu => by rw [hhi, hhd]; exact pholder_any tb M XT K1 KY1.out u (h.past hu).tab
  have CCN : Hid (∀ u, Calls Tryz.prog 49 #[.agg #[.int .i64 nt, .int .u8 nn], .agg #[.int .i64 es, .int .u8 em]] u fun e w' => e = .returned (.int .i64 cn) ∧ Below u.heap.size u w') := fun u => by rw [hcn]; exact scmp_any nt nn es em u
  obtain ⟨R, hR⟩ : ∃ R, R = cfW P.S P.T es em W := ⟨_, rfl⟩
  have HR : Hid (R = (hd || (ok && decide (0 < cn)))) := by
    show _ = _
    rw [hR]
    unfold cfW
    rw [newer_e, ← h.is, ← holdM_e, Option.isSome_map, ← hK1, hhd, hok, hcn, hnt, hnn]
  have HW0 : Hid (w.alloc (.cells C.toArray 80) = W0) := hW0.symm
  show Calls Tryz.prog 84 #[.agg (encW W).toArray, .pointer (some ⟨bp, 0, none⟩), .pointer (some ⟨be, 0, none⟩)] w _
  rw [← hC, ← hR]
  clear hmine hW0 hC hW h hp he1 he2 hK1 hnt hnn hok hhi hhd hcn hR
  go_enter Tryz.func84, Tryz.ntmps84
  go_wp2
  rw [HW0.out]
  refine wp_region_noPanic ?_
  refine wp_region_held_drew (S := fun u => Below W0.heap.size W0 u) (by kernel_rfl) ?_ (fun hHeld => ?_)
  · exact (Below.refl _ _).drew
  refine wpAnyH_take (i := 0) (v := ?_) rfl (by kernel_rfl) (by kernel_rfl) (by kernel_rfl) (fun _ _ _ h => h) (Or.inl ⟨by rfl, ?_⟩) hHeld ?_
  rotate_left
  · intro u hSu
    have r9 := (HQ.out u hSu).2.1
    (go_simp) <;> (with_reducible rfl)
  change wpAnyH _ _ _ _ _ _ _ (Act.put _ (some 10) _) _
  simp only [Act.put, List.setIfInBounds_toArray, List.set_cons_zero, List.set_cons_succ]
  refine wpAnyH_take (i := 1) (v := ?_) rfl (by kernel_rfl) (by kernel_rfl) (by kernel_rfl) (fun _ _ _ h => h) (Or.inl ⟨by rfl, ?_⟩) hHeld ?_
  rotate_left
  · intro u hSu
    (go_simp) <;> (with_reducible rfl)
  change wpAnyH _ _ _ _ _ _ _ (Act.put _ (some 11) _) _
  simp only [Act.put, List.setIfInBounds_toArray, List.set_cons_zero, List.set_cons_succ]
  refine wpAnyH_take (i := 2) (v := ?_) rfl (by kernel_rfl) (by kernel_rfl) (by kernel_rfl) (fun _ _ _ h => h) (Or.inl ⟨by rfl, ?_⟩) hHeld ?_
  rotate_left
  · intro u hSu
    (go_simp) <;> (with_reducible rfl)
  change wpAnyH _ _ _ _ _ _ _ (Act.put _ (some 12) _) _
  simp only [Act.put, List.setIfInBounds_toArray, List.set_cons_zero, List.set_cons_succ]
  refine wpAnyH_take (i := 3) (v := ?_) rfl (by kernel_rfl) (by kernel_rfl) (by kernel_rfl) (fun _ _ _ h => h) (Or.inl ⟨by rfl, ?_⟩) hHeld ?_
  rotate_left
  · intro u hSu
    have r0 := (HQ.out u hSu).2.2.1
    (go_simp) <;> (with_reducible rfl)
  change wpAnyH _ _ _ _ _ _ _ (Act.put _ (some 13) _) _
  simp only [Act.put, List.setIfInBounds_toArray, List.set_cons_zero, List.set_cons_succ]
  refine wpAnyH_take (i := 4) (v := ?_) rfl (by kernel_rfl) (by kernel_rfl) (by kernel_rfl) (fun _ _ _ h => h) (Or.inl ⟨by rfl, ?_⟩) hHeld ?_
  rotate_left
  · intro u hSu
    (go_simp) <;> (with_reducible rfl)
  change wpAnyH _ _ _ _ _ _ _ (Act.put _ (some 14) _) _
  simp only [Act.put, List.setIfInBounds_toArray, List.set_cons_zero, List.set_cons_succ]
  refine wpAnyH_take (i := 5) (v := kv K1) rfl (by kernel_rfl) (by kernel_rfl) (by kernel_rfl) (fun _ _ _ h => h) (yieldsIf_load_mid (by rfl) _ _ rfl _ _ rfl (K1.map (Value.int .u8)) _ (fun u hu => (FK.out u hu).range KY1.out) Tryz.underlying38 rfl (info_keyl K1 KY1.out)) hHeld ?_
  change wpAnyH _ _ _ _ _ _ _ (Act.put _ (some 15) _) _
  simp only [Act.put, List.setIfInBounds_toArray, List.set_cons_zero, List.set_cons_succ]
  refine wpAnyH_ready (rs := [6, 10]) (by kernel_rfl) (by simp) ?_
  refine AllReadyH.cons rfl (fun K hK => ?_) ?_
  · go_simp
    go_at_call 85
    refine (CN.out _ (HQ.out _ hHeld).1).mono ?_
    rintro e x1 ⟨rfl, hb1⟩
    have B1 : Hid (Below W0.heap.size W0 x1) := hHeld.trans (hb1.mono hHeld.size)
    clear hb1
    refine hK.out _ _ ?_ (fun hHeld2 => ?_)
    · exact B1.out
    clear hK K hHeld
    have hHeld := hHeld2
    clear hHeld2
    refine wpAnyH_take (i := 7) (v := ?_) rfl (by kernel_rfl) (by kernel_rfl) (by kernel_rfl) (fun _ _ _ h => h) (Or.inl ⟨by rfl, ?_⟩) hHeld ?_
    rotate_left
    · intro u hSu
      (go_simp) <;> (with_reducible rfl)
    change wpAnyH _ _ _ _ _ _ _ (Act.put _ (some 9) _) _
    simp only [Act.put, List.setIfInBounds_toArray, List.set_cons_zero, List.set_cons_succ]
    refine wpAnyH_take (i := 8) (v := ?_) rfl (by kernel_rfl) (by kernel_rfl) (by kernel_rfl) (fun _ _ _ h => h) (Or.inl ⟨by rfl, ?_⟩) hHeld ?_
    rotate_left
    · intro u hSu
      (go_simp) <;> (with_reducible rfl)
    change wpAnyH _ _ _ _ _ _ _ (Act.put _ (some 17) _) _
    simp only [Act.put, List.setIfInBounds_toArray, List.set_cons_zero, List.set_cons_succ]
    refine wpAnyH_take (i := 9) (v := ?_) rfl (by kernel_rfl) (by kernel_rfl) (by kernel_rfl) (fun _ _ _ h => h) (Or.inl ⟨by rfl, ?_⟩) hHeld ?_
    rotate_left
    · intro u hSu
      (go_simp) <;> (with_reducible rfl)
    change wpAnyH _ _ _ _ _ _ _ (Act.put _ (some 18) _) _
    simp only [Act.put, List.setIfInBounds_toArray, List.set_cons_zero, List.set_cons_succ]
    refine wpAnyH_ready (rs := [10]) (by kernel_rfl) (by simp) ?_
    refine AllReadyH.cons rfl (fun K hK => ?_) AllReadyH.nil
    go_simp
    refine hK.out _ _ ?_ (fun hHeld2 => ?_)
    · exact hHeld.alloc hHeld.size _
    clear hK K hHeld
    have hHeld := hHeld2
    clear hHeld2
    refine wpAnyH_ready (rs := [11]) (by kernel_rfl) (by simp) ?_
    refine AllReadyH.cons rfl (fun K hK => ?_) AllReadyH.nil
    rw [if_pos (by rfl)]
    refine wp_store_mid 28 _ _ rfl (x1.heap.size) 0 #[.int .i64 nt, .int .u8 nn] rfl rfl (StMine.made x1 28 0 0).there (by rw [info_st]; rfl) (all_oneCell_toArray (fun u hu => by simp at hu; rcases hu with rfl | rfl <;> rfl)) ?_
    generalize hY : World.setCells _ (x1.heap.size) 0 (#[Value.int .i64 nt, Value.int .u8 nn] : Array Value).toList = Y
    have HVY : Hid (StMine Y (x1.heap.size) nt nn) := (by rw [← hY]; exact (StMine.made x1 28 0 0).store)
    have HBY : Hid (Below W0.heap.size W0 Y) := (by rw [← hY]; exact below_cells (B1.out.size) hHeld)
    clear hY
    refine hK.out _ _ ?_ (fun hHeld2 => ?_)
    · exact HBY.out
    clear hK K hHeld
    have hHeld := hHeld2
    clear hHeld2
    refine wpAnyH_take (i := 12) (v := ?_) rfl (by kernel_rfl) (by kernel_rfl) (by kernel_rfl) (fun _ _ _ h => h) (Or.inl ⟨by rfl, ?_⟩) hHeld ?_
    rotate_left
    · intro u hSu
      (go_simp) <;> (with_reducible rfl)
    change wpAnyH _ _ _ _ _ _ _ (Act.put _ (some 6) _) _
    simp only [Act.put, List.setIfInBounds_toArray]
    refine wpAnyH_done (by kernel_rfl) ?_ _
    refine NoPanic.normal ?_
    obtain ⟨b7, hb7⟩ : ∃ b7, b7 = x1.heap.size := ⟨_, rfl⟩
    rw [← hb7] at HVY ⊢
    clear hb7
    have FWY : Hid (∀ u, Below Y.heap.size Y u → Below W0.heap.size W0 u) := fun u hu => HBY.out.trans (hu.mono HBY.out.size)
    have FKY : Hid (∀ u, Below Y.heap.size Y u → KeyAt u w.heap.size 0 K1) := fun u hu => FK.out u (FWY.out u hu)
    go_wp2
    refine wp_region_noPanic ?_
    refine wp_region_held_drew (S := fun u => Below Y.heap.size Y u) (by kernel_rfl) ?_ (fun hHeld => ?_)
    · exact (Below.refl _ _).drew
    refine wpAnyH_take (i := 0) (v := ?_) rfl (by kernel_rfl) (by kernel_rfl) (by kernel_rfl) (fun _ _ _ h => h) (Or.inl ⟨by rfl, ?_⟩) hHeld ?_
    rotate_left
    · intro u hSu
      have r9 := (HQ.out u (FWY.out u hSu)).2.1
      (go_simp) <;> (with_reducible rfl)
    change wpAnyH _ _ _ _ _ _ _ (Act.put _ (some 20) _) _
    simp only [Act.put, List.setIfInBounds_toArray, List.set_cons_zero, List.set_cons_succ]
    refine wpAnyH_take (i := 1) (v := ?_) rfl (by kernel_rfl) (by kernel_rfl) (by kernel_rfl) (fun _ _ _ h => h) (Or.inl ⟨by rfl, ?_⟩) hHeld ?_
    rotate_left
    · intro u hSu
      (go_simp) <;> (with_reducible rfl)
    change wpAnyH _ _ _ _ _ _ _ (Act.put _ (some 21) _) _
    simp only [Act.put, List.setIfInBounds_toArray, List.set_cons_zero, List.set_cons_succ]
    refine wpAnyH_take (i := 2) (v := ?_) rfl (by kernel_rfl) (by kernel_rfl) (by kernel_rfl) (fun _ _ _ h => h) (Or.inl ⟨by rfl, ?_⟩) hHeld ?_
    rotate_left
    · intro u hSu
      (go_simp) <;> (with_reducible rfl)
    change wpAnyH _ _ _ _ _ _ _ (Act.put _ (some 22) _) _
    simp only [Act.put, List.setIfInBounds_toArray, List.set_cons_zero, List.set_cons_succ]
    refine wpAnyH_take (i := 3) (v := ?_) rfl (by kernel_rfl) (by kernel_rfl) (by kernel_rfl) (fun _ _ _ h => h) (Or.inl ⟨by rfl, ?_⟩) hHeld ?_
    rotate_left
    · intro u hSu
      have r1 := (HQ.out u (FWY.out u hSu)).2.2.2.1
      (go_simp) <;> (with_reducible rfl)
    change wpAnyH _ _ _ _ _ _ _ (Act.put _ (some 23) _) _
    simp only [Act.put, List.setIfInBounds_toArray, List.set_cons_zero, List.set_cons_succ]
    refine wpAnyH_take (i := 4) (v := ?_) rfl (by kernel_rfl) (by kernel_rfl) (by kernel_rfl) (fun _ _ _ h => h) (Or.inl ⟨by rfl, ?_⟩) hHeld ?_
    rotate_left
    · intro u hSu
      (go_simp) <;> (with_reducible rfl)
    change wpAnyH _ _ _ _ _ _ _ (Act.put _ (some 24) _) _
    simp only [Act.put, List.setIfInBounds_toArray, List.set_cons_zero, List.set_cons_succ]
    refine wpAnyH_take (i := 5) (v := kv K1) rfl (by kernel_rfl) (by kernel_rfl) (by kernel_rfl) (fun _ _ _ h => h) (yieldsIf_load_mid (by rfl) _ _ rfl _ _ rfl (K1.map (Value.int .u8)) _ (fun u hu => (FKY.out u hu).range KY1.out) Tryz.underlying38 rfl (info_keyl K1 KY1.out)) hHeld ?_
    change wpAnyH _ _ _ _ _ _ _ (Act.put _ (some 25) _) _
    simp only [Act.put, List.setIfInBounds_toArray, List.set_cons_zero, List.set_cons_succ]
    refine wpAnyH_ready (rs := [6]) (by kernel_rfl) (by simp) ?_
    refine AllReadyH.cons rfl (fun K hK => ?_) AllReadyH.nil
    go_simp
    go_at_call 86
    refine (CHO.out _ (HQ.out _ (FWY.out _ hHeld)).1).mono ?_
    rintro e x2 ⟨rfl, hb2⟩
    have B2 : Hid (Below Y.heap.size Y x2) := hHeld.trans (hb2.mono hHeld.size)
    clear hb2
    refine hK.out _ _ ?_ (fun hHeld2 => ?_)
    · exact B2.out
    clear hK K hHeld
    have hHeld := hHeld2
    clear hHeld2
    refine wpAnyH_take (i := 7) (v := ?_) rfl (by kernel_rfl) (by kernel_rfl) (by kernel_rfl) (fun _ _ _ h => h) (Or.inl ⟨by rfl, ?_⟩) hHeld ?_
    rotate_left
    · intro u hSu
      (go_simp) <;> (with_reducible rfl)
    change wpAnyH _ _ _ _ _ _ _ (Act.put _ (some 19) _) _
    simp only [Act.put, List.setIfInBounds_toArray, List.set_cons_zero, List.set_cons_succ]
    refine wpAnyH_take (i := 8) (v := ?_) rfl (by kernel_rfl) (by kernel_rfl) (by kernel_rfl) (fun _ _ _ h => h) (Or.inl ⟨by rfl, ?_⟩) hHeld ?_
    rotate_left
    · intro u hSu
      (go_simp) <;> (with_reducible rfl)
    change wpAnyH _ _ _ _ _ _ _ (Act.put _ (some 27) _) _
    simp only [Act.put, List.setIfInBounds_toArray, List.set_cons_zero, List.set_cons_succ]
    refine wpAnyH_take (i := 9) (v := ?_) rfl (by kernel_rfl) (by kernel_rfl) (by kernel_rfl) (fun _ _ _ h => h) (Or.inl ⟨by rfl, ?_⟩) hHeld ?_
    rotate_left
    · intro u hSu
      (go_simp) <;> (with_reducible rfl)
    change wpAnyH _ _ _ _ _ _ _ (Act.put _ (some 28) _) _
    simp only [Act.put, List.setIfInBounds_toArray, List.set_cons_zero, List.set_cons_succ]
    refine wpAnyH_take (i := 10) (v := ?_) rfl (by kernel_rfl) (by kernel_rfl) (by kernel_rfl) (fun _ _ _ h => h) (Or.inl ⟨by rfl, ?_⟩) hHeld ?_
    rotate_left
    · intro u hSu
      (go_simp) <;> (with_reducible rfl)
    change wpAnyH _ _ _ _ _ _ _ (Act.put _ (some 7) _) _
    simp only [Act.put, List.setIfInBounds_toArray, List.set_cons_zero, List.set_cons_succ]
    refine wpAnyH_take (i := 11) (v := ?_) rfl (by kernel_rfl) (by kernel_rfl) (by kernel_rfl) (fun _ _ _ h => h) (Or.inl ⟨by rfl, ?_⟩) hHeld ?_
    rotate_left
    · intro u hSu
      (go_simp) <;> (with_reducible rfl)
    change wpAnyH _ _ _ _ _ _ _ (Act.put _ (some 8) _) _
    simp only [Act.put, List.setIfInBounds_toArray, List.set_cons_zero, List.set_cons_succ]
    refine wpAnyH_done (by kernel_rfl) ?_ _
    refine NoPanic.normal ?_
    have W2 : Hid (Below W0.heap.size W0 x2) := FWY.out _ B2.out
    cases hd with
    | true =>
      have HF : Hid (R = true) := HR.out.trans (by simp)
      go_wp2
      go_ret
      exact ⟨by rw [HF.out]; rfl, (HQ.out _ W2.out).1⟩
    | false =>
      cases ok with
      | false =>
        have HF : Hid (R = false) := HR.out.trans (by simp)
        go_wp2
        go_ret
        exact ⟨by rw [HF.out]; rfl, (HQ.out _ W2.out).1⟩
      | true =>
        have HF : Hid (R = decide (0 < cn)) := HR.out.trans (by simp)
        obtain ⟨s0, s1, _⟩ := HVY.out.past B2.out
        obtain ⟨_, _, _, _, e1, e2⟩ := HQ.out x2 W2.out
        go_wp2_with (first | (go_at_call 49; refine (CCN.out _).mono ?_; rintro e x3 ⟨rfl, hb3⟩; have B3 : Hid (Below x2.heap.size x2 x3) := hb3; clear hb3))
        go_ret
        exact ⟨by rw [HF.out]; rfl, (HQ.out _ (W2.out.trans (B3.out.mono W2.out.size))).1⟩
  refine AllReadyH.cons rfl (fun K hK => ?_) AllReadyH.nil
  go_simp
  refine hK.out _ _ ?_ (fun hHeld2 => ?_)
  · exact hHeld.alloc hHeld.size _
  clear hK K hHeld
  have hHeld := hHeld2
  clear hHeld2
  refine wpAnyH_ready (rs := [6]) (by kernel_rfl) (by simp) ?_
  refine AllReadyH.cons rfl (fun K hK => ?_) AllReadyH.nil
  go_simp
  go_at_call 85
  refine (CN.out _ (HQ.out _ hHeld).1).mono ?_
  rintro e x1 ⟨rfl, hb1⟩
  have B1 : Hid (Below W0.heap.size W0 x1) := hHeld.trans (hb1.mono hHeld.size)
  have HZ1 : Hid (StMine x1 W0.heap.size 0 0) := (StMine.made W0.drew 28 0 0).past hb1
  clear hb1
  refine hK.out _ _ ?_ (fun hHeld2 => ?_)
  · exact B1.out
  clear hK K hHeld
  have hHeld := hHeld2
  clear hHeld2
  refine wpAnyH_take (i := 7) (v := ?_) rfl (by kernel_rfl) (by kernel_rfl) (by kernel_rfl) (fun _ _ _ h => h) (Or.inl ⟨by rfl, ?_⟩) hHeld ?_
  rotate_left
  · intro u hSu
    (go_simp) <;> (with_reducible rfl)
  change wpAnyH _ _ _ _ _ _ _ (Act.put _ (some 9) _) _
  simp only [Act.put, List.setIfInBounds_toArray, List.set_cons_zero, List.set_cons_succ]
  refine wpAnyH_take (i := 8) (v := ?_) rfl (by kernel_rfl) (by kernel_rfl) (by kernel_rfl) (fun _ _ _ h => h) (Or.inl ⟨by rfl, ?_⟩) hHeld ?_
  rotate_left
  · intro u hSu
    (go_simp) <;> (with_reducible rfl)
  change wpAnyH _ _ _ _ _ _ _ (Act.put _ (some 17) _) _
  simp only [Act.put, List.setIfInBounds_toArray, List.set_cons_zero, List.set_cons_succ]
  refine wpAnyH_take (i := 9) (v := ?_) rfl (by kernel_rfl) (by kernel_rfl) (by kernel_rfl) (fun _ _ _ h => h) (Or.inl ⟨by rfl, ?_⟩) hHeld ?_
  rotate_left
  · intro u hSu
    (go_simp) <;> (with_reducible rfl)
  change wpAnyH _ _ _ _ _ _ _ (Act.put _ (some 18) _) _
  simp only [Act.put, List.setIfInBounds_toArray, List.set_cons_zero, List.set_cons_succ]
  refine wpAnyH_ready (rs := [11]) (by kernel_rfl) (by simp) ?_
  refine AllReadyH.cons rfl (fun K hK => ?_) AllReadyH.nil
  rw [if_pos (by rfl)]
  refine wp_store_mid 28 _ _ rfl (W0.heap.size) 0 #[.int .i64 nt, .int .u8 nn] rfl rfl (HZ1.out).there (by rw [info_st]; rfl) (all_oneCell_toArray (fun u hu => by simp at hu; rcases hu with rfl | rfl <;> rfl)) ?_
  generalize hY : World.setCells _ (W0.heap.size) 0 (#[Value.int .i64 nt, Value.int .u8 nn] : Array Value).toList = Y
  have HVY : Hid (StMine Y (W0.heap.size) nt nn) := (by rw [← hY]; exact (HZ1.out).store)
  have HBY : Hid (Below W0.heap.size W0 Y) := (by rw [← hY]; exact below_cells (Nat.le_refl _) hHeld)
  clear hY
  refine hK.out _ _ ?_ (fun hHeld2 => ?_)
  · exact HBY.out
  clear hK K hHeld
  have hHeld := hHeld2
  clear hHeld2
  refine wpAnyH_take (i := 12) (v := ?_) rfl (by kernel_rfl) (by kernel_rfl) (by kernel_rfl) (fun _ _ _ h => h) (Or.inl ⟨by rfl, ?_⟩) hHeld ?_
  rotate_left
  · intro u hSu
    (go_simp) <;> (with_reducible rfl)
  change wpAnyH _ _ _ _ _ _ _ (Act.put _ (some 6) _) _
  simp only [Act.put, List.setIfInBounds_toArray]
  refine wpAnyH_done (by kernel_rfl) ?_ _
  refine NoPanic.normal ?_
  obtain ⟨b7, hb7⟩ : ∃ b7, b7 = W0.heap.size := ⟨_, rfl⟩
  rw [← hb7] at HVY ⊢
  clear hb7
  have FWY : Hid (∀ u, Below Y.heap.size Y u → Below W0.heap.size W0 u) := fun u hu => HBY.out.trans (hu.mono HBY.out.size)
  have FKY : Hid (∀ u, Below Y.heap.size Y u → KeyAt u w.heap.size 0 K1) := fun u hu => FK.out u (FWY.out u hu)
  go_wp2
  refine wp_region_noPanic ?_
  refine wp_region_held_drew (S := fun u => Below Y.heap.size Y u) (by kernel_rfl) ?_ (fun hHeld => ?_)
  · exact (Below.refl _ _).drew
  refine wpAnyH_take (i := 0) (v := ?_) rfl (by kernel_rfl) (by kernel_rfl) (by kernel_rfl) (fun _ _ _ h => h) (Or.inl ⟨by rfl, ?_⟩) hHeld ?_
  rotate_left
  · intro u hSu
    have r9 := (HQ.out u (FWY.out u hSu)).2.1
    (go_simp) <;> (with_reducible rfl)
  change wpAnyH _ _ _ _ _ _ _ (Act.put _ (some 20) _) _
  simp only [Act.put, List.setIfInBounds_toArray, List.set_cons_zero, List.set_cons_succ]
  refine wpAnyH_take (i := 1) (v := ?_) rfl (by kernel_rfl) (by kernel_rfl) (by kernel_rfl) (fun _ _ _ h => h) (Or.inl ⟨by rfl, ?_⟩) hHeld ?_
  rotate_left
  · intro u hSu
    (go_simp) <;> (with_reducible rfl)
  change wpAnyH _ _ _ _ _ _ _ (Act.put _ (some 21) _) _
  simp only [Act.put, List.setIfInBounds_toArray, List.set_cons_zero, List.set_cons_succ]
  refine wpAnyH_take (i := 2) (v := ?_) rfl (by kernel_rfl) (by kernel_rfl) (by kernel_rfl) (fun _ _ _ h => h) (Or.inl ⟨by rfl, ?_⟩) hHeld ?_
  rotate_left
  · intro u hSu
    (go_simp) <;> (with_reducible rfl)
  change wpAnyH _ _ _ _ _ _ _ (Act.put _ (some 22) _) _
  simp only [Act.put, List.setIfInBounds_toArray, List.set_cons_zero, List.set_cons_succ]
  refine wpAnyH_take (i := 3) (v := ?_) rfl (by kernel_rfl) (by kernel_rfl) (by kernel_rfl) (fun _ _ _ h => h) (Or.inl ⟨by rfl, ?_⟩) hHeld ?_
  rotate_left
  · intro u hSu
    have r1 := (HQ.out u (FWY.out u hSu)).2.2.2.1
    (go_simp) <;> (with_reducible rfl)
  change wpAnyH _ _ _ _ _ _ _ (Act.put _ (some 23) _) _
  simp only [Act.put, List.setIfInBounds_toArray, List.set_cons_zero, List.set_cons_succ]
  refine wpAnyH_take (i := 4) (v := ?_) rfl (by kernel_rfl) (by kernel_rfl) (by kernel_rfl) (fun _ _ _ h => h) (Or.inl ⟨by rfl, ?_⟩) hHeld ?_
  rotate_left
  · intro u hSu
    (go_simp) <;> (with_reducible rfl)
  change wpAnyH _ _ _ _ _ _ _ (Act.put _ (some 24) _) _
  simp only [Act.put, List.setIfInBounds_toArray, List.set_cons_zero, List.set_cons_succ]
  refine wpAnyH_take (i := 5) (v := kv K1) rfl (by kernel_rfl) (by kernel_rfl) (by kernel_rfl) (fun _ _ _ h => h) (yieldsIf_load_mid (by rfl) _ _ rfl _ _ rfl (K1.map (Value.int .u8)) _ (fun u hu => (FKY.out u hu).range KY1.out) Tryz.underlying38 rfl (info_keyl K1 KY1.out)) hHeld ?_
  change wpAnyH _ _ _ _ _ _ _ (Act.put _ (some 25) _) _
  simp only [Act.put, List.setIfInBounds_toArray, List.set_cons_zero, List.set_cons_succ]
  refine wpAnyH_ready (rs := [6]) (by kernel_rfl) (by simp) ?_
  refine AllReadyH.cons rfl (fun K hK => ?_) AllReadyH.nil
  go_simp
  go_at_call 86
  refine (CHO.out _ (HQ.out _ (FWY.out _ hHeld)).1).mono ?_
  rintro e x2 ⟨rfl, hb2⟩
  have B2 : Hid (Below Y.heap.size Y x2) := hHeld.trans (hb2.mono hHeld.size)
  clear hb2
  refine hK.out _ _ ?_ (fun hHeld2 => ?_)
  · exact B2.out
  clear hK K hHeld
  have hHeld := hHeld2
  clear hHeld2
  refine wpAnyH_take (i := 7) (v := ?_) rfl (by kernel_rfl) (by kernel_rfl) (by kernel_rfl) (fun _ _ _ h => h) (Or.inl ⟨by rfl, ?_⟩) hHeld ?_
  rotate_left
  · intro u hSu
    (go_simp) <;> (with_reducible rfl)
  change wpAnyH _ _ _ _ _ _ _ (Act.put _ (some 19) _) _
  simp only [Act.put, List.setIfInBounds_toArray, List.set_cons_zero, List.set_cons_succ]
  refine wpAnyH_take (i := 8) (v := ?_) rfl (by kernel_rfl) (by kernel_rfl) (by kernel_rfl) (fun _ _ _ h => h) (Or.inl ⟨by rfl, ?_⟩) hHeld ?_
  rotate_left
  · intro u hSu
    (go_simp) <;> (with_reducible rfl)
  change wpAnyH _ _ _ _ _ _ _ (Act.put _ (some 27) _) _
  simp only [Act.put, List.setIfInBounds_toArray, List.set_cons_zero, List.set_cons_succ]
  refine wpAnyH_take (i := 9) (v := ?_) rfl (by kernel_rfl) (by kernel_rfl) (by kernel_rfl) (fun _ _ _ h => h) (Or.inl ⟨by rfl, ?_⟩) hHeld ?_
  rotate_left
  · intro u hSu
    (go_simp) <;> (with_reducible rfl)
  change wpAnyH _ _ _ _ _ _ _ (Act.put _ (some 28) _) _
  simp only [Act.put, List.setIfInBounds_toArray, List.set_cons_zero, List.set_cons_succ]
  refine wpAnyH_take (i := 10) (v := ?_) rfl (by kernel_rfl) (by kernel_rfl) (by kernel_rfl) (fun _ _ _ h => h) (Or.inl ⟨by rfl, ?_⟩) hHeld ?_
  rotate_left
  · intro u hSu
    (go_simp) <;> (with_reducible rfl)
  change wpAnyH _ _ _ _ _ _ _ (Act.put _ (some 7) _) _
  simp only [Act.put, List.setIfInBounds_toArray, List.set_cons_zero, List.set_cons_succ]
  refine wpAnyH_take (i := 11) (v := ?_) rfl (by kernel_rfl) (by kernel_rfl) (by kernel_rfl) (fun _ _ _ h => h) (Or.inl ⟨by rfl, ?_⟩) hHeld ?_
  rotate_left
  · intro u hSu
    (go_simp) <;> (with_reducible rfl)
  change wpAnyH _ _ _ _ _ _ _ (Act.put _ (some 8) _) _
  simp only [Act.put, List.setIfInBounds_toArray, List.set_cons_zero, List.set_cons_succ]
  refine wpAnyH_done (by kernel_rfl) ?_ _
  refine NoPanic.normal ?_
  have W2 : Hid (Below W0.heap.size W0 x2) := FWY.out _ B2.out
  cases hd with
  | true =>
    have HF : Hid (R = true) := HR.out.trans (by simp)
    go_wp2
    go_ret
    exact ⟨by rw [HF.out]; rfl, (HQ.out _ W2.out).1⟩
  | false =>
    cases ok with
    | false =>
      have HF : Hid (R = false) := HR.out.trans (by simp)
      go_wp2
      go_ret
      exact ⟨by rw [HF.out]; rfl, (HQ.out _ W2.out).1⟩
    | true =>
      have HF : Hid (R = decide (0 < cn)) := HR.out.trans (by simp)
      obtain ⟨s0, s1, _⟩ := HVY.out.past B2.out
      obtain ⟨_, _, _, _, e1, e2⟩ := HQ.out x2 W2.out
      go_wp2_with (first | (go_at_call 49; refine (CCN.out _).mono ?_; rintro e x3 ⟨rfl, hb3⟩; have B3 : Hid (Below x2.heap.size x2 x3) := hb3; clear hb3))
      go_ret
      exact ⟨by rw [HF.out]; rfl, (HQ.out _ (W2.out.trans (B3.out.mono W2.out.size))).1⟩
set_option maxHeartbeats 2000000 in
theorem pconf_any {p s tb m : Nat} {P : PSt} {M : List EntM} {XS XT : Foot} (id es em t n : Int) (a : Option Addr) (N c : Nat) (l : List Wrt) (w : World) (h : ParI w p s tb m P M XS XT) (hl : l.length = N) (hc : N ≤ c) (hN : N ≤ 1000000) (hw : WrtsAt w a l) :
    Calls Tryz.prog 43 #[.pointer (some ⟨p, 0, none⟩), .agg #[.int .i64 id, .int .i64 es, .int .u8 em, .int .i64 t, .int .u8 n, .slice a N c]] w fun e w' => e = .returned (.bool (l.any (cfW P.S P.T es em))) ∧ Below w.heap.size w w' := by
  obtain ⟨W0, hW0⟩ : ∃ u, u = (w.alloc (.cells #[.pointer (some ⟨p, 0, none⟩)] 23)).alloc (.cells #[.int .i64 id, .int .i64 es, .int .u8 em, .int .i64 t, .int .u8 n, .slice a N c] 31) := ⟨_, rfl⟩
  have hb1 : Below w.heap.size w (w.alloc (.cells #[.pointer (some ⟨p, 0, none⟩)] 23)) := (Below.refl _ _).alloc (Nat.le_refl _) _
  have hb0 : Below w.heap.size w W0 := by rw [hW0]; exact hb1.alloc hb1.size _
  have HB0 : Hid (Below w.heap.size w W0) := hb0
  have e0 : W0.heap.size = w.heap.size + 2 := by rw [hW0]; simp
  have k0 : W0.cell? ⟨w.heap.size, 0, none⟩ = some (.pointer (some ⟨p, 0, none⟩)) := by
    rw [hW0]
    refine (((Below.refl (w.alloc (.cells #[.pointer (some ⟨p, 0, none⟩)] 23)).heap.size _).alloc (Nat.le_refl _) _).cell (p := ⟨w.heap.size, 0, none⟩) (by simp)).trans ?_
    rw [World.cell?_alloc_new]
    rfl
  have k1 : ∀ o, W0.cell? ⟨w.heap.size + 1, o, none⟩ = (#[.int .i64 id, .int .i64 es, .int .u8 em, .int .i64 t, .int .u8 n, .slice a N c] : Array Value)[o]? := fun o => by
    have := World.cell?_alloc_new (w.alloc (.cells #[.pointer (some ⟨p, 0, none⟩)] 23)) #[.int .i64 id, .int .i64 es, .int .u8 em, .int .i64 t, .int .u8 n, .slice a N c] 31 o
    rw [World.size_alloc] at this
    rw [hW0]
    exact this
  obtain ⟨R, hR⟩ : ∃ R, R = l.any (cfW P.S P.T es em) := ⟨_, rfl⟩
  have CI : Hid (Calls Tryz.prog 83 #[.slice a N c, .func (.func 84) #[] #[.pointer (some ⟨w.heap.size, 0, none⟩), .pointer (some ⟨w.heap.size + 1, 0, none⟩)]] W0 fun e w' => e = .returned (.bool R) ∧ Below W0.heap.size W0 w') := by
    rw [hR]
    exact pacc_any a N c l (cfW P.S P.T es em) _ _ W0 hl hc hN (hw.past hb0) (fun W hW u hu => pconf1_any W (hw.oks W hW) es em _ _ u ((h.past hb0).past hu) ((hu.cell (p := ⟨w.heap.size, 0, none⟩) (cell_lt k0)).trans k0) ((hu.cell (p := ⟨w.heap.size + 1, 1, none⟩) (by show w.heap.size + 1 < _; omega)).trans (k1 1)) ((hu.cell (p := ⟨w.heap.size + 1, 2, none⟩) (by show w.heap.size + 1 < _; omega)).trans (k1 2)))
  have HW0 : Hid ((w.alloc (.cells #[.pointer (some ⟨p, 0, none⟩)] 23)).alloc (.cells #[.int .i64 id, .int .i64 es, .int .u8 em, .int .i64 t, .int .u8 n, .slice a N c] 31) = W0) := hW0.symm
  rw [← hR]
  clear hW0 hb1 hb0 e0 k0 k1 h hw hl hR
  go_enter Tryz.func43, Tryz.ntmps43
  go_wp2_with (first | (go_at_call 83; rw [HW0.out]; refine CI.out.mono ?_; rintro e w1 ⟨rfl, hb⟩; have B1 : Hid (Below w.heap.size w w1) := HB0.out.trans (hb.mono HB0.out.size); clear hb))
  go_ret
  exact ⟨rfl, B1.out⟩
set_option maxHeartbeats 4000000 in
theorem pfull1_any {p s tb m : Nat} {P : PSt} {M : List EntM} {XS XT : Foot} (W : Wrt) (hW : WrtOk W) (bp : Nat) (w : World) (h : ParI w p s tb m P M XS XT) (hp : w.cell? ⟨bp, 0, none⟩ = some (.pointer (some ⟨p, 0, none⟩))) :
    Calls Tryz.prog 87 #[wv W, .pointer (some ⟨bp, 0, none⟩)] w fun e w' => e = .returned (.bool (decide (50 ≤ kMany P.S W.k))) ∧ Below w.heap.size w w' := by
  obtain ⟨C, hC⟩ : ∃ C, C = encW W := ⟨_, rfl⟩
  obtain ⟨W0, hW0⟩ : ∃ u, u = w.alloc (.cells C.toArray 80) := ⟨_, rfl⟩
  have hmine : WrtMine W0 w.heap.size 0 W := by rw [hW0, hC]; exact WrtMine.made w 80 W hW.key
  have HB0 : Hid (Below w.heap.size w W0) := by rw [hW0]; exact (Below.refl _ _).alloc (Nat.le_refl _) _
  obtain ⟨K1, hK1⟩ : ∃ K1, K1 = W.k := ⟨_, rfl⟩
  have KY1 : Hid (Ky K1) := by rw [hK1]; exact hW.key
  have FK : Hid (∀ u, Below W0.heap.size W0 u → KeyAt u w.heap.size 0 K1) := fun u hu => by rw [hK1]; exact hmine.keyat.past hu
  have HQ : Hid (∀ u, Below W0.heap.size W0 u → Below w.heap.size w u ∧ u.cell? ⟨bp, 0, none⟩ = some (.pointer (some ⟨p, 0, none⟩)) ∧ u.cell? ⟨p, 0, none⟩ = some (.pointer (some ⟨s, 0, none⟩))) := fun u hu => by
    have hb := HB0.out.trans (hu.mono HB0.out.size)
    exact ⟨hb, (hb.cell (p := ⟨bp, 0, none⟩) (cell_lt hp)).trans hp, (h.past hb).c0⟩
  obtain ⟨N, hN⟩ : ∃ N, N = kMany P.S K1 := ⟨_, rfl⟩
  have CCH : Hid (∀ u, Below w.heap.size w u → Calls Tryz.prog 80 #[.pointer (some ⟨s, 0, none⟩), kv K1] u fun e w' => (∃ a c, e = .returned (.slice a N c)) ∧ Below u.heap.size u w') := fun u hu => by
    refine (schain_any s P.S XS K1 KY1.out u (h.past hu).sto).mono ?_
    rintro e w' ⟨⟨a, c, rfl, _⟩, hb⟩
    exact ⟨⟨a, c, by rw [hN, ← one_len]⟩, hb⟩
  obtain ⟨R, hR⟩ : ∃ R, R = decide (50 ≤ kMany P.S W.k) := ⟨_, rfl⟩
  have HR : Hid (R = decide ((50 : Int) ≤ (N : Int))) := by
    show _ = _
    rw [hR, hN, hK1]
    exact decide_eq_decide.2 (by omega)
  have HW0 : Hid (w.alloc (.cells C.toArray 80) = W0) := hW0.symm
  show Calls Tryz.prog 87 #[.agg (encW W).toArray, .pointer (some ⟨bp, 0, none⟩)] w _
  rw [← hC, ← hR]
  clear hmine hW0 hC hW h hp hK1 hN hR
  go_enter Tryz.func87, Tryz.ntmps87
  go_wp2
  rw [HW0.out]
  refine wp_region_noPanic ?_
  refine wp_region_held_drew (S := fun u => Below W0.heap.size W0 u) (by kernel_rfl) ?_ (fun hHeld => ?_)
  · exact (Below.refl _ _).drew
  refine wpAnyH_take (i := 0) (v := ?_) rfl (by kernel_rfl) (by kernel_rfl) (by kernel_rfl) (fun _ _ _ h => h) (Or.inl ⟨by rfl, ?_⟩) hHeld ?_
  rotate_left
  · intro u hSu
    have r9 := (HQ.out u hSu).2.1
    (go_simp) <;> (with_reducible rfl)
  change wpAnyH _ _ _ _ _ _ _ (Act.put _ (some 4) _) _
  simp only [Act.put, List.setIfInBounds_toArray, List.set_cons_zero, List.set_cons_succ]
  refine wpAnyH_take (i := 1) (v := ?_) rfl (by kernel_rfl) (by kernel_rfl) (by kernel_rfl) (fun _ _ _ h => h) (Or.inl ⟨by rfl, ?_⟩) hHeld ?_
  rotate_left
  · intro u hSu
    (go_simp) <;> (with_reducible rfl)
  change wpAnyH _ _ _ _ _ _ _ (Act.put _ (some 5) _) _
  simp only [Act.put, List.setIfInBounds_toArray, List.set_cons_zero, List.set_cons_succ]
  refine wpAnyH_take (i := 2) (v := ?_) rfl (by kernel_rfl) (by kernel_rfl) (by kernel_rfl) (fun _ _ _ h => h) (Or.inl ⟨by rfl, ?_⟩) hHeld ?_
  rotate_left
  · intro u hSu
    (go_simp) <;> (with_reducible rfl)
  change wpAnyH _ _ _ _ _ _ _ (Act.put _ (some 6) _) _
  simp only [Act.put, List.setIfInBounds_toArray, List.set_cons_zero, List.set_cons_succ]
  refine wpAnyH_take (i := 3) (v := ?_) rfl (by kernel_rfl) (by kernel_rfl) (by kernel_rfl) (fun _ _ _ h => h) (Or.inl ⟨by rfl, ?_⟩) hHeld ?_
  rotate_left
  · intro u hSu
    have r0 := (HQ.out u hSu).2.2
    (go_simp) <;> (with_reducible rfl)
  change wpAnyH _ _ _ _ _ _ _ (Act.put _ (some 7) _) _
  simp only [Act.put, List.setIfInBounds_toArray, List.set_cons_zero, List.set_cons_succ]
  refine wpAnyH_take (i := 4) (v := ?_) rfl (by kernel_rfl) (by kernel_rfl) (by kernel_rfl) (fun _ _ _ h => h) (Or.inl ⟨by rfl, ?_⟩) hHeld ?_
  rotate_left
  · intro u hSu
    (go_simp) <;> (with_reducible rfl)
  change wpAnyH _ _ _ _ _ _ _ (Act.put _ (some 8) _) _
  simp only [Act.put, List.setIfInBounds_toArray, List.set_cons_zero, List.set_cons_succ]
  refine wpAnyH_take (i := 5) (v := kv K1) rfl (by kernel_rfl) (by kernel_rfl) (by kernel_rfl) (fun _ _ _ h => h) (yieldsIf_load_mid (by rfl) _ _ rfl _ _ rfl (K1.map (Value.int .u8)) _ (fun u hu => (FK.out u hu).range KY1.out) Tryz.underlying38 rfl (info_keyl K1 KY1.out)) hHeld ?_
  change wpAnyH _ _ _ _ _ _ _ (Act.put _ (some 9) _) _
  simp only [Act.put, List.setIfInBounds_toArray, List.set_cons_zero, List.set_cons_succ]
  refine wpAnyH_ready (rs := [6]) (by kernel_rfl) (by simp) ?_
  refine AllReadyH.cons rfl (fun K hK => ?_) AllReadyH.nil
  go_simp
  go_at_call 80
  refine (CCH.out _ (HQ.out _ hHeld).1).mono ?_
  rintro e w1 ⟨⟨ca, cc, rfl⟩, hb⟩
  have B1 : Hid (Below W0.heap.size W0 w1) := hHeld.trans (hb.mono hHeld.size); clear hb
  refine hK.out _ _ ?_ (fun hHeld2 => ?_)
  · exact B1.out
  clear hK K hHeld
  have hHeld := hHeld2
  clear hHeld2
  refine wpAnyH_take (i := 7) (v := ?_) rfl (by kernel_rfl) (by kernel_rfl) (by kernel_rfl) (fun _ _ _ h => h) (Or.inl ⟨by rfl, ?_⟩) hHeld ?_
  rotate_left
  · intro u hSu
    (go_simp) <;> (with_reducible rfl)
  change wpAnyH _ _ _ _ _ _ _ (Act.put _ (some 11) _) _
  simp only [Act.put, List.setIfInBounds_toArray, List.set_cons_zero, List.set_cons_succ]
  refine wpAnyH_take (i := 8) (v := ?_) rfl (by kernel_rfl) (by kernel_rfl) (by kernel_rfl) (fun _ _ _ h => h) (Or.inl ⟨by rfl, ?_⟩) hHeld ?_
  rotate_left
  · intro u hSu
    (go_simp) <;> (with_reducible rfl)
  change wpAnyH _ _ _ _ _ _ _ (Act.put _ (some 12) _) _
  simp only [Act.put, List.setIfInBounds_toArray, List.set_cons_zero, List.set_cons_succ]
  refine wpAnyH_take (i := 9) (v := ?_) rfl (by kernel_rfl) (by kernel_rfl) (by kernel_rfl) (fun _ _ _ h => h) (Or.inl ⟨by rfl, ?_⟩) hHeld ?_
  rotate_left
  · intro u hSu
    (go_simp) <;> (with_reducible rfl)
  change wpAnyH _ _ _ _ _ _ _ (Act.put _ (some 3) _) _
  simp only [Act.put, List.setIfInBounds_toArray, List.set_cons_zero, List.set_cons_succ]
  refine wpAnyH_done (by kernel_rfl) ?_ _
  refine NoPanic.normal ?_
  go_wp2
  go_ret
  exact ⟨by rw [HR.out]; rfl, (HQ.out _ B1.out).1⟩
set_option maxHeartbeats 2000000 in
theorem pfull_any {p s tb m : Nat} {P : PSt} {M : List EntM} {XS XT : Foot} (a : Option Addr) (N c : Nat) (l : List Wrt) (w : World) (h : ParI w p s tb m P M XS XT) (hl : l.length = N) (hc : N ≤ c) (hN : N ≤ 1000000) (hw : WrtsAt w a l) :
    Calls Tryz.prog 44 #[.pointer (some ⟨p, 0, none⟩), .slice a N c] w fun e w' => e = .returned (.bool (l.any (fun W => decide (50 ≤ kMany P.S W.k)))) ∧ Below w.heap.size w w' := by
  obtain ⟨W0, hW0⟩ : ∃ u, u = w.alloc (.cells #[.pointer (some ⟨p, 0, none⟩)] 23) := ⟨_, rfl⟩
  have hb0 : Below w.heap.size w W0 := by rw [hW0]; exact (Below.refl _ _).alloc (Nat.le_refl _) _
  have HB0 : Hid (Below w.heap.size w W0) := hb0
  have k0 : W0.cell? ⟨w.heap.size, 0, none⟩ = some (.pointer (some ⟨p, 0, none⟩)) := by rw [hW0, World.cell?_alloc_new]; rfl
  obtain ⟨R, hR⟩ : ∃ R, R = l.any (fun W => decide (50 ≤ kMany P.S W.k)) := ⟨_, rfl⟩
  have CI : Hid (Calls Tryz.prog 83 #[.slice a N c, .func (.func 87) #[] #[.pointer (some ⟨w.heap.size, 0, none⟩)]] W0 fun e w' => e = .returned (.bool R) ∧ Below W0.heap.size W0 w') := by
    rw [hR]
    exact pacf_any a N c l (fun W => decide (50 ≤ kMany P.S W.k)) _ W0 hl hc hN (hw.past hb0) (fun W hW u hu => pfull1_any W (hw.oks W hW) _ u ((h.past hb0).past hu) ((hu.cell (p := ⟨w.heap.size, 0, none⟩) (cell_lt k0)).trans k0))
  have HW0 : Hid (w.alloc (.cells #[.pointer (some ⟨p, 0, none⟩)] 23) = W0) := hW0.symm
  rw [← hR]
  clear hW0 hb0 k0 h hw hl hR
  go_enter Tryz.func44, Tryz.ntmps44
  go_wp2_with (first | (go_at_call 83; rw [HW0.out]; refine CI.out.mono ?_; rintro e w1 ⟨rfl, hb⟩; have B1 : Hid (Below w.heap.size w w1) := HB0.out.trans (hb.mono HB0.out.size); clear hb))
  go_ret
  exact ⟨rfl, B1.out⟩
end Go.Proofs.YtileidbdmpeciaaGreat
