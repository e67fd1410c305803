/-
  The landed rec: Good.
-/
import Derived.Test.YtcppihpehipelaaAu68
import Derived.Test.YtcppihpehipelaaWrtGood
namespace Go.Proofs.Ytcppihpehipelaa
open Go.RowKit
set_option linter.unusedVariables false

open Classical in
set_option maxHeartbeats 8000000 in
set_option maxRecDepth 8000 in
theorem lgood_any (x : RcM) (w : World) (h : RcW w x) :
    Calls Try.prog 36 #[rcv x] w fun e w' => e = .returned (.bool (goodR x.r)) ∧ Below w.heap.size w w' := by
  have hgo := good_only x
  have CO : Hid (∀ u, Calls Try.prog 56 #[rcv x] u fun e w' => e = .returned (rcv (onlyM x)) ∧ Below u.heap.size u w') := fun u => lonly_any x u
  have CS : Hid (∀ u, Below w.heap.size w u → Calls Try.prog 17 #[rcv x, rcv (onlyM x)] u fun e w' => e = .returned (.bool (decide (x.r = (onlyM x).r))) ∧ Below u.heap.size u w') := fun u hu => lsame_any x (onlyM x) u (h.past hu) (h.past hu).only
  obtain ⟨Y, hY⟩ : ∃ Y, Y = rcv (onlyM x) := ⟨_, rfl⟩
  rw [← hY] at CO CS
  obtain ⟨R1, hR1⟩ : ∃ R, R = decide (x.r = (onlyM x).r) := ⟨_, rfl⟩
  rw [← hR1] at CS hgo
  clear hY hR1
  obtain ⟨⟨kd, id, s, m, t, n, l, y, ps⟩, a, c, pa, pc⟩ := x
  obtain ⟨hwr, hrm, hfw, hps, hpr, hpf, hkd, hok⟩ := h
  simp only at hwr hrm hfw hps hpr hpf hkd hgo
  obtain ⟨N, hN⟩ : ∃ N, l.length = N := ⟨_, rfl⟩
  obtain ⟨M, hM⟩ : ∃ N, ps.length = N := ⟨_, rfl⟩
  unfold rcv encR at CO CS ⊢
  simp only at CO CS ⊢
  simp only [hN, hM] at CO CS hrm hfw hpr hpf ⊢
  obtain ⟨U, hU⟩ : ∃ U, U = w.alloc (.cells #[.int .i64 kd, .int .i64 id, .int .i64 s, .int .u8 m, .int .i64 t, .int .u8 n, .slice a N c, .bool y, .slice pa M pc] 37) := ⟨_, rfl⟩
  have HU : Hid (w.alloc (.cells #[.int .i64 kd, .int .i64 id, .int .i64 s, .int .u8 m, .int .i64 t, .int .u8 n, .slice a N c, .bool y, .slice pa M pc] 37) = U) := hU.symm
  have HB : Hid (Below w.heap.size w U) := by rw [hU]; exact (Below.refl _ _).alloc (Nat.le_refl _) _
  have hbx : RBox U w.heap.size kd id s m t n a N c y pa M pc := by
    rw [hU]; exact RBox.made w 37 kd id s m t n a N c y pa M pc
  have FB : Hid (∀ u, Below U.heap.size U u → RBox u w.heap.size kd id s m t n a N c y pa M pc) := fun u hb => hbx.past hb
  have CS : Hid (∀ u, Below U.heap.size U u → Calls Try.prog 17 #[.agg #[.int .i64 kd, .int .i64 id, .int .i64 s, .int .u8 m, .int .i64 t, .int .u8 n, .slice a N c, .bool y, .slice pa M pc], Y] u fun e w' => e = .returned (.bool R1) ∧ Below u.heap.size u w') := fun u hu => CS.out u (HB.out.trans (hu.mono HB.out.size))
  obtain ⟨g1, hg1⟩ : ∃ x, x = decide (okS s) := ⟨_, rfl⟩
  obtain ⟨g2, hg2⟩ : ∃ x, x = decide (okS t) := ⟨_, rfl⟩
  have CG1 : Hid (∀ u, Calls Try.prog 35 #[.agg #[.int .i64 s, .int .u8 m]] u fun e w' => e = .returned (.bool g1) ∧ Below u.heap.size u w') := fun u => by rw [hg1]; have := sgood_any s m u; rwa [show (decide (okS s) : Bool) = @decide (okS s) _ from by congr] at this
  have CG2 : Hid (∀ u, Calls Try.prog 35 #[.agg #[.int .i64 t, .int .u8 n]] u fun e w' => e = .returned (.bool g2) ∧ Below u.heap.size u w') := fun u => by rw [hg2]; have := sgood_any t n u; rwa [show (decide (okS t) : Bool) = @decide (okS t) _ from by congr] at this
  rw [← hg1, ← hg2] at hgo
  have CC : Hid (∀ u, Calls Try.prog 39 #[.agg #[.int .i64 t, .int .u8 n], .agg #[.int .i64 s, .int .u8 m]] u fun e w' => e = .returned (.int .i64 (cmpS t n s m)) ∧ Below u.heap.size u w') := fun u => scmp_any t n s m u
  have CW : Hid (∀ u, Below U.heap.size U u → Calls Try.prog 57 #[.slice a N c] u fun e w' => e = .returned (.bool (mayW l 1)) ∧ Below u.heap.size u w') := fun u hu => sgoods_any a N c l u hN hrm (by omega) ((hwr.past HB.out).past hu)
  have CP : Hid (∀ u, Below U.heap.size U u → Calls Try.prog 58 #[.slice pa M pc] u fun e w' => e = .returned (.bool (partsB ps)) ∧ w' = u) := fun u hu => lgoodps_any pa M pc ps u hM (by omega) ((hps.past HB.out).past hu)
  obtain ⟨xc, hxc⟩ : ∃ x, x = cmpS t n s m := ⟨_, rfl⟩
  obtain ⟨mw, hmw⟩ : ∃ x, x = mayW l 1 := ⟨_, rfl⟩
  obtain ⟨pb, hpb⟩ : ∃ x, x = partsB ps := ⟨_, rfl⟩
  have hk : kindR ⟨kd, id, s, m, t, n, l, y, ps⟩ = (if kd = 1 then decide (1 ≤ id) && decide (0 < xc) && mw else if kd = 2 then decide (1 ≤ id) else if kd = 3 then decide (1 ≤ id) else if kd = 4 then decide (1 ≤ id) && pb else decide (kd = 5)) := by rw [hxc, hmw, hpb]; rfl
  rw [← hxc] at CC
  rw [← hmw] at CW
  rw [← hpb] at CP
  rw [hk] at hgo
  obtain ⟨R, hR⟩ : ∃ R, R = goodR ⟨kd, id, s, m, t, n, l, y, ps⟩ := ⟨_, rfl⟩
  rw [← hR] at hgo ⊢
  have HR : Hid _ := hgo
  clear hwr hrm hfw hps hpr hpf hkd hok hN hM hU hbx hg1 hg2 hxc hmw hpb hR hk hgo
  cases R1 with
  | false =>
    have E : Hid (R = false) := by rw [HR.out]; simp [Hid]
    clear HR
    go_enter Try.func36, Try.ntmps36
    go_wp2
    rw [HU.out]
    refine wp_region_noPanic ?_
    refine wp_region_held_drew (S := fun u => Below U.heap.size U u) (by kernel_rfl) ?_ (fun hHeld => ?_)
    · exact (Below.refl _ _).drew
    refine wpAnyH_take (i := 0) (v := ?_) rfl (by kernel_rfl) (by kernel_rfl) (by kernel_rfl) (fun _ _ _ h => h) (Or.inl ⟨by rfl, ?_⟩) hHeld ?_
    rotate_left
    · intro u hSu
      obtain ⟨y0, y1, y2, y3, y4, y5, y6, y7, y8⟩ := FB.out u hSu
      (go_simp) <;> (with_reducible rfl)
    change wpAnyH _ _ _ _ _ _ _ (Act.put _ (some 3) _) _
    simp only [Act.put, List.setIfInBounds_toArray, List.set_cons_zero, List.set_cons_succ]
    refine wpAnyH_take (i := 1) (v := ?_) rfl (by kernel_rfl) (by kernel_rfl) (by kernel_rfl) (fun _ _ _ h => h) (Or.inl ⟨by rfl, ?_⟩) hHeld ?_
    rotate_left
    · intro u hSu
      obtain ⟨y0, y1, y2, y3, y4, y5, y6, y7, y8⟩ := FB.out u hSu
      (go_simp) <;> (with_reducible rfl)
    change wpAnyH _ _ _ _ _ _ _ (Act.put _ (some 4) _) _
    simp only [Act.put, List.setIfInBounds_toArray, List.set_cons_zero, List.set_cons_succ]
    refine wpAnyH_ready (rs := [2]) (by kernel_rfl) (by simp) ?_
    refine AllReadyH.cons rfl (fun K hK => ?_) AllReadyH.nil
    go_simp
    go_at_call 56
    refine (CO.out _).mono ?_
    rintro e u1 ⟨rfl, hb1⟩
    have B1 : Hid (Below U.heap.size U u1) := hHeld.trans (hb1.mono hHeld.size); clear hb1
    refine hK.out _ _ ?_ (fun hHeld2 => ?_)
    · exact B1.out
    clear hK K hHeld
    have hHeld := hHeld2
    clear hHeld2
    refine wpAnyH_ready (rs := [3]) (by kernel_rfl) (by simp) ?_
    refine AllReadyH.cons rfl (fun K hK => ?_) AllReadyH.nil
    go_simp
    go_at_call 17
    refine (CS.out _ B1.out).mono ?_
    rintro e u2 ⟨rfl, hb2⟩
    have B2 : Hid (Below U.heap.size U u2) := B1.out.trans (hb2.mono B1.out.size); clear hb2
    refine hK.out _ _ ?_ (fun hHeld2 => ?_)
    · exact B2.out
    clear hK K hHeld
    have hHeld := hHeld2
    clear hHeld2
    refine wpAnyH_take (i := 4) (v := ?_) rfl (by kernel_rfl) (by kernel_rfl) (by kernel_rfl) (fun _ _ _ h => h) (Or.inl ⟨by rfl, ?_⟩) hHeld ?_
    rotate_left
    · intro u hSu
      (go_simp) <;> (with_reducible rfl)
    change wpAnyH _ _ _ _ _ _ _ (Act.put _ (some 7) _) _
    simp only [Act.put, List.setIfInBounds_toArray, List.set_cons_zero, List.set_cons_succ]
    refine wpAnyH_take (i := 5) (v := ?_) rfl (by kernel_rfl) (by kernel_rfl) (by kernel_rfl) (fun _ _ _ h => h) (Or.inl ⟨by rfl, ?_⟩) hHeld ?_
    rotate_left
    · intro u hSu
      (go_simp) <;> (with_reducible rfl)
    change wpAnyH _ _ _ _ _ _ _ (Act.put _ (some 8) _) _
    simp only [Act.put, List.setIfInBounds_toArray, List.set_cons_zero, List.set_cons_succ]
    refine wpAnyH_take (i := 6) (v := undef) rfl (by kernel_rfl) (by kernel_rfl) (by kernel_rfl) (fun _ _ _ h => h) (Or.inr ⟨by rfl, rfl⟩) hHeld ?_
    change wpAnyH _ _ _ _ _ _ _ (Act.put _ (some 9) _) _
    simp only [Act.put, List.setIfInBounds_toArray, List.set_cons_zero, List.set_cons_succ]
    refine wpAnyH_take (i := 7) (v := undef) rfl (by kernel_rfl) (by kernel_rfl) (by kernel_rfl) (fun _ _ _ h => h) (Or.inr ⟨by rfl, rfl⟩) hHeld ?_
    change wpAnyH _ _ _ _ _ _ _ (Act.put _ (some 10) _) _
    simp only [Act.put, List.setIfInBounds_toArray, List.set_cons_zero, List.set_cons_succ]
    refine wpAnyH_take (i := 8) (v := undef) rfl (by kernel_rfl) (by kernel_rfl) (by kernel_rfl) (fun _ _ _ h => h) (Or.inr ⟨by rfl, rfl⟩) hHeld ?_
    change wpAnyH _ _ _ _ _ _ _ (Act.put _ (some 11) _) _
    simp only [Act.put, List.setIfInBounds_toArray, List.set_cons_zero, List.set_cons_succ]
    refine wpAnyH_take (i := 9) (v := undef) rfl (by kernel_rfl) (by kernel_rfl) (by kernel_rfl) (fun _ _ _ h => h) (Or.inr ⟨by rfl, rfl⟩) hHeld ?_
    change wpAnyH _ _ _ _ _ _ _ (Act.put _ (some 12) _) _
    simp only [Act.put, List.setIfInBounds_toArray, List.set_cons_zero, List.set_cons_succ]
    refine wpAnyH_take (i := 10) (v := ?_) rfl (by kernel_rfl) (by kernel_rfl) (by kernel_rfl) (fun _ _ _ h => h) (Or.inl ⟨by rfl, ?_⟩) hHeld ?_
    rotate_left
    · intro u hSu
      (go_simp) <;> (with_reducible rfl)
    change wpAnyH _ _ _ _ _ _ _ (Act.put _ (some 13) _) _
    simp only [Act.put, List.setIfInBounds_toArray, List.set_cons_zero, List.set_cons_succ]
    refine wpAnyH_take (i := 11) (v := ?_) rfl (by kernel_rfl) (by kernel_rfl) (by kernel_rfl) (fun _ _ _ h => h) (Or.inl ⟨by rfl, ?_⟩) hHeld ?_
    rotate_left
    · intro u hSu
      (go_simp) <;> (with_reducible rfl)
    change wpAnyH _ _ _ _ _ _ _ (Act.put _ (some 14) _) _
    simp only [Act.put, List.setIfInBounds_toArray, List.set_cons_zero, List.set_cons_succ]
    refine wpAnyH_take (i := 12) (v := undef) rfl (by kernel_rfl) (by kernel_rfl) (by kernel_rfl) (fun _ _ _ h => h) (Or.inr ⟨by rfl, rfl⟩) hHeld ?_
    change wpAnyH _ _ _ _ _ _ _ (Act.put _ (some 15) _) _
    simp only [Act.put, List.setIfInBounds_toArray, List.set_cons_zero, List.set_cons_succ]
    refine wpAnyH_take (i := 13) (v := undef) rfl (by kernel_rfl) (by kernel_rfl) (by kernel_rfl) (fun _ _ _ h => h) (Or.inr ⟨by rfl, rfl⟩) hHeld ?_
    change wpAnyH _ _ _ _ _ _ _ (Act.put _ (some 16) _) _
    simp only [Act.put, List.setIfInBounds_toArray, List.set_cons_zero, List.set_cons_succ]
    refine wpAnyH_take (i := 14) (v := undef) rfl (by kernel_rfl) (by kernel_rfl) (by kernel_rfl) (fun _ _ _ h => h) (Or.inr ⟨by rfl, rfl⟩) hHeld ?_
    change wpAnyH _ _ _ _ _ _ _ (Act.put _ (some 17) _) _
    simp only [Act.put, List.setIfInBounds_toArray, List.set_cons_zero, List.set_cons_succ]
    refine wpAnyH_take (i := 15) (v := undef) rfl (by kernel_rfl) (by kernel_rfl) (by kernel_rfl) (fun _ _ _ h => h) (Or.inr ⟨by rfl, rfl⟩) hHeld ?_
    change wpAnyH _ _ _ _ _ _ _ (Act.put _ (some 18) _) _
    simp only [Act.put, List.setIfInBounds_toArray, List.set_cons_zero, List.set_cons_succ]
    refine wpAnyH_take (i := 16) (v := ?_) rfl (by kernel_rfl) (by kernel_rfl) (by kernel_rfl) (fun _ _ _ h => h) (Or.inl ⟨by rfl, ?_⟩) hHeld ?_
    rotate_left
    · intro u hSu
      (go_simp) <;> (with_reducible rfl)
    change wpAnyH _ _ _ _ _ _ _ (Act.put _ (some 19) _) _
    simp only [Act.put, List.setIfInBounds_toArray, List.set_cons_zero, List.set_cons_succ]
    refine wpAnyH_done (by kernel_rfl) ?_ _
    refine NoPanic.normal ?_
    go_wp2
    go_ret
    exact ⟨by rw [E.out]; rfl, HB.out.trans (B2.out.mono HB.out.size)⟩
  | true =>
    cases g1 with
    | false =>
      have E : Hid (R = false) := by rw [HR.out]; simp [Hid]
      clear HR
      go_enter Try.func36, Try.ntmps36
      go_wp2
      rw [HU.out]
      refine wp_region_noPanic ?_
      refine wp_region_held_drew (S := fun u => Below U.heap.size U u) (by kernel_rfl) ?_ (fun hHeld => ?_)
      · exact (Below.refl _ _).drew
      refine wpAnyH_take (i := 0) (v := ?_) rfl (by kernel_rfl) (by kernel_rfl) (by kernel_rfl) (fun _ _ _ h => h) (Or.inl ⟨by rfl, ?_⟩) hHeld ?_
      rotate_left
      · intro u hSu
        obtain ⟨y0, y1, y2, y3, y4, y5, y6, y7, y8⟩ := FB.out u hSu
        (go_simp) <;> (with_reducible rfl)
      change wpAnyH _ _ _ _ _ _ _ (Act.put _ (some 3) _) _
      simp only [Act.put, List.setIfInBounds_toArray, List.set_cons_zero, List.set_cons_succ]
      refine wpAnyH_take (i := 1) (v := ?_) rfl (by kernel_rfl) (by kernel_rfl) (by kernel_rfl) (fun _ _ _ h => h) (Or.inl ⟨by rfl, ?_⟩) hHeld ?_
      rotate_left
      · intro u hSu
        obtain ⟨y0, y1, y2, y3, y4, y5, y6, y7, y8⟩ := FB.out u hSu
        (go_simp) <;> (with_reducible rfl)
      change wpAnyH _ _ _ _ _ _ _ (Act.put _ (some 4) _) _
      simp only [Act.put, List.setIfInBounds_toArray, List.set_cons_zero, List.set_cons_succ]
      refine wpAnyH_ready (rs := [2]) (by kernel_rfl) (by simp) ?_
      refine AllReadyH.cons rfl (fun K hK => ?_) AllReadyH.nil
      go_simp
      go_at_call 56
      refine (CO.out _).mono ?_
      rintro e u1 ⟨rfl, hb1⟩
      have B1 : Hid (Below U.heap.size U u1) := hHeld.trans (hb1.mono hHeld.size); clear hb1
      refine hK.out _ _ ?_ (fun hHeld2 => ?_)
      · exact B1.out
      clear hK K hHeld
      have hHeld := hHeld2
      clear hHeld2
      refine wpAnyH_ready (rs := [3]) (by kernel_rfl) (by simp) ?_
      refine AllReadyH.cons rfl (fun K hK => ?_) AllReadyH.nil
      go_simp
      go_at_call 17
      refine (CS.out _ B1.out).mono ?_
      rintro e u2 ⟨rfl, hb2⟩
      have B2 : Hid (Below U.heap.size U u2) := B1.out.trans (hb2.mono B1.out.size); clear hb2
      refine hK.out _ _ ?_ (fun hHeld2 => ?_)
      · exact B2.out
      clear hK K hHeld
      have hHeld := hHeld2
      clear hHeld2
      refine wpAnyH_take (i := 4) (v := ?_) rfl (by kernel_rfl) (by kernel_rfl) (by kernel_rfl) (fun _ _ _ h => h) (Or.inl ⟨by rfl, ?_⟩) hHeld ?_
      rotate_left
      · intro u hSu
        (go_simp) <;> (with_reducible rfl)
      change wpAnyH _ _ _ _ _ _ _ (Act.put _ (some 7) _) _
      simp only [Act.put, List.setIfInBounds_toArray, List.set_cons_zero, List.set_cons_succ]
      refine wpAnyH_take (i := 5) (v := ?_) rfl (by kernel_rfl) (by kernel_rfl) (by kernel_rfl) (fun _ _ _ h => h) (Or.inl ⟨by rfl, ?_⟩) hHeld ?_
      rotate_left
      · intro u hSu
        (go_simp) <;> (with_reducible rfl)
      change wpAnyH _ _ _ _ _ _ _ (Act.put _ (some 8) _) _
      simp only [Act.put, List.setIfInBounds_toArray, List.set_cons_zero, List.set_cons_succ]
      refine wpAnyH_take (i := 6) (v := ?_) rfl (by kernel_rfl) (by kernel_rfl) (by kernel_rfl) (fun _ _ _ h => h) (Or.inl ⟨by rfl, ?_⟩) hHeld ?_
      rotate_left
      · intro u hSu
        (go_simp) <;> (with_reducible rfl)
      change wpAnyH _ _ _ _ _ _ _ (Act.put _ (some 9) _) _
      simp only [Act.put, List.setIfInBounds_toArray, List.set_cons_zero, List.set_cons_succ]
      refine wpAnyH_take (i := 7) (v := ?_) rfl (by kernel_rfl) (by kernel_rfl) (by kernel_rfl) (fun _ _ _ h => h) (Or.inl ⟨by rfl, ?_⟩) hHeld ?_
      rotate_left
      · intro u hSu
        obtain ⟨y0, y1, y2, y3, y4, y5, y6, y7, y8⟩ := FB.out u hSu
        (go_simp) <;> (with_reducible rfl)
      change wpAnyH _ _ _ _ _ _ _ (Act.put _ (some 10) _) _
      simp only [Act.put, List.setIfInBounds_toArray, List.set_cons_zero, List.set_cons_succ]
      refine wpAnyH_ready (rs := [8]) (by kernel_rfl) (by simp) ?_
      refine AllReadyH.cons rfl (fun K hK => ?_) AllReadyH.nil
      go_simp
      go_at_call 35
      refine (CG1.out _).mono ?_
      rintro e u3 ⟨rfl, hb3⟩
      have B3 : Hid (Below U.heap.size U u3) := B2.out.trans (hb3.mono B2.out.size); clear hb3
      refine hK.out _ _ ?_ (fun hHeld2 => ?_)
      · exact B3.out
      clear hK K hHeld
      have hHeld := hHeld2
      clear hHeld2
      refine wpAnyH_take (i := 9) (v := ?_) rfl (by kernel_rfl) (by kernel_rfl) (by kernel_rfl) (fun _ _ _ h => h) (Or.inl ⟨by rfl, ?_⟩) hHeld ?_
      rotate_left
      · intro u hSu
        (go_simp) <;> (with_reducible rfl)
      change wpAnyH _ _ _ _ _ _ _ (Act.put _ (some 12) _) _
      simp only [Act.put, List.setIfInBounds_toArray, List.set_cons_zero, List.set_cons_succ]
      refine wpAnyH_take (i := 10) (v := ?_) rfl (by kernel_rfl) (by kernel_rfl) (by kernel_rfl) (fun _ _ _ h => h) (Or.inl ⟨by rfl, ?_⟩) hHeld ?_
      rotate_left
      · intro u hSu
        (go_simp) <;> (with_reducible rfl)
      change wpAnyH _ _ _ _ _ _ _ (Act.put _ (some 13) _) _
      simp only [Act.put, List.setIfInBounds_toArray, List.set_cons_zero, List.set_cons_succ]
      refine wpAnyH_take (i := 11) (v := ?_) rfl (by kernel_rfl) (by kernel_rfl) (by kernel_rfl) (fun _ _ _ h => h) (Or.inl ⟨by rfl, ?_⟩) hHeld ?_
      rotate_left
      · intro u hSu
        (go_simp) <;> (with_reducible rfl)
      change wpAnyH _ _ _ _ _ _ _ (Act.put _ (some 14) _) _
      simp only [Act.put, List.setIfInBounds_toArray, List.set_cons_zero, List.set_cons_succ]
      refine wpAnyH_take (i := 12) (v := undef) rfl (by kernel_rfl) (by kernel_rfl) (by kernel_rfl) (fun _ _ _ h => h) (Or.inr ⟨by rfl, rfl⟩) hHeld ?_
      change wpAnyH _ _ _ _ _ _ _ (Act.put _ (some 15) _) _
      simp only [Act.put, List.setIfInBounds_toArray, List.set_cons_zero, List.set_cons_succ]
      refine wpAnyH_take (i := 13) (v := undef) rfl (by kernel_rfl) (by kernel_rfl) (by kernel_rfl) (fun _ _ _ h => h) (Or.inr ⟨by rfl, rfl⟩) hHeld ?_
      change wpAnyH _ _ _ _ _ _ _ (Act.put _ (some 16) _) _
      simp only [Act.put, List.setIfInBounds_toArray, List.set_cons_zero, List.set_cons_succ]
      refine wpAnyH_take (i := 14) (v := undef) rfl (by kernel_rfl) (by kernel_rfl) (by kernel_rfl) (fun _ _ _ h => h) (Or.inr ⟨by rfl, rfl⟩) hHeld ?_
      change wpAnyH _ _ _ _ _ _ _ (Act.put _ (some 17) _) _
      simp only [Act.put, List.setIfInBounds_toArray, List.set_cons_zero, List.set_cons_succ]
      refine wpAnyH_take (i := 15) (v := undef) rfl (by kernel_rfl) (by kernel_rfl) (by kernel_rfl) (fun _ _ _ h => h) (Or.inr ⟨by rfl, rfl⟩) hHeld ?_
      change wpAnyH _ _ _ _ _ _ _ (Act.put _ (some 18) _) _
      simp only [Act.put, List.setIfInBounds_toArray, List.set_cons_zero, List.set_cons_succ]
      refine wpAnyH_take (i := 16) (v := ?_) rfl (by kernel_rfl) (by kernel_rfl) (by kernel_rfl) (fun _ _ _ h => h) (Or.inl ⟨by rfl, ?_⟩) hHeld ?_
      rotate_left
      · intro u hSu
        (go_simp) <;> (with_reducible rfl)
      change wpAnyH _ _ _ _ _ _ _ (Act.put _ (some 19) _) _
      simp only [Act.put, List.setIfInBounds_toArray, List.set_cons_zero, List.set_cons_succ]
      refine wpAnyH_done (by kernel_rfl) ?_ _
      refine NoPanic.normal ?_
      go_wp2
      go_ret
      exact ⟨by rw [E.out]; rfl, HB.out.trans (B3.out.mono HB.out.size)⟩
    | true =>
      cases g2 with
      | false =>
        have E : Hid (R = false) := by rw [HR.out]; simp [Hid]
        clear HR
        go_enter Try.func36, Try.ntmps36
        go_wp2
        rw [HU.out]
        refine wp_region_noPanic ?_
        refine wp_region_held_drew (S := fun u => Below U.heap.size U u) (by kernel_rfl) ?_ (fun hHeld => ?_)
        · exact (Below.refl _ _).drew
        refine wpAnyH_take (i := 0) (v := ?_) rfl (by kernel_rfl) (by kernel_rfl) (by kernel_rfl) (fun _ _ _ h => h) (Or.inl ⟨by rfl, ?_⟩) hHeld ?_
        rotate_left
        · intro u hSu
          obtain ⟨y0, y1, y2, y3, y4, y5, y6, y7, y8⟩ := FB.out u hSu
          (go_simp) <;> (with_reducible rfl)
        change wpAnyH _ _ _ _ _ _ _ (Act.put _ (some 3) _) _
        simp only [Act.put, List.setIfInBounds_toArray, List.set_cons_zero, List.set_cons_succ]
        refine wpAnyH_take (i := 1) (v := ?_) rfl (by kernel_rfl) (by kernel_rfl) (by kernel_rfl) (fun _ _ _ h => h) (Or.inl ⟨by rfl, ?_⟩) hHeld ?_
        rotate_left
        · intro u hSu
          obtain ⟨y0, y1, y2, y3, y4, y5, y6, y7, y8⟩ := FB.out u hSu
          (go_simp) <;> (with_reducible rfl)
        change wpAnyH _ _ _ _ _ _ _ (Act.put _ (some 4) _) _
        simp only [Act.put, List.setIfInBounds_toArray, List.set_cons_zero, List.set_cons_succ]
        refine wpAnyH_ready (rs := [2]) (by kernel_rfl) (by simp) ?_
        refine AllReadyH.cons rfl (fun K hK => ?_) AllReadyH.nil
        go_simp
        go_at_call 56
        refine (CO.out _).mono ?_
        rintro e u1 ⟨rfl, hb1⟩
        have B1 : Hid (Below U.heap.size U u1) := hHeld.trans (hb1.mono hHeld.size); clear hb1
        refine hK.out _ _ ?_ (fun hHeld2 => ?_)
        · exact B1.out
        clear hK K hHeld
        have hHeld := hHeld2
        clear hHeld2
        refine wpAnyH_ready (rs := [3]) (by kernel_rfl) (by simp) ?_
        refine AllReadyH.cons rfl (fun K hK => ?_) AllReadyH.nil
        go_simp
        go_at_call 17
        refine (CS.out _ B1.out).mono ?_
        rintro e u2 ⟨rfl, hb2⟩
        have B2 : Hid (Below U.heap.size U u2) := B1.out.trans (hb2.mono B1.out.size); clear hb2
        refine hK.out _ _ ?_ (fun hHeld2 => ?_)
        · exact B2.out
        clear hK K hHeld
        have hHeld := hHeld2
        clear hHeld2
        refine wpAnyH_take (i := 4) (v := ?_) rfl (by kernel_rfl) (by kernel_rfl) (by kernel_rfl) (fun _ _ _ h => h) (Or.inl ⟨by rfl, ?_⟩) hHeld ?_
        rotate_left
        · intro u hSu
          (go_simp) <;> (with_reducible rfl)
        change wpAnyH _ _ _ _ _ _ _ (Act.put _ (some 7) _) _
        simp only [Act.put, List.setIfInBounds_toArray, List.set_cons_zero, List.set_cons_succ]
        refine wpAnyH_take (i := 5) (v := ?_) rfl (by kernel_rfl) (by kernel_rfl) (by kernel_rfl) (fun _ _ _ h => h) (Or.inl ⟨by rfl, ?_⟩) hHeld ?_
        rotate_left
        · intro u hSu
          (go_simp) <;> (with_reducible rfl)
        change wpAnyH _ _ _ _ _ _ _ (Act.put _ (some 8) _) _
        simp only [Act.put, List.setIfInBounds_toArray, List.set_cons_zero, List.set_cons_succ]
        refine wpAnyH_take (i := 6) (v := ?_) rfl (by kernel_rfl) (by kernel_rfl) (by kernel_rfl) (fun _ _ _ h => h) (Or.inl ⟨by rfl, ?_⟩) hHeld ?_
        rotate_left
        · intro u hSu
          (go_simp) <;> (with_reducible rfl)
        change wpAnyH _ _ _ _ _ _ _ (Act.put _ (some 9) _) _
        simp only [Act.put, List.setIfInBounds_toArray, List.set_cons_zero, List.set_cons_succ]
        refine wpAnyH_take (i := 7) (v := ?_) rfl (by kernel_rfl) (by kernel_rfl) (by kernel_rfl) (fun _ _ _ h => h) (Or.inl ⟨by rfl, ?_⟩) hHeld ?_
        rotate_left
        · intro u hSu
          obtain ⟨y0, y1, y2, y3, y4, y5, y6, y7, y8⟩ := FB.out u hSu
          (go_simp) <;> (with_reducible rfl)
        change wpAnyH _ _ _ _ _ _ _ (Act.put _ (some 10) _) _
        simp only [Act.put, List.setIfInBounds_toArray, List.set_cons_zero, List.set_cons_succ]
        refine wpAnyH_ready (rs := [8]) (by kernel_rfl) (by simp) ?_
        refine AllReadyH.cons rfl (fun K hK => ?_) AllReadyH.nil
        go_simp
        go_at_call 35
        refine (CG1.out _).mono ?_
        rintro e u3 ⟨rfl, hb3⟩
        have B3 : Hid (Below U.heap.size U u3) := B2.out.trans (hb3.mono B2.out.size); clear hb3
        refine hK.out _ _ ?_ (fun hHeld2 => ?_)
        · exact B3.out
        clear hK K hHeld
        have hHeld := hHeld2
        clear hHeld2
        refine wpAnyH_take (i := 9) (v := ?_) rfl (by kernel_rfl) (by kernel_rfl) (by kernel_rfl) (fun _ _ _ h => h) (Or.inl ⟨by rfl, ?_⟩) hHeld ?_
        rotate_left
        · intro u hSu
          (go_simp) <;> (with_reducible rfl)
        change wpAnyH _ _ _ _ _ _ _ (Act.put _ (some 12) _) _
        simp only [Act.put, List.setIfInBounds_toArray, List.set_cons_zero, List.set_cons_succ]
        refine wpAnyH_take (i := 10) (v := ?_) rfl (by kernel_rfl) (by kernel_rfl) (by kernel_rfl) (fun _ _ _ h => h) (Or.inl ⟨by rfl, ?_⟩) hHeld ?_
        rotate_left
        · intro u hSu
          (go_simp) <;> (with_reducible rfl)
        change wpAnyH _ _ _ _ _ _ _ (Act.put _ (some 13) _) _
        simp only [Act.put, List.setIfInBounds_toArray, List.set_cons_zero, List.set_cons_succ]
        refine wpAnyH_take (i := 11) (v := ?_) rfl (by kernel_rfl) (by kernel_rfl) (by kernel_rfl) (fun _ _ _ h => h) (Or.inl ⟨by rfl, ?_⟩) hHeld ?_
        rotate_left
        · intro u hSu
          (go_simp) <;> (with_reducible rfl)
        change wpAnyH _ _ _ _ _ _ _ (Act.put _ (some 14) _) _
        simp only [Act.put, List.setIfInBounds_toArray, List.set_cons_zero, List.set_cons_succ]
        refine wpAnyH_take (i := 12) (v := ?_) rfl (by kernel_rfl) (by kernel_rfl) (by kernel_rfl) (fun _ _ _ h => h) (Or.inl ⟨by rfl, ?_⟩) hHeld ?_
        rotate_left
        · intro u hSu
          (go_simp) <;> (with_reducible rfl)
        change wpAnyH _ _ _ _ _ _ _ (Act.put _ (some 15) _) _
        simp only [Act.put, List.setIfInBounds_toArray, List.set_cons_zero, List.set_cons_succ]
        refine wpAnyH_take (i := 13) (v := ?_) rfl (by kernel_rfl) (by kernel_rfl) (by kernel_rfl) (fun _ _ _ h => h) (Or.inl ⟨by rfl, ?_⟩) hHeld ?_
        rotate_left
        · intro u hSu
          obtain ⟨y0, y1, y2, y3, y4, y5, y6, y7, y8⟩ := FB.out u hSu
          (go_simp) <;> (with_reducible rfl)
        change wpAnyH _ _ _ _ _ _ _ (Act.put _ (some 16) _) _
        simp only [Act.put, List.setIfInBounds_toArray, List.set_cons_zero, List.set_cons_succ]
        refine wpAnyH_ready (rs := [14]) (by kernel_rfl) (by simp) ?_
        refine AllReadyH.cons rfl (fun K hK => ?_) AllReadyH.nil
        go_simp
        go_at_call 35
        refine (CG2.out _).mono ?_
        rintro e u4 ⟨rfl, hb4⟩
        have B4 : Hid (Below U.heap.size U u4) := B3.out.trans (hb4.mono B3.out.size); clear hb4
        refine hK.out _ _ ?_ (fun hHeld2 => ?_)
        · exact B4.out
        clear hK K hHeld
        have hHeld := hHeld2
        clear hHeld2
        refine wpAnyH_take (i := 15) (v := ?_) rfl (by kernel_rfl) (by kernel_rfl) (by kernel_rfl) (fun _ _ _ h => h) (Or.inl ⟨by rfl, ?_⟩) hHeld ?_
        rotate_left
        · intro u hSu
          (go_simp) <;> (with_reducible rfl)
        change wpAnyH _ _ _ _ _ _ _ (Act.put _ (some 18) _) _
        simp only [Act.put, List.setIfInBounds_toArray, List.set_cons_zero, List.set_cons_succ]
        refine wpAnyH_take (i := 16) (v := ?_) rfl (by kernel_rfl) (by kernel_rfl) (by kernel_rfl) (fun _ _ _ h => h) (Or.inl ⟨by rfl, ?_⟩) hHeld ?_
        rotate_left
        · intro u hSu
          (go_simp) <;> (with_reducible rfl)
        change wpAnyH _ _ _ _ _ _ _ (Act.put _ (some 19) _) _
        simp only [Act.put, List.setIfInBounds_toArray, List.set_cons_zero, List.set_cons_succ]
        refine wpAnyH_done (by kernel_rfl) ?_ _
        refine NoPanic.normal ?_
        go_wp2
        go_ret
        exact ⟨by rw [E.out]; rfl, HB.out.trans (B4.out.mono HB.out.size)⟩
      | true =>
        go_enter Try.func36, Try.ntmps36
        go_wp2
        rw [HU.out]
        refine wp_region_noPanic ?_
        refine wp_region_held_drew (S := fun u => Below U.heap.size U u) (by kernel_rfl) ?_ (fun hHeld => ?_)
        · exact (Below.refl _ _).drew
        refine wpAnyH_take (i := 0) (v := ?_) rfl (by kernel_rfl) (by kernel_rfl) (by kernel_rfl) (fun _ _ _ h => h) (Or.inl ⟨by rfl, ?_⟩) hHeld ?_
        rotate_left
        · intro u hSu
          obtain ⟨y0, y1, y2, y3, y4, y5, y6, y7, y8⟩ := FB.out u hSu
          (go_simp) <;> (with_reducible rfl)
        change wpAnyH _ _ _ _ _ _ _ (Act.put _ (some 3) _) _
        simp only [Act.put, List.setIfInBounds_toArray, List.set_cons_zero, List.set_cons_succ]
        refine wpAnyH_take (i := 1) (v := ?_) rfl (by kernel_rfl) (by kernel_rfl) (by kernel_rfl) (fun _ _ _ h => h) (Or.inl ⟨by rfl, ?_⟩) hHeld ?_
        rotate_left
        · intro u hSu
          obtain ⟨y0, y1, y2, y3, y4, y5, y6, y7, y8⟩ := FB.out u hSu
          (go_simp) <;> (with_reducible rfl)
        change wpAnyH _ _ _ _ _ _ _ (Act.put _ (some 4) _) _
        simp only [Act.put, List.setIfInBounds_toArray, List.set_cons_zero, List.set_cons_succ]
        refine wpAnyH_ready (rs := [2]) (by kernel_rfl) (by simp) ?_
        refine AllReadyH.cons rfl (fun K hK => ?_) AllReadyH.nil
        go_simp
        go_at_call 56
        refine (CO.out _).mono ?_
        rintro e u1 ⟨rfl, hb1⟩
        have B1 : Hid (Below U.heap.size U u1) := hHeld.trans (hb1.mono hHeld.size); clear hb1
        refine hK.out _ _ ?_ (fun hHeld2 => ?_)
        · exact B1.out
        clear hK K hHeld
        have hHeld := hHeld2
        clear hHeld2
        refine wpAnyH_ready (rs := [3]) (by kernel_rfl) (by simp) ?_
        refine AllReadyH.cons rfl (fun K hK => ?_) AllReadyH.nil
        go_simp
        go_at_call 17
        refine (CS.out _ B1.out).mono ?_
        rintro e u2 ⟨rfl, hb2⟩
        have B2 : Hid (Below U.heap.size U u2) := B1.out.trans (hb2.mono B1.out.size); clear hb2
        refine hK.out _ _ ?_ (fun hHeld2 => ?_)
        · exact B2.out
        clear hK K hHeld
        have hHeld := hHeld2
        clear hHeld2
        refine wpAnyH_take (i := 4) (v := ?_) rfl (by kernel_rfl) (by kernel_rfl) (by kernel_rfl) (fun _ _ _ h => h) (Or.inl ⟨by rfl, ?_⟩) hHeld ?_
        rotate_left
        · intro u hSu
          (go_simp) <;> (with_reducible rfl)
        change wpAnyH _ _ _ _ _ _ _ (Act.put _ (some 7) _) _
        simp only [Act.put, List.setIfInBounds_toArray, List.set_cons_zero, List.set_cons_succ]
        refine wpAnyH_take (i := 5) (v := ?_) rfl (by kernel_rfl) (by kernel_rfl) (by kernel_rfl) (fun _ _ _ h => h) (Or.inl ⟨by rfl, ?_⟩) hHeld ?_
        rotate_left
        · intro u hSu
          (go_simp) <;> (with_reducible rfl)
        change wpAnyH _ _ _ _ _ _ _ (Act.put _ (some 8) _) _
        simp only [Act.put, List.setIfInBounds_toArray, List.set_cons_zero, List.set_cons_succ]
        refine wpAnyH_take (i := 6) (v := ?_) rfl (by kernel_rfl) (by kernel_rfl) (by kernel_rfl) (fun _ _ _ h => h) (Or.inl ⟨by rfl, ?_⟩) hHeld ?_
        rotate_left
        · intro u hSu
          (go_simp) <;> (with_reducible rfl)
        change wpAnyH _ _ _ _ _ _ _ (Act.put _ (some 9) _) _
        simp only [Act.put, List.setIfInBounds_toArray, List.set_cons_zero, List.set_cons_succ]
        refine wpAnyH_take (i := 7) (v := ?_) rfl (by kernel_rfl) (by kernel_rfl) (by kernel_rfl) (fun _ _ _ h => h) (Or.inl ⟨by rfl, ?_⟩) hHeld ?_
        rotate_left
        · intro u hSu
          obtain ⟨y0, y1, y2, y3, y4, y5, y6, y7, y8⟩ := FB.out u hSu
          (go_simp) <;> (with_reducible rfl)
        change wpAnyH _ _ _ _ _ _ _ (Act.put _ (some 10) _) _
        simp only [Act.put, List.setIfInBounds_toArray, List.set_cons_zero, List.set_cons_succ]
        refine wpAnyH_ready (rs := [8]) (by kernel_rfl) (by simp) ?_
        refine AllReadyH.cons rfl (fun K hK => ?_) AllReadyH.nil
        go_simp
        go_at_call 35
        refine (CG1.out _).mono ?_
        rintro e u3 ⟨rfl, hb3⟩
        have B3 : Hid (Below U.heap.size U u3) := B2.out.trans (hb3.mono B2.out.size); clear hb3
        refine hK.out _ _ ?_ (fun hHeld2 => ?_)
        · exact B3.out
        clear hK K hHeld
        have hHeld := hHeld2
        clear hHeld2
        refine wpAnyH_take (i := 9) (v := ?_) rfl (by kernel_rfl) (by kernel_rfl) (by kernel_rfl) (fun _ _ _ h => h) (Or.inl ⟨by rfl, ?_⟩) hHeld ?_
        rotate_left
        · intro u hSu
          (go_simp) <;> (with_reducible rfl)
        change wpAnyH _ _ _ _ _ _ _ (Act.put _ (some 12) _) _
        simp only [Act.put, List.setIfInBounds_toArray, List.set_cons_zero, List.set_cons_succ]
        refine wpAnyH_take (i := 10) (v := ?_) rfl (by kernel_rfl) (by kernel_rfl) (by kernel_rfl) (fun _ _ _ h => h) (Or.inl ⟨by rfl, ?_⟩) hHeld ?_
        rotate_left
        · intro u hSu
          (go_simp) <;> (with_reducible rfl)
        change wpAnyH _ _ _ _ _ _ _ (Act.put _ (some 13) _) _
        simp only [Act.put, List.setIfInBounds_toArray, List.set_cons_zero, List.set_cons_succ]
        refine wpAnyH_take (i := 11) (v := ?_) rfl (by kernel_rfl) (by kernel_rfl) (by kernel_rfl) (fun _ _ _ h => h) (Or.inl ⟨by rfl, ?_⟩) hHeld ?_
        rotate_left
        · intro u hSu
          (go_simp) <;> (with_reducible rfl)
        change wpAnyH _ _ _ _ _ _ _ (Act.put _ (some 14) _) _
        simp only [Act.put, List.setIfInBounds_toArray, List.set_cons_zero, List.set_cons_succ]
        refine wpAnyH_take (i := 12) (v := ?_) rfl (by kernel_rfl) (by kernel_rfl) (by kernel_rfl) (fun _ _ _ h => h) (Or.inl ⟨by rfl, ?_⟩) hHeld ?_
        rotate_left
        · intro u hSu
          (go_simp) <;> (with_reducible rfl)
        change wpAnyH _ _ _ _ _ _ _ (Act.put _ (some 15) _) _
        simp only [Act.put, List.setIfInBounds_toArray, List.set_cons_zero, List.set_cons_succ]
        refine wpAnyH_take (i := 13) (v := ?_) rfl (by kernel_rfl) (by kernel_rfl) (by kernel_rfl) (fun _ _ _ h => h) (Or.inl ⟨by rfl, ?_⟩) hHeld ?_
        rotate_left
        · intro u hSu
          obtain ⟨y0, y1, y2, y3, y4, y5, y6, y7, y8⟩ := FB.out u hSu
          (go_simp) <;> (with_reducible rfl)
        change wpAnyH _ _ _ _ _ _ _ (Act.put _ (some 16) _) _
        simp only [Act.put, List.setIfInBounds_toArray, List.set_cons_zero, List.set_cons_succ]
        refine wpAnyH_ready (rs := [14]) (by kernel_rfl) (by simp) ?_
        refine AllReadyH.cons rfl (fun K hK => ?_) AllReadyH.nil
        go_simp
        go_at_call 35
        refine (CG2.out _).mono ?_
        rintro e u4 ⟨rfl, hb4⟩
        have B4 : Hid (Below U.heap.size U u4) := B3.out.trans (hb4.mono B3.out.size); clear hb4
        refine hK.out _ _ ?_ (fun hHeld2 => ?_)
        · exact B4.out
        clear hK K hHeld
        have hHeld := hHeld2
        clear hHeld2
        refine wpAnyH_take (i := 15) (v := ?_) rfl (by kernel_rfl) (by kernel_rfl) (by kernel_rfl) (fun _ _ _ h => h) (Or.inl ⟨by rfl, ?_⟩) hHeld ?_
        rotate_left
        · intro u hSu
          (go_simp) <;> (with_reducible rfl)
        change wpAnyH _ _ _ _ _ _ _ (Act.put _ (some 18) _) _
        simp only [Act.put, List.setIfInBounds_toArray, List.set_cons_zero, List.set_cons_succ]
        refine wpAnyH_take (i := 16) (v := ?_) rfl (by kernel_rfl) (by kernel_rfl) (by kernel_rfl) (fun _ _ _ h => h) (Or.inl ⟨by rfl, ?_⟩) hHeld ?_
        rotate_left
        · intro u hSu
          (go_simp) <;> (with_reducible rfl)
        change wpAnyH _ _ _ _ _ _ _ (Act.put _ (some 19) _) _
        simp only [Act.put, List.setIfInBounds_toArray, List.set_cons_zero, List.set_cons_succ]
        refine wpAnyH_done (by kernel_rfl) ?_ _
        refine NoPanic.normal ?_
        obtain ⟨y0, y1, y2, y3, y4, y5, y6, y7, y8⟩ := FB.out _ B4.out
        by_cases k1 : kd = 1
        · have hi := k1
          subst k1
          by_cases i1 : 1 ≤ id
          · have bi : decide (1 ≤ id) = true := decide_eq_true i1
            by_cases i2 : 0 < xc
            · have bx : decide (0 < xc) = true := decide_eq_true i2
              have E : Hid (R = mw) := by rw [HR.out]; simp [Hid, i1, i2]
              clear HR
              cases mw with
              | true =>
                go_wp2_with (first | (go_at_call 39; refine (CC.out _).mono ?_; rintro e u5 ⟨rfl, hb5⟩; have B5 : Hid (Below U.heap.size U u5) := B4.out.trans (hb5.mono B4.out.size); obtain ⟨z0, z1, z2, z3, z4, z5, z6, z7, z8⟩ := FB.out _ B5.out; clear hb5) | (go_at_call 57; refine (CW.out _ B5.out).mono ?_; rintro e u6 ⟨rfl, hb6⟩; have B6 : Hid (Below U.heap.size U u6) := B5.out.trans (hb6.mono B5.out.size); clear hb6))
                go_ret
                exact ⟨by rw [E.out]; rfl, HB.out.trans (B6.out.mono HB.out.size)⟩
              | false =>
                go_wp2_with (first | (go_at_call 39; refine (CC.out _).mono ?_; rintro e u5 ⟨rfl, hb5⟩; have B5 : Hid (Below U.heap.size U u5) := B4.out.trans (hb5.mono B4.out.size); obtain ⟨z0, z1, z2, z3, z4, z5, z6, z7, z8⟩ := FB.out _ B5.out; clear hb5) | (go_at_call 57; refine (CW.out _ B5.out).mono ?_; rintro e u6 ⟨rfl, hb6⟩; have B6 : Hid (Below U.heap.size U u6) := B5.out.trans (hb6.mono B5.out.size); clear hb6))
                go_ret
                exact ⟨by rw [E.out]; rfl, HB.out.trans (B6.out.mono HB.out.size)⟩
            · have bx : decide (0 < xc) = false := decide_eq_false i2
              have E : Hid (R = false) := by rw [HR.out]; simp [Hid, i2]
              clear HR
              go_wp2_with (first | (go_at_call 39; refine (CC.out _).mono ?_; rintro e u5 ⟨rfl, hb5⟩; have B5 : Hid (Below U.heap.size U u5) := B4.out.trans (hb5.mono B4.out.size); obtain ⟨z0, z1, z2, z3, z4, z5, z6, z7, z8⟩ := FB.out _ B5.out; clear hb5))
              go_ret
              exact ⟨by rw [E.out]; rfl, HB.out.trans (B5.out.mono HB.out.size)⟩
          · have bi : decide (1 ≤ id) = false := decide_eq_false i1
            have E : Hid (R = false) := by rw [HR.out]; simp [Hid, i1]
            clear HR
            go_wp2
            go_ret
            exact ⟨by rw [E.out]; rfl, HB.out.trans (B4.out.mono HB.out.size)⟩
        by_cases k2 : kd = 2
        · subst k2
          by_cases i1 : 1 ≤ id
          · have bi : decide (1 ≤ id) = true := decide_eq_true i1
            have E : Hid (R = true) := by rw [HR.out]; simp [Hid, i1]
            clear HR
            go_wp2
            go_ret
            exact ⟨by rw [E.out]; rfl, HB.out.trans (B4.out.mono HB.out.size)⟩
          · have bi : decide (1 ≤ id) = false := decide_eq_false i1
            have E : Hid (R = false) := by rw [HR.out]; simp [Hid, i1]
            clear HR
            go_wp2
            go_ret
            exact ⟨by rw [E.out]; rfl, HB.out.trans (B4.out.mono HB.out.size)⟩
        by_cases k3 : kd = 3
        · subst k3
          by_cases i1 : 1 ≤ id
          · have bi : decide (1 ≤ id) = true := decide_eq_true i1
            have E : Hid (R = true) := by rw [HR.out]; simp [Hid, i1]
            clear HR
            go_wp2
            go_ret
            exact ⟨by rw [E.out]; rfl, HB.out.trans (B4.out.mono HB.out.size)⟩
          · have bi : decide (1 ≤ id) = false := decide_eq_false i1
            have E : Hid (R = false) := by rw [HR.out]; simp [Hid, i1]
            clear HR
            go_wp2
            go_ret
            exact ⟨by rw [E.out]; rfl, HB.out.trans (B4.out.mono HB.out.size)⟩
        by_cases k4 : kd = 4
        · subst k4
          by_cases i1 : 1 ≤ id
          · have bi : decide (1 ≤ id) = true := decide_eq_true i1
            have E : Hid (R = pb) := by rw [HR.out]; simp [Hid, i1]
            clear HR
            cases pb with
            | true =>
              go_wp2_with (first | (go_at_call 58; refine (CP.out _ B4.out).mono ?_; rintro e u5 ⟨rfl, hw5⟩; obtain rfl : u4 = u5 := hw5.symm; clear hw5))
              go_ret
              exact ⟨by rw [E.out]; rfl, HB.out.trans (B4.out.mono HB.out.size)⟩
            | false =>
              go_wp2_with (first | (go_at_call 58; refine (CP.out _ B4.out).mono ?_; rintro e u5 ⟨rfl, hw5⟩; obtain rfl : u4 = u5 := hw5.symm; clear hw5))
              go_ret
              exact ⟨by rw [E.out]; rfl, HB.out.trans (B4.out.mono HB.out.size)⟩
          · have bi : decide (1 ≤ id) = false := decide_eq_false i1
            have E : Hid (R = false) := by rw [HR.out]; simp [Hid, i1]
            clear HR
            go_wp2
            go_ret
            exact ⟨by rw [E.out]; rfl, HB.out.trans (B4.out.mono HB.out.size)⟩
        have b1 : (kd == 1) = false := beq_eq_false_iff_ne.2 k1
        have b2 : (kd == 2) = false := beq_eq_false_iff_ne.2 k2
        have b3 : (kd == 3) = false := beq_eq_false_iff_ne.2 k3
        have b4 : (kd == 4) = false := beq_eq_false_iff_ne.2 k4
        by_cases k5 : kd = 5
        · have b5 : (kd == 5) = true := beq_iff_eq.2 k5
          have E : Hid (R = true) := by rw [HR.out]; simp [Hid, k5]
          clear HR k1 k2 k3 k4 k5
          go_wp2
          go_ret
          exact ⟨by rw [E.out]; rfl, HB.out.trans (B4.out.mono HB.out.size)⟩
        · have b5 : (kd == 5) = false := beq_eq_false_iff_ne.2 k5
          have E : Hid (R = false) := by rw [HR.out]; simp [Hid, k1, k2, k3, k4, k5]
          clear HR k1 k2 k3 k4 k5
          go_wp2
          go_ret
          exact ⟨by rw [E.out]; rfl, HB.out.trans (B4.out.mono HB.out.size)⟩
end Go.Proofs.Ytcppihpehipelaa
