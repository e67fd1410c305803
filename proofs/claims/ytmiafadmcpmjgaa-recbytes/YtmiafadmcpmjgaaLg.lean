/-
  The landed rec: Good.
  The landed rec: Put.
-/
import Derived.Test.YtmiafadmcpmjgaaLm
import Derived.Test.YtmiafadmcpmjgaaKs
import Derived.Test.YtmiafadmcpmjgaaRecL1
namespace Go.Proofs.Ytmiafadmcpmjgaa
open Go.RowKit
set_option linter.unusedVariables false

open Classical in
set_option maxHeartbeats 8000000 in
set_option maxRecDepth 8000 in
theorem lgood_any (x : RcM) (w : World) (h : RcW w x) :
    Calls Try.prog 11 #[rcv x] w fun e w' => e = .returned (.bool (goodR x.r)) ∧ Below w.heap.size w w' := by
  have hgo := good_only x
  have CO : Hid (∀ u, Calls Try.prog 33 #[rcv x] u fun e w' => e = .returned (rcv (onlyM x)) ∧ Below u.heap.size u w') := fun u => lonly_any x u
  have CS : Hid (∀ u, Below w.heap.size w u → Calls Try.prog 19 #[rcv x, rcv (onlyM x)] u fun e w' => e = .returned (.bool (decide (x.r = (onlyM x).r))) ∧ Below u.heap.size u w') := fun u hu => lsame_any x (onlyM x) u (h.past hu) (h.past hu).only
  obtain ⟨Y, hY⟩ : ∃ Y, Y = rcv (onlyM x) := ⟨_, rfl⟩
  rw [← hY] at CO CS
  obtain ⟨R1, hR1⟩ : ∃ R, R = decide (x.r = (onlyM x).r) := ⟨_, rfl⟩
  rw [← hR1] at CS hgo
  clear hY hR1
  obtain ⟨⟨kd, id, s, m, t, n, l, y, ps⟩, a, c, pa, pc⟩ := x
  obtain ⟨hwr, hrm, hfw, hps, hpr, hpf, hkd, hok⟩ := h
  simp only at hwr hrm hfw hps hpr hpf hkd hgo
  obtain ⟨N, hN⟩ : ∃ N, l.length = N := ⟨_, rfl⟩
  obtain ⟨M, hM⟩ : ∃ N, ps.length = N := ⟨_, rfl⟩
  unfold rcv encR at CO CS ⊢
  simp only at CO CS ⊢
  simp only [hN, hM] at CO CS hrm hfw hpr hpf ⊢
  obtain ⟨U, hU⟩ : ∃ U, U = w.alloc (.cells #[.int .i64 kd, .int .i64 id, .int .i64 s, .int .u8 m, .int .i64 t, .int .u8 n, .slice a N c, .bool y, .slice pa M pc] 28) := ⟨_, rfl⟩
  have HU : Hid (w.alloc (.cells #[.int .i64 kd, .int .i64 id, .int .i64 s, .int .u8 m, .int .i64 t, .int .u8 n, .slice a N c, .bool y, .slice pa M pc] 28) = U) := hU.symm
  have HB : Hid (Below w.heap.size w U) := by rw [hU]; exact (Below.refl _ _).alloc (Nat.le_refl _) _
  have hbx : RBox U w.heap.size kd id s m t n a N c y pa M pc := by
    rw [hU]; exact RBox.made w 28 kd id s m t n a N c y pa M pc
  have FB : Hid (∀ u, Below U.heap.size U u → RBox u w.heap.size kd id s m t n a N c y pa M pc) := fun u hb => hbx.past hb
  have CS : Hid (∀ u, Below U.heap.size U u → Calls Try.prog 19 #[.agg #[.int .i64 kd, .int .i64 id, .int .i64 s, .int .u8 m, .int .i64 t, .int .u8 n, .slice a N c, .bool y, .slice pa M pc], Y] u fun e w' => e = .returned (.bool R1) ∧ Below u.heap.size u w') := fun u hu => CS.out u (HB.out.trans (hu.mono HB.out.size))
  obtain ⟨g1, hg1⟩ : ∃ x, x = decide (okS s) := ⟨_, rfl⟩
  obtain ⟨g2, hg2⟩ : ∃ x, x = decide (okS t) := ⟨_, rfl⟩
  have CG1 : Hid (∀ u, Calls Try.prog 34 #[.agg #[.int .i64 s, .int .u8 m]] u fun e w' => e = .returned (.bool g1) ∧ Below u.heap.size u w') := fun u => by rw [hg1]; have := sgood_any s m u; rwa [show (decide (okS s) : Bool) = @decide (okS s) _ from by congr] at this
  have CG2 : Hid (∀ u, Calls Try.prog 34 #[.agg #[.int .i64 t, .int .u8 n]] u fun e w' => e = .returned (.bool g2) ∧ Below u.heap.size u w') := fun u => by rw [hg2]; have := sgood_any t n u; rwa [show (decide (okS t) : Bool) = @decide (okS t) _ from by congr] at this
  rw [← hg1, ← hg2] at hgo
  have CC : Hid (∀ u, Calls Try.prog 35 #[.agg #[.int .i64 t, .int .u8 n], .agg #[.int .i64 s, .int .u8 m]] u fun e w' => e = .returned (.int .i64 (cmpS t n s m)) ∧ Below u.heap.size u w') := fun u => scmp_any t n s m u
  have CW : Hid (∀ u, Below U.heap.size U u → Calls Try.prog 32 #[.slice a N c] u fun e w' => e = .returned (.bool (mayW l 1)) ∧ Below u.heap.size u w') := fun u hu => sgoods_any a N c l u hN hrm (by omega) ((hwr.past HB.out).past hu)
  have CP : Hid (∀ u, Below U.heap.size U u → Calls Try.prog 36 #[.slice pa M pc] u fun e w' => e = .returned (.bool (partsB ps)) ∧ w' = u) := fun u hu => lgoodps_any pa M pc ps u hM (by omega) ((hps.past HB.out).past hu)
  obtain ⟨xc, hxc⟩ : ∃ x, x = cmpS t n s m := ⟨_, rfl⟩
  obtain ⟨mw, hmw⟩ : ∃ x, x = mayW l 1 := ⟨_, rfl⟩
  obtain ⟨pb, hpb⟩ : ∃ x, x = partsB ps := ⟨_, rfl⟩
  have hk : kindR ⟨kd, id, s, m, t, n, l, y, ps⟩ = (if kd = 1 then decide (1 ≤ id) && decide (0 < xc) && mw else if kd = 2 then decide (1 ≤ id) else if kd = 3 then decide (1 ≤ id) else if kd = 4 then decide (1 ≤ id) && pb else decide (kd = 5)) := by rw [hxc, hmw, hpb]; rfl
  rw [← hxc] at CC
  rw [← hmw] at CW
  rw [← hpb] at CP
  rw [hk] at hgo
  obtain ⟨R, hR⟩ : ∃ R, R = goodR ⟨kd, id, s, m, t, n, l, y, ps⟩ := ⟨_, rfl⟩
  rw [← hR] at hgo ⊢
  have HR : Hid _ := hgo
  clear hwr hrm hfw hps hpr hpf hkd hok hN hM hU hbx hg1 hg2 hxc hmw hpb hR hk hgo
  cases R1 with
  | false =>
    have E : Hid (R = false) := by rw [HR.out]; simp [Hid]
    clear HR
    go_enter Try.func11, Try.ntmps11
    go_wp2
    rw [HU.out]
    refine wp_region_noPanic ?_
    refine wp_region_held_drew (S := fun u => Below U.heap.size U u) (by kernel_rfl) ?_ (fun hHeld => ?_)
    · exact (Below.refl _ _).drew
    refine wpAnyH_take (i := 0) (v := ?_) rfl (by kernel_rfl) (by kernel_rfl) (by kernel_rfl) (fun _ _ _ h => h) (Or.inl ⟨by rfl, ?_⟩) hHeld ?_
    rotate_left
    · intro u hSu
      obtain ⟨y0, y1, y2, y3, y4, y5, y6, y7, y8⟩ := FB.out u hSu
      (go_simp) <;> (with_reducible rfl)
    change wpAnyH _ _ _ _ _ _ _ (Act.put _ (some 3) _) _
    simp only [Act.put, List.setIfInBounds_toArray, List.set_cons_zero, List.set_cons_succ]
    refine wpAnyH_take (i := 1) (v := ?_) rfl (by kernel_rfl) (by kernel_rfl) (by kernel_rfl) (fun _ _ _ h => h) (Or.inl ⟨by rfl, ?_⟩) hHeld ?_
    rotate_left
    · intro u hSu
      obtain ⟨y0, y1, y2, y3, y4, y5, y6, y7, y8⟩ := FB.out u hSu
      (go_simp) <;> (with_reducible rfl)
    change wpAnyH _ _ _ _ _ _ _ (Act.put _ (some 4) _) _
    simp only [Act.put, List.setIfInBounds_toArray, List.set_cons_zero, List.set_cons_succ]
    refine wpAnyH_ready (rs := [2]) (by kernel_rfl) (by simp) ?_
    refine AllReadyH.cons rfl (fun K hK => ?_) AllReadyH.nil
    go_simp
    go_at_call 33
    refine (CO.out _).mono ?_
    rintro e u1 ⟨rfl, hb1⟩
    have B1 : Hid (Below U.heap.size U u1) := hHeld.trans (hb1.mono hHeld.size); clear hb1
    refine hK.out _ _ ?_ (fun hHeld2 => ?_)
    · exact B1.out
    clear hK K hHeld
    have hHeld := hHeld2
    clear hHeld2
    refine wpAnyH_ready (rs := [3]) (by kernel_rfl) (by simp) ?_
    refine AllReadyH.cons rfl (fun K hK => ?_) AllReadyH.nil
    go_simp
    go_at_call 19
    refine (CS.out _ B1.out).mono ?_
    rintro e u2 ⟨rfl, hb2⟩
    have B2 : Hid (Below U.heap.size U u2) := B1.out.trans (hb2.mono B1.out.size); clear hb2
    refine hK.out _ _ ?_ (fun hHeld2 => ?_)
    · exact B2.out
    clear hK K hHeld
    have hHeld := hHeld2
    clear hHeld2
    refine wpAnyH_take (i := 4) (v := ?_) rfl (by kernel_rfl) (by kernel_rfl) (by kernel_rfl) (fun _ _ _ h => h) (Or.inl ⟨by rfl, ?_⟩) hHeld ?_
    rotate_left
    · intro u hSu
      (go_simp) <;> (with_reducible rfl)
    change wpAnyH _ _ _ _ _ _ _ (Act.put _ (some 7) _) _
    simp only [Act.put, List.setIfInBounds_toArray, List.set_cons_zero, List.set_cons_succ]
    refine wpAnyH_take (i := 5) (v := ?_) rfl (by kernel_rfl) (by kernel_rfl) (by kernel_rfl) (fun _ _ _ h => h) (Or.inl ⟨by rfl, ?_⟩) hHeld ?_
    rotate_left
    · intro u hSu
      (go_simp) <;> (with_reducible rfl)
    change wpAnyH _ _ _ _ _ _ _ (Act.put _ (some 8) _) _
    simp only [Act.put, List.setIfInBounds_toArray, List.set_cons_zero, List.set_cons_succ]
    refine wpAnyH_take (i := 6) (v := undef) rfl (by kernel_rfl) (by kernel_rfl) (by kernel_rfl) (fun _ _ _ h => h) (Or.inr ⟨by rfl, rfl⟩) hHeld ?_
    change wpAnyH _ _ _ _ _ _ _ (Act.put _ (some 9) _) _
    simp only [Act.put, List.setIfInBounds_toArray, List.set_cons_zero, List.set_cons_succ]
    refine wpAnyH_take (i := 7) (v := undef) rfl (by kernel_rfl) (by kernel_rfl) (by kernel_rfl) (fun _ _ _ h => h) (Or.inr ⟨by rfl, rfl⟩) hHeld ?_
    change wpAnyH _ _ _ _ _ _ _ (Act.put _ (some 10) _) _
    simp only [Act.put, List.setIfInBounds_toArray, List.set_cons_zero, List.set_cons_succ]
    refine wpAnyH_take (i := 8) (v := undef) rfl (by kernel_rfl) (by kernel_rfl) (by kernel_rfl) (fun _ _ _ h => h) (Or.inr ⟨by rfl, rfl⟩) hHeld ?_
    change wpAnyH _ _ _ _ _ _ _ (Act.put _ (some 11) _) _
    simp only [Act.put, List.setIfInBounds_toArray, List.set_cons_zero, List.set_cons_succ]
    refine wpAnyH_take (i := 9) (v := undef) rfl (by kernel_rfl) (by kernel_rfl) (by kernel_rfl) (fun _ _ _ h => h) (Or.inr ⟨by rfl, rfl⟩) hHeld ?_
    change wpAnyH _ _ _ _ _ _ _ (Act.put _ (some 12) _) _
    simp only [Act.put, List.setIfInBounds_toArray, List.set_cons_zero, List.set_cons_succ]
    refine wpAnyH_take (i := 10) (v := ?_) rfl (by kernel_rfl) (by kernel_rfl) (by kernel_rfl) (fun _ _ _ h => h) (Or.inl ⟨by rfl, ?_⟩) hHeld ?_
    rotate_left
    · intro u hSu
      (go_simp) <;> (with_reducible rfl)
    change wpAnyH _ _ _ _ _ _ _ (Act.put _ (some 13) _) _
    simp only [Act.put, List.setIfInBounds_toArray, List.set_cons_zero, List.set_cons_succ]
    refine wpAnyH_take (i := 11) (v := ?_) rfl (by kernel_rfl) (by kernel_rfl) (by kernel_rfl) (fun _ _ _ h => h) (Or.inl ⟨by rfl, ?_⟩) hHeld ?_
    rotate_left
    · intro u hSu
      (go_simp) <;> (with_reducible rfl)
    change wpAnyH _ _ _ _ _ _ _ (Act.put _ (some 14) _) _
    simp only [Act.put, List.setIfInBounds_toArray, List.set_cons_zero, List.set_cons_succ]
    refine wpAnyH_take (i := 12) (v := undef) rfl (by kernel_rfl) (by kernel_rfl) (by kernel_rfl) (fun _ _ _ h => h) (Or.inr ⟨by rfl, rfl⟩) hHeld ?_
    change wpAnyH _ _ _ _ _ _ _ (Act.put _ (some 15) _) _
    simp only [Act.put, List.setIfInBounds_toArray, List.set_cons_zero, List.set_cons_succ]
    refine wpAnyH_take (i := 13) (v := undef) rfl (by kernel_rfl) (by kernel_rfl) (by kernel_rfl) (fun _ _ _ h => h) (Or.inr ⟨by rfl, rfl⟩) hHeld ?_
    change wpAnyH _ _ _ _ _ _ _ (Act.put _ (some 16) _) _
    simp only [Act.put, List.setIfInBounds_toArray, List.set_cons_zero, List.set_cons_succ]
    refine wpAnyH_take (i := 14) (v := undef) rfl (by kernel_rfl) (by kernel_rfl) (by kernel_rfl) (fun _ _ _ h => h) (Or.inr ⟨by rfl, rfl⟩) hHeld ?_
    change wpAnyH _ _ _ _ _ _ _ (Act.put _ (some 17) _) _
    simp only [Act.put, List.setIfInBounds_toArray, List.set_cons_zero, List.set_cons_succ]
    refine wpAnyH_take (i := 15) (v := undef) rfl (by kernel_rfl) (by kernel_rfl) (by kernel_rfl) (fun _ _ _ h => h) (Or.inr ⟨by rfl, rfl⟩) hHeld ?_
    change wpAnyH _ _ _ _ _ _ _ (Act.put _ (some 18) _) _
    simp only [Act.put, List.setIfInBounds_toArray, List.set_cons_zero, List.set_cons_succ]
    refine wpAnyH_take (i := 16) (v := ?_) rfl (by kernel_rfl) (by kernel_rfl) (by kernel_rfl) (fun _ _ _ h => h) (Or.inl ⟨by rfl, ?_⟩) hHeld ?_
    rotate_left
    · intro u hSu
      (go_simp) <;> (with_reducible rfl)
    change wpAnyH _ _ _ _ _ _ _ (Act.put _ (some 19) _) _
    simp only [Act.put, List.setIfInBounds_toArray, List.set_cons_zero, List.set_cons_succ]
    refine wpAnyH_done (by kernel_rfl) ?_ _
    refine NoPanic.normal ?_
    go_wp2
    go_ret
    exact ⟨by rw [E.out]; rfl, HB.out.trans (B2.out.mono HB.out.size)⟩
  | true =>
    cases g1 with
    | false =>
      have E : Hid (R = false) := by rw [HR.out]; simp [Hid]
      clear HR
      go_enter Try.func11, Try.ntmps11
      go_wp2
      rw [HU.out]
      refine wp_region_noPanic ?_
      refine wp_region_held_drew (S := fun u => Below U.heap.size U u) (by kernel_rfl) ?_ (fun hHeld => ?_)
      · exact (Below.refl _ _).drew
      refine wpAnyH_take (i := 0) (v := ?_) rfl (by kernel_rfl) (by kernel_rfl) (by kernel_rfl) (fun _ _ _ h => h) (Or.inl ⟨by rfl, ?_⟩) hHeld ?_
      rotate_left
      · intro u hSu
        obtain ⟨y0, y1, y2, y3, y4, y5, y6, y7, y8⟩ := FB.out u hSu
        (go_simp) <;> (with_reducible rfl)
      change wpAnyH _ _ _ _ _ _ _ (Act.put _ (some 3) _) _
      simp only [Act.put, List.setIfInBounds_toArray, List.set_cons_zero, List.set_cons_succ]
      refine wpAnyH_take (i := 1) (v := ?_) rfl (by kernel_rfl) (by kernel_rfl) (by kernel_rfl) (fun _ _ _ h => h) (Or.inl ⟨by rfl, ?_⟩) hHeld ?_
      rotate_left
      · intro u hSu
        obtain ⟨y0, y1, y2, y3, y4, y5, y6, y7, y8⟩ := FB.out u hSu
        (go_simp) <;> (with_reducible rfl)
      change wpAnyH _ _ _ _ _ _ _ (Act.put _ (some 4) _) _
      simp only [Act.put, List.setIfInBounds_toArray, List.set_cons_zero, List.set_cons_succ]
      refine wpAnyH_ready (rs := [2]) (by kernel_rfl) (by simp) ?_
      refine AllReadyH.cons rfl (fun K hK => ?_) AllReadyH.nil
      go_simp
      go_at_call 33
      refine (CO.out _).mono ?_
      rintro e u1 ⟨rfl, hb1⟩
      have B1 : Hid (Below U.heap.size U u1) := hHeld.trans (hb1.mono hHeld.size); clear hb1
      refine hK.out _ _ ?_ (fun hHeld2 => ?_)
      · exact B1.out
      clear hK K hHeld
      have hHeld := hHeld2
      clear hHeld2
      refine wpAnyH_ready (rs := [3]) (by kernel_rfl) (by simp) ?_
      refine AllReadyH.cons rfl (fun K hK => ?_) AllReadyH.nil
      go_simp
      go_at_call 19
      refine (CS.out _ B1.out).mono ?_
      rintro e u2 ⟨rfl, hb2⟩
      have B2 : Hid (Below U.heap.size U u2) := B1.out.trans (hb2.mono B1.out.size); clear hb2
      refine hK.out _ _ ?_ (fun hHeld2 => ?_)
      · exact B2.out
      clear hK K hHeld
      have hHeld := hHeld2
      clear hHeld2
      refine wpAnyH_take (i := 4) (v := ?_) rfl (by kernel_rfl) (by kernel_rfl) (by kernel_rfl) (fun _ _ _ h => h) (Or.inl ⟨by rfl, ?_⟩) hHeld ?_
      rotate_left
      · intro u hSu
        (go_simp) <;> (with_reducible rfl)
      change wpAnyH _ _ _ _ _ _ _ (Act.put _ (some 7) _) _
      simp only [Act.put, List.setIfInBounds_toArray, List.set_cons_zero, List.set_cons_succ]
      refine wpAnyH_take (i := 5) (v := ?_) rfl (by kernel_rfl) (by kernel_rfl) (by kernel_rfl) (fun _ _ _ h => h) (Or.inl ⟨by rfl, ?_⟩) hHeld ?_
      rotate_left
      · intro u hSu
        (go_simp) <;> (with_reducible rfl)
      change wpAnyH _ _ _ _ _ _ _ (Act.put _ (some 8) _) _
      simp only [Act.put, List.setIfInBounds_toArray, List.set_cons_zero, List.set_cons_succ]
      refine wpAnyH_take (i := 6) (v := ?_) rfl (by kernel_rfl) (by kernel_rfl) (by kernel_rfl) (fun _ _ _ h => h) (Or.inl ⟨by rfl, ?_⟩) hHeld ?_
      rotate_left
      · intro u hSu
        (go_simp) <;> (with_reducible rfl)
      change wpAnyH _ _ _ _ _ _ _ (Act.put _ (some 9) _) _
      simp only [Act.put, List.setIfInBounds_toArray, List.set_cons_zero, List.set_cons_succ]
      refine wpAnyH_take (i := 7) (v := ?_) rfl (by kernel_rfl) (by kernel_rfl) (by kernel_rfl) (fun _ _ _ h => h) (Or.inl ⟨by rfl, ?_⟩) hHeld ?_
      rotate_left
      · intro u hSu
        obtain ⟨y0, y1, y2, y3, y4, y5, y6, y7, y8⟩ := FB.out u hSu
        (go_simp) <;> (with_reducible rfl)
      change wpAnyH _ _ _ _ _ _ _ (Act.put _ (some 10) _) _
      simp only [Act.put, List.setIfInBounds_toArray, List.set_cons_zero, List.set_cons_succ]
      refine wpAnyH_ready (rs := [8]) (by kernel_rfl) (by simp) ?_
      refine AllReadyH.cons rfl (fun K hK => ?_) AllReadyH.nil
      go_simp
      go_at_call 34
      refine (CG1.out _).mono ?_
      rintro e u3 ⟨rfl, hb3⟩
      have B3 : Hid (Below U.heap.size U u3) := B2.out.trans (hb3.mono B2.out.size); clear hb3
      refine hK.out _ _ ?_ (fun hHeld2 => ?_)
      · exact B3.out
      clear hK K hHeld
      have hHeld := hHeld2
      clear hHeld2
      refine wpAnyH_take (i := 9) (v := ?_) rfl (by kernel_rfl) (by kernel_rfl) (by kernel_rfl) (fun _ _ _ h => h) (Or.inl ⟨by rfl, ?_⟩) hHeld ?_
      rotate_left
      · intro u hSu
        (go_simp) <;> (with_reducible rfl)
      change wpAnyH _ _ _ _ _ _ _ (Act.put _ (some 12) _) _
      simp only [Act.put, List.setIfInBounds_toArray, List.set_cons_zero, List.set_cons_succ]
      refine wpAnyH_take (i := 10) (v := ?_) rfl (by kernel_rfl) (by kernel_rfl) (by kernel_rfl) (fun _ _ _ h => h) (Or.inl ⟨by rfl, ?_⟩) hHeld ?_
      rotate_left
      · intro u hSu
        (go_simp) <;> (with_reducible rfl)
      change wpAnyH _ _ _ _ _ _ _ (Act.put _ (some 13) _) _
      simp only [Act.put, List.setIfInBounds_toArray, List.set_cons_zero, List.set_cons_succ]
      refine wpAnyH_take (i := 11) (v := ?_) rfl (by kernel_rfl) (by kernel_rfl) (by kernel_rfl) (fun _ _ _ h => h) (Or.inl ⟨by rfl, ?_⟩) hHeld ?_
      rotate_left
      · intro u hSu
        (go_simp) <;> (with_reducible rfl)
      change wpAnyH _ _ _ _ _ _ _ (Act.put _ (some 14) _) _
      simp only [Act.put, List.setIfInBounds_toArray, List.set_cons_zero, List.set_cons_succ]
      refine wpAnyH_take (i := 12) (v := undef) rfl (by kernel_rfl) (by kernel_rfl) (by kernel_rfl) (fun _ _ _ h => h) (Or.inr ⟨by rfl, rfl⟩) hHeld ?_
      change wpAnyH _ _ _ _ _ _ _ (Act.put _ (some 15) _) _
      simp only [Act.put, List.setIfInBounds_toArray, List.set_cons_zero, List.set_cons_succ]
      refine wpAnyH_take (i := 13) (v := undef) rfl (by kernel_rfl) (by kernel_rfl) (by kernel_rfl) (fun _ _ _ h => h) (Or.inr ⟨by rfl, rfl⟩) hHeld ?_
      change wpAnyH _ _ _ _ _ _ _ (Act.put _ (some 16) _) _
      simp only [Act.put, List.setIfInBounds_toArray, List.set_cons_zero, List.set_cons_succ]
      refine wpAnyH_take (i := 14) (v := undef) rfl (by kernel_rfl) (by kernel_rfl) (by kernel_rfl) (fun _ _ _ h => h) (Or.inr ⟨by rfl, rfl⟩) hHeld ?_
      change wpAnyH _ _ _ _ _ _ _ (Act.put _ (some 17) _) _
      simp only [Act.put, List.setIfInBounds_toArray, List.set_cons_zero, List.set_cons_succ]
      refine wpAnyH_take (i := 15) (v := undef) rfl (by kernel_rfl) (by kernel_rfl) (by kernel_rfl) (fun _ _ _ h => h) (Or.inr ⟨by rfl, rfl⟩) hHeld ?_
      change wpAnyH _ _ _ _ _ _ _ (Act.put _ (some 18) _) _
      simp only [Act.put, List.setIfInBounds_toArray, List.set_cons_zero, List.set_cons_succ]
      refine wpAnyH_take (i := 16) (v := ?_) rfl (by kernel_rfl) (by kernel_rfl) (by kernel_rfl) (fun _ _ _ h => h) (Or.inl ⟨by rfl, ?_⟩) hHeld ?_
      rotate_left
      · intro u hSu
        (go_simp) <;> (with_reducible rfl)
      change wpAnyH _ _ _ _ _ _ _ (Act.put _ (some 19) _) _
      simp only [Act.put, List.setIfInBounds_toArray, List.set_cons_zero, List.set_cons_succ]
      refine wpAnyH_done (by kernel_rfl) ?_ _
      refine NoPanic.normal ?_
      go_wp2
      go_ret
      exact ⟨by rw [E.out]; rfl, HB.out.trans (B3.out.mono HB.out.size)⟩
    | true =>
      cases g2 with
      | false =>
        have E : Hid (R = false) := by rw [HR.out]; simp [Hid]
        clear HR
        go_enter Try.func11, Try.ntmps11
        go_wp2
        rw [HU.out]
        refine wp_region_noPanic ?_
        refine wp_region_held_drew (S := fun u => Below U.heap.size U u) (by kernel_rfl) ?_ (fun hHeld => ?_)
        · exact (Below.refl _ _).drew
        refine wpAnyH_take (i := 0) (v := ?_) rfl (by kernel_rfl) (by kernel_rfl) (by kernel_rfl) (fun _ _ _ h => h) (Or.inl ⟨by rfl, ?_⟩) hHeld ?_
        rotate_left
        · intro u hSu
          obtain ⟨y0, y1, y2, y3, y4, y5, y6, y7, y8⟩ := FB.out u hSu
          (go_simp) <;> (with_reducible rfl)
        change wpAnyH _ _ _ _ _ _ _ (Act.put _ (some 3) _) _
        simp only [Act.put, List.setIfInBounds_toArray, List.set_cons_zero, List.set_cons_succ]
        refine wpAnyH_take (i := 1) (v := ?_) rfl (by kernel_rfl) (by kernel_rfl) (by kernel_rfl) (fun _ _ _ h => h) (Or.inl ⟨by rfl, ?_⟩) hHeld ?_
        rotate_left
        · intro u hSu
          obtain ⟨y0, y1, y2, y3, y4, y5, y6, y7, y8⟩ := FB.out u hSu
          (go_simp) <;> (with_reducible rfl)
        change wpAnyH _ _ _ _ _ _ _ (Act.put _ (some 4) _) _
        simp only [Act.put, List.setIfInBounds_toArray, List.set_cons_zero, List.set_cons_succ]
        refine wpAnyH_ready (rs := [2]) (by kernel_rfl) (by simp) ?_
        refine AllReadyH.cons rfl (fun K hK => ?_) AllReadyH.nil
        go_simp
        go_at_call 33
        refine (CO.out _).mono ?_
        rintro e u1 ⟨rfl, hb1⟩
        have B1 : Hid (Below U.heap.size U u1) := hHeld.trans (hb1.mono hHeld.size); clear hb1
        refine hK.out _ _ ?_ (fun hHeld2 => ?_)
        · exact B1.out
        clear hK K hHeld
        have hHeld := hHeld2
        clear hHeld2
        refine wpAnyH_ready (rs := [3]) (by kernel_rfl) (by simp) ?_
        refine AllReadyH.cons rfl (fun K hK => ?_) AllReadyH.nil
        go_simp
        go_at_call 19
        refine (CS.out _ B1.out).mono ?_
        rintro e u2 ⟨rfl, hb2⟩
        have B2 : Hid (Below U.heap.size U u2) := B1.out.trans (hb2.mono B1.out.size); clear hb2
        refine hK.out _ _ ?_ (fun hHeld2 => ?_)
        · exact B2.out
        clear hK K hHeld
        have hHeld := hHeld2
        clear hHeld2
        refine wpAnyH_take (i := 4) (v := ?_) rfl (by kernel_rfl) (by kernel_rfl) (by kernel_rfl) (fun _ _ _ h => h) (Or.inl ⟨by rfl, ?_⟩) hHeld ?_
        rotate_left
        · intro u hSu
          (go_simp) <;> (with_reducible rfl)
        change wpAnyH _ _ _ _ _ _ _ (Act.put _ (some 7) _) _
        simp only [Act.put, List.setIfInBounds_toArray, List.set_cons_zero, List.set_cons_succ]
        refine wpAnyH_take (i := 5) (v := ?_) rfl (by kernel_rfl) (by kernel_rfl) (by kernel_rfl) (fun _ _ _ h => h) (Or.inl ⟨by rfl, ?_⟩) hHeld ?_
        rotate_left
        · intro u hSu
          (go_simp) <;> (with_reducible rfl)
        change wpAnyH _ _ _ _ _ _ _ (Act.put _ (some 8) _) _
        simp only [Act.put, List.setIfInBounds_toArray, List.set_cons_zero, List.set_cons_succ]
        refine wpAnyH_take (i := 6) (v := ?_) rfl (by kernel_rfl) (by kernel_rfl) (by kernel_rfl) (fun _ _ _ h => h) (Or.inl ⟨by rfl, ?_⟩) hHeld ?_
        rotate_left
        · intro u hSu
          (go_simp) <;> (with_reducible rfl)
        change wpAnyH _ _ _ _ _ _ _ (Act.put _ (some 9) _) _
        simp only [Act.put, List.setIfInBounds_toArray, List.set_cons_zero, List.set_cons_succ]
        refine wpAnyH_take (i := 7) (v := ?_) rfl (by kernel_rfl) (by kernel_rfl) (by kernel_rfl) (fun _ _ _ h => h) (Or.inl ⟨by rfl, ?_⟩) hHeld ?_
        rotate_left
        · intro u hSu
          obtain ⟨y0, y1, y2, y3, y4, y5, y6, y7, y8⟩ := FB.out u hSu
          (go_simp) <;> (with_reducible rfl)
        change wpAnyH _ _ _ _ _ _ _ (Act.put _ (some 10) _) _
        simp only [Act.put, List.setIfInBounds_toArray, List.set_cons_zero, List.set_cons_succ]
        refine wpAnyH_ready (rs := [8]) (by kernel_rfl) (by simp) ?_
        refine AllReadyH.cons rfl (fun K hK => ?_) AllReadyH.nil
        go_simp
        go_at_call 34
        refine (CG1.out _).mono ?_
        rintro e u3 ⟨rfl, hb3⟩
        have B3 : Hid (Below U.heap.size U u3) := B2.out.trans (hb3.mono B2.out.size); clear hb3
        refine hK.out _ _ ?_ (fun hHeld2 => ?_)
        · exact B3.out
        clear hK K hHeld
        have hHeld := hHeld2
        clear hHeld2
        refine wpAnyH_take (i := 9) (v := ?_) rfl (by kernel_rfl) (by kernel_rfl) (by kernel_rfl) (fun _ _ _ h => h) (Or.inl ⟨by rfl, ?_⟩) hHeld ?_
        rotate_left
        · intro u hSu
          (go_simp) <;> (with_reducible rfl)
        change wpAnyH _ _ _ _ _ _ _ (Act.put _ (some 12) _) _
        simp only [Act.put, List.setIfInBounds_toArray, List.set_cons_zero, List.set_cons_succ]
        refine wpAnyH_take (i := 10) (v := ?_) rfl (by kernel_rfl) (by kernel_rfl) (by kernel_rfl) (fun _ _ _ h => h) (Or.inl ⟨by rfl, ?_⟩) hHeld ?_
        rotate_left
        · intro u hSu
          (go_simp) <;> (with_reducible rfl)
        change wpAnyH _ _ _ _ _ _ _ (Act.put _ (some 13) _) _
        simp only [Act.put, List.setIfInBounds_toArray, List.set_cons_zero, List.set_cons_succ]
        refine wpAnyH_take (i := 11) (v := ?_) rfl (by kernel_rfl) (by kernel_rfl) (by kernel_rfl) (fun _ _ _ h => h) (Or.inl ⟨by rfl, ?_⟩) hHeld ?_
        rotate_left
        · intro u hSu
          (go_simp) <;> (with_reducible rfl)
        change wpAnyH _ _ _ _ _ _ _ (Act.put _ (some 14) _) _
        simp only [Act.put, List.setIfInBounds_toArray, List.set_cons_zero, List.set_cons_succ]
        refine wpAnyH_take (i := 12) (v := ?_) rfl (by kernel_rfl) (by kernel_rfl) (by kernel_rfl) (fun _ _ _ h => h) (Or.inl ⟨by rfl, ?_⟩) hHeld ?_
        rotate_left
        · intro u hSu
          (go_simp) <;> (with_reducible rfl)
        change wpAnyH _ _ _ _ _ _ _ (Act.put _ (some 15) _) _
        simp only [Act.put, List.setIfInBounds_toArray, List.set_cons_zero, List.set_cons_succ]
        refine wpAnyH_take (i := 13) (v := ?_) rfl (by kernel_rfl) (by kernel_rfl) (by kernel_rfl) (fun _ _ _ h => h) (Or.inl ⟨by rfl, ?_⟩) hHeld ?_
        rotate_left
        · intro u hSu
          obtain ⟨y0, y1, y2, y3, y4, y5, y6, y7, y8⟩ := FB.out u hSu
          (go_simp) <;> (with_reducible rfl)
        change wpAnyH _ _ _ _ _ _ _ (Act.put _ (some 16) _) _
        simp only [Act.put, List.setIfInBounds_toArray, List.set_cons_zero, List.set_cons_succ]
        refine wpAnyH_ready (rs := [14]) (by kernel_rfl) (by simp) ?_
        refine AllReadyH.cons rfl (fun K hK => ?_) AllReadyH.nil
        go_simp
        go_at_call 34
        refine (CG2.out _).mono ?_
        rintro e u4 ⟨rfl, hb4⟩
        have B4 : Hid (Below U.heap.size U u4) := B3.out.trans (hb4.mono B3.out.size); clear hb4
        refine hK.out _ _ ?_ (fun hHeld2 => ?_)
        · exact B4.out
        clear hK K hHeld
        have hHeld := hHeld2
        clear hHeld2
        refine wpAnyH_take (i := 15) (v := ?_) rfl (by kernel_rfl) (by kernel_rfl) (by kernel_rfl) (fun _ _ _ h => h) (Or.inl ⟨by rfl, ?_⟩) hHeld ?_
        rotate_left
        · intro u hSu
          (go_simp) <;> (with_reducible rfl)
        change wpAnyH _ _ _ _ _ _ _ (Act.put _ (some 18) _) _
        simp only [Act.put, List.setIfInBounds_toArray, List.set_cons_zero, List.set_cons_succ]
        refine wpAnyH_take (i := 16) (v := ?_) rfl (by kernel_rfl) (by kernel_rfl) (by kernel_rfl) (fun _ _ _ h => h) (Or.inl ⟨by rfl, ?_⟩) hHeld ?_
        rotate_left
        · intro u hSu
          (go_simp) <;> (with_reducible rfl)
        change wpAnyH _ _ _ _ _ _ _ (Act.put _ (some 19) _) _
        simp only [Act.put, List.setIfInBounds_toArray, List.set_cons_zero, List.set_cons_succ]
        refine wpAnyH_done (by kernel_rfl) ?_ _
        refine NoPanic.normal ?_
        go_wp2
        go_ret
        exact ⟨by rw [E.out]; rfl, HB.out.trans (B4.out.mono HB.out.size)⟩
      | true =>
        go_enter Try.func11, Try.ntmps11
        go_wp2
        rw [HU.out]
        refine wp_region_noPanic ?_
        refine wp_region_held_drew (S := fun u => Below U.heap.size U u) (by kernel_rfl) ?_ (fun hHeld => ?_)
        · exact (Below.refl _ _).drew
        refine wpAnyH_take (i := 0) (v := ?_) rfl (by kernel_rfl) (by kernel_rfl) (by kernel_rfl) (fun _ _ _ h => h) (Or.inl ⟨by rfl, ?_⟩) hHeld ?_
        rotate_left
        · intro u hSu
          obtain ⟨y0, y1, y2, y3, y4, y5, y6, y7, y8⟩ := FB.out u hSu
          (go_simp) <;> (with_reducible rfl)
        change wpAnyH _ _ _ _ _ _ _ (Act.put _ (some 3) _) _
        simp only [Act.put, List.setIfInBounds_toArray, List.set_cons_zero, List.set_cons_succ]
        refine wpAnyH_take (i := 1) (v := ?_) rfl (by kernel_rfl) (by kernel_rfl) (by kernel_rfl) (fun _ _ _ h => h) (Or.inl ⟨by rfl, ?_⟩) hHeld ?_
        rotate_left
        · intro u hSu
          obtain ⟨y0, y1, y2, y3, y4, y5, y6, y7, y8⟩ := FB.out u hSu
          (go_simp) <;> (with_reducible rfl)
        change wpAnyH _ _ _ _ _ _ _ (Act.put _ (some 4) _) _
        simp only [Act.put, List.setIfInBounds_toArray, List.set_cons_zero, List.set_cons_succ]
        refine wpAnyH_ready (rs := [2]) (by kernel_rfl) (by simp) ?_
        refine AllReadyH.cons rfl (fun K hK => ?_) AllReadyH.nil
        go_simp
        go_at_call 33
        refine (CO.out _).mono ?_
        rintro e u1 ⟨rfl, hb1⟩
        have B1 : Hid (Below U.heap.size U u1) := hHeld.trans (hb1.mono hHeld.size); clear hb1
        refine hK.out _ _ ?_ (fun hHeld2 => ?_)
        · exact B1.out
        clear hK K hHeld
        have hHeld := hHeld2
        clear hHeld2
        refine wpAnyH_ready (rs := [3]) (by kernel_rfl) (by simp) ?_
        refine AllReadyH.cons rfl (fun K hK => ?_) AllReadyH.nil
        go_simp
        go_at_call 19
        refine (CS.out _ B1.out).mono ?_
        rintro e u2 ⟨rfl, hb2⟩
        have B2 : Hid (Below U.heap.size U u2) := B1.out.trans (hb2.mono B1.out.size); clear hb2
        refine hK.out _ _ ?_ (fun hHeld2 => ?_)
        · exact B2.out
        clear hK K hHeld
        have hHeld := hHeld2
        clear hHeld2
        refine wpAnyH_take (i := 4) (v := ?_) rfl (by kernel_rfl) (by kernel_rfl) (by kernel_rfl) (fun _ _ _ h => h) (Or.inl ⟨by rfl, ?_⟩) hHeld ?_
        rotate_left
        · intro u hSu
          (go_simp) <;> (with_reducible rfl)
        change wpAnyH _ _ _ _ _ _ _ (Act.put _ (some 7) _) _
        simp only [Act.put, List.setIfInBounds_toArray, List.set_cons_zero, List.set_cons_succ]
        refine wpAnyH_take (i := 5) (v := ?_) rfl (by kernel_rfl) (by kernel_rfl) (by kernel_rfl) (fun _ _ _ h => h) (Or.inl ⟨by rfl, ?_⟩) hHeld ?_
        rotate_left
        · intro u hSu
          (go_simp) <;> (with_reducible rfl)
        change wpAnyH _ _ _ _ _ _ _ (Act.put _ (some 8) _) _
        simp only [Act.put, List.setIfInBounds_toArray, List.set_cons_zero, List.set_cons_succ]
        refine wpAnyH_take (i := 6) (v := ?_) rfl (by kernel_rfl) (by kernel_rfl) (by kernel_rfl) (fun _ _ _ h => h) (Or.inl ⟨by rfl, ?_⟩) hHeld ?_
        rotate_left
        · intro u hSu
          (go_simp) <;> (with_reducible rfl)
        change wpAnyH _ _ _ _ _ _ _ (Act.put _ (some 9) _) _
        simp only [Act.put, List.setIfInBounds_toArray, List.set_cons_zero, List.set_cons_succ]
        refine wpAnyH_take (i := 7) (v := ?_) rfl (by kernel_rfl) (by kernel_rfl) (by kernel_rfl) (fun _ _ _ h => h) (Or.inl ⟨by rfl, ?_⟩) hHeld ?_
        rotate_left
        · intro u hSu
          obtain ⟨y0, y1, y2, y3, y4, y5, y6, y7, y8⟩ := FB.out u hSu
          (go_simp) <;> (with_reducible rfl)
        change wpAnyH _ _ _ _ _ _ _ (Act.put _ (some 10) _) _
        simp only [Act.put, List.setIfInBounds_toArray, List.set_cons_zero, List.set_cons_succ]
        refine wpAnyH_ready (rs := [8]) (by kernel_rfl) (by simp) ?_
        refine AllReadyH.cons rfl (fun K hK => ?_) AllReadyH.nil
        go_simp
        go_at_call 34
        refine (CG1.out _).mono ?_
        rintro e u3 ⟨rfl, hb3⟩
        have B3 : Hid (Below U.heap.size U u3) := B2.out.trans (hb3.mono B2.out.size); clear hb3
        refine hK.out _ _ ?_ (fun hHeld2 => ?_)
        · exact B3.out
        clear hK K hHeld
        have hHeld := hHeld2
        clear hHeld2
        refine wpAnyH_take (i := 9) (v := ?_) rfl (by kernel_rfl) (by kernel_rfl) (by kernel_rfl) (fun _ _ _ h => h) (Or.inl ⟨by rfl, ?_⟩) hHeld ?_
        rotate_left
        · intro u hSu
          (go_simp) <;> (with_reducible rfl)
        change wpAnyH _ _ _ _ _ _ _ (Act.put _ (some 12) _) _
        simp only [Act.put, List.setIfInBounds_toArray, List.set_cons_zero, List.set_cons_succ]
        refine wpAnyH_take (i := 10) (v := ?_) rfl (by kernel_rfl) (by kernel_rfl) (by kernel_rfl) (fun _ _ _ h => h) (Or.inl ⟨by rfl, ?_⟩) hHeld ?_
        rotate_left
        · intro u hSu
          (go_simp) <;> (with_reducible rfl)
        change wpAnyH _ _ _ _ _ _ _ (Act.put _ (some 13) _) _
        simp only [Act.put, List.setIfInBounds_toArray, List.set_cons_zero, List.set_cons_succ]
        refine wpAnyH_take (i := 11) (v := ?_) rfl (by kernel_rfl) (by kernel_rfl) (by kernel_rfl) (fun _ _ _ h => h) (Or.inl ⟨by rfl, ?_⟩) hHeld ?_
        rotate_left
        · intro u hSu
          (go_simp) <;> (with_reducible rfl)
        change wpAnyH _ _ _ _ _ _ _ (Act.put _ (some 14) _) _
        simp only [Act.put, List.setIfInBounds_toArray, List.set_cons_zero, List.set_cons_succ]
        refine wpAnyH_take (i := 12) (v := ?_) rfl (by kernel_rfl) (by kernel_rfl) (by kernel_rfl) (fun _ _ _ h => h) (Or.inl ⟨by rfl, ?_⟩) hHeld ?_
        rotate_left
        · intro u hSu
          (go_simp) <;> (with_reducible rfl)
        change wpAnyH _ _ _ _ _ _ _ (Act.put _ (some 15) _) _
        simp only [Act.put, List.setIfInBounds_toArray, List.set_cons_zero, List.set_cons_succ]
        refine wpAnyH_take (i := 13) (v := ?_) rfl (by kernel_rfl) (by kernel_rfl) (by kernel_rfl) (fun _ _ _ h => h) (Or.inl ⟨by rfl, ?_⟩) hHeld ?_
        rotate_left
        · intro u hSu
          obtain ⟨y0, y1, y2, y3, y4, y5, y6, y7, y8⟩ := FB.out u hSu
          (go_simp) <;> (with_reducible rfl)
        change wpAnyH _ _ _ _ _ _ _ (Act.put _ (some 16) _) _
        simp only [Act.put, List.setIfInBounds_toArray, List.set_cons_zero, List.set_cons_succ]
        refine wpAnyH_ready (rs := [14]) (by kernel_rfl) (by simp) ?_
        refine AllReadyH.cons rfl (fun K hK => ?_) AllReadyH.nil
        go_simp
        go_at_call 34
        refine (CG2.out _).mono ?_
        rintro e u4 ⟨rfl, hb4⟩
        have B4 : Hid (Below U.heap.size U u4) := B3.out.trans (hb4.mono B3.out.size); clear hb4
        refine hK.out _ _ ?_ (fun hHeld2 => ?_)
        · exact B4.out
        clear hK K hHeld
        have hHeld := hHeld2
        clear hHeld2
        refine wpAnyH_take (i := 15) (v := ?_) rfl (by kernel_rfl) (by kernel_rfl) (by kernel_rfl) (fun _ _ _ h => h) (Or.inl ⟨by rfl, ?_⟩) hHeld ?_
        rotate_left
        · intro u hSu
          (go_simp) <;> (with_reducible rfl)
        change wpAnyH _ _ _ _ _ _ _ (Act.put _ (some 18) _) _
        simp only [Act.put, List.setIfInBounds_toArray, List.set_cons_zero, List.set_cons_succ]
        refine wpAnyH_take (i := 16) (v := ?_) rfl (by kernel_rfl) (by kernel_rfl) (by kernel_rfl) (fun _ _ _ h => h) (Or.inl ⟨by rfl, ?_⟩) hHeld ?_
        rotate_left
        · intro u hSu
          (go_simp) <;> (with_reducible rfl)
        change wpAnyH _ _ _ _ _ _ _ (Act.put _ (some 19) _) _
        simp only [Act.put, List.setIfInBounds_toArray, List.set_cons_zero, List.set_cons_succ]
        refine wpAnyH_done (by kernel_rfl) ?_ _
        refine NoPanic.normal ?_
        obtain ⟨y0, y1, y2, y3, y4, y5, y6, y7, y8⟩ := FB.out _ B4.out
        by_cases k1 : kd = 1
        · have hi := k1
          subst k1
          by_cases i1 : 1 ≤ id
          · have bi : decide (1 ≤ id) = true := decide_eq_true i1
            by_cases i2 : 0 < xc
            · have bx : decide (0 < xc) = true := decide_eq_true i2
              have E : Hid (R = mw) := by rw [HR.out]; simp [Hid, i1, i2]
              clear HR
              cases mw with
              | true =>
                go_wp2_with (first | (go_at_call 35; refine (CC.out _).mono ?_; rintro e u5 ⟨rfl, hb5⟩; have B5 : Hid (Below U.heap.size U u5) := B4.out.trans (hb5.mono B4.out.size); obtain ⟨z0, z1, z2, z3, z4, z5, z6, z7, z8⟩ := FB.out _ B5.out; clear hb5) | (go_at_call 32; refine (CW.out _ B5.out).mono ?_; rintro e u6 ⟨rfl, hb6⟩; have B6 : Hid (Below U.heap.size U u6) := B5.out.trans (hb6.mono B5.out.size); clear hb6))
                go_ret
                exact ⟨by rw [E.out]; rfl, HB.out.trans (B6.out.mono HB.out.size)⟩
              | false =>
                go_wp2_with (first | (go_at_call 35; refine (CC.out _).mono ?_; rintro e u5 ⟨rfl, hb5⟩; have B5 : Hid (Below U.heap.size U u5) := B4.out.trans (hb5.mono B4.out.size); obtain ⟨z0, z1, z2, z3, z4, z5, z6, z7, z8⟩ := FB.out _ B5.out; clear hb5) | (go_at_call 32; refine (CW.out _ B5.out).mono ?_; rintro e u6 ⟨rfl, hb6⟩; have B6 : Hid (Below U.heap.size U u6) := B5.out.trans (hb6.mono B5.out.size); clear hb6))
                go_ret
                exact ⟨by rw [E.out]; rfl, HB.out.trans (B6.out.mono HB.out.size)⟩
            · have bx : decide (0 < xc) = false := decide_eq_false i2
              have E : Hid (R = false) := by rw [HR.out]; simp [Hid, i2]
              clear HR
              go_wp2_with (first | (go_at_call 35; refine (CC.out _).mono ?_; rintro e u5 ⟨rfl, hb5⟩; have B5 : Hid (Below U.heap.size U u5) := B4.out.trans (hb5.mono B4.out.size); obtain ⟨z0, z1, z2, z3, z4, z5, z6, z7, z8⟩ := FB.out _ B5.out; clear hb5))
              go_ret
              exact ⟨by rw [E.out]; rfl, HB.out.trans (B5.out.mono HB.out.size)⟩
          · have bi : decide (1 ≤ id) = false := decide_eq_false i1
            have E : Hid (R = false) := by rw [HR.out]; simp [Hid, i1]
            clear HR
            go_wp2
            go_ret
            exact ⟨by rw [E.out]; rfl, HB.out.trans (B4.out.mono HB.out.size)⟩
        by_cases k2 : kd = 2
        · subst k2
          by_cases i1 : 1 ≤ id
          · have bi : decide (1 ≤ id) = true := decide_eq_true i1
            have E : Hid (R = true) := by rw [HR.out]; simp [Hid, i1]
            clear HR
            go_wp2
            go_ret
            exact ⟨by rw [E.out]; rfl, HB.out.trans (B4.out.mono HB.out.size)⟩
          · have bi : decide (1 ≤ id) = false := decide_eq_false i1
            have E : Hid (R = false) := by rw [HR.out]; simp [Hid, i1]
            clear HR
            go_wp2
            go_ret
            exact ⟨by rw [E.out]; rfl, HB.out.trans (B4.out.mono HB.out.size)⟩
        by_cases k3 : kd = 3
        · subst k3
          by_cases i1 : 1 ≤ id
          · have bi : decide (1 ≤ id) = true := decide_eq_true i1
            have E : Hid (R = true) := by rw [HR.out]; simp [Hid, i1]
            clear HR
            go_wp2
            go_ret
            exact ⟨by rw [E.out]; rfl, HB.out.trans (B4.out.mono HB.out.size)⟩
          · have bi : decide (1 ≤ id) = false := decide_eq_false i1
            have E : Hid (R = false) := by rw [HR.out]; simp [Hid, i1]
            clear HR
            go_wp2
            go_ret
            exact ⟨by rw [E.out]; rfl, HB.out.trans (B4.out.mono HB.out.size)⟩
        by_cases k4 : kd = 4
        · subst k4
          by_cases i1 : 1 ≤ id
          · have bi : decide (1 ≤ id) = true := decide_eq_true i1
            have E : Hid (R = pb) := by rw [HR.out]; simp [Hid, i1]
            clear HR
            cases pb with
            | true =>
              go_wp2_with (first | (go_at_call 36; refine (CP.out _ B4.out).mono ?_; rintro e u5 ⟨rfl, hw5⟩; obtain rfl : u4 = u5 := hw5.symm; clear hw5))
              go_ret
              exact ⟨by rw [E.out]; rfl, HB.out.trans (B4.out.mono HB.out.size)⟩
            | false =>
              go_wp2_with (first | (go_at_call 36; refine (CP.out _ B4.out).mono ?_; rintro e u5 ⟨rfl, hw5⟩; obtain rfl : u4 = u5 := hw5.symm; clear hw5))
              go_ret
              exact ⟨by rw [E.out]; rfl, HB.out.trans (B4.out.mono HB.out.size)⟩
          · have bi : decide (1 ≤ id) = false := decide_eq_false i1
            have E : Hid (R = false) := by rw [HR.out]; simp [Hid, i1]
            clear HR
            go_wp2
            go_ret
            exact ⟨by rw [E.out]; rfl, HB.out.trans (B4.out.mono HB.out.size)⟩
        have b1 : (kd == 1) = false := beq_eq_false_iff_ne.2 k1
        have b2 : (kd == 2) = false := beq_eq_false_iff_ne.2 k2
        have b3 : (kd == 3) = false := beq_eq_false_iff_ne.2 k3
        have b4 : (kd == 4) = false := beq_eq_false_iff_ne.2 k4
        by_cases k5 : kd = 5
        · have b5 : (kd == 5) = true := beq_iff_eq.2 k5
          have E : Hid (R = true) := by rw [HR.out]; simp [Hid, k5]
          clear HR k1 k2 k3 k4 k5
          go_wp2
          go_ret
          exact ⟨by rw [E.out]; rfl, HB.out.trans (B4.out.mono HB.out.size)⟩
        · have b5 : (kd == 5) = false := beq_eq_false_iff_ne.2 k5
          have E : Hid (R = false) := by rw [HR.out]; simp [Hid, k1, k2, k3, k4, k5]
          clear HR k1 k2 k3 k4 k5
          go_wp2
          go_ret
          exact ⟨by rw [E.out]; rfl, HB.out.trans (B4.out.mono HB.out.size)⟩
end Go.Proofs.Ytmiafadmcpmjgaa

namespace Go.Proofs.Ytmiafadmcpmjgaa
open Go.RowKit
set_option linter.unusedVariables false
set_option linter.unusedSimpArgs false

/-- The writer in block p, and nothing below it turned. -/
structure PS (W : World) (p : Nat) (u : World) (zs : List Int) : Prop where
  ex : ∃ X, Wtr u p zs X
  below : Below p W u
theorem PS.num {W : World} {p : Nat} {u : World} {zs : List Int} (h : PS W p u zs) (hm : zs.length ≤ 100000) (v : Int) (h0 : 0 ≤ v) (h1 : v ≤ 18446744073709551615) :
    Calls Try.prog 37 #[.pointer (some ⟨p, 0, none⟩), .int .u64 v] u fun e w' => e = .returned (.tuple #[]) ∧ PS W p w' (zs ++ Pl.putI v) := by
  obtain ⟨⟨X, hx⟩, hb⟩ := h
  refine (wnum_any p zs X v u hx (by omega) h0 h1).mono ?_
  rintro e w' ⟨rfl, X', h1, h2⟩
  exact ⟨rfl, ⟨X', h1⟩, hb.trans (hx.did_below h2)⟩
theorem PS.flag {W : World} {p : Nat} {u : World} {zs : List Int} (h : PS W p u zs) (hm : zs.length ≤ 100000) (y : Bool) :
    Calls Try.prog 40 #[.pointer (some ⟨p, 0, none⟩), .bool y] u fun e w' => e = .returned (.tuple #[]) ∧ PS W p w' (zs ++ [flagB y]) := by
  obtain ⟨⟨X, hx⟩, hb⟩ := h
  refine (wflag_any p zs X y u hx (by omega)).mono ?_
  rintro e w' ⟨rfl, X', h1, h2⟩
  exact ⟨rfl, ⟨X', h1⟩, hb.trans (hx.did_below h2)⟩
theorem PS.stamp {W : World} {p : Nat} {u : World} {zs : List Int} (h : PS W p u zs) (hm : zs.length ≤ 100000) (t n : Int) (ht : okS t) (hn : 0 ≤ n ∧ n ≤ 255) :
    Calls Try.prog 39 #[.pointer (some ⟨p, 0, none⟩), .agg #[.int .i64 t, .int .u8 n]] u fun e w' => e = .returned (.tuple #[]) ∧ PS W p w' (zs ++ stpB t n) := by
  obtain ⟨⟨X, hx⟩, hb⟩ := h
  refine (wstamp_any p zs X t n u hx (by omega) ht hn).mono ?_
  rintro e w' ⟨rfl, X', h1, h2⟩
  exact ⟨rfl, ⟨X', h1⟩, hb.trans (hx.did_below h2)⟩
theorem PS.writes {W : World} {p : Nat} {u : World} {zs : List Int} (h : PS W p u zs) (hm : zs.length ≤ 100000) (a : Option Addr) (N c : Nat) (l : List Wrt) (hl : l.length = N) (hN : N ≤ 100) (hv : ∀ V ∈ l, V.v.length ≤ 1000) (hat : ∀ u, Below p W u → WrtsAt u a l) :
    Calls Try.prog 28 #[.pointer (some ⟨p, 0, none⟩), .slice a N c] u fun e w' => e = .returned (.tuple #[]) ∧ PS W p w' (zs ++ wrtsB l) := by
  obtain ⟨⟨X, hx⟩, hb⟩ := h
  refine (lputws_any p zs X a N c l u hx hm hl hN hv (fun u' hu' => hat u' (hb.trans hu'))).mono ?_
  rintro e w' ⟨rfl, X', h1, h2⟩
  exact ⟨rfl, ⟨X', h1⟩, hb.trans h2⟩
theorem PS.parts {W : World} {p : Nat} {u : World} {zs : List Int} (h : PS W p u zs) (hm : zs.length ≤ 100000) (a : Option Addr) (N c : Nat) (l : List Int) (hl : l.length = N) (hN : N ≤ 100) (hv : ∀ z ∈ l, 0 ≤ z ∧ z ≤ 7) (hat : ∀ u, Below p W u → IntsAt u a l) :
    Calls Try.prog 41 #[.pointer (some ⟨p, 0, none⟩), .slice a N c] u fun e w' => e = .returned (.tuple #[]) ∧ PS W p w' (zs ++ partsL l) := by
  obtain ⟨⟨X, hx⟩, hb⟩ := h
  refine (lputps_any p zs X a N c l u hx hm hl hN hv (fun u' hu' => hat u' (hb.trans hu'))).mono ?_
  rintro e w' ⟨rfl, X', h1, h2⟩
  exact ⟨rfl, ⟨X', h1⟩, hb.trans h2⟩
theorem PS.bytes {W : World} {p : Nat} {u : World} {zs : List Int} (h : PS W p u zs) :
    Calls Try.prog 30 #[.pointer (some ⟨p, 0, none⟩)] u fun e w' => ∃ a c, e = .returned (.slice a zs.length c) ∧ w'.ownsRow (p + 1) 5 1 (.slice a zs.length c) zs.length (bs zs) ∧ Below p W w' := by
  obtain ⟨⟨X, hx⟩, hb⟩ := h
  refine (wbytes_any p zs X u hx).mono ?_
  rintro e w' ⟨a, c, rfl, h1, h2⟩
  exact ⟨a, c, rfl, h1, hb.trans h2⟩
theorem PS.made (u : World) (T : TypeId) : PS (u.alloc (.cells #[.slice none 0 0] T)) u.heap.size (u.alloc (.cells #[.slice none 0 0] T)) [] := ⟨⟨_, Wtr.made u T⟩, Below.refl _ _⟩
theorem putL_len (v : Int) : (Pl.putI v).length ≤ 10 := Pl.put_length_le 9 v
theorem stp_len (t n : Int) : (stpB t n).length ≤ 10 := putL_len _
/-- What a record that may be has. -/
theorem good_has {r : Rcd} (h : goodR r = true) : (r.kd = 1 ∧ okS r.s ∧ okS r.t) ∨ (r.kd = 2 ∧ okS r.t) ∨ r.kd = 3 ∨ (r.kd = 4 ∧ okS r.t ∧ ∀ z ∈ r.ps, 0 ≤ z ∧ z ≤ 7) ∨ (r.kd = 5 ∧ okS r.t) := by
  obtain ⟨kd, id, s, m, t, n, l, y, ps⟩ := r
  unfold goodR at h
  simp only at h ⊢
  by_cases k1 : kd = 1
  · rw [if_pos k1] at h
    simp only [entR, goodE, Bool.and_eq_true] at h
    exact .inl ⟨k1, of_decide_eq_true h.1.1.1.1.1.2, of_decide_eq_true h.1.1.1.1.2⟩
  rw [if_neg k1] at h
  by_cases k2 : kd = 2
  · rw [if_pos k2] at h
    simp only [Bool.and_eq_true] at h
    exact .inr (.inl ⟨k2, of_decide_eq_true h.2⟩)
  rw [if_neg k2] at h
  by_cases k3 : kd = 3
  · exact .inr (.inr (.inl k3))
  rw [if_neg k3] at h
  by_cases k4 : kd = 4
  · rw [if_pos k4] at h
    simp only [Bool.and_eq_true, partsB] at h
    exact .inr (.inr (.inr (.inl ⟨k4, of_decide_eq_true h.1.2, fun z hz => (upP_in h.1.1.2.1 z hz).2⟩)))
  rw [if_neg k4] at h
  by_cases k5 : kd = 5
  · rw [if_pos k5] at h
    simp only [Bool.and_eq_true] at h
    exact .inr (.inr (.inr (.inr ⟨k5, of_decide_eq_true h.1.2⟩)))
  · rw [if_neg k5] at h; cases h
set_option maxHeartbeats 8000000 in
set_option maxRecDepth 8000 in
theorem lput_rec (x : RcM) (w : World) (h : RcW w x) (hN1 : x.r.l.length ≤ 100) (hP1 : x.r.ps.length ≤ 100) (hV : ∀ W ∈ x.r.l, W.v.length ≤ 1000) :
    Calls Try.prog 12 #[rcv x] w fun e w' => ∃ a c, e = .returned (.slice a (recB x.r).length c) ∧ w'.ownsRow w.heap.size 5 1 (.slice a (recB x.r).length c) (recB x.r).length (bs (recB x.r)) ∧ Below w.heap.size w w' := by
  have CG : Hid (∀ u, Below w.heap.size w u → Calls Try.prog 11 #[rcv x] u fun e w' => e = .returned (.bool (goodR x.r)) ∧ Below u.heap.size u w') := fun u hu => lgood_any x u (h.past hu)
  have hrb : recB x.r = if goodR x.r = true then Pl.putI x.r.kd ++ (Pl.putI (Pl.zigI x.r.id) ++ tailB x.r) else [] := rfl
  have hgh := @good_has x.r
  obtain ⟨RB, hRB⟩ : ∃ RB, RB = recB x.r := ⟨_, rfl⟩
  rw [← hRB] at hrb ⊢
  obtain ⟨R, hR⟩ : ∃ R, R = goodR x.r := ⟨_, rfl⟩
  rw [← hR] at CG hrb hgh
  clear hRB hR
  obtain ⟨⟨kd, id, s, m, t, n, l, y, ps⟩, a, c, pa, pc⟩ := x
  obtain ⟨hwr, hrm, hfw, hps, hpr, hpf, hkd, ⟨o1, o2, o3, o4, o5, o6, o7, o8⟩⟩ := h
  simp only at hwr hrm hfw hps hpr hpf hkd hrb hgh hN1 hP1 hV o1 o2 o3 o4 o5 o6 o7 o8
  obtain ⟨N, hN⟩ : ∃ N, l.length = N := ⟨_, rfl⟩
  obtain ⟨M, hM⟩ : ∃ N, ps.length = N := ⟨_, rfl⟩
  unfold rcv encR at CG ⊢
  simp only at CG ⊢
  simp only [hN, hM] at CG hrm hfw hpr hpf hN1 hP1 ⊢
  obtain ⟨U, hU⟩ : ∃ U, U = w.alloc (.cells #[.int .i64 kd, .int .i64 id, .int .i64 s, .int .u8 m, .int .i64 t, .int .u8 n, .slice a N c, .bool y, .slice pa M pc] 28) := ⟨_, rfl⟩
  have HU : Hid (w.alloc (.cells #[.int .i64 kd, .int .i64 id, .int .i64 s, .int .u8 m, .int .i64 t, .int .u8 n, .slice a N c, .bool y, .slice pa M pc] 28) = U) := hU.symm
  have HB : Hid (Below w.heap.size w U) := by rw [hU]; exact (Below.refl _ _).alloc (Nat.le_refl _) _
  have HSZ : Hid (U.heap.size = w.heap.size + 1) := by rw [hU]; exact World.size_alloc _ _
  have hbx : RBox U w.heap.size kd id s m t n a N c y pa M pc := by
    rw [hU]; exact RBox.made w 28 kd id s m t n a N c y pa M pc
  have FB : Hid (∀ u, Below U.heap.size U u → RBox u w.heap.size kd id s m t n a N c y pa M pc) := fun u hb => hbx.past hb
  have CG : Hid (Calls Try.prog 11 #[.agg #[.int .i64 kd, .int .i64 id, .int .i64 s, .int .u8 m, .int .i64 t, .int .u8 n, .slice a N c, .bool y, .slice pa M pc]] U fun e w' => e = .returned (.bool R) ∧ Below U.heap.size U w') := CG.out U HB.out
  cases R with
  | false =>
    have E : Hid (RB = []) := hrb
    clear hrb hgh hwr hrm hfw hps hpr hpf hkd hbx hU hV o1 o2 o3 o4 o5 o6 o7 o8
    obtain ⟨y0, y1, y2, y3, y4, y5, y6, y7, y8⟩ := FB.out U (Below.refl _ _)
    go_enter Try.func12, Try.ntmps12
    go_wp2_with (first | (go_at_call 11; rw [HU.out]; refine CG.out.mono ?_; rintro e u1 ⟨rfl, hb1⟩; have B1 : Hid (Below U.heap.size U u1) := hb1; clear hb1))
    go_returns
    refine ⟨none, 0, by rw [E.out]; rfl, ?_, HB.out.trans (B1.out.mono HB.out.size)⟩
    rw [E.out]
    exact ⟨rfl, .inl ⟨rfl, rfl⟩⟩
  | true =>
    rw [if_pos rfl] at hrb
    have hzb := Pl.zig_bd id o1 o2
    have HWR : Hid (∀ u1 u, Below U.heap.size U u1 → Below u1.heap.size (u1.alloc (.cells #[.slice none 0 0] 62)) u → WrtsAt u a l ∧ IntsAt u pa ps ∧ RBox u w.heap.size kd id s m t n a N c y pa M pc ∧ Below w.heap.size w u) := fun u1 u hb1 hb2 => by
      have b1 : Below u1.heap.size u1 u := ((Below.refl _ _).alloc (Nat.le_refl _) _).trans hb2
      have b2 : Below U.heap.size U u := hb1.trans (b1.mono hb1.size)
      exact ⟨(hwr.past HB.out).past b2, (hps.past HB.out).past b2, FB.out u b2, HB.out.trans (b2.mono HB.out.size)⟩
    have HEND : Hid (∀ u1 w' a6 c6 zs, Below U.heap.size U u1 → w'.ownsRow (u1.heap.size + 1) 5 1 (.slice a6 zs.length c6) zs.length (bs zs) → Below u1.heap.size (u1.alloc (.cells #[.slice none 0 0] 62)) w' → zs = RB → ∃ a c, Ending.returned (.slice a6 zs.length c6) = .returned (.slice a RB.length c) ∧ w'.ownsRow w.heap.size 5 1 (.slice a RB.length c) RB.length (bs RB) ∧ Below w.heap.size w w') := fun u1 w' a6 c6 zs hb1 ho hb2 e => by
      subst e
      have hs : w.heap.size ≤ u1.heap.size + 1 := Nat.le_trans HB.out.size (Nat.le_trans hb1.size (Nat.le_succ _))
      exact ⟨a6, c6, rfl, ⟨ho.1, ho.2.imp (fun x => x) (fun ⟨g, cc, cur, x1, x2, x3⟩ => ⟨g, cc, cur, x1, Nat.le_trans hs x2, x3⟩)⟩, (HWR.out u1 w' hb1 hb2).2.2.2⟩
    have HL : Hid (l.length = N ∧ N ≤ 100 ∧ ∀ W ∈ l, W.v.length ≤ 1000) := ⟨hN, hN1, hV⟩
    have HLP : Hid (ps.length = M ∧ M ≤ 100) := ⟨hM, hP1⟩
    have HMN : Hid ((0 ≤ m ∧ m ≤ 255) ∧ (0 ≤ n ∧ n ≤ 255)) := ⟨⟨o3, o4⟩, ⟨o5, o6⟩⟩
    have Z0 : Hid ((Pl.putI kd).length ≤ 10 ∧ (Pl.putI (Pl.zigI id)).length ≤ 10 ∧ (stpB s m).length ≤ 10 ∧ (stpB t n).length ≤ 10) := ⟨putL_len _, putL_len _, stp_len _ _, stp_len _ _⟩
    obtain ⟨zg, hzg⟩ : ∃ z, z = Pl.zigI id := ⟨_, rfl⟩
    have CZ : Hid (∀ u, Calls Try.prog 38 #[.int .i64 id] u fun e w' => e = .returned (.int .u64 zg) ∧ w' = u) := fun u => by rw [hzg]; exact zig_any id u o1 o2
    rw [← hzg] at hrb hzb Z0
    have zb0 : 0 ≤ zg := hzb.1
    have zb1 : zg ≤ 18446744073709551615 := hzb.2
    have HGH := hgh rfl
    have HRB : Hid (RB = Pl.putI kd ++ (Pl.putI zg ++ tailB ⟨kd, id, s, m, t, n, l, y, ps⟩)) := hrb
    obtain ⟨y0, y1, y2, y3, y4, y5, y6, y7, y8⟩ := FB.out U (Below.refl _ _)
    clear hrb hgh hwr hrm hfw hps hpr hpf hkd hbx hU hV o1 o2 o3 o4 o5 o6 o7 o8 hzb hzg hN hM hN1 hP1
    rcases HGH with ⟨rfl, ok1, ok2⟩ | ⟨rfl, ok2⟩ | rfl | ⟨rfl, ok2, ok3⟩ | ⟨rfl, ok2⟩
    · go_enter Try.func12, Try.ntmps12
      go_wp2_with (first
        | (have hgo := S5.out; clear hgo; go_at_call 30; obtain ⟨ZS, hZS⟩ : ∃ ZS, ZS = [] ++ Pl.putI 1 ++ Pl.putI zg ++ stpB s m ++ stpB t n ++ wrtsB l := ⟨_, rfl⟩; rw [← hZS] at S5; obtain ⟨LN, hLN⟩ : ∃ LN, LN = ZS.length := ⟨_, rfl⟩; have hby := S5.out.bytes; rw [← hLN] at hby; have HZ : Hid (ZS = [] ++ Pl.putI 1 ++ Pl.putI zg ++ stpB s m ++ stpB t n ++ wrtsB l ∧ LN = ZS.length) := ⟨hZS, hLN⟩; clear hZS hLN; refine Calls.mono hby ?_; rintro e w9 ⟨a9, c9, rfl, k1, k2⟩; have H9 : Hid (w9.ownsRow (u1.heap.size + 1) 5 1 (.slice a9 LN c9) LN (bs ZS) ∧ Below u1.heap.size (u1.alloc (.cells #[.slice none 0 0] 62)) w9) := ⟨k1, k2⟩; clear k1 k2 hby)
        | (have hgo := S4.out; clear hgo; go_at_call 28; refine (S4.out.writes (by have := Z0.out; simp only [List.length_append, List.length_nil, List.length_singleton]; omega) a N c l HL.out.1 HL.out.2.1 HL.out.2.2 (fun u hu => (HWR.out u1 u B1.out hu).1)).mono ?_; rintro e v5 ⟨rfl, hs5⟩; have S5 : Hid (PS (u1.alloc (.cells #[.slice none 0 0] 62)) u1.heap.size v5 ([] ++ Pl.putI 1 ++ Pl.putI zg ++ stpB s m ++ stpB t n ++ wrtsB l)) := hs5; obtain ⟨_, _, ⟨p50, p51, p52, p53, p54, p55, p56, p57, p58⟩, _⟩ := HWR.out u1 v5 B1.out S5.out.below; clear hs5 S4)
        | (have hgo := S3.out; clear hgo; go_at_call 39; refine (S3.out.stamp (by have := Z0.out; simp only [List.length_append, List.length_nil, List.length_singleton]; omega) t n ok2 HMN.out.2).mono ?_; rintro e v4 ⟨rfl, hs4⟩; have S4 : Hid (PS (u1.alloc (.cells #[.slice none 0 0] 62)) u1.heap.size v4 ([] ++ Pl.putI 1 ++ Pl.putI zg ++ stpB s m ++ stpB t n)) := hs4; obtain ⟨_, _, ⟨p40, p41, p42, p43, p44, p45, p46, p47, p48⟩, _⟩ := HWR.out u1 v4 B1.out S4.out.below; clear hs4 S3)
        | (have hgo := S2.out; clear hgo; go_at_call 39; refine (S2.out.stamp (by have := Z0.out; simp only [List.length_append, List.length_nil, List.length_singleton]; omega) s m ok1 HMN.out.1).mono ?_; rintro e v3 ⟨rfl, hs3⟩; have S3 : Hid (PS (u1.alloc (.cells #[.slice none 0 0] 62)) u1.heap.size v3 ([] ++ Pl.putI 1 ++ Pl.putI zg ++ stpB s m)) := hs3; obtain ⟨_, _, ⟨p30, p31, p32, p33, p34, p35, p36, p37, p38⟩, _⟩ := HWR.out u1 v3 B1.out S3.out.below; clear hs3 S2)
        | (have hgo := S1.out; clear hgo; go_at_call 37; refine (S1.out.num (by have := Z0.out; simp only [List.length_append, List.length_nil]; omega) zg zb0 zb1).mono ?_; rintro e v2 ⟨rfl, hs2⟩; have S2 : Hid (PS (u1.alloc (.cells #[.slice none 0 0] 62)) u1.heap.size v2 ([] ++ Pl.putI 1 ++ Pl.putI zg)) := hs2; obtain ⟨_, _, ⟨p20, p21, p22, p23, p24, p25, p26, p27, p28⟩, _⟩ := HWR.out u1 v2 B1.out S2.out.below; clear hs2 S1)
        | (have hgo := S0.out; clear hgo; go_at_call 37; refine (S0.out.num (by simp) 1 (by omega) (by omega)).mono ?_; rintro e v1 ⟨rfl, hs1⟩; have S1 : Hid (PS (u1.alloc (.cells #[.slice none 0 0] 62)) u1.heap.size v1 ([] ++ Pl.putI 1)) := hs1; obtain ⟨_, _, ⟨p10, p11, p12, p13, p14, p15, p16, p17, p18⟩, _⟩ := HWR.out u1 v1 B1.out S1.out.below; clear hs1 S0)
        | (go_at_call 38; refine (CZ.out _).mono ?_; rintro e v9 ⟨rfl, hv9⟩; obtain rfl := hv9.symm; clear hv9)
        | (go_at_call 11; rw [HU.out]; refine CG.out.mono ?_; rintro e u1 ⟨rfl, hb1⟩; have B1 : Hid (Below U.heap.size U u1) := hb1; obtain ⟨q0, q1, q2, q3, q4, q5, q6, q7, q8⟩ := FB.out u1 B1.out; have zlt : w.heap.size < u1.heap.size := (by have := B1.out.size; have := HSZ.out; omega); have S0 : Hid (PS (u1.alloc (.cells #[.slice none 0 0] 62)) u1.heap.size (u1.alloc (.cells #[.slice none 0 0] 62)) []) := PS.made u1 62; clear hb1 CG))
      go_returns
      have hfin := HEND.out u1 w9 a9 c9 ZS B1.out (by rw [← HZ.out.2]; exact H9.out.1) H9.out.2 (by rw [HRB.out, HZ.out.1]; unfold tailB; simp [List.append_assoc])
      rw [← HZ.out.2] at hfin
      exact hfin
    · go_enter Try.func12, Try.ntmps12
      go_wp2_with (first
        | (have hgo := S3.out; clear hgo; go_at_call 30; obtain ⟨ZS, hZS⟩ : ∃ ZS, ZS = [] ++ Pl.putI 2 ++ Pl.putI zg ++ stpB t n := ⟨_, rfl⟩; rw [← hZS] at S3; obtain ⟨LN, hLN⟩ : ∃ LN, LN = ZS.length := ⟨_, rfl⟩; have hby := S3.out.bytes; rw [← hLN] at hby; have HZ : Hid (ZS = [] ++ Pl.putI 2 ++ Pl.putI zg ++ stpB t n ∧ LN = ZS.length) := ⟨hZS, hLN⟩; clear hZS hLN; refine Calls.mono hby ?_; rintro e w9 ⟨a9, c9, rfl, k1, k2⟩; have H9 : Hid (w9.ownsRow (u1.heap.size + 1) 5 1 (.slice a9 LN c9) LN (bs ZS) ∧ Below u1.heap.size (u1.alloc (.cells #[.slice none 0 0] 62)) w9) := ⟨k1, k2⟩; clear k1 k2 hby)
        | (have hgo := S2.out; clear hgo; go_at_call 39; refine (S2.out.stamp (by have := Z0.out; simp only [List.length_append, List.length_nil, List.length_singleton]; omega) t n ok2 HMN.out.2).mono ?_; rintro e v3 ⟨rfl, hs3⟩; have S3 : Hid (PS (u1.alloc (.cells #[.slice none 0 0] 62)) u1.heap.size v3 ([] ++ Pl.putI 2 ++ Pl.putI zg ++ stpB t n)) := hs3; obtain ⟨_, _, ⟨p30, p31, p32, p33, p34, p35, p36, p37, p38⟩, _⟩ := HWR.out u1 v3 B1.out S3.out.below; clear hs3 S2)
        | (have hgo := S1.out; clear hgo; go_at_call 37; refine (S1.out.num (by have := Z0.out; simp only [List.length_append, List.length_nil]; omega) zg zb0 zb1).mono ?_; rintro e v2 ⟨rfl, hs2⟩; have S2 : Hid (PS (u1.alloc (.cells #[.slice none 0 0] 62)) u1.heap.size v2 ([] ++ Pl.putI 2 ++ Pl.putI zg)) := hs2; obtain ⟨_, _, ⟨p20, p21, p22, p23, p24, p25, p26, p27, p28⟩, _⟩ := HWR.out u1 v2 B1.out S2.out.below; clear hs2 S1)
        | (have hgo := S0.out; clear hgo; go_at_call 37; refine (S0.out.num (by simp) 2 (by omega) (by omega)).mono ?_; rintro e v1 ⟨rfl, hs1⟩; have S1 : Hid (PS (u1.alloc (.cells #[.slice none 0 0] 62)) u1.heap.size v1 ([] ++ Pl.putI 2)) := hs1; obtain ⟨_, _, ⟨p10, p11, p12, p13, p14, p15, p16, p17, p18⟩, _⟩ := HWR.out u1 v1 B1.out S1.out.below; clear hs1 S0)
        | (go_at_call 38; refine (CZ.out _).mono ?_; rintro e v9 ⟨rfl, hv9⟩; obtain rfl := hv9.symm; clear hv9)
        | (go_at_call 11; rw [HU.out]; refine CG.out.mono ?_; rintro e u1 ⟨rfl, hb1⟩; have B1 : Hid (Below U.heap.size U u1) := hb1; obtain ⟨q0, q1, q2, q3, q4, q5, q6, q7, q8⟩ := FB.out u1 B1.out; have zlt : w.heap.size < u1.heap.size := (by have := B1.out.size; have := HSZ.out; omega); have S0 : Hid (PS (u1.alloc (.cells #[.slice none 0 0] 62)) u1.heap.size (u1.alloc (.cells #[.slice none 0 0] 62)) []) := PS.made u1 62; clear hb1 CG))
      go_returns
      have hfin := HEND.out u1 w9 a9 c9 ZS B1.out (by rw [← HZ.out.2]; exact H9.out.1) H9.out.2 (by rw [HRB.out, HZ.out.1]; unfold tailB; simp [List.append_assoc])
      rw [← HZ.out.2] at hfin
      exact hfin
    · go_enter Try.func12, Try.ntmps12
      go_wp2_with (first
        | (have hgo := S2.out; clear hgo; go_at_call 30; obtain ⟨ZS, hZS⟩ : ∃ ZS, ZS = [] ++ Pl.putI 3 ++ Pl.putI zg := ⟨_, rfl⟩; rw [← hZS] at S2; obtain ⟨LN, hLN⟩ : ∃ LN, LN = ZS.length := ⟨_, rfl⟩; have hby := S2.out.bytes; rw [← hLN] at hby; have HZ : Hid (ZS = [] ++ Pl.putI 3 ++ Pl.putI zg ∧ LN = ZS.length) := ⟨hZS, hLN⟩; clear hZS hLN; refine Calls.mono hby ?_; rintro e w9 ⟨a9, c9, rfl, k1, k2⟩; have H9 : Hid (w9.ownsRow (u1.heap.size + 1) 5 1 (.slice a9 LN c9) LN (bs ZS) ∧ Below u1.heap.size (u1.alloc (.cells #[.slice none 0 0] 62)) w9) := ⟨k1, k2⟩; clear k1 k2 hby)
        | (have hgo := S1.out; clear hgo; go_at_call 37; refine (S1.out.num (by have := Z0.out; simp only [List.length_append, List.length_nil]; omega) zg zb0 zb1).mono ?_; rintro e v2 ⟨rfl, hs2⟩; have S2 : Hid (PS (u1.alloc (.cells #[.slice none 0 0] 62)) u1.heap.size v2 ([] ++ Pl.putI 3 ++ Pl.putI zg)) := hs2; obtain ⟨_, _, ⟨p20, p21, p22, p23, p24, p25, p26, p27, p28⟩, _⟩ := HWR.out u1 v2 B1.out S2.out.below; clear hs2 S1)
        | (have hgo := S0.out; clear hgo; go_at_call 37; refine (S0.out.num (by simp) 3 (by omega) (by omega)).mono ?_; rintro e v1 ⟨rfl, hs1⟩; have S1 : Hid (PS (u1.alloc (.cells #[.slice none 0 0] 62)) u1.heap.size v1 ([] ++ Pl.putI 3)) := hs1; obtain ⟨_, _, ⟨p10, p11, p12, p13, p14, p15, p16, p17, p18⟩, _⟩ := HWR.out u1 v1 B1.out S1.out.below; clear hs1 S0)
        | (go_at_call 38; refine (CZ.out _).mono ?_; rintro e v9 ⟨rfl, hv9⟩; obtain rfl := hv9.symm; clear hv9)
        | (go_at_call 11; rw [HU.out]; refine CG.out.mono ?_; rintro e u1 ⟨rfl, hb1⟩; have B1 : Hid (Below U.heap.size U u1) := hb1; obtain ⟨q0, q1, q2, q3, q4, q5, q6, q7, q8⟩ := FB.out u1 B1.out; have zlt : w.heap.size < u1.heap.size := (by have := B1.out.size; have := HSZ.out; omega); have S0 : Hid (PS (u1.alloc (.cells #[.slice none 0 0] 62)) u1.heap.size (u1.alloc (.cells #[.slice none 0 0] 62)) []) := PS.made u1 62; clear hb1 CG))
      go_returns
      have hfin := HEND.out u1 w9 a9 c9 ZS B1.out (by rw [← HZ.out.2]; exact H9.out.1) H9.out.2 (by rw [HRB.out, HZ.out.1]; unfold tailB; simp [List.append_assoc])
      rw [← HZ.out.2] at hfin
      exact hfin
    · have HP3 : Hid (∀ z ∈ ps, 0 ≤ z ∧ z ≤ 7) := ok3
      clear ok3
      go_enter Try.func12, Try.ntmps12
      go_wp2_with (first
        | (have hgo := S5.out; clear hgo; go_at_call 30; obtain ⟨ZS, hZS⟩ : ∃ ZS, ZS = [] ++ Pl.putI 4 ++ Pl.putI zg ++ [flagB y] ++ stpB t n ++ partsL ps := ⟨_, rfl⟩; rw [← hZS] at S5; obtain ⟨LN, hLN⟩ : ∃ LN, LN = ZS.length := ⟨_, rfl⟩; have hby := S5.out.bytes; rw [← hLN] at hby; have HZ : Hid (ZS = [] ++ Pl.putI 4 ++ Pl.putI zg ++ [flagB y] ++ stpB t n ++ partsL ps ∧ LN = ZS.length) := ⟨hZS, hLN⟩; clear hZS hLN; refine Calls.mono hby ?_; rintro e w9 ⟨a9, c9, rfl, k1, k2⟩; have H9 : Hid (w9.ownsRow (u1.heap.size + 1) 5 1 (.slice a9 LN c9) LN (bs ZS) ∧ Below u1.heap.size (u1.alloc (.cells #[.slice none 0 0] 62)) w9) := ⟨k1, k2⟩; clear k1 k2 hby)
        | (have hgo := S4.out; clear hgo; go_at_call 41; refine (S4.out.parts (by have := Z0.out; simp only [List.length_append, List.length_nil, List.length_singleton]; omega) pa M pc ps HLP.out.1 HLP.out.2 HP3.out (fun u hu => (HWR.out u1 u B1.out hu).2.1)).mono ?_; rintro e v5 ⟨rfl, hs5⟩; have S5 : Hid (PS (u1.alloc (.cells #[.slice none 0 0] 62)) u1.heap.size v5 ([] ++ Pl.putI 4 ++ Pl.putI zg ++ [flagB y] ++ stpB t n ++ partsL ps)) := hs5; obtain ⟨_, _, ⟨p50, p51, p52, p53, p54, p55, p56, p57, p58⟩, _⟩ := HWR.out u1 v5 B1.out S5.out.below; clear hs5 S4)
        | (have hgo := S3.out; clear hgo; go_at_call 39; refine (S3.out.stamp (by have := Z0.out; simp only [List.length_append, List.length_nil, List.length_singleton]; omega) t n ok2 HMN.out.2).mono ?_; rintro e v4 ⟨rfl, hs4⟩; have S4 : Hid (PS (u1.alloc (.cells #[.slice none 0 0] 62)) u1.heap.size v4 ([] ++ Pl.putI 4 ++ Pl.putI zg ++ [flagB y] ++ stpB t n)) := hs4; obtain ⟨_, _, ⟨p40, p41, p42, p43, p44, p45, p46, p47, p48⟩, _⟩ := HWR.out u1 v4 B1.out S4.out.below; clear hs4 S3)
        | (have hgo := S2.out; clear hgo; go_at_call 40; refine (S2.out.flag (by have := Z0.out; simp only [List.length_append, List.length_nil, List.length_singleton]; omega) y).mono ?_; rintro e v3 ⟨rfl, hs3⟩; have S3 : Hid (PS (u1.alloc (.cells #[.slice none 0 0] 62)) u1.heap.size v3 ([] ++ Pl.putI 4 ++ Pl.putI zg ++ [flagB y])) := hs3; obtain ⟨_, _, ⟨p30, p31, p32, p33, p34, p35, p36, p37, p38⟩, _⟩ := HWR.out u1 v3 B1.out S3.out.below; clear hs3 S2)
        | (have hgo := S1.out; clear hgo; go_at_call 37; refine (S1.out.num (by have := Z0.out; simp only [List.length_append, List.length_nil]; omega) zg zb0 zb1).mono ?_; rintro e v2 ⟨rfl, hs2⟩; have S2 : Hid (PS (u1.alloc (.cells #[.slice none 0 0] 62)) u1.heap.size v2 ([] ++ Pl.putI 4 ++ Pl.putI zg)) := hs2; obtain ⟨_, _, ⟨p20, p21, p22, p23, p24, p25, p26, p27, p28⟩, _⟩ := HWR.out u1 v2 B1.out S2.out.below; clear hs2 S1)
        | (have hgo := S0.out; clear hgo; go_at_call 37; refine (S0.out.num (by simp) 4 (by omega) (by omega)).mono ?_; rintro e v1 ⟨rfl, hs1⟩; have S1 : Hid (PS (u1.alloc (.cells #[.slice none 0 0] 62)) u1.heap.size v1 ([] ++ Pl.putI 4)) := hs1; obtain ⟨_, _, ⟨p10, p11, p12, p13, p14, p15, p16, p17, p18⟩, _⟩ := HWR.out u1 v1 B1.out S1.out.below; clear hs1 S0)
        | (go_at_call 38; refine (CZ.out _).mono ?_; rintro e v9 ⟨rfl, hv9⟩; obtain rfl := hv9.symm; clear hv9)
        | (go_at_call 11; rw [HU.out]; refine CG.out.mono ?_; rintro e u1 ⟨rfl, hb1⟩; have B1 : Hid (Below U.heap.size U u1) := hb1; obtain ⟨q0, q1, q2, q3, q4, q5, q6, q7, q8⟩ := FB.out u1 B1.out; have zlt : w.heap.size < u1.heap.size := (by have := B1.out.size; have := HSZ.out; omega); have S0 : Hid (PS (u1.alloc (.cells #[.slice none 0 0] 62)) u1.heap.size (u1.alloc (.cells #[.slice none 0 0] 62)) []) := PS.made u1 62; clear hb1 CG))
      go_returns
      have hfin := HEND.out u1 w9 a9 c9 ZS B1.out (by rw [← HZ.out.2]; exact H9.out.1) H9.out.2 (by rw [HRB.out, HZ.out.1]; unfold tailB; simp [List.append_assoc])
      rw [← HZ.out.2] at hfin
      exact hfin
    · go_enter Try.func12, Try.ntmps12
      go_wp2_with (first
        | (have hgo := S3.out; clear hgo; go_at_call 30; obtain ⟨ZS, hZS⟩ : ∃ ZS, ZS = [] ++ Pl.putI 5 ++ Pl.putI zg ++ stpB t n := ⟨_, rfl⟩; rw [← hZS] at S3; obtain ⟨LN, hLN⟩ : ∃ LN, LN = ZS.length := ⟨_, rfl⟩; have hby := S3.out.bytes; rw [← hLN] at hby; have HZ : Hid (ZS = [] ++ Pl.putI 5 ++ Pl.putI zg ++ stpB t n ∧ LN = ZS.length) := ⟨hZS, hLN⟩; clear hZS hLN; refine Calls.mono hby ?_; rintro e w9 ⟨a9, c9, rfl, k1, k2⟩; have H9 : Hid (w9.ownsRow (u1.heap.size + 1) 5 1 (.slice a9 LN c9) LN (bs ZS) ∧ Below u1.heap.size (u1.alloc (.cells #[.slice none 0 0] 62)) w9) := ⟨k1, k2⟩; clear k1 k2 hby)
        | (have hgo := S2.out; clear hgo; go_at_call 39; refine (S2.out.stamp (by have := Z0.out; simp only [List.length_append, List.length_nil, List.length_singleton]; omega) t n ok2 HMN.out.2).mono ?_; rintro e v3 ⟨rfl, hs3⟩; have S3 : Hid (PS (u1.alloc (.cells #[.slice none 0 0] 62)) u1.heap.size v3 ([] ++ Pl.putI 5 ++ Pl.putI zg ++ stpB t n)) := hs3; obtain ⟨_, _, ⟨p30, p31, p32, p33, p34, p35, p36, p37, p38⟩, _⟩ := HWR.out u1 v3 B1.out S3.out.below; clear hs3 S2)
        | (have hgo := S1.out; clear hgo; go_at_call 37; refine (S1.out.num (by have := Z0.out; simp only [List.length_append, List.length_nil]; omega) zg zb0 zb1).mono ?_; rintro e v2 ⟨rfl, hs2⟩; have S2 : Hid (PS (u1.alloc (.cells #[.slice none 0 0] 62)) u1.heap.size v2 ([] ++ Pl.putI 5 ++ Pl.putI zg)) := hs2; obtain ⟨_, _, ⟨p20, p21, p22, p23, p24, p25, p26, p27, p28⟩, _⟩ := HWR.out u1 v2 B1.out S2.out.below; clear hs2 S1)
        | (have hgo := S0.out; clear hgo; go_at_call 37; refine (S0.out.num (by simp) 5 (by omega) (by omega)).mono ?_; rintro e v1 ⟨rfl, hs1⟩; have S1 : Hid (PS (u1.alloc (.cells #[.slice none 0 0] 62)) u1.heap.size v1 ([] ++ Pl.putI 5)) := hs1; obtain ⟨_, _, ⟨p10, p11, p12, p13, p14, p15, p16, p17, p18⟩, _⟩ := HWR.out u1 v1 B1.out S1.out.below; clear hs1 S0)
        | (go_at_call 38; refine (CZ.out _).mono ?_; rintro e v9 ⟨rfl, hv9⟩; obtain rfl := hv9.symm; clear hv9)
        | (go_at_call 11; rw [HU.out]; refine CG.out.mono ?_; rintro e u1 ⟨rfl, hb1⟩; have B1 : Hid (Below U.heap.size U u1) := hb1; obtain ⟨q0, q1, q2, q3, q4, q5, q6, q7, q8⟩ := FB.out u1 B1.out; have zlt : w.heap.size < u1.heap.size := (by have := B1.out.size; have := HSZ.out; omega); have S0 : Hid (PS (u1.alloc (.cells #[.slice none 0 0] 62)) u1.heap.size (u1.alloc (.cells #[.slice none 0 0] 62)) []) := PS.made u1 62; clear hb1 CG))
      go_returns
      have hfin := HEND.out u1 w9 a9 c9 ZS B1.out (by rw [← HZ.out.2]; exact H9.out.1) H9.out.2 (by rw [HRB.out, HZ.out.1]; unfold tailB; simp [List.append_assoc])
      rw [← HZ.out.2] at hfin
      exact hfin
end Go.Proofs.Ytmiafadmcpmjgaa

