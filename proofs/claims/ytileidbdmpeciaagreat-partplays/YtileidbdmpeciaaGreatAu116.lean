/-
  The landed rec: Good.
  What the landed parts answer and leave: Play, Prepared (package part).
  A landed part of the call's own: Play, Trim, Prepared.
  Lists of versions cut in two; one version as a list.
-/
import Derived.Test.YtileidbdmpeciaaGreatAu73
import Derived.Test.YtileidbdmpeciaaGreatAu102
import Derived.Test.YtileidbdmpeciaaGreatPaC4
import Derived.Test.YtileidbdmpeciaaGreatAu95
import Derived.Test.YtileidbdmpeciaaGreatAu106
import Derived.Test.YtileidbdmpeciaaGreatAu96
import Derived.Deep.Slices
namespace Go.Proofs.YtileidbdmpeciaaGreat
open Go.RowKit
set_option linter.unusedVariables false

open Classical in
set_option maxHeartbeats 8000000 in
set_option maxRecDepth 8000 in
theorem lgood_any (x : RcM) (w : World) (h : RcW w x) :
    Calls Tryz.prog 58 #[rcv x] w fun e w' => e = .returned (.bool (goodR x.r)) ∧ Below w.heap.size w w' := by
  have hgo := good_only x
  have CO : Hid (∀ u, Calls Tryz.prog 109 #[rcv x] u fun e w' => e = .returned (rcv (onlyM x)) ∧ Below u.heap.size u w') := fun u => lonly_any x u
  have CS : Hid (∀ u, Below w.heap.size w u → Calls Tryz.prog 108 #[rcv x, rcv (onlyM x)] u fun e w' => e = .returned (.bool (decide (x.r = (onlyM x).r))) ∧ Below u.heap.size u w') := fun u hu => lsame_any x (onlyM x) u (h.past hu) (h.past hu).only
  obtain ⟨Y, hY⟩ : ∃ Y, Y = rcv (onlyM x) := ⟨_, rfl⟩
  rw [← hY] at CO CS
  obtain ⟨R1, hR1⟩ : ∃ R, R = decide (x.r = (onlyM x).r) := ⟨_, rfl⟩
  rw [← hR1] at CS hgo
  clear hY hR1
  obtain ⟨⟨kd, id, s, m, t, n, l, y, ps⟩, a, c, pa, pc⟩ := x
  obtain ⟨hwr, hrm, hfw, hps, hpr, hpf, hkd, hok⟩ := h
  simp only at hwr hrm hfw hps hpr hpf hkd hgo
  obtain ⟨N, hN⟩ : ∃ N, l.length = N := ⟨_, rfl⟩
  obtain ⟨M, hM⟩ : ∃ N, ps.length = N := ⟨_, rfl⟩
  unfold rcv encR at CO CS ⊢
  simp only at CO CS ⊢
  simp only [hN, hM] at CO CS hrm hfw hpr hpf ⊢
  obtain ⟨U, hU⟩ : ∃ U, U = w.alloc (.cells #[.int .i64 kd, .int .i64 id, .int .i64 s, .int .u8 m, .int .i64 t, .int .u8 n, .slice a N c, .bool y, .slice pa M pc] 47) := ⟨_, rfl⟩
  have HU : Hid (w.alloc (.cells #[.int .i64 kd, .int .i64 id, .int .i64 s, .int .u8 m, .int .i64 t, .int .u8 n, .slice a N c, .bool y, .slice pa M pc] 47) = U) := hU.symm
  have HB : Hid (Below w.heap.size w U) := by rw [hU]; exact (Below.refl _ _).alloc (Nat.le_refl _) _
  have hbx : RBox U w.heap.size kd id s m t n a N c y pa M pc := by
    rw [hU]; exact RBox.made w 47 kd id s m t n a N c y pa M pc
  have FB : Hid (∀ u, Below U.heap.size U u → RBox u w.heap.size kd id s m t n a N c y pa M pc) := fun u hb => hbx.past hb
  have CS : Hid (∀ u, Below U.heap.size U u → Calls Tryz.prog 108 #[.agg #[.int .i64 kd, .int .i64 id, .int .i64 s, .int .u8 m, .int .i64 t, .int .u8 n, .slice a N c, .bool y, .slice pa M pc], Y] u fun e w' => e = .returned (.bool R1) ∧ Below u.heap.size u w') := fun u hu => CS.out u (HB.out.trans (hu.mono HB.out.size))
  obtain ⟨g1, hg1⟩ : ∃ x, x = decide (okS s) := ⟨_, rfl⟩
  obtain ⟨g2, hg2⟩ : ∃ x, x = decide (okS t) := ⟨_, rfl⟩
  have CG1 : Hid (∀ u, Calls Tryz.prog 47 #[.agg #[.int .i64 s, .int .u8 m]] u fun e w' => e = .returned (.bool g1) ∧ Below u.heap.size u w') := fun u => by rw [hg1]; have := sgood_any s m u; rwa [show (decide (okS s) : Bool) = @decide (okS s) _ from by congr] at this
  have CG2 : Hid (∀ u, Calls Tryz.prog 47 #[.agg #[.int .i64 t, .int .u8 n]] u fun e w' => e = .returned (.bool g2) ∧ Below u.heap.size u w') := fun u => by rw [hg2]; have := sgood_any t n u; rwa [show (decide (okS t) : Bool) = @decide (okS t) _ from by congr] at this
  rw [← hg1, ← hg2] at hgo
  have CC : Hid (∀ u, Calls Tryz.prog 49 #[.agg #[.int .i64 t, .int .u8 n], .agg #[.int .i64 s, .int .u8 m]] u fun e w' => e = .returned (.int .i64 (cmpS t n s m)) ∧ Below u.heap.size u w') := fun u => scmp_any t n s m u
  have CW : Hid (∀ u, Below U.heap.size U u → Calls Tryz.prog 82 #[.slice a N c] u fun e w' => e = .returned (.bool (mayW l 1)) ∧ Below u.heap.size u w') := fun u hu => sgoods_any a N c l u hN hrm (by omega) ((hwr.past HB.out).past hu)
  have CP : Hid (∀ u, Below U.heap.size U u → Calls Tryz.prog 110 #[.slice pa M pc] u fun e w' => e = .returned (.bool (partsB ps)) ∧ w' = u) := fun u hu => lgoodps_any pa M pc ps u hM (by omega) ((hps.past HB.out).past hu)
  obtain ⟨xc, hxc⟩ : ∃ x, x = cmpS t n s m := ⟨_, rfl⟩
  obtain ⟨mw, hmw⟩ : ∃ x, x = mayW l 1 := ⟨_, rfl⟩
  obtain ⟨pb, hpb⟩ : ∃ x, x = partsB ps := ⟨_, rfl⟩
  have hk : kindR ⟨kd, id, s, m, t, n, l, y, ps⟩ = (if kd = 1 then decide (1 ≤ id) && decide (0 < xc) && mw else if kd = 2 then decide (1 ≤ id) else if kd = 3 then decide (1 ≤ id) else if kd = 4 then decide (1 ≤ id) && pb else decide (kd = 5)) := by rw [hxc, hmw, hpb]; rfl
  rw [← hxc] at CC
  rw [← hmw] at CW
  rw [← hpb] at CP
  rw [hk] at hgo
  obtain ⟨R, hR⟩ : ∃ R, R = goodR ⟨kd, id, s, m, t, n, l, y, ps⟩ := ⟨_, rfl⟩
  rw [← hR] at hgo ⊢
  have HR : Hid _ := hgo
  clear hwr hrm hfw hps hpr hpf hkd hok hN hM hU hbx hg1 hg2 hxc hmw hpb hR hk hgo
  cases R1 with
  | false =>
    have E : Hid (R = false) := by rw [HR.out]; simp [Hid]
    clear HR
    go_enter Tryz.func58, Tryz.ntmps58
    go_wp2
    rw [HU.out]
    refine wp_region_noPanic ?_
    refine wp_region_held_drew (S := fun u => Below U.heap.size U u) (by kernel_rfl) ?_ (fun hHeld => ?_)
    · exact (Below.refl _ _).drew
    refine wpAnyH_take (i := 0) (v := ?_) rfl (by kernel_rfl) (by kernel_rfl) (by kernel_rfl) (fun _ _ _ h => h) (Or.inl ⟨by rfl, ?_⟩) hHeld ?_
    rotate_left
    · intro u hSu
      obtain ⟨y0, y1, y2, y3, y4, y5, y6, y7, y8⟩ := FB.out u hSu
      (go_simp) <;> (with_reducible rfl)
    change wpAnyH _ _ _ _ _ _ _ (Act.put _ (some 3) _) _
    simp only [Act.put, List.setIfInBounds_toArray, List.set_cons_zero, List.set_cons_succ]
    refine wpAnyH_take (i := 1) (v := ?_) rfl (by kernel_rfl) (by kernel_rfl) (by kernel_rfl) (fun _ _ _ h => h) (Or.inl ⟨by rfl, ?_⟩) hHeld ?_
    rotate_left
    · intro u hSu
      obtain ⟨y0, y1, y2, y3, y4, y5, y6, y7, y8⟩ := FB.out u hSu
      (go_simp) <;> (with_reducible rfl)
    change wpAnyH _ _ _ _ _ _ _ (Act.put _ (some 4) _) _
    simp only [Act.put, List.setIfInBounds_toArray, List.set_cons_zero, List.set_cons_succ]
    refine wpAnyH_ready (rs := [2]) (by kernel_rfl) (by simp) ?_
    refine AllReadyH.cons rfl (fun K hK => ?_) AllReadyH.nil
    go_simp
    go_at_call 109
    refine (CO.out _).mono ?_
    rintro e u1 ⟨rfl, hb1⟩
    have B1 : Hid (Below U.heap.size U u1) := hHeld.trans (hb1.mono hHeld.size); clear hb1
    refine hK.out _ _ ?_ (fun hHeld2 => ?_)
    · exact B1.out
    clear hK K hHeld
    have hHeld := hHeld2
    clear hHeld2
    refine wpAnyH_ready (rs := [3]) (by kernel_rfl) (by simp) ?_
    refine AllReadyH.cons rfl (fun K hK => ?_) AllReadyH.nil
    go_simp
    go_at_call 108
    refine (CS.out _ B1.out).mono ?_
    rintro e u2 ⟨rfl, hb2⟩
    have B2 : Hid (Below U.heap.size U u2) := B1.out.trans (hb2.mono B1.out.size); clear hb2
    refine hK.out _ _ ?_ (fun hHeld2 => ?_)
    · exact B2.out
    clear hK K hHeld
    have hHeld := hHeld2
    clear hHeld2
    refine wpAnyH_take (i := 4) (v := ?_) rfl (by kernel_rfl) (by kernel_rfl) (by kernel_rfl) (fun _ _ _ h => h) (Or.inl ⟨by rfl, ?_⟩) hHeld ?_
    rotate_left
    · intro u hSu
      (go_simp) <;> (with_reducible rfl)
    change wpAnyH _ _ _ _ _ _ _ (Act.put _ (some 7) _) _
    simp only [Act.put, List.setIfInBounds_toArray, List.set_cons_zero, List.set_cons_succ]
    refine wpAnyH_take (i := 5) (v := ?_) rfl (by kernel_rfl) (by kernel_rfl) (by kernel_rfl) (fun _ _ _ h => h) (Or.inl ⟨by rfl, ?_⟩) hHeld ?_
    rotate_left
    · intro u hSu
      (go_simp) <;> (with_reducible rfl)
    change wpAnyH _ _ _ _ _ _ _ (Act.put _ (some 8) _) _
    simp only [Act.put, List.setIfInBounds_toArray, List.set_cons_zero, List.set_cons_succ]
    refine wpAnyH_take (i := 6) (v := undef) rfl (by kernel_rfl) (by kernel_rfl) (by kernel_rfl) (fun _ _ _ h => h) (Or.inr ⟨by rfl, rfl⟩) hHeld ?_
    change wpAnyH _ _ _ _ _ _ _ (Act.put _ (some 9) _) _
    simp only [Act.put, List.setIfInBounds_toArray, List.set_cons_zero, List.set_cons_succ]
    refine wpAnyH_take (i := 7) (v := undef) rfl (by kernel_rfl) (by kernel_rfl) (by kernel_rfl) (fun _ _ _ h => h) (Or.inr ⟨by rfl, rfl⟩) hHeld ?_
    change wpAnyH _ _ _ _ _ _ _ (Act.put _ (some 10) _) _
    simp only [Act.put, List.setIfInBounds_toArray, List.set_cons_zero, List.set_cons_succ]
    refine wpAnyH_take (i := 8) (v := undef) rfl (by kernel_rfl) (by kernel_rfl) (by kernel_rfl) (fun _ _ _ h => h) (Or.inr ⟨by rfl, rfl⟩) hHeld ?_
    change wpAnyH _ _ _ _ _ _ _ (Act.put _ (some 11) _) _
    simp only [Act.put, List.setIfInBounds_toArray, List.set_cons_zero, List.set_cons_succ]
    refine wpAnyH_take (i := 9) (v := undef) rfl (by kernel_rfl) (by kernel_rfl) (by kernel_rfl) (fun _ _ _ h => h) (Or.inr ⟨by rfl, rfl⟩) hHeld ?_
    change wpAnyH _ _ _ _ _ _ _ (Act.put _ (some 12) _) _
    simp only [Act.put, List.setIfInBounds_toArray, List.set_cons_zero, List.set_cons_succ]
    refine wpAnyH_take (i := 10) (v := ?_) rfl (by kernel_rfl) (by kernel_rfl) (by kernel_rfl) (fun _ _ _ h => h) (Or.inl ⟨by rfl, ?_⟩) hHeld ?_
    rotate_left
    · intro u hSu
      (go_simp) <;> (with_reducible rfl)
    change wpAnyH _ _ _ _ _ _ _ (Act.put _ (some 13) _) _
    simp only [Act.put, List.setIfInBounds_toArray, List.set_cons_zero, List.set_cons_succ]
    refine wpAnyH_take (i := 11) (v := ?_) rfl (by kernel_rfl) (by kernel_rfl) (by kernel_rfl) (fun _ _ _ h => h) (Or.inl ⟨by rfl, ?_⟩) hHeld ?_
    rotate_left
    · intro u hSu
      (go_simp) <;> (with_reducible rfl)
    change wpAnyH _ _ _ _ _ _ _ (Act.put _ (some 14) _) _
    simp only [Act.put, List.setIfInBounds_toArray, List.set_cons_zero, List.set_cons_succ]
    refine wpAnyH_take (i := 12) (v := undef) rfl (by kernel_rfl) (by kernel_rfl) (by kernel_rfl) (fun _ _ _ h => h) (Or.inr ⟨by rfl, rfl⟩) hHeld ?_
    change wpAnyH _ _ _ _ _ _ _ (Act.put _ (some 15) _) _
    simp only [Act.put, List.setIfInBounds_toArray, List.set_cons_zero, List.set_cons_succ]
    refine wpAnyH_take (i := 13) (v := undef) rfl (by kernel_rfl) (by kernel_rfl) (by kernel_rfl) (fun _ _ _ h => h) (Or.inr ⟨by rfl, rfl⟩) hHeld ?_
    change wpAnyH _ _ _ _ _ _ _ (Act.put _ (some 16) _) _
    simp only [Act.put, List.setIfInBounds_toArray, List.set_cons_zero, List.set_cons_succ]
    refine wpAnyH_take (i := 14) (v := undef) rfl (by kernel_rfl) (by kernel_rfl) (by kernel_rfl) (fun _ _ _ h => h) (Or.inr ⟨by rfl, rfl⟩) hHeld ?_
    change wpAnyH _ _ _ _ _ _ _ (Act.put _ (some 17) _) _
    simp only [Act.put, List.setIfInBounds_toArray, List.set_cons_zero, List.set_cons_succ]
    refine wpAnyH_take (i := 15) (v := undef) rfl (by kernel_rfl) (by kernel_rfl) (by kernel_rfl) (fun _ _ _ h => h) (Or.inr ⟨by rfl, rfl⟩) hHeld ?_
    change wpAnyH _ _ _ _ _ _ _ (Act.put _ (some 18) _) _
    simp only [Act.put, List.setIfInBounds_toArray, List.set_cons_zero, List.set_cons_succ]
    refine wpAnyH_take (i := 16) (v := ?_) rfl (by kernel_rfl) (by kernel_rfl) (by kernel_rfl) (fun _ _ _ h => h) (Or.inl ⟨by rfl, ?_⟩) hHeld ?_
    rotate_left
    · intro u hSu
      (go_simp) <;> (with_reducible rfl)
    change wpAnyH _ _ _ _ _ _ _ (Act.put _ (some 19) _) _
    simp only [Act.put, List.setIfInBounds_toArray, List.set_cons_zero, List.set_cons_succ]
    refine wpAnyH_done (by kernel_rfl) ?_ _
    refine NoPanic.normal ?_
    go_wp2
    go_ret
    exact ⟨by rw [E.out]; rfl, HB.out.trans (B2.out.mono HB.out.size)⟩
  | true =>
    cases g1 with
    | false =>
      have E : Hid (R = false) := by rw [HR.out]; simp [Hid]
      clear HR
      go_enter Tryz.func58, Tryz.ntmps58
      go_wp2
      rw [HU.out]
      refine wp_region_noPanic ?_
      refine wp_region_held_drew (S := fun u => Below U.heap.size U u) (by kernel_rfl) ?_ (fun hHeld => ?_)
      · exact (Below.refl _ _).drew
      refine wpAnyH_take (i := 0) (v := ?_) rfl (by kernel_rfl) (by kernel_rfl) (by kernel_rfl) (fun _ _ _ h => h) (Or.inl ⟨by rfl, ?_⟩) hHeld ?_
      rotate_left
      · intro u hSu
        obtain ⟨y0, y1, y2, y3, y4, y5, y6, y7, y8⟩ := FB.out u hSu
        (go_simp) <;> (with_reducible rfl)
      change wpAnyH _ _ _ _ _ _ _ (Act.put _ (some 3) _) _
      simp only [Act.put, List.setIfInBounds_toArray, List.set_cons_zero, List.set_cons_succ]
      refine wpAnyH_take (i := 1) (v := ?_) rfl (by kernel_rfl) (by kernel_rfl) (by kernel_rfl) (fun _ _ _ h => h) (Or.inl ⟨by rfl, ?_⟩) hHeld ?_
      rotate_left
      · intro u hSu
        obtain ⟨y0, y1, y2, y3, y4, y5, y6, y7, y8⟩ := FB.out u hSu
        (go_simp) <;> (with_reducible rfl)
      change wpAnyH _ _ _ _ _ _ _ (Act.put _ (some 4) _) _
      simp only [Act.put, List.setIfInBounds_toArray, List.set_cons_zero, List.set_cons_succ]
      refine wpAnyH_ready (rs := [2]) (by kernel_rfl) (by simp) ?_
      refine AllReadyH.cons rfl (fun K hK => ?_) AllReadyH.nil
      go_simp
      go_at_call 109
      refine (CO.out _).mono ?_
      rintro e u1 ⟨rfl, hb1⟩
      have B1 : Hid (Below U.heap.size U u1) := hHeld.trans (hb1.mono hHeld.size); clear hb1
      refine hK.out _ _ ?_ (fun hHeld2 => ?_)
      · exact B1.out
      clear hK K hHeld
      have hHeld := hHeld2
      clear hHeld2
      refine wpAnyH_ready (rs := [3]) (by kernel_rfl) (by simp) ?_
      refine AllReadyH.cons rfl (fun K hK => ?_) AllReadyH.nil
      go_simp
      go_at_call 108
      refine (CS.out _ B1.out).mono ?_
      rintro e u2 ⟨rfl, hb2⟩
      have B2 : Hid (Below U.heap.size U u2) := B1.out.trans (hb2.mono B1.out.size); clear hb2
      refine hK.out _ _ ?_ (fun hHeld2 => ?_)
      · exact B2.out
      clear hK K hHeld
      have hHeld := hHeld2
      clear hHeld2
      refine wpAnyH_take (i := 4) (v := ?_) rfl (by kernel_rfl) (by kernel_rfl) (by kernel_rfl) (fun _ _ _ h => h) (Or.inl ⟨by rfl, ?_⟩) hHeld ?_
      rotate_left
      · intro u hSu
        (go_simp) <;> (with_reducible rfl)
      change wpAnyH _ _ _ _ _ _ _ (Act.put _ (some 7) _) _
      simp only [Act.put, List.setIfInBounds_toArray, List.set_cons_zero, List.set_cons_succ]
      refine wpAnyH_take (i := 5) (v := ?_) rfl (by kernel_rfl) (by kernel_rfl) (by kernel_rfl) (fun _ _ _ h => h) (Or.inl ⟨by rfl, ?_⟩) hHeld ?_
      rotate_left
      · intro u hSu
        (go_simp) <;> (with_reducible rfl)
      change wpAnyH _ _ _ _ _ _ _ (Act.put _ (some 8) _) _
      simp only [Act.put, List.setIfInBounds_toArray, List.set_cons_zero, List.set_cons_succ]
      refine wpAnyH_take (i := 6) (v := ?_) rfl (by kernel_rfl) (by kernel_rfl) (by kernel_rfl) (fun _ _ _ h => h) (Or.inl ⟨by rfl, ?_⟩) hHeld ?_
      rotate_left
      · intro u hSu
        (go_simp) <;> (with_reducible rfl)
      change wpAnyH _ _ _ _ _ _ _ (Act.put _ (some 9) _) _
      simp only [Act.put, List.setIfInBounds_toArray, List.set_cons_zero, List.set_cons_succ]
      refine wpAnyH_take (i := 7) (v := ?_) rfl (by kernel_rfl) (by kernel_rfl) (by kernel_rfl) (fun _ _ _ h => h) (Or.inl ⟨by rfl, ?_⟩) hHeld ?_
      rotate_left
      · intro u hSu
        obtain ⟨y0, y1, y2, y3, y4, y5, y6, y7, y8⟩ := FB.out u hSu
        (go_simp) <;> (with_reducible rfl)
      change wpAnyH _ _ _ _ _ _ _ (Act.put _ (some 10) _) _
      simp only [Act.put, List.setIfInBounds_toArray, List.set_cons_zero, List.set_cons_succ]
      refine wpAnyH_ready (rs := [8]) (by kernel_rfl) (by simp) ?_
      refine AllReadyH.cons rfl (fun K hK => ?_) AllReadyH.nil
      go_simp
      go_at_call 47
      refine (CG1.out _).mono ?_
      rintro e u3 ⟨rfl, hb3⟩
      have B3 : Hid (Below U.heap.size U u3) := B2.out.trans (hb3.mono B2.out.size); clear hb3
      refine hK.out _ _ ?_ (fun hHeld2 => ?_)
      · exact B3.out
      clear hK K hHeld
      have hHeld := hHeld2
      clear hHeld2
      refine wpAnyH_take (i := 9) (v := ?_) rfl (by kernel_rfl) (by kernel_rfl) (by kernel_rfl) (fun _ _ _ h => h) (Or.inl ⟨by rfl, ?_⟩) hHeld ?_
      rotate_left
      · intro u hSu
        (go_simp) <;> (with_reducible rfl)
      change wpAnyH _ _ _ _ _ _ _ (Act.put _ (some 12) _) _
      simp only [Act.put, List.setIfInBounds_toArray, List.set_cons_zero, List.set_cons_succ]
      refine wpAnyH_take (i := 10) (v := ?_) rfl (by kernel_rfl) (by kernel_rfl) (by kernel_rfl) (fun _ _ _ h => h) (Or.inl ⟨by rfl, ?_⟩) hHeld ?_
      rotate_left
      · intro u hSu
        (go_simp) <;> (with_reducible rfl)
      change wpAnyH _ _ _ _ _ _ _ (Act.put _ (some 13) _) _
      simp only [Act.put, List.setIfInBounds_toArray, List.set_cons_zero, List.set_cons_succ]
      refine wpAnyH_take (i := 11) (v := ?_) rfl (by kernel_rfl) (by kernel_rfl) (by kernel_rfl) (fun _ _ _ h => h) (Or.inl ⟨by rfl, ?_⟩) hHeld ?_
      rotate_left
      · intro u hSu
        (go_simp) <;> (with_reducible rfl)
      change wpAnyH _ _ _ _ _ _ _ (Act.put _ (some 14) _) _
      simp only [Act.put, List.setIfInBounds_toArray, List.set_cons_zero, List.set_cons_succ]
      refine wpAnyH_take (i := 12) (v := undef) rfl (by kernel_rfl) (by kernel_rfl) (by kernel_rfl) (fun _ _ _ h => h) (Or.inr ⟨by rfl, rfl⟩) hHeld ?_
      change wpAnyH _ _ _ _ _ _ _ (Act.put _ (some 15) _) _
      simp only [Act.put, List.setIfInBounds_toArray, List.set_cons_zero, List.set_cons_succ]
      refine wpAnyH_take (i := 13) (v := undef) rfl (by kernel_rfl) (by kernel_rfl) (by kernel_rfl) (fun _ _ _ h => h) (Or.inr ⟨by rfl, rfl⟩) hHeld ?_
      change wpAnyH _ _ _ _ _ _ _ (Act.put _ (some 16) _) _
      simp only [Act.put, List.setIfInBounds_toArray, List.set_cons_zero, List.set_cons_succ]
      refine wpAnyH_take (i := 14) (v := undef) rfl (by kernel_rfl) (by kernel_rfl) (by kernel_rfl) (fun _ _ _ h => h) (Or.inr ⟨by rfl, rfl⟩) hHeld ?_
      change wpAnyH _ _ _ _ _ _ _ (Act.put _ (some 17) _) _
      simp only [Act.put, List.setIfInBounds_toArray, List.set_cons_zero, List.set_cons_succ]
      refine wpAnyH_take (i := 15) (v := undef) rfl (by kernel_rfl) (by kernel_rfl) (by kernel_rfl) (fun _ _ _ h => h) (Or.inr ⟨by rfl, rfl⟩) hHeld ?_
      change wpAnyH _ _ _ _ _ _ _ (Act.put _ (some 18) _) _
      simp only [Act.put, List.setIfInBounds_toArray, List.set_cons_zero, List.set_cons_succ]
      refine wpAnyH_take (i := 16) (v := ?_) rfl (by kernel_rfl) (by kernel_rfl) (by kernel_rfl) (fun _ _ _ h => h) (Or.inl ⟨by rfl, ?_⟩) hHeld ?_
      rotate_left
      · intro u hSu
        (go_simp) <;> (with_reducible rfl)
      change wpAnyH _ _ _ _ _ _ _ (Act.put _ (some 19) _) _
      simp only [Act.put, List.setIfInBounds_toArray, List.set_cons_zero, List.set_cons_succ]
      refine wpAnyH_done (by kernel_rfl) ?_ _
      refine NoPanic.normal ?_
      go_wp2
      go_ret
      exact ⟨by rw [E.out]; rfl, HB.out.trans (B3.out.mono HB.out.size)⟩
    | true =>
      cases g2 with
      | false =>
        have E : Hid (R = false) := by rw [HR.out]; simp [Hid]
        clear HR
        go_enter Tryz.func58, Tryz.ntmps58
        go_wp2
        rw [HU.out]
        refine wp_region_noPanic ?_
        refine wp_region_held_drew (S := fun u => Below U.heap.size U u) (by kernel_rfl) ?_ (fun hHeld => ?_)
        · exact (Below.refl _ _).drew
        refine wpAnyH_take (i := 0) (v := ?_) rfl (by kernel_rfl) (by kernel_rfl) (by kernel_rfl) (fun _ _ _ h => h) (Or.inl ⟨by rfl, ?_⟩) hHeld ?_
        rotate_left
        · intro u hSu
          obtain ⟨y0, y1, y2, y3, y4, y5, y6, y7, y8⟩ := FB.out u hSu
          (go_simp) <;> (with_reducible rfl)
        change wpAnyH _ _ _ _ _ _ _ (Act.put _ (some 3) _) _
        simp only [Act.put, List.setIfInBounds_toArray, List.set_cons_zero, List.set_cons_succ]
        refine wpAnyH_take (i := 1) (v := ?_) rfl (by kernel_rfl) (by kernel_rfl) (by kernel_rfl) (fun _ _ _ h => h) (Or.inl ⟨by rfl, ?_⟩) hHeld ?_
        rotate_left
        · intro u hSu
          obtain ⟨y0, y1, y2, y3, y4, y5, y6, y7, y8⟩ := FB.out u hSu
          (go_simp) <;> (with_reducible rfl)
        change wpAnyH _ _ _ _ _ _ _ (Act.put _ (some 4) _) _
        simp only [Act.put, List.setIfInBounds_toArray, List.set_cons_zero, List.set_cons_succ]
        refine wpAnyH_ready (rs := [2]) (by kernel_rfl) (by simp) ?_
        refine AllReadyH.cons rfl (fun K hK => ?_) AllReadyH.nil
        go_simp
        go_at_call 109
        refine (CO.out _).mono ?_
        rintro e u1 ⟨rfl, hb1⟩
        have B1 : Hid (Below U.heap.size U u1) := hHeld.trans (hb1.mono hHeld.size); clear hb1
        refine hK.out _ _ ?_ (fun hHeld2 => ?_)
        · exact B1.out
        clear hK K hHeld
        have hHeld := hHeld2
        clear hHeld2
        refine wpAnyH_ready (rs := [3]) (by kernel_rfl) (by simp) ?_
        refine AllReadyH.cons rfl (fun K hK => ?_) AllReadyH.nil
        go_simp
        go_at_call 108
        refine (CS.out _ B1.out).mono ?_
        rintro e u2 ⟨rfl, hb2⟩
        have B2 : Hid (Below U.heap.size U u2) := B1.out.trans (hb2.mono B1.out.size); clear hb2
        refine hK.out _ _ ?_ (fun hHeld2 => ?_)
        · exact B2.out
        clear hK K hHeld
        have hHeld := hHeld2
        clear hHeld2
        refine wpAnyH_take (i := 4) (v := ?_) rfl (by kernel_rfl) (by kernel_rfl) (by kernel_rfl) (fun _ _ _ h => h) (Or.inl ⟨by rfl, ?_⟩) hHeld ?_
        rotate_left
        · intro u hSu
          (go_simp) <;> (with_reducible rfl)
        change wpAnyH _ _ _ _ _ _ _ (Act.put _ (some 7) _) _
        simp only [Act.put, List.setIfInBounds_toArray, List.set_cons_zero, List.set_cons_succ]
        refine wpAnyH_take (i := 5) (v := ?_) rfl (by kernel_rfl) (by kernel_rfl) (by kernel_rfl) (fun _ _ _ h => h) (Or.inl ⟨by rfl, ?_⟩) hHeld ?_
        rotate_left
        · intro u hSu
          (go_simp) <;> (with_reducible rfl)
        change wpAnyH _ _ _ _ _ _ _ (Act.put _ (some 8) _) _
        simp only [Act.put, List.setIfInBounds_toArray, List.set_cons_zero, List.set_cons_succ]
        refine wpAnyH_take (i := 6) (v := ?_) rfl (by kernel_rfl) (by kernel_rfl) (by kernel_rfl) (fun _ _ _ h => h) (Or.inl ⟨by rfl, ?_⟩) hHeld ?_
        rotate_left
        · intro u hSu
          (go_simp) <;> (with_reducible rfl)
        change wpAnyH _ _ _ _ _ _ _ (Act.put _ (some 9) _) _
        simp only [Act.put, List.setIfInBounds_toArray, List.set_cons_zero, List.set_cons_succ]
        refine wpAnyH_take (i := 7) (v := ?_) rfl (by kernel_rfl) (by kernel_rfl) (by kernel_rfl) (fun _ _ _ h => h) (Or.inl ⟨by rfl, ?_⟩) hHeld ?_
        rotate_left
        · intro u hSu
          obtain ⟨y0, y1, y2, y3, y4, y5, y6, y7, y8⟩ := FB.out u hSu
          (go_simp) <;> (with_reducible rfl)
        change wpAnyH _ _ _ _ _ _ _ (Act.put _ (some 10) _) _
        simp only [Act.put, List.setIfInBounds_toArray, List.set_cons_zero, List.set_cons_succ]
        refine wpAnyH_ready (rs := [8]) (by kernel_rfl) (by simp) ?_
        refine AllReadyH.cons rfl (fun K hK => ?_) AllReadyH.nil
        go_simp
        go_at_call 47
        refine (CG1.out _).mono ?_
        rintro e u3 ⟨rfl, hb3⟩
        have B3 : Hid (Below U.heap.size U u3) := B2.out.trans (hb3.mono B2.out.size); clear hb3
        refine hK.out _ _ ?_ (fun hHeld2 => ?_)
        · exact B3.out
        clear hK K hHeld
        have hHeld := hHeld2
        clear hHeld2
        refine wpAnyH_take (i := 9) (v := ?_) rfl (by kernel_rfl) (by kernel_rfl) (by kernel_rfl) (fun _ _ _ h => h) (Or.inl ⟨by rfl, ?_⟩) hHeld ?_
        rotate_left
        · intro u hSu
          (go_simp) <;> (with_reducible rfl)
        change wpAnyH _ _ _ _ _ _ _ (Act.put _ (some 12) _) _
        simp only [Act.put, List.setIfInBounds_toArray, List.set_cons_zero, List.set_cons_succ]
        refine wpAnyH_take (i := 10) (v := ?_) rfl (by kernel_rfl) (by kernel_rfl) (by kernel_rfl) (fun _ _ _ h => h) (Or.inl ⟨by rfl, ?_⟩) hHeld ?_
        rotate_left
        · intro u hSu
          (go_simp) <;> (with_reducible rfl)
        change wpAnyH _ _ _ _ _ _ _ (Act.put _ (some 13) _) _
        simp only [Act.put, List.setIfInBounds_toArray, List.set_cons_zero, List.set_cons_succ]
        refine wpAnyH_take (i := 11) (v := ?_) rfl (by kernel_rfl) (by kernel_rfl) (by kernel_rfl) (fun _ _ _ h => h) (Or.inl ⟨by rfl, ?_⟩) hHeld ?_
        rotate_left
        · intro u hSu
          (go_simp) <;> (with_reducible rfl)
        change wpAnyH _ _ _ _ _ _ _ (Act.put _ (some 14) _) _
        simp only [Act.put, List.setIfInBounds_toArray, List.set_cons_zero, List.set_cons_succ]
        refine wpAnyH_take (i := 12) (v := ?_) rfl (by kernel_rfl) (by kernel_rfl) (by kernel_rfl) (fun _ _ _ h => h) (Or.inl ⟨by rfl, ?_⟩) hHeld ?_
        rotate_left
        · intro u hSu
          (go_simp) <;> (with_reducible rfl)
        change wpAnyH _ _ _ _ _ _ _ (Act.put _ (some 15) _) _
        simp only [Act.put, List.setIfInBounds_toArray, List.set_cons_zero, List.set_cons_succ]
        refine wpAnyH_take (i := 13) (v := ?_) rfl (by kernel_rfl) (by kernel_rfl) (by kernel_rfl) (fun _ _ _ h => h) (Or.inl ⟨by rfl, ?_⟩) hHeld ?_
        rotate_left
        · intro u hSu
          obtain ⟨y0, y1, y2, y3, y4, y5, y6, y7, y8⟩ := FB.out u hSu
          (go_simp) <;> (with_reducible rfl)
        change wpAnyH _ _ _ _ _ _ _ (Act.put _ (some 16) _) _
        simp only [Act.put, List.setIfInBounds_toArray, List.set_cons_zero, List.set_cons_succ]
        refine wpAnyH_ready (rs := [14]) (by kernel_rfl) (by simp) ?_
        refine AllReadyH.cons rfl (fun K hK => ?_) AllReadyH.nil
        go_simp
        go_at_call 47
        refine (CG2.out _).mono ?_
        rintro e u4 ⟨rfl, hb4⟩
        have B4 : Hid (Below U.heap.size U u4) := B3.out.trans (hb4.mono B3.out.size); clear hb4
        refine hK.out _ _ ?_ (fun hHeld2 => ?_)
        · exact B4.out
        clear hK K hHeld
        have hHeld := hHeld2
        clear hHeld2
        refine wpAnyH_take (i := 15) (v := ?_) rfl (by kernel_rfl) (by kernel_rfl) (by kernel_rfl) (fun _ _ _ h => h) (Or.inl ⟨by rfl, ?_⟩) hHeld ?_
        rotate_left
        · intro u hSu
          (go_simp) <;> (with_reducible rfl)
        change wpAnyH _ _ _ _ _ _ _ (Act.put _ (some 18) _) _
        simp only [Act.put, List.setIfInBounds_toArray, List.set_cons_zero, List.set_cons_succ]
        refine wpAnyH_take (i := 16) (v := ?_) rfl (by kernel_rfl) (by kernel_rfl) (by kernel_rfl) (fun _ _ _ h => h) (Or.inl ⟨by rfl, ?_⟩) hHeld ?_
        rotate_left
        · intro u hSu
          (go_simp) <;> (with_reducible rfl)
        change wpAnyH _ _ _ _ _ _ _ (Act.put _ (some 19) _) _
        simp only [Act.put, List.setIfInBounds_toArray, List.set_cons_zero, List.set_cons_succ]
        refine wpAnyH_done (by kernel_rfl) ?_ _
        refine NoPanic.normal ?_
        go_wp2
        go_ret
        exact ⟨by rw [E.out]; rfl, HB.out.trans (B4.out.mono HB.out.size)⟩
      | true =>
        go_enter Tryz.func58, Tryz.ntmps58
        go_wp2
        rw [HU.out]
        refine wp_region_noPanic ?_
        refine wp_region_held_drew (S := fun u => Below U.heap.size U u) (by kernel_rfl) ?_ (fun hHeld => ?_)
        · exact (Below.refl _ _).drew
        refine wpAnyH_take (i := 0) (v := ?_) rfl (by kernel_rfl) (by kernel_rfl) (by kernel_rfl) (fun _ _ _ h => h) (Or.inl ⟨by rfl, ?_⟩) hHeld ?_
        rotate_left
        · intro u hSu
          obtain ⟨y0, y1, y2, y3, y4, y5, y6, y7, y8⟩ := FB.out u hSu
          (go_simp) <;> (with_reducible rfl)
        change wpAnyH _ _ _ _ _ _ _ (Act.put _ (some 3) _) _
        simp only [Act.put, List.setIfInBounds_toArray, List.set_cons_zero, List.set_cons_succ]
        refine wpAnyH_take (i := 1) (v := ?_) rfl (by kernel_rfl) (by kernel_rfl) (by kernel_rfl) (fun _ _ _ h => h) (Or.inl ⟨by rfl, ?_⟩) hHeld ?_
        rotate_left
        · intro u hSu
          obtain ⟨y0, y1, y2, y3, y4, y5, y6, y7, y8⟩ := FB.out u hSu
          (go_simp) <;> (with_reducible rfl)
        change wpAnyH _ _ _ _ _ _ _ (Act.put _ (some 4) _) _
        simp only [Act.put, List.setIfInBounds_toArray, List.set_cons_zero, List.set_cons_succ]
        refine wpAnyH_ready (rs := [2]) (by kernel_rfl) (by simp) ?_
        refine AllReadyH.cons rfl (fun K hK => ?_) AllReadyH.nil
        go_simp
        go_at_call 109
        refine (CO.out _).mono ?_
        rintro e u1 ⟨rfl, hb1⟩
        have B1 : Hid (Below U.heap.size U u1) := hHeld.trans (hb1.mono hHeld.size); clear hb1
        refine hK.out _ _ ?_ (fun hHeld2 => ?_)
        · exact B1.out
        clear hK K hHeld
        have hHeld := hHeld2
        clear hHeld2
        refine wpAnyH_ready (rs := [3]) (by kernel_rfl) (by simp) ?_
        refine AllReadyH.cons rfl (fun K hK => ?_) AllReadyH.nil
        go_simp
        go_at_call 108
        refine (CS.out _ B1.out).mono ?_
        rintro e u2 ⟨rfl, hb2⟩
        have B2 : Hid (Below U.heap.size U u2) := B1.out.trans (hb2.mono B1.out.size); clear hb2
        refine hK.out _ _ ?_ (fun hHeld2 => ?_)
        · exact B2.out
        clear hK K hHeld
        have hHeld := hHeld2
        clear hHeld2
        refine wpAnyH_take (i := 4) (v := ?_) rfl (by kernel_rfl) (by kernel_rfl) (by kernel_rfl) (fun _ _ _ h => h) (Or.inl ⟨by rfl, ?_⟩) hHeld ?_
        rotate_left
        · intro u hSu
          (go_simp) <;> (with_reducible rfl)
        change wpAnyH _ _ _ _ _ _ _ (Act.put _ (some 7) _) _
        simp only [Act.put, List.setIfInBounds_toArray, List.set_cons_zero, List.set_cons_succ]
        refine wpAnyH_take (i := 5) (v := ?_) rfl (by kernel_rfl) (by kernel_rfl) (by kernel_rfl) (fun _ _ _ h => h) (Or.inl ⟨by rfl, ?_⟩) hHeld ?_
        rotate_left
        · intro u hSu
          (go_simp) <;> (with_reducible rfl)
        change wpAnyH _ _ _ _ _ _ _ (Act.put _ (some 8) _) _
        simp only [Act.put, List.setIfInBounds_toArray, List.set_cons_zero, List.set_cons_succ]
        refine wpAnyH_take (i := 6) (v := ?_) rfl (by kernel_rfl) (by kernel_rfl) (by kernel_rfl) (fun _ _ _ h => h) (Or.inl ⟨by rfl, ?_⟩) hHeld ?_
        rotate_left
        · intro u hSu
          (go_simp) <;> (with_reducible rfl)
        change wpAnyH _ _ _ _ _ _ _ (Act.put _ (some 9) _) _
        simp only [Act.put, List.setIfInBounds_toArray, List.set_cons_zero, List.set_cons_succ]
        refine wpAnyH_take (i := 7) (v := ?_) rfl (by kernel_rfl) (by kernel_rfl) (by kernel_rfl) (fun _ _ _ h => h) (Or.inl ⟨by rfl, ?_⟩) hHeld ?_
        rotate_left
        · intro u hSu
          obtain ⟨y0, y1, y2, y3, y4, y5, y6, y7, y8⟩ := FB.out u hSu
          (go_simp) <;> (with_reducible rfl)
        change wpAnyH _ _ _ _ _ _ _ (Act.put _ (some 10) _) _
        simp only [Act.put, List.setIfInBounds_toArray, List.set_cons_zero, List.set_cons_succ]
        refine wpAnyH_ready (rs := [8]) (by kernel_rfl) (by simp) ?_
        refine AllReadyH.cons rfl (fun K hK => ?_) AllReadyH.nil
        go_simp
        go_at_call 47
        refine (CG1.out _).mono ?_
        rintro e u3 ⟨rfl, hb3⟩
        have B3 : Hid (Below U.heap.size U u3) := B2.out.trans (hb3.mono B2.out.size); clear hb3
        refine hK.out _ _ ?_ (fun hHeld2 => ?_)
        · exact B3.out
        clear hK K hHeld
        have hHeld := hHeld2
        clear hHeld2
        refine wpAnyH_take (i := 9) (v := ?_) rfl (by kernel_rfl) (by kernel_rfl) (by kernel_rfl) (fun _ _ _ h => h) (Or.inl ⟨by rfl, ?_⟩) hHeld ?_
        rotate_left
        · intro u hSu
          (go_simp) <;> (with_reducible rfl)
        change wpAnyH _ _ _ _ _ _ _ (Act.put _ (some 12) _) _
        simp only [Act.put, List.setIfInBounds_toArray, List.set_cons_zero, List.set_cons_succ]
        refine wpAnyH_take (i := 10) (v := ?_) rfl (by kernel_rfl) (by kernel_rfl) (by kernel_rfl) (fun _ _ _ h => h) (Or.inl ⟨by rfl, ?_⟩) hHeld ?_
        rotate_left
        · intro u hSu
          (go_simp) <;> (with_reducible rfl)
        change wpAnyH _ _ _ _ _ _ _ (Act.put _ (some 13) _) _
        simp only [Act.put, List.setIfInBounds_toArray, List.set_cons_zero, List.set_cons_succ]
        refine wpAnyH_take (i := 11) (v := ?_) rfl (by kernel_rfl) (by kernel_rfl) (by kernel_rfl) (fun _ _ _ h => h) (Or.inl ⟨by rfl, ?_⟩) hHeld ?_
        rotate_left
        · intro u hSu
          (go_simp) <;> (with_reducible rfl)
        change wpAnyH _ _ _ _ _ _ _ (Act.put _ (some 14) _) _
        simp only [Act.put, List.setIfInBounds_toArray, List.set_cons_zero, List.set_cons_succ]
        refine wpAnyH_take (i := 12) (v := ?_) rfl (by kernel_rfl) (by kernel_rfl) (by kernel_rfl) (fun _ _ _ h => h) (Or.inl ⟨by rfl, ?_⟩) hHeld ?_
        rotate_left
        · intro u hSu
          (go_simp) <;> (with_reducible rfl)
        change wpAnyH _ _ _ _ _ _ _ (Act.put _ (some 15) _) _
        simp only [Act.put, List.setIfInBounds_toArray, List.set_cons_zero, List.set_cons_succ]
        refine wpAnyH_take (i := 13) (v := ?_) rfl (by kernel_rfl) (by kernel_rfl) (by kernel_rfl) (fun _ _ _ h => h) (Or.inl ⟨by rfl, ?_⟩) hHeld ?_
        rotate_left
        · intro u hSu
          obtain ⟨y0, y1, y2, y3, y4, y5, y6, y7, y8⟩ := FB.out u hSu
          (go_simp) <;> (with_reducible rfl)
        change wpAnyH _ _ _ _ _ _ _ (Act.put _ (some 16) _) _
        simp only [Act.put, List.setIfInBounds_toArray, List.set_cons_zero, List.set_cons_succ]
        refine wpAnyH_ready (rs := [14]) (by kernel_rfl) (by simp) ?_
        refine AllReadyH.cons rfl (fun K hK => ?_) AllReadyH.nil
        go_simp
        go_at_call 47
        refine (CG2.out _).mono ?_
        rintro e u4 ⟨rfl, hb4⟩
        have B4 : Hid (Below U.heap.size U u4) := B3.out.trans (hb4.mono B3.out.size); clear hb4
        refine hK.out _ _ ?_ (fun hHeld2 => ?_)
        · exact B4.out
        clear hK K hHeld
        have hHeld := hHeld2
        clear hHeld2
        refine wpAnyH_take (i := 15) (v := ?_) rfl (by kernel_rfl) (by kernel_rfl) (by kernel_rfl) (fun _ _ _ h => h) (Or.inl ⟨by rfl, ?_⟩) hHeld ?_
        rotate_left
        · intro u hSu
          (go_simp) <;> (with_reducible rfl)
        change wpAnyH _ _ _ _ _ _ _ (Act.put _ (some 18) _) _
        simp only [Act.put, List.setIfInBounds_toArray, List.set_cons_zero, List.set_cons_succ]
        refine wpAnyH_take (i := 16) (v := ?_) rfl (by kernel_rfl) (by kernel_rfl) (by kernel_rfl) (fun _ _ _ h => h) (Or.inl ⟨by rfl, ?_⟩) hHeld ?_
        rotate_left
        · intro u hSu
          (go_simp) <;> (with_reducible rfl)
        change wpAnyH _ _ _ _ _ _ _ (Act.put _ (some 19) _) _
        simp only [Act.put, List.setIfInBounds_toArray, List.set_cons_zero, List.set_cons_succ]
        refine wpAnyH_done (by kernel_rfl) ?_ _
        refine NoPanic.normal ?_
        obtain ⟨y0, y1, y2, y3, y4, y5, y6, y7, y8⟩ := FB.out _ B4.out
        by_cases k1 : kd = 1
        · have hi := k1
          subst k1
          by_cases i1 : 1 ≤ id
          · have bi : decide (1 ≤ id) = true := decide_eq_true i1
            by_cases i2 : 0 < xc
            · have bx : decide (0 < xc) = true := decide_eq_true i2
              have E : Hid (R = mw) := by rw [HR.out]; simp [Hid, i1, i2]
              clear HR
              cases mw with
              | true =>
                go_wp2_with (first | (go_at_call 49; refine (CC.out _).mono ?_; rintro e u5 ⟨rfl, hb5⟩; have B5 : Hid (Below U.heap.size U u5) := B4.out.trans (hb5.mono B4.out.size); obtain ⟨z0, z1, z2, z3, z4, z5, z6, z7, z8⟩ := FB.out _ B5.out; clear hb5) | (go_at_call 82; refine (CW.out _ B5.out).mono ?_; rintro e u6 ⟨rfl, hb6⟩; have B6 : Hid (Below U.heap.size U u6) := B5.out.trans (hb6.mono B5.out.size); clear hb6))
                go_ret
                exact ⟨by rw [E.out]; rfl, HB.out.trans (B6.out.mono HB.out.size)⟩
              | false =>
                go_wp2_with (first | (go_at_call 49; refine (CC.out _).mono ?_; rintro e u5 ⟨rfl, hb5⟩; have B5 : Hid (Below U.heap.size U u5) := B4.out.trans (hb5.mono B4.out.size); obtain ⟨z0, z1, z2, z3, z4, z5, z6, z7, z8⟩ := FB.out _ B5.out; clear hb5) | (go_at_call 82; refine (CW.out _ B5.out).mono ?_; rintro e u6 ⟨rfl, hb6⟩; have B6 : Hid (Below U.heap.size U u6) := B5.out.trans (hb6.mono B5.out.size); clear hb6))
                go_ret
                exact ⟨by rw [E.out]; rfl, HB.out.trans (B6.out.mono HB.out.size)⟩
            · have bx : decide (0 < xc) = false := decide_eq_false i2
              have E : Hid (R = false) := by rw [HR.out]; simp [Hid, i2]
              clear HR
              go_wp2_with (first | (go_at_call 49; refine (CC.out _).mono ?_; rintro e u5 ⟨rfl, hb5⟩; have B5 : Hid (Below U.heap.size U u5) := B4.out.trans (hb5.mono B4.out.size); obtain ⟨z0, z1, z2, z3, z4, z5, z6, z7, z8⟩ := FB.out _ B5.out; clear hb5))
              go_ret
              exact ⟨by rw [E.out]; rfl, HB.out.trans (B5.out.mono HB.out.size)⟩
          · have bi : decide (1 ≤ id) = false := decide_eq_false i1
            have E : Hid (R = false) := by rw [HR.out]; simp [Hid, i1]
            clear HR
            go_wp2
            go_ret
            exact ⟨by rw [E.out]; rfl, HB.out.trans (B4.out.mono HB.out.size)⟩
        by_cases k2 : kd = 2
        · subst k2
          by_cases i1 : 1 ≤ id
          · have bi : decide (1 ≤ id) = true := decide_eq_true i1
            have E : Hid (R = true) := by rw [HR.out]; simp [Hid, i1]
            clear HR
            go_wp2
            go_ret
            exact ⟨by rw [E.out]; rfl, HB.out.trans (B4.out.mono HB.out.size)⟩
          · have bi : decide (1 ≤ id) = false := decide_eq_false i1
            have E : Hid (R = false) := by rw [HR.out]; simp [Hid, i1]
            clear HR
            go_wp2
            go_ret
            exact ⟨by rw [E.out]; rfl, HB.out.trans (B4.out.mono HB.out.size)⟩
        by_cases k3 : kd = 3
        · subst k3
          by_cases i1 : 1 ≤ id
          · have bi : decide (1 ≤ id) = true := decide_eq_true i1
            have E : Hid (R = true) := by rw [HR.out]; simp [Hid, i1]
            clear HR
            go_wp2
            go_ret
            exact ⟨by rw [E.out]; rfl, HB.out.trans (B4.out.mono HB.out.size)⟩
          · have bi : decide (1 ≤ id) = false := decide_eq_false i1
            have E : Hid (R = false) := by rw [HR.out]; simp [Hid, i1]
            clear HR
            go_wp2
            go_ret
            exact ⟨by rw [E.out]; rfl, HB.out.trans (B4.out.mono HB.out.size)⟩
        by_cases k4 : kd = 4
        · subst k4
          by_cases i1 : 1 ≤ id
          · have bi : decide (1 ≤ id) = true := decide_eq_true i1
            have E : Hid (R = pb) := by rw [HR.out]; simp [Hid, i1]
            clear HR
            cases pb with
            | true =>
              go_wp2_with (first | (go_at_call 110; refine (CP.out _ B4.out).mono ?_; rintro e u5 ⟨rfl, hw5⟩; obtain rfl : u4 = u5 := hw5.symm; clear hw5))
              go_ret
              exact ⟨by rw [E.out]; rfl, HB.out.trans (B4.out.mono HB.out.size)⟩
            | false =>
              go_wp2_with (first | (go_at_call 110; refine (CP.out _ B4.out).mono ?_; rintro e u5 ⟨rfl, hw5⟩; obtain rfl : u4 = u5 := hw5.symm; clear hw5))
              go_ret
              exact ⟨by rw [E.out]; rfl, HB.out.trans (B4.out.mono HB.out.size)⟩
          · have bi : decide (1 ≤ id) = false := decide_eq_false i1
            have E : Hid (R = false) := by rw [HR.out]; simp [Hid, i1]
            clear HR
            go_wp2
            go_ret
            exact ⟨by rw [E.out]; rfl, HB.out.trans (B4.out.mono HB.out.size)⟩
        have b1 : (kd == 1) = false := beq_eq_false_iff_ne.2 k1
        have b2 : (kd == 2) = false := beq_eq_false_iff_ne.2 k2
        have b3 : (kd == 3) = false := beq_eq_false_iff_ne.2 k3
        have b4 : (kd == 4) = false := beq_eq_false_iff_ne.2 k4
        by_cases k5 : kd = 5
        · have b5 : (kd == 5) = true := beq_iff_eq.2 k5
          have E : Hid (R = true) := by rw [HR.out]; simp [Hid, k5]
          clear HR k1 k2 k3 k4 k5
          go_wp2
          go_ret
          exact ⟨by rw [E.out]; rfl, HB.out.trans (B4.out.mono HB.out.size)⟩
        · have b5 : (kd == 5) = false := beq_eq_false_iff_ne.2 k5
          have E : Hid (R = false) := by rw [HR.out]; simp [Hid, k1, k2, k3, k4, k5]
          clear HR k1 k2 k3 k4 k5
          go_wp2
          go_ret
          exact ⟨by rw [E.out]; rfl, HB.out.trans (B4.out.mono HB.out.size)⟩
end Go.Proofs.YtileidbdmpeciaaGreat

namespace Go.Proofs.YtileidbdmpeciaaGreat
open Go.RowKit
set_option linter.unusedVariables false
set_option linter.unusedSimpArgs false

theorem goodE_okP {e : Ent} (h : goodE e = true) : (-9223372036854775808 ≤ e.s ∧ e.s ≤ 9223372036854775807) ∧ (-9223372036854775808 ≤ e.t ∧ e.t ≤ 9223372036854775807) := by
  unfold goodE at h
  simp only [Bool.and_eq_true, decide_eq_true_eq] at h
  have h1 := h.1.1.1.2
  have h2 := h.1.1.2
  unfold okS at h1 h2
  omega
set_option maxHeartbeats 8000000 in
set_option maxRecDepth 8000 in
theorem pplay_any {q s tb mm : Nat} {P : PSt} {M : List EntM} {XS XT : Foot} (x : RcM) (w : World) (h : ParI w q s tb mm P M XS XT) (K : PstK P) (hO : P.O.length ≤ 1000000) (he : RcW w x) :
    Calls Tryz.prog 18 #[.pointer (some ⟨q, 0, none⟩), rcv x] w fun e w' => e = .returned (.int .i64 (playP P x.r).1) ∧ ParL w w' q s tb mm M XS XT (playP P x.r).2 := by
  obtain ⟨Z, hZ⟩ : ∃ Z, Z = playP P x.r := ⟨_, rfl⟩
  rw [← hZ]
  have hgood := fun u (hu : Below w.heap.size w u) => lgood_any x u (he.past hu)
  obtain ⟨⟨kd, id, es, em, t, n, l, y, ps⟩, a, c, pa, pc⟩ := x
  obtain ⟨N, hN⟩ : ∃ N, N = l.length := ⟨_, rfl⟩
  obtain ⟨NP, hNP⟩ : ∃ NP, NP = ps.length := ⟨_, rfl⟩
  obtain ⟨gd, hgd⟩ : ∃ g, g = goodR ⟨kd, id, es, em, t, n, l, y, ps⟩ := ⟨_, rfl⟩
  have hEW : goodE ⟨id, es, em, t, n, l⟩ = true → EntW w ⟨(⟨id, es, em, t, n, l⟩ : Ent), a, c⟩ := fun hg => by
    obtain ⟨g1, g2⟩ := goodE_okP hg
    exact ⟨he.wr, he.room, Nat.le_trans he.few (by omega), ⟨⟨he.ok.id0, he.ok.id1⟩, g1, ⟨he.ok.m0, he.ok.m1⟩, g2, ⟨he.ok.n0, he.ok.n1⟩⟩⟩
  have hGE : gd = true → kd = 1 → goodE ⟨id, es, em, t, n, l⟩ = true := fun e1 e2 => by
    rw [hgd] at e1
    unfold goodR at e1
    rw [if_pos e2] at e1
    simp only [Bool.and_eq_true] at e1
    exact e1.1.1
  have hid : I64 id := ⟨he.ok.id0, he.ok.id1⟩
  have hn2 : 0 ≤ n ∧ n ≤ 255 := ⟨he.ok.n0, he.ok.n1⟩
  have e1 : rcv ⟨⟨kd, id, es, em, t, n, l, y, ps⟩, a, c, pa, pc⟩ = .agg #[.int .i64 kd, .int .i64 id, .int .i64 es, .int .u8 em, .int .i64 t, .int .u8 n, .slice a N c, .bool y, .slice pa NP pc] := by rw [hN, hNP]; rfl
  rw [e1]
  simp only [e1] at hgood
  obtain ⟨W0, hW0⟩ : ∃ u, u = w.alloc (.cells #[.int .i64 kd, .int .i64 id, .int .i64 es, .int .u8 em, .int .i64 t, .int .u8 n, .slice a N c, .bool y, .slice pa NP pc] 47) := ⟨_, rfl⟩
  have hb0 : Below w.heap.size w W0 := by rw [hW0]; exact (Below.refl _ _).alloc (Nat.le_refl _) _
  have e0 : W0.heap.size = w.heap.size + 1 := by rw [hW0]; simp
  have HB0 : Hid (Below w.heap.size w W0) := hb0
  have HW0 : Hid (w.alloc (.cells #[.int .i64 kd, .int .i64 id, .int .i64 es, .int .u8 em, .int .i64 t, .int .u8 n, .slice a N c, .bool y, .slice pa NP pc] 47) = W0) := hW0.symm
  have hcell : ∀ o, W0.cell? ⟨w.heap.size, o, none⟩ = (#[.int .i64 kd, .int .i64 id, .int .i64 es, .int .u8 em, .int .i64 t, .int .u8 n, .slice a N c, .bool y, .slice pa NP pc] : Array Value)[o]? := fun o => by rw [hW0, World.cell?_alloc_new]
  have FR : Hid (∀ u, Below W0.heap.size W0 u → Below w.heap.size w u ∧ u.cell? ⟨w.heap.size, 0, none⟩ = some (.int .i64 kd) ∧ u.cell? ⟨w.heap.size, 1, none⟩ = some (.int .i64 id) ∧ u.cell? ⟨w.heap.size, 2, none⟩ = some (.int .i64 es) ∧ u.cell? ⟨w.heap.size, 3, none⟩ = some (.int .u8 em) ∧ u.cell? ⟨w.heap.size, 4, none⟩ = some (.int .i64 t) ∧ u.cell? ⟨w.heap.size, 5, none⟩ = some (.int .u8 n) ∧ u.cell? ⟨w.heap.size, 6, none⟩ = some (.slice a N c)) := fun u hu => by
    have f : ∀ o, u.cell? ⟨w.heap.size, o, none⟩ = W0.cell? ⟨w.heap.size, o, none⟩ := fun o => hu.cell (p := ⟨w.heap.size, o, none⟩) (by show w.heap.size < _; omega)
    exact ⟨hb0.trans (hu.mono hb0.size), (f 0).trans (hcell 0), (f 1).trans (hcell 1), (f 2).trans (hcell 2), (f 3).trans (hcell 3), (f 4).trans (hcell 4), (f 5).trans (hcell 5), (f 6).trans (hcell 6)⟩
  have CG : Hid (∀ u, Below w.heap.size w u → Calls Tryz.prog 58 #[.agg #[.int .i64 kd, .int .i64 id, .int .i64 es, .int .u8 em, .int .i64 t, .int .u8 n, .slice a N c, .bool y, .slice pa NP pc]] u fun e w' => e = .returned (.bool gd) ∧ Below u.heap.size u w') := fun u hu => by rw [hgd]; exact hgood u hu
  have HP : Hid (ParI w q s tb mm P M XS XT) := h
  have CP : Hid (gd = true → kd = 1 → ∀ u, Below w.heap.size w u → Calls Tryz.prog 10 #[.pointer (some ⟨q, 0, none⟩), .agg #[.int .i64 id, .int .i64 es, .int .u8 em, .int .i64 t, .int .u8 n, .slice a N c]] u fun e w' => e = .returned (.int .i64 (prepP P ⟨id, es, em, t, n, l⟩).1) ∧ ParL w w' q s tb mm M XS XT (prepP P ⟨id, es, em, t, n, l⟩).2) := fun e1 e2 u hu => by
    refine (pprep_any id es em t n a N c l u (h.past hu) K hN.symm ((hEW (hGE e1 e2)).past hu)).mono ?_
    rintro e w' ⟨rfl, d⟩
    exact ⟨rfl, ParL.since h hu d⟩
  have CC : Hid (∀ u, Below w.heap.size w u → Calls Tryz.prog 12 #[.pointer (some ⟨q, 0, none⟩), .int .i64 id, .agg #[.int .i64 t, .int .u8 n]] u fun e w' => e = .returned (.int .i64 (commitP P id t n).1) ∧ ParL w w' q s tb mm M XS XT (commitP P id t n).2) := fun u hu => by
    refine (pcommit_any id t n hid hn2 u (h.past hu) K hO).mono ?_
    rintro e w' ⟨rfl, d⟩
    exact ⟨rfl, ParL.since h hu d⟩
  have CA : Hid (∀ u, Below w.heap.size w u → Calls Tryz.prog 17 #[.pointer (some ⟨q, 0, none⟩), .int .i64 id] u fun e w' => e = .returned (.int .i64 (abortP P id).1) ∧ ParL w w' q s tb mm M XS XT (abortP P id).2) := fun u hu => by
    refine (pabort_any id hid u (h.past hu) K hO).mono ?_
    rintro e w' ⟨rfl, d⟩
    exact ⟨rfl, ParL.since h hu d⟩
  have HZ : Hid (Z = if gd = false then (3, P) else if kd = 1 then prepP P ⟨id, es, em, t, n, l⟩ else if kd = 2 then commitP P id t n else if kd = 3 then abortP P id else (0, P)) := by
    show _ = _
    rw [hZ, hgd]
    rfl
  have HZ2 := HZ.out
  clear h K hO he hid hZ hgood hN hNP hgd hEW hGE hn2 e1 hW0 hb0 e0 hcell
  cases gd with
  | false =>
    have HF : Hid (Z = (3, P)) := by rw [if_pos rfl] at HZ2; exact HZ2
    clear HZ2
    go_enter Tryz.func18, Tryz.ntmps18
    go_wp2_with (first | (go_at_call 58; rw [HW0.out]; refine (CG.out _ HB0.out).mono ?_; rintro e w1 ⟨rfl, hb⟩; have H1 : Hid (Below W0.heap.size W0 w1) := hb; clear hb))
    go_ret
    exact ⟨by rw [HF.out]; rfl, by rw [HF.out]; exact HP.out.stay (FR.out _ H1.out).1⟩
  | true =>
  rw [if_neg (by decide)] at HZ2
  by_cases h1 : kd = 1
  · have HF : Hid (Z = prepP P ⟨id, es, em, t, n, l⟩) := by rw [if_pos h1] at HZ2; exact HZ2
    clear HZ2 HZ
    subst h1
    have CP1 : Hid (∀ u, Below w.heap.size w u → Calls Tryz.prog 10 #[.pointer (some ⟨q, 0, none⟩), .agg #[.int .i64 id, .int .i64 es, .int .u8 em, .int .i64 t, .int .u8 n, .slice a N c]] u fun e w' => e = .returned (.int .i64 (prepP P ⟨id, es, em, t, n, l⟩).1) ∧ ParL w w' q s tb mm M XS XT (prepP P ⟨id, es, em, t, n, l⟩).2) := CP.out rfl rfl
    go_enter Tryz.func18, Tryz.ntmps18
    go_wp2_with (first | (have hgo := H1.out; clear hgo; go_at_call 10; refine (CP1.out _ (FR.out _ H1.out).1).mono ?_; rintro e w2 ⟨rfl, hd⟩; have HD : Hid (ParL w w2 q s tb mm M XS XT (prepP P ⟨id, es, em, t, n, l⟩).2) := hd; clear hd) | (go_at_call 58; rw [HW0.out]; refine (CG.out _ HB0.out).mono ?_; rintro e w1 ⟨rfl, hb⟩; have H1 : Hid (Below W0.heap.size W0 w1) := hb; obtain ⟨_, z0, z1, z2, z3, z4, z5, z6⟩ := FR.out w1 hb; clear hb))
    go_ret
    exact ⟨by rw [HF.out]; rfl, by rw [HF.out]; exact HD.out⟩
  by_cases h2 : kd = 2
  · have HF : Hid (Z = commitP P id t n) := by rw [if_neg h1, if_pos h2] at HZ2; exact HZ2
    clear HZ2 HZ
    subst h2
    go_enter Tryz.func18, Tryz.ntmps18
    go_wp2_with (first | (have hgo := H1.out; clear hgo; go_at_call 12; refine (CC.out _ (FR.out _ H1.out).1).mono ?_; rintro e w2 ⟨rfl, hd⟩; have HD : Hid (ParL w w2 q s tb mm M XS XT (commitP P id t n).2) := hd; clear hd) | (go_at_call 58; rw [HW0.out]; refine (CG.out _ HB0.out).mono ?_; rintro e w1 ⟨rfl, hb⟩; have H1 : Hid (Below W0.heap.size W0 w1) := hb; obtain ⟨_, z0, z1, z2, z3, z4, z5, z6⟩ := FR.out w1 hb; clear hb))
    go_ret
    exact ⟨by rw [HF.out]; rfl, by rw [HF.out]; exact HD.out⟩
  by_cases h3 : kd = 3
  · have HF : Hid (Z = abortP P id) := by rw [if_neg h1, if_neg h2, if_pos h3] at HZ2; exact HZ2
    clear HZ2 HZ
    subst h3
    go_enter Tryz.func18, Tryz.ntmps18
    go_wp2_with (first | (have hgo := H1.out; clear hgo; go_at_call 17; refine (CA.out _ (FR.out _ H1.out).1).mono ?_; rintro e w2 ⟨rfl, hd⟩; have HD : Hid (ParL w w2 q s tb mm M XS XT (abortP P id).2) := hd; clear hd) | (go_at_call 58; rw [HW0.out]; refine (CG.out _ HB0.out).mono ?_; rintro e w1 ⟨rfl, hb⟩; have H1 : Hid (Below W0.heap.size W0 w1) := hb; obtain ⟨_, z0, z1, z2, z3, z4, z5, z6⟩ := FR.out w1 hb; clear hb))
    go_ret
    exact ⟨by rw [HF.out]; rfl, by rw [HF.out]; exact HD.out⟩
  have HF : Hid (Z = (0, P)) := by rw [if_neg h1, if_neg h2, if_neg h3] at HZ2; exact HZ2
  have b1 : (kd == 1) = false := by simpa using h1
  have b2 : (kd == 2) = false := by simpa using h2
  have b3 : (kd == 3) = false := by simpa using h3
  clear HZ2 HZ h1 h2 h3
  go_enter Tryz.func18, Tryz.ntmps18
  go_wp2_with (first | (go_at_call 58; rw [HW0.out]; refine (CG.out _ HB0.out).mono ?_; rintro e w1 ⟨rfl, hb⟩; have H1 : Hid (Below W0.heap.size W0 w1) := hb; obtain ⟨_, z0, z1, z2, z3, z4, z5, z6⟩ := FR.out w1 hb; clear hb))
  go_ret
  exact ⟨by rw [HF.out]; rfl, by rw [HF.out]; exact HP.out.stay (FR.out _ H1.out).1⟩
theorem i64El : ElT 49 2 1 8 := ElT.mk' (z := .int .i64 0) Tryz.underlying49 (by kernel_rfl) (by kernel_rfl) (by decide) (by decide)
def idsV (T : List Ent) : List Int := T.map (fun e => e.id)
theorem ids_next {L : List EntM} {i : Nat} {x : EntM} (h : L[i]? = some x) : (idsV (ents (L.take (i + 1)))).map (Value.int .i64) = (idsV (ents (L.take i))).map (Value.int .i64) ++ [.int .i64 x.e.id] := by
  rw [List.take_add_one, h]
  simp [idsV, ents]
set_option maxHeartbeats 4000000 in
set_option maxRecDepth 4000 in
theorem pprepared_any {q s tb mm : Nat} {P : PSt} {M : List EntM} {XS XT : Foot} (w : World) (h : ParI w q s tb mm P M XS XT) :
    Calls Tryz.prog 20 #[.pointer (some ⟨q, 0, none⟩)] w fun e w' => ∃ a c, e = .returned (.slice a M.length c) ∧ OwnB 2 1 w w' (.slice a M.length c) M.length ((idsV P.T).map (Value.int .i64)) := by
  obtain ⟨N, hN⟩ : ∃ n, n = M.length := ⟨_, rfl⟩
  have hN9 : N ≤ 100 := by rw [hN]; exact h.tab.few
  have CA : Hid (Calls Tryz.prog 59 #[.pointer (some ⟨tb, 0, none⟩)] w fun e w' => (∃ la lc L, e = .returned (.slice la N lc) ∧ AllOf w' w.heap.size (.slice la N lc) L P.T) ∧ Below w.heap.size w w') := by rw [hN, ← h.is]; exact pall_any tb M XT w h.tab
  have q1 := h.c1
  rw [← hN]
  clear h hN
  go_enter Tryz.func20, Tryz.ntmps20
  go_wp2_with (first
    | (go_at_call 59; refine CA.out.mono ?_; rintro e w3 ⟨⟨la, lc, L, rfl, hA⟩, hb⟩; have HAL : Hid (AllOf w3 w.heap.size (.slice la N lc) L P.T) := hA; have HB3 : Hid (Below w.heap.size w w3) := hb; clear hb hA q1 CA))
  obtain ⟨hNL, hNc, hel⟩ := HAL.out.open
  have HLN : Hid (L.length = N) := hNL.symm
  have HEL : Hid (∀ i y, L[i]? = some y → ∃ g, la = some ⟨g, 0, none⟩ ∧ Hid (∀ v, Below w3.heap.size w3 v → EntAt v g (i * 6) y ∧ EntW v y)) := hel
  have HIS : Hid (ents L = P.T) := HAL.out.is
  clear hel hNL HAL
  go_loopw [3, 12] (fun rv iv wr => ∃ (i : Nat) (ra : Option Addr) (rc : Nat), iv = .int .i64 i ∧ rv = .slice ra i rc ∧ i ≤ N ∧ Hid (OwnB 2 1 w3 wr (.slice ra i rc) i ((idsV (ents (L.take i))).map (Value.int .i64)))) (fun _ iv _ => N - (intOf iv).toNat)
  case atStart => exact ⟨0, none, 0, rfl, rfl, Nat.zero_le _, ⟨World.ownsRow_nil _ _ _ _, Below.refl _ _⟩⟩
  case round =>
    obtain ⟨i, ra, rc, rfl, rfl, hi, HO⟩ := hrel
    have HB : Hid (Below w3.heap.size w3 wr) := HO.out.below
    have hi0 : (0 : Int) ≤ (i : Int) := by omega
    by_cases hlt : i < N
    · have h1 : (i : Int) < (N : Int) := by omega
      obtain ⟨x, hx⟩ : ∃ x, L[i]? = some x := ⟨_, List.getElem?_eq_getElem (by rw [HLN.out]; exact hlt)⟩
      obtain ⟨g, hag, HG⟩ := HEL.out i x hx
      subst hag
      have FE : Hid (EntAt wr g (i * 6) x) := (HG.out wr HB.out).1
      have HNX : Hid _ := ids_next hx
      have hm1 : i + 1 ≤ 1000000 := by omega
      have hmi := EntMine.made wr 31 zeroE
      rw [zeroE_cells] at hmi
      have HMI : Hid _ := hmi
      obtain ⟨id, hid⟩ : ∃ z, z = x.e.id := ⟨_, rfl⟩
      rw [← hid] at HNX
      have HX0 : Hid (∀ u b, EntMine u b x → u.cell? ⟨b, 0, none⟩ = some (.int .i64 id)) := fun u b hm => by rw [hid]; exact hm.at_.cells.1
      clear hx hmi hid
      go_wp2_with (first
        | ((with_reducible show wpList _ _ _ (Oper.mk (some 15) _ _ _ _ _ :: _) _ _); refine wpList_load_pent 15 (by rfl) (by rfl) _ (by rfl) g (i * 6) (by rfl) x FE.out ?_)
        | (have hgo := HMI.out; clear hgo; refine wpList_store_pent (.tmp 5) (by rfl) _ (by rfl) wr.heap.size zeroE x (by rfl) (by rfl) HMI.out ?_; intro u2 hu; have HX2 : Hid (EntMine u2 wr.heap.size x) := hu ▸ HMI.out.store; have HB4 : Hid (Below wr.heap.size wr u2) := hu ▸ below_cells (Nat.le_refl _) ((Below.refl _ _).alloc (Nat.le_refl _) _); have z0 := HX0.out u2 wr.heap.size HX2.out; have HO2 : Hid (OwnB 2 1 w3 u2 (.slice ra i rc) i ((idsV (ents (L.take i))).map (Value.int .i64))) := HO.out.past HB4.out; clear hu HMI)
        | (have hgo := HO2.out; clear hgo; at_builtin; refine wpList_own i64El (w0 := w3) rfl (.tmp 16) (.tmp 19) rfl _ i _ [.int .i64 id] rfl (HO2.out.alloc _) _ _ _ rfl rfl (lies_made _ _ _) (by intro u hu; simp at hu; rw [hu]; rfl) (fun h => by cases h) (i + 1) rfl hm1 ((idsV (ents (L.take (i + 1)))).map (Value.int .i64)) HNX.out.symm ?_; intro a6 c6 w6 h1 h2; have O6 : Hid (OwnB 2 1 w3 w6 (.slice a6 (i + 1) c6) (i + 1) ((idsV (ents (L.take (i + 1)))).map (Value.int .i64))) := h1; have G6 : Hid ((u2.alloc (.cells #[.int .i64 id] 2)).grownBy w6 (Value.slice ra i rc).ownBlock) := h2; clear h1 h2))
      go_roundw
      case rel => exact ⟨i + 1, a6, c6, by go_num, rfl, by omega, O6⟩
      case measure => simp [intOf]; omega
    · obtain rfl : i = N := by omega
      have HT : Hid (idsV (ents (L.take i)) = idsV P.T) := by show _ = _; rw [List.take_of_length_le (by rw [HLN.out]; exact Nat.le_refl _), HIS.out]
      go_wp2
      go_ret
      refine ⟨ra, rc, rfl, ?_⟩
      have := HO.out
      rw [HT.out] at this
      exact ⟨own_downT this.own HB3.out.size, HB3.out.trans (this.below.mono HB3.out.size)⟩
end Go.Proofs.YtileidbdmpeciaaGreat

namespace Go.Proofs.YtileidbdmpeciaaGreat
open Go.RowKit
set_option linter.unusedVariables false

end Go.Proofs.YtileidbdmpeciaaGreat

namespace Go.Proofs.YtileidbdmpeciaaGreat
open Go.RowKit
set_option linter.unusedVariables false

theorem slice_versT (w : World) (a : Option Addr) (ha : ∀ ad, a = some ad → ∃ bb, ad = ⟨bb, 0, none⟩) (len cap h : Nat) (hh : h ≤ cap) (hn : a = none → cap = 0) (hlen : a = none → len = 0) :
    (Instr.slice 109 (.slice a len cap) none (some (.int .i64 (h : Int))) none).run Tryz.prog w = .ok (.slice a h cap) w := by
  cases a with
  | none =>
    obtain rfl := hn rfl
    obtain rfl := hlen rfl
    obtain rfl : h = 0 := by omega
    kernel_rfl
  | some ad =>
    obtain ⟨bb, rfl⟩ := ha ad rfl
    obtain ⟨i0, z, hi, _⟩ := verEl.info
    have he : Tryz.prog.elem 109 = 127 := by kernel_rfl
    rw [run_slice_h w 109 _ len cap (by rw [he]; exact Tryz.underlying109) .i64 (h : Int) (by omega) (by omega), he, run_sizeOf w hi]
    simp [sliced, addr_add]
def dropV (a : Option Addr) (cap k : Nat) : Option Addr := match a with | none => none | some ad => if cap = k then some ad else some (ad.add (k * 20))
theorem slice_versL (w : World) (a : Option Addr) (ha : ∀ ad, a = some ad → ∃ bb, ad = ⟨bb, 0, none⟩) (len cap k : Nat) (hk : k ≤ len) (hh : len ≤ cap) (hn : a = none → cap = 0) :
    (Instr.slice 109 (.slice a len cap) (some (.int .i64 (k : Int))) none none).run Tryz.prog w = .ok (.slice (dropV a cap k) (len - k) (cap - k)) w := by
  cases a with
  | none =>
    obtain rfl := hn rfl
    obtain rfl : len = 0 := by omega
    obtain rfl : k = 0 := by omega
    kernel_rfl
  | some ad =>
    obtain ⟨bb, rfl⟩ := ha ad rfl
    obtain ⟨i0, z, hi, _, hsz, _⟩ := verEl.info
    have he : Tryz.prog.elem 109 = 127 := by kernel_rfl
    rw [run_slice_l w 109 _ len cap (by rw [he]; exact Tryz.underlying109) .i64 (k : Int) (by omega) (by omega), he, run_sizeOf w hi]
    have hc : Tryz.prog.cellsOf 127 = 20 := by kernel_rfl
    simp [sliced, addr_add, hc, dropV]
theorem dropV_none {a : Option Addr} {cap k : Nat} (h : dropV a cap k = none) : a = none := by
  cases a with
  | none => rfl
  | some ad => simp only [dropV] at h; split at h <;> cases h
theorem lies_dropV {u : World} {a : Option Addr} {cap k : Nat} {xs : List Ver} (ha : ∀ ad, a = some ad → ∃ bb, ad = ⟨bb, 0, none⟩) (h : Lies u a (xs.flatMap encV)) (ho : OkL xs) (hl : xs.length ≤ cap) : Lies u (dropV a cap k) ((xs.drop k).flatMap encV) := by
  by_cases hc : cap = k
  · have : xs.drop k = [] := List.drop_eq_nil_of_le (by omega)
    rw [this]; exact lies_nil _ _
  · cases a with
    | none => exact lies_none _ _
    | some ad =>
      obtain ⟨bb, rfl⟩ := ha ad rfl
      have := h.dropped (k * 20)
      rw [flat_drop xs k ho.len] at this
      show Lies u (if cap = k then some ⟨bb, 0, none⟩ else some ((⟨bb, 0, none⟩ : Addr).add (k * 20))) _
      rw [if_neg hc, addr_add]
      exact this
theorem lies_takeV {u : World} {a : Option Addr} {k : Nat} {xs : List Ver} (ha : ∀ ad, a = some ad → ∃ bb, ad = ⟨bb, 0, none⟩) (h : Lies u a (xs.flatMap encV)) (ho : OkL xs) : Lies u a ((xs.take k).flatMap encV) := by
  cases a with
  | none => exact lies_none _ _
  | some ad =>
    obtain ⟨bb, rfl⟩ := ha ad rfl
    have := h.taken (k * 20)
    rw [flat_take xs k ho.len] at this
    exact this
theorem run_build_ver (w : World) (V : Ver) (hk : Ky V.k) :
    (Instr.buildSlice 109 1 #[(0, vv V)]).run Tryz.prog w = .ok (.slice (some ⟨w.heap.size, 0, none⟩) 1 1) (w.alloc (.cells (encV V).toArray 127)) := by
  have hl := enc_len hk
  have hf : Instr.fill (fun i => some (i * 20, 20)) (encV zeroV).toArray [(0, vv V)] = some (encV V).toArray := by
    rw [fill_step _ (encV zeroV) 0 0 20 (encV V) rfl hl (by rw [enc_len zeroV_ky]; omega)]
    show some _ = some _
    congr 2
    rw [List.drop_eq_nil_of_le (by rw [enc_len zeroV_ky]; omega)]
    simp
  simp [Instr.buildSlice, run_underlying Tryz.underlying109]
  generalize hz : Array.map _ (Array.range 20) = Z
  have hz2 : Z = (encV zeroV).toArray := by rw [← hz]; kernel_rfl
  rw [hz2, hf]
  simp [newRow]
theorem step_build_ver {w : World} {ops : Array Oper} {o : Oper} {a : Act} {K : Act → World → Prop} {Q : Exit → Act → World → Prop} {E : Prop} (hgd : o.guard = none) (x : Operand) (ho : o.op = .buildSlice 109 1 #[(0, x)]) (V : Ver) (hk : Ky V.k) (hx : a.eval x = vv V)
    (h : K (a.put o.dst (.slice (some ⟨w.heap.size, 0, none⟩) 1 1)) (w.alloc (.cells (encV V).toArray 127))) : if Region.wanted o (yielded ops a.tmps) = true then Oper.wp Tryz.prog o a w K Q else E := by
  have hw : Region.wanted o (yielded ops a.tmps) = true := by simp [Region.wanted, hgd]
  rw [if_pos hw]
  have hrun := run_build_ver w V hk
  unfold Oper.wp
  simp [execOp, ho, hx, hrun, Result.andThen]
  exact h
theorem wpList_build_ver (d : Tmp) {ops : Array Oper} {rest : List Oper} {op : Oper} {a : Act} {w : World} {Q : Exit → Act → World → Prop} (hd : op.dst = some d) (hgd : op.guard = none) (x : Operand) (ho : op.op = .buildSlice 109 1 #[(0, x)])
    (V : Ver) (hk : Ky V.k) (hx : a.eval x = vv V)
    (h : wpList Tryz.prog ops Q rest (a.put op.dst (.slice (some ⟨w.heap.size, 0, none⟩) 1 1)) (w.alloc (.cells (encV V).toArray 127))) : wpList Tryz.prog ops Q (op :: rest) a w := by
  refine wpList_plain hgd fun K hK => ?_
  have hrun := run_build_ver w V hk
  unfold Oper.wp
  simp [execOp, ho, hx, hrun, Result.andThen]
  exact hK _ _ h
end Go.Proofs.YtileidbdmpeciaaGreat

