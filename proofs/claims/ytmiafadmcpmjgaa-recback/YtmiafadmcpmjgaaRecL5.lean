/-
  The landed rec: Same.
-/
import Derived.Test.YtmiafadmcpmjgaaRl
namespace Go.Proofs.Ytmiafadmcpmjgaa
open Go.RowKit
set_option linter.unusedVariables false

open Classical in
set_option maxHeartbeats 8000000 in
set_option maxRecDepth 8000 in
theorem lsame_any (x x2 : RcM) (w : World) (h : RcW w x) (h2 : RcW w x2) :
    Calls Try.prog 19 #[rcv x, rcv x2] w fun e w' => e = .returned (.bool (decide (x.r = x2.r))) ∧ Below w.heap.size w w' := by
  obtain ⟨⟨kd, id, s, m, t, n, l, y, ps⟩, a, c, pa, pc⟩ := x
  obtain ⟨⟨kd2, id2, s2, m2, t2, n2, l2, y2, ps2⟩, a2, c2, pa2, pc2⟩ := x2
  obtain ⟨hwr, hrm, hfw, hps, hpr, hpf, hkd, hok⟩ := h
  obtain ⟨hwr2, hrm2, hfw2, hps2, hpr2, hpf2, hkd2, hok2⟩ := h2
  simp only at hwr hrm hfw hps hpr hpf hkd hwr2 hrm2 hfw2 hps2 hpr2 hpf2 hkd2
  obtain ⟨N, hN⟩ : ∃ N, l.length = N := ⟨_, rfl⟩
  obtain ⟨N2, hN2⟩ : ∃ N, l2.length = N := ⟨_, rfl⟩
  obtain ⟨M, hM⟩ : ∃ N, ps.length = N := ⟨_, rfl⟩
  obtain ⟨M2, hM2⟩ : ∃ N, ps2.length = N := ⟨_, rfl⟩
  have HD : Hid (decide ((⟨kd, id, s, m, t, n, l, y, ps⟩ : Rcd) = ⟨kd2, id2, s2, m2, t2, n2, l2, y2, ps2⟩) = decide (kd = kd2 ∧ id = id2 ∧ s = s2 ∧ m = m2 ∧ t = t2 ∧ n = n2 ∧ y = y2 ∧ l = l2 ∧ ps = ps2)) := by
    show _ = _
    rw [Bool.eq_iff_iff, decide_eq_true_eq, decide_eq_true_eq, rcd_eq]
  show Calls Try.prog 19 #[.agg #[.int .i64 kd, .int .i64 id, .int .i64 s, .int .u8 m, .int .i64 t, .int .u8 n, .slice a l.length c, .bool y, .slice pa ps.length pc], .agg #[.int .i64 kd2, .int .i64 id2, .int .i64 s2, .int .u8 m2, .int .i64 t2, .int .u8 n2, .slice a2 l2.length c2, .bool y2, .slice pa2 ps2.length pc2]] w fun e w' => e = .returned (.bool (decide ((⟨kd, id, s, m, t, n, l, y, ps⟩ : Rcd) = ⟨kd2, id2, s2, m2, t2, n2, l2, y2, ps2⟩))) ∧ Below w.heap.size w w'
  rw [hN, hN2, hM, hM2, HD.out]
  rw [hN] at hrm hfw
  rw [hN2] at hrm2 hfw2
  rw [hM] at hpr hpf
  rw [hM2] at hpr2 hpf2
  obtain ⟨U, hU⟩ : ∃ U, U = (w.alloc (.cells #[.int .i64 kd, .int .i64 id, .int .i64 s, .int .u8 m, .int .i64 t, .int .u8 n, .slice a N c, .bool y, .slice pa M pc] 28)).alloc (.cells #[.int .i64 kd2, .int .i64 id2, .int .i64 s2, .int .u8 m2, .int .i64 t2, .int .u8 n2, .slice a2 N2 c2, .bool y2, .slice pa2 M2 pc2] 28) := ⟨_, rfl⟩
  have HU : Hid ((w.alloc (.cells #[.int .i64 kd, .int .i64 id, .int .i64 s, .int .u8 m, .int .i64 t, .int .u8 n, .slice a N c, .bool y, .slice pa M pc] 28)).alloc (.cells #[.int .i64 kd2, .int .i64 id2, .int .i64 s2, .int .u8 m2, .int .i64 t2, .int .u8 n2, .slice a2 N2 c2, .bool y2, .slice pa2 M2 pc2] 28) = U) := hU.symm
  have HB : Hid (Below w.heap.size w U) := by rw [hU]; exact ((Below.refl _ _).alloc (Nat.le_refl _) _).alloc (by simp) _
  have hbx : RBox U w.heap.size kd id s m t n a N c y pa M pc := by
    rw [hU]; exact (RBox.made w 28 kd id s m t n a N c y pa M pc).past ((Below.refl _ _).alloc (Nat.le_refl _) _)
  have hbx2 : RBox U (w.heap.size + 1) kd2 id2 s2 m2 t2 n2 a2 N2 c2 y2 pa2 M2 pc2 := by
    rw [hU]
    have := RBox.made (w.alloc (.cells #[.int .i64 kd, .int .i64 id, .int .i64 s, .int .u8 m, .int .i64 t, .int .u8 n, .slice a N c, .bool y, .slice pa M pc] 28)) 28 kd2 id2 s2 m2 t2 n2 a2 N2 c2 y2 pa2 M2 pc2
    rw [World.size_alloc] at this
    exact this
  have FB : Hid (∀ u, Below U.heap.size U u → RBox u w.heap.size kd id s m t n a N c y pa M pc ∧ RBox u (w.heap.size + 1) kd2 id2 s2 m2 t2 n2 a2 N2 c2 y2 pa2 M2 pc2) := fun u hb => ⟨hbx.past hb, hbx2.past hb⟩
  by_cases h_kd : kd = kd2
  · subst h_kd
    have b_kd : (kd != kd) = false := by simp
    by_cases h_id : id = id2
    · subst h_id
      have b_id : (id != id) = false := by simp
      by_cases h_s : s = s2
      · subst h_s
        by_cases h_m : m = m2
        · subst h_m
          by_cases h_t : t = t2
          · subst h_t
            by_cases h_n : n = n2
            · subst h_n
              by_cases h_y : y = y2
              · subst h_y
                have b_y : (y != y) = false := by simp
                have HR : Hid (decide (kd = kd ∧ id = id ∧ s = s ∧ m = m ∧ t = t ∧ n = n ∧ y = y ∧ l = l2 ∧ ps = ps2) = (decide (l = l2) && decide (ps = ps2))) := by show _ = _; rw [Bool.eq_iff_iff]; simp
                rw [HR.out]
                have CW : Hid (Calls Try.prog 53 #[.slice a N c, .slice a2 N2 c2] U fun e w' => e = .returned (.bool (decide (l = l2))) ∧ Below U.heap.size U w') := lequal_any a a2 N N2 c c2 l l2 U hN hN2 hrm hrm2 (by omega) (by omega) (hwr.past HB.out) (hwr2.past HB.out)
                have CP : Hid (∀ u, Below U.heap.size U u → Calls Try.prog 54 #[.slice pa M pc, .slice pa2 M2 pc2] u fun e w' => e = .returned (.bool (decide (ps = ps2))) ∧ Below u.heap.size u w') := fun u hu => iequal_any pa pa2 M M2 pc pc2 ps ps2 u hM hM2 (by omega) (by omega) ((hps.past HB.out).past hu) ((hps2.past HB.out).past hu)
                obtain ⟨R1, hR1⟩ : ∃ R, R = decide (l = l2) := ⟨_, rfl⟩
                obtain ⟨R2, hR2⟩ : ∃ R, R = decide (ps = ps2) := ⟨_, rfl⟩
                rw [← hR1] at CW ⊢
                rw [← hR2] at CP ⊢
                clear hR1 hR2 HR
                clear hwr hrm hfw hps hpr hpf hkd hwr2 hrm2 hfw2 hps2 hpr2 hpf2 hkd2 hN hN2 hM hM2 hok hok2 HD hU hbx hbx2
                cases R1 with
                | false =>
                  go_enter Try.func19, Try.ntmps19
                  go_wp2_with (first | (go_at_call 53; rw [HU.out]; refine CW.out.mono ?_; rintro e u1 ⟨rfl, hb1⟩; have B1 : Hid (Below U.heap.size U u1) := hb1; obtain ⟨⟨y0, y1, y2, y3, y4, y5, y6, y7, y8⟩, ⟨z0, z1, z2, z3, z4, z5, z6, z7, z8⟩⟩ := FB.out _ B1.out; clear hb1))
                  go_ret
                  exact ⟨rfl, HB.out.trans (B1.out.mono HB.out.size)⟩
                | true =>
                  go_enter Try.func19, Try.ntmps19
                  go_wp2_with (first | (go_at_call 53; rw [HU.out]; refine CW.out.mono ?_; rintro e u1 ⟨rfl, hb1⟩; have B1 : Hid (Below U.heap.size U u1) := hb1; obtain ⟨⟨y0, y1, y2, y3, y4, y5, y6, y7, y8⟩, ⟨z0, z1, z2, z3, z4, z5, z6, z7, z8⟩⟩ := FB.out _ B1.out; clear hb1) | (go_at_call 54; refine (CP.out _ B1.out).mono ?_; rintro e u2 ⟨rfl, hb2⟩; have B2 : Hid (Below U.heap.size U u2) := B1.out.trans (hb2.mono B1.out.size); clear hb2))
                  go_ret
                  exact ⟨rfl, HB.out.trans (B2.out.mono HB.out.size)⟩
              · have b_y : (y == y2) = false := beq_eq_false_iff_ne.2 h_y
                rw [decide_eq_false (fun e => h_y e.2.2.2.2.2.2.1)]
                clear hwr hrm hfw hps hpr hpf hkd hwr2 hrm2 hfw2 hps2 hpr2 hpf2 hkd2 hN hN2 hM hM2 hok hok2 HD hU hbx hbx2
                go_enter Try.func19, Try.ntmps19
                go_wp2
                rw [HU.out]
                go_ret
                exact ⟨rfl, HB.out⟩
            · have b_n : (n == n2) = false := beq_eq_false_iff_ne.2 h_n
              rw [decide_eq_false (fun e => h_n e.2.2.2.2.2.1)]
              clear hwr hrm hfw hps hpr hpf hkd hwr2 hrm2 hfw2 hps2 hpr2 hpf2 hkd2 hN hN2 hM hM2 hok hok2 HD hU hbx hbx2
              go_enter Try.func19, Try.ntmps19
              go_wp2
              rw [HU.out]
              go_ret
              exact ⟨rfl, HB.out⟩
          · have b_t : (t == t2) = false := beq_eq_false_iff_ne.2 h_t
            rw [decide_eq_false (fun e => h_t e.2.2.2.2.1)]
            clear hwr hrm hfw hps hpr hpf hkd hwr2 hrm2 hfw2 hps2 hpr2 hpf2 hkd2 hN hN2 hM hM2 hok hok2 HD hU hbx hbx2
            go_enter Try.func19, Try.ntmps19
            go_wp2
            rw [HU.out]
            go_ret
            exact ⟨rfl, HB.out⟩
        · have b_m : (m == m2) = false := beq_eq_false_iff_ne.2 h_m
          rw [decide_eq_false (fun e => h_m e.2.2.2.1)]
          clear hwr hrm hfw hps hpr hpf hkd hwr2 hrm2 hfw2 hps2 hpr2 hpf2 hkd2 hN hN2 hM hM2 hok hok2 HD hU hbx hbx2
          go_enter Try.func19, Try.ntmps19
          go_wp2
          rw [HU.out]
          go_ret
          exact ⟨rfl, HB.out⟩
      · have b_s : (s == s2) = false := beq_eq_false_iff_ne.2 h_s
        rw [decide_eq_false (fun e => h_s e.2.2.1)]
        clear hwr hrm hfw hps hpr hpf hkd hwr2 hrm2 hfw2 hps2 hpr2 hpf2 hkd2 hN hN2 hM hM2 hok hok2 HD hU hbx hbx2
        go_enter Try.func19, Try.ntmps19
        go_wp2
        rw [HU.out]
        go_ret
        exact ⟨rfl, HB.out⟩
    · have b_id : (id != id2) = true := bne_iff_ne.2 h_id
      rw [decide_eq_false (fun e => h_id e.2.1)]
      clear hwr hrm hfw hps hpr hpf hkd hwr2 hrm2 hfw2 hps2 hpr2 hpf2 hkd2 hN hN2 hM hM2 hok hok2 HD hU hbx hbx2
      go_enter Try.func19, Try.ntmps19
      go_wp2
      rw [HU.out]
      go_ret
      exact ⟨rfl, HB.out⟩
  · have b_kd : (kd != kd2) = true := bne_iff_ne.2 h_kd
    rw [decide_eq_false (fun e => h_kd e.1)]
    clear hwr hrm hfw hps hpr hpf hkd hwr2 hrm2 hfw2 hps2 hpr2 hpf2 hkd2 hN hN2 hM hM2 hok hok2 HD hU hbx hbx2
    go_enter Try.func19, Try.ntmps19
    go_wp2
    rw [HU.out]
    go_ret
    exact ⟨rfl, HB.out⟩
end Go.Proofs.Ytmiafadmcpmjgaa
