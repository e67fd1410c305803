/-
  The document's own records: Same.
-/
import Derived.Test.YtcppihpehipelaaAu68
namespace Go.Proofs.Ytcppihpehipelaa
open Go.RowKit
set_option linter.unusedVariables false

open Classical in
set_option maxHeartbeats 8000000 in
set_option maxRecDepth 8000 in
theorem rsame14_any (x x2 : RcM) (w : World) (h : RcW w x) (h2 : RcW w x2) :
    Calls Try.prog 28 #[rcv x, rcv x2] w fun e w' => e = .returned (.bool (decide (x.r = x2.r))) ∧ Below w.heap.size w w' := by
  obtain ⟨⟨kd, id, s, m, t, n, l, y, ps⟩, a, c, pa, pc⟩ := x
  obtain ⟨⟨kd2, id2, s2, m2, t2, n2, l2, y2, ps2⟩, a2, c2, pa2, pc2⟩ := x2
  obtain ⟨hwr, hrm, hfw, hps, hpr, hpf, hkd, hok⟩ := h
  obtain ⟨hwr2, hrm2, hfw2, hps2, hpr2, hpf2, hkd2, hok2⟩ := h2
  simp only at hwr hrm hfw hps hpr hpf hkd hwr2 hrm2 hfw2 hps2 hpr2 hpf2 hkd2
  obtain ⟨N, hN⟩ : ∃ N, l.length = N := ⟨_, rfl⟩
  obtain ⟨N2, hN2⟩ : ∃ N, l2.length = N := ⟨_, rfl⟩
  obtain ⟨M, hM⟩ : ∃ N, ps.length = N := ⟨_, rfl⟩
  obtain ⟨M2, hM2⟩ : ∃ N, ps2.length = N := ⟨_, rfl⟩
  have HD : Hid (decide ((⟨kd, id, s, m, t, n, l, y, ps⟩ : Rcd) = ⟨kd2, id2, s2, m2, t2, n2, l2, y2, ps2⟩) = decide (kd = kd2 ∧ id = id2 ∧ s = s2 ∧ m = m2 ∧ t = t2 ∧ n = n2 ∧ y = y2 ∧ l = l2 ∧ ps = ps2)) := by
    show _ = _
    rw [Bool.eq_iff_iff, decide_eq_true_eq, decide_eq_true_eq, rcd_eq]
  show Calls Try.prog 28 #[.agg #[.int .i64 kd, .int .i64 id, .int .i64 s, .int .u8 m, .int .i64 t, .int .u8 n, .slice a l.length c, .bool y, .slice pa ps.length pc], .agg #[.int .i64 kd2, .int .i64 id2, .int .i64 s2, .int .u8 m2, .int .i64 t2, .int .u8 n2, .slice a2 l2.length c2, .bool y2, .slice pa2 ps2.length pc2]] w fun e w' => e = .returned (.bool (decide ((⟨kd, id, s, m, t, n, l, y, ps⟩ : Rcd) = ⟨kd2, id2, s2, m2, t2, n2, l2, y2, ps2⟩))) ∧ Below w.heap.size w w'
  rw [hN, hN2, hM, hM2, HD.out]
  rw [hN] at hrm hfw
  rw [hN2] at hrm2 hfw2
  rw [hM] at hpr hpf
  rw [hM2] at hpr2 hpf2
  obtain ⟨U, hU⟩ : ∃ U, U = (w.alloc (.cells #[.int .i64 kd, .int .i64 id, .int .i64 s, .int .u8 m, .int .i64 t, .int .u8 n, .slice a N c, .bool y, .slice pa M pc] 56)).alloc (.cells #[.int .i64 kd2, .int .i64 id2, .int .i64 s2, .int .u8 m2, .int .i64 t2, .int .u8 n2, .slice a2 N2 c2, .bool y2, .slice pa2 M2 pc2] 56) := ⟨_, rfl⟩
  have HU : Hid ((w.alloc (.cells #[.int .i64 kd, .int .i64 id, .int .i64 s, .int .u8 m, .int .i64 t, .int .u8 n, .slice a N c, .bool y, .slice pa M pc] 56)).alloc (.cells #[.int .i64 kd2, .int .i64 id2, .int .i64 s2, .int .u8 m2, .int .i64 t2, .int .u8 n2, .slice a2 N2 c2, .bool y2, .slice pa2 M2 pc2] 56) = U) := hU.symm
  have HB : Hid (Below w.heap.size w U) := by rw [hU]; exact ((Below.refl _ _).alloc (Nat.le_refl _) _).alloc (by simp) _
  have hbx : RBox U w.heap.size kd id s m t n a N c y pa M pc := by
    rw [hU]; exact (RBox.made w 56 kd id s m t n a N c y pa M pc).past ((Below.refl _ _).alloc (Nat.le_refl _) _)
  have hbx2 : RBox U (w.heap.size + 1) kd2 id2 s2 m2 t2 n2 a2 N2 c2 y2 pa2 M2 pc2 := by
    rw [hU]
    have := RBox.made (w.alloc (.cells #[.int .i64 kd, .int .i64 id, .int .i64 s, .int .u8 m, .int .i64 t, .int .u8 n, .slice a N c, .bool y, .slice pa M pc] 56)) 56 kd2 id2 s2 m2 t2 n2 a2 N2 c2 y2 pa2 M2 pc2
    rw [World.size_alloc] at this
    exact this
  have FB : Hid (∀ u, Below U.heap.size U u → RBox u w.heap.size kd id s m t n a N c y pa M pc ∧ RBox u (w.heap.size + 1) kd2 id2 s2 m2 t2 n2 a2 N2 c2 y2 pa2 M2 pc2) := fun u hb => ⟨hbx.past hb, hbx2.past hb⟩
  by_cases h_kd : kd = kd2
  · subst h_kd
    have b_kd : (kd != kd) = false := by simp
    by_cases h_id : id = id2
    · subst h_id
      have b_id : (id != id) = false := by simp
      by_cases h_s : s = s2
      · subst h_s
        by_cases h_m : m = m2
        · subst h_m
          by_cases h_t : t = t2
          · subst h_t
            by_cases h_n : n = n2
            · subst h_n
              have HR : Hid (decide (kd = kd ∧ id = id ∧ s = s ∧ m = m ∧ t = t ∧ n = n ∧ y = y2 ∧ l = l2 ∧ ps = ps2) = (decide (l = l2) && decide (y = y2) && decide (ps = ps2))) := by show _ = _; rw [Bool.eq_iff_iff]; simp; constructor <;> (intro h; simp [h])
              rw [HR.out]
              have CW : Hid (Calls Try.prog 55 #[.slice a N c, .slice a2 N2 c2] U fun e w' => e = .returned (.bool (decide (l = l2))) ∧ Below U.heap.size U w') := rwrites_any a a2 N N2 c c2 l l2 U hN hN2 hrm hrm2 (by omega) (by omega) (hwr.past HB.out) (hwr2.past HB.out)
              obtain ⟨R1, hR1⟩ : ∃ R, R = decide (l = l2) := ⟨_, rfl⟩
              rw [← hR1] at CW ⊢
              clear hR1 HR
              cases R1 with
              | false =>
                clear hwr hrm hfw hps hpr hpf hkd hwr2 hrm2 hfw2 hps2 hpr2 hpf2 hkd2 hN hN2 hM hM2 hok hok2 HD hU hbx hbx2
                go_enter Try.func28, Try.ntmps28
                go_wp2_with (first | (go_at_call 55; rw [HU.out]; refine CW.out.mono ?_; rintro e u1 ⟨rfl, hb1⟩; have B1 : Hid (Below U.heap.size U u1) := hb1; obtain ⟨⟨y0, y1, y2_, y3, y4, y5, y6, y7, y8⟩, ⟨z0, z1, z2, z3, z4, z5, z6, z7, z8⟩⟩ := FB.out _ B1.out; clear hb1))
                go_ret
                exact ⟨rfl, HB.out.trans (B1.out.mono HB.out.size)⟩
              | true =>
                by_cases h_y : y = y2
                · subst h_y
                  rw [decide_eq_true (rfl : y = y), Bool.true_and, Bool.true_and]
                  by_cases hmm : M = M2
                  · subst hmm
                    have HL : Hid (ps.length = M) := hM
                    have HL2 : Hid (ps2.length = M) := hM2
                    have HA : Hid (∀ u, Below U.heap.size U u → IntsAt u pa ps ∧ IntsAt u pa2 ps2) := fun u hu => ⟨(hps.past HB.out).past hu, (hps2.past HB.out).past hu⟩
                    have hm9 : M ≤ 1000 := hpf
                    obtain ⟨R, hR⟩ : ∃ R, R = decide (ps = ps2) := ⟨_, rfl⟩
                    have HR : Hid (R = decide (ps = ps2)) := hR
                    rw [← hR]
                    clear hR
                    clear hwr hrm hfw hps hpr hpf hkd hwr2 hrm2 hfw2 hps2 hpr2 hpf2 hkd2 hN hN2 hM hM2 hok hok2 HD hU hbx hbx2
                    go_enter Try.func28, Try.ntmps28
                    go_wp2_with (first | (go_at_call 55; rw [HU.out]; refine CW.out.mono ?_; rintro e u1 ⟨rfl, hb1⟩; have B1 : Hid (Below U.heap.size U u1) := hb1; obtain ⟨⟨y0, y1, y2_, y3, y4, y5, y6, y7, y8⟩, ⟨z0, z1, z2, z3, z4, z5, z6, z7, z8⟩⟩ := FB.out _ B1.out; clear hb1))
                    go_loopw [5] (fun iv wr => ∃ i : Nat, iv = .int .i64 i ∧ i ≤ M ∧ Hid (Below U.heap.size U wr ∧ ∀ j, j < i → ps[j]? = ps2[j]?)) (fun iv _ => M - (intOf iv).toNat)
                    case atStart => exact ⟨0, rfl, Nat.zero_le _, B1.out, fun j hj => by omega⟩
                    case round =>
                      obtain ⟨i, rfl, hi, HW⟩ := hrel
                      clear y0 y1 y2_ y3 y4 y5 y6 y7 y8 z0 z1 z2 z3 z4 z5 z6 z7 z8
                      obtain ⟨⟨y0, y1, y2_, y3, y4, y5, y6, y7, y8⟩, ⟨z0, z1, z2, z3, z4, z5, z6, z7, z8⟩⟩ := FB.out _ HW.out.1
                      have hi0 : (0 : Int) ≤ (i : Int) := by omega
                      by_cases hlt : i < M
                      · have bl : (i : Int) < (M : Int) := by omega
                        obtain ⟨g, o, x, rfl, hx, hvx⟩ := (HA.out _ HW.out.1).1.at (by rw [HL.out]; exact hlt)
                        obtain ⟨g', o', x', rfl, hx', hvx'⟩ := (HA.out _ HW.out.1).2.at (by rw [HL2.out]; exact hlt)
                        by_cases hvv : x = x'
                        · subst hvv
                          have HN1 : Hid (∀ j, j < i + 1 → ps[j]? = ps2[j]?) := same_next HW.out.2 hvx hvx'
                          clear hvx hvx'
                          go_wp2
                          go_quiet (fail)
                          go_wp2
                          go_roundw
                          case rel => exact ⟨i + 1, by go_num, by omega, below_dN HW.out.1 _, HN1.out⟩
                          case measure => simp [intOf]; omega
                        · have E : Hid (R = false) := by rw [HR.out]; exact decide_eq_false (lists_ne hvx hvx' hvv)
                          clear hvx hvx'
                          have hb : (x != x') = true := bne_iff_ne.2 hvv
                          go_wp2
                          go_quiet (fail)
                          go_wp2
                          go_ret
                          exact ⟨by rw [E.out]; rfl, HB.out.trans ((below_dN HW.out.1 _).mono HB.out.size)⟩
                      · have bl : ¬ (i : Int) < (M : Int) := by omega
                        obtain rfl : i = M := by omega
                        have E : Hid (R = true) := by rw [HR.out]; exact decide_eq_true (lists_eq HL.out HL2.out HW.out.2)
                        go_wp2
                        go_ret
                        exact ⟨by rw [E.out]; rfl, HB.out.trans (HW.out.1.mono HB.out.size)⟩
                  · have bm : (((M : Nat) : Int) != ((M2 : Nat) : Int)) = true := bne_iff_ne.2 (by omega)
                    rw [decide_eq_false (fun e => hmm (by rw [← hM, e, hM2]))]
                    clear hwr hrm hfw hps hpr hpf hkd hwr2 hrm2 hfw2 hps2 hpr2 hpf2 hkd2 hN hN2 hM hM2 hok hok2 HD hU hbx hbx2
                    go_enter Try.func28, Try.ntmps28
                    go_wp2_with (first | (go_at_call 55; rw [HU.out]; refine CW.out.mono ?_; rintro e u1 ⟨rfl, hb1⟩; have B1 : Hid (Below U.heap.size U u1) := hb1; obtain ⟨⟨y0, y1, y2_, y3, y4, y5, y6, y7, y8⟩, ⟨z0, z1, z2, z3, z4, z5, z6, z7, z8⟩⟩ := FB.out _ B1.out; clear hb1))
                    go_ret
                    exact ⟨rfl, HB.out.trans (B1.out.mono HB.out.size)⟩
                · have b_y : (y == y2) = false := beq_eq_false_iff_ne.2 h_y
                  rw [decide_eq_false h_y]
                  clear hwr hrm hfw hps hpr hpf hkd hwr2 hrm2 hfw2 hps2 hpr2 hpf2 hkd2 hN hN2 hM hM2 hok hok2 HD hU hbx hbx2
                  go_enter Try.func28, Try.ntmps28
                  go_wp2_with (first | (go_at_call 55; rw [HU.out]; refine CW.out.mono ?_; rintro e u1 ⟨rfl, hb1⟩; have B1 : Hid (Below U.heap.size U u1) := hb1; obtain ⟨⟨y0, y1, y2_, y3, y4, y5, y6, y7, y8⟩, ⟨z0, z1, z2, z3, z4, z5, z6, z7, z8⟩⟩ := FB.out _ B1.out; clear hb1))
                  go_ret
                  exact ⟨rfl, HB.out.trans (B1.out.mono HB.out.size)⟩
            · have b_n : (n == n2) = false := beq_eq_false_iff_ne.2 h_n
              rw [decide_eq_false (fun e => h_n e.2.2.2.2.2.1)]
              clear hwr hrm hfw hps hpr hpf hkd hwr2 hrm2 hfw2 hps2 hpr2 hpf2 hkd2 hN hN2 hM hM2 hok hok2 HD hU hbx hbx2
              go_enter Try.func28, Try.ntmps28
              go_wp2
              rw [HU.out]
              go_ret
              exact ⟨rfl, HB.out⟩
          · have b_t : (t == t2) = false := beq_eq_false_iff_ne.2 h_t
            rw [decide_eq_false (fun e => h_t e.2.2.2.2.1)]
            clear hwr hrm hfw hps hpr hpf hkd hwr2 hrm2 hfw2 hps2 hpr2 hpf2 hkd2 hN hN2 hM hM2 hok hok2 HD hU hbx hbx2
            go_enter Try.func28, Try.ntmps28
            go_wp2
            rw [HU.out]
            go_ret
            exact ⟨rfl, HB.out⟩
        · have b_m : (m == m2) = false := beq_eq_false_iff_ne.2 h_m
          rw [decide_eq_false (fun e => h_m e.2.2.2.1)]
          clear hwr hrm hfw hps hpr hpf hkd hwr2 hrm2 hfw2 hps2 hpr2 hpf2 hkd2 hN hN2 hM hM2 hok hok2 HD hU hbx hbx2
          go_enter Try.func28, Try.ntmps28
          go_wp2
          rw [HU.out]
          go_ret
          exact ⟨rfl, HB.out⟩
      · have b_s : (s == s2) = false := beq_eq_false_iff_ne.2 h_s
        rw [decide_eq_false (fun e => h_s e.2.2.1)]
        clear hwr hrm hfw hps hpr hpf hkd hwr2 hrm2 hfw2 hps2 hpr2 hpf2 hkd2 hN hN2 hM hM2 hok hok2 HD hU hbx hbx2
        go_enter Try.func28, Try.ntmps28
        go_wp2
        rw [HU.out]
        go_ret
        exact ⟨rfl, HB.out⟩
    · have b_id : (id != id2) = true := bne_iff_ne.2 h_id
      rw [decide_eq_false (fun e => h_id e.2.1)]
      clear hwr hrm hfw hps hpr hpf hkd hwr2 hrm2 hfw2 hps2 hpr2 hpf2 hkd2 hN hN2 hM hM2 hok hok2 HD hU hbx hbx2
      go_enter Try.func28, Try.ntmps28
      go_wp2
      rw [HU.out]
      go_ret
      exact ⟨rfl, HB.out⟩
  · have b_kd : (kd != kd2) = true := bne_iff_ne.2 h_kd
    rw [decide_eq_false (fun e => h_kd e.1)]
    clear hwr hrm hfw hps hpr hpf hkd hwr2 hrm2 hfw2 hps2 hpr2 hpf2 hkd2 hN hN2 hM hM2 hok hok2 HD hU hbx hbx2
    go_enter Try.func28, Try.ntmps28
    go_wp2
    rw [HU.out]
    go_ret
    exact ⟨rfl, HB.out⟩
end Go.Proofs.Ytcppihpehipelaa
