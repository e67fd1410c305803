/-
  Records in memory: nine cells, and two lists that lie elsewhere.
  The landed rec: Same.
-/
import Derived.Test.YtcppihpehipelaaRecL4
namespace Go.Proofs.Ytcppihpehipelaa
open Go.RowKit
set_option linter.unusedVariables false

/-- A record in memory: where its lists lie. -/
structure RcM where
  r : Rcd
  a : Option Addr
  c : Nat
  pa : Option Addr
  pc : Nat
def encR (x : RcM) : List Value := [.int .i64 x.r.kd, .int .i64 x.r.id, .int .i64 x.r.s, .int .u8 x.r.m, .int .i64 x.r.t, .int .u8 x.r.n, .slice x.a x.r.l.length x.c, .bool x.r.y, .slice x.pa x.r.ps.length x.pc]
abbrev rcv (x : RcM) : Value := .agg (encR x).toArray
theorem encR_one (x : RcM) : ∀ u ∈ encR x, u.oneCell' = true := by
  intro u hu
  simp [encR] at hu
  rcases hu with rfl | rfl | rfl | rfl | rfl | rfl | rfl | rfl | rfl <;> rfl
/-- Its lists, and what its numbers are. -/
structure RcW (w : World) (x : RcM) : Prop where
  wr : WrtsAt w x.a x.r.l
  room : x.r.l.length ≤ x.c
  few : x.r.l.length ≤ 1000
  ps : IntsAt w x.pa x.r.ps
  proom : x.r.ps.length ≤ x.pc
  pfew : x.r.ps.length ≤ 1000
  kd : -9223372036854775808 ≤ x.r.kd ∧ x.r.kd ≤ 9223372036854775807
  ok : RcdOk x.r
theorem RcW.past {w w' : World} {x : RcM} (h : RcW w x) (hb : Below w.heap.size w w') : RcW w' x := ⟨h.wr.past hb, h.room, h.few, h.ps.past hb, h.proom, h.pfew, h.kd, h.ok⟩
/-- A record's cells in a box. -/
structure RBox (u : World) (b : Nat) (kd id s m t n : Int) (a : Option Addr) (N c : Nat) (y : Bool) (pa : Option Addr) (M pc : Nat) : Prop where
  c0 : u.cell? ⟨b, 0, none⟩ = some (.int .i64 kd)
  c1 : u.cell? ⟨b, 1, none⟩ = some (.int .i64 id)
  c2 : u.cell? ⟨b, 2, none⟩ = some (.int .i64 s)
  c3 : u.cell? ⟨b, 3, none⟩ = some (.int .u8 m)
  c4 : u.cell? ⟨b, 4, none⟩ = some (.int .i64 t)
  c5 : u.cell? ⟨b, 5, none⟩ = some (.int .u8 n)
  c6 : u.cell? ⟨b, 6, none⟩ = some (.slice a N c)
  c7 : u.cell? ⟨b, 7, none⟩ = some (.bool y)
  c8 : u.cell? ⟨b, 8, none⟩ = some (.slice pa M pc)
theorem RBox.made (w : World) (T : TypeId) (kd id s m t n : Int) (a : Option Addr) (N c : Nat) (y : Bool) (pa : Option Addr) (M pc : Nat) : RBox (w.alloc (.cells #[.int .i64 kd, .int .i64 id, .int .i64 s, .int .u8 m, .int .i64 t, .int .u8 n, .slice a N c, .bool y, .slice pa M pc] T)) w.heap.size kd id s m t n a N c y pa M pc := by
  refine ⟨?_, ?_, ?_, ?_, ?_, ?_, ?_, ?_, ?_⟩ <;> (rw [World.cell?_alloc_new]; rfl)
theorem RBox.lt {u : World} {b : Nat} {kd id s m t n : Int} {a : Option Addr} {N c : Nat} {y : Bool} {pa : Option Addr} {M pc : Nat} (h : RBox u b kd id s m t n a N c y pa M pc) : b < u.heap.size := cell_lt h.c0
theorem RBox.kept {u u' : World} {b : Nat} {kd id s m t n : Int} {a : Option Addr} {N c : Nat} {y : Bool} {pa : Option Addr} {M pc : Nat} (h : RBox u b kd id s m t n a N c y pa M pc) (hb : u'.heap[b]? = u.heap[b]?) : RBox u' b kd id s m t n a N c y pa M pc :=
  ⟨(cell_of_block hb 0).1.trans h.c0, (cell_of_block hb 1).1.trans h.c1, (cell_of_block hb 2).1.trans h.c2, (cell_of_block hb 3).1.trans h.c3, (cell_of_block hb 4).1.trans h.c4, (cell_of_block hb 5).1.trans h.c5, (cell_of_block hb 6).1.trans h.c6, (cell_of_block hb 7).1.trans h.c7, (cell_of_block hb 8).1.trans h.c8⟩
theorem RBox.past {u u' : World} {b : Nat} {kd id s m t n : Int} {a : Option Addr} {N c : Nat} {y : Bool} {pa : Option Addr} {M pc : Nat} (h : RBox u b kd id s m t n a N c y pa M pc) (hb : Below u.heap.size u u') : RBox u' b kd id s m t n a N c y pa M pc := h.kept (hb.block b h.lt)
theorem rcd_eq {A B : Rcd} : A = B ↔ A.kd = B.kd ∧ A.id = B.id ∧ A.s = B.s ∧ A.m = B.m ∧ A.t = B.t ∧ A.n = B.n ∧ A.y = B.y ∧ A.l = B.l ∧ A.ps = B.ps := by
  constructor
  · rintro rfl; simp
  · rintro ⟨h1, h2, h3, h4, h5, h6, h7, h8, h9⟩
    cases A; cases B; simp_all
end Go.Proofs.Ytcppihpehipelaa

namespace Go.Proofs.Ytcppihpehipelaa
open Go.RowKit
set_option linter.unusedVariables false

open Classical in
set_option maxHeartbeats 8000000 in
set_option maxRecDepth 8000 in
theorem lsame_any (x x2 : RcM) (w : World) (h : RcW w x) (h2 : RcW w x2) :
    Calls Try.prog 17 #[rcv x, rcv x2] w fun e w' => e = .returned (.bool (decide (x.r = x2.r))) ∧ Below w.heap.size w w' := by
  obtain ⟨⟨kd, id, s, m, t, n, l, y, ps⟩, a, c, pa, pc⟩ := x
  obtain ⟨⟨kd2, id2, s2, m2, t2, n2, l2, y2, ps2⟩, a2, c2, pa2, pc2⟩ := x2
  obtain ⟨hwr, hrm, hfw, hps, hpr, hpf, hkd, hok⟩ := h
  obtain ⟨hwr2, hrm2, hfw2, hps2, hpr2, hpf2, hkd2, hok2⟩ := h2
  simp only at hwr hrm hfw hps hpr hpf hkd hwr2 hrm2 hfw2 hps2 hpr2 hpf2 hkd2
  obtain ⟨N, hN⟩ : ∃ N, l.length = N := ⟨_, rfl⟩
  obtain ⟨N2, hN2⟩ : ∃ N, l2.length = N := ⟨_, rfl⟩
  obtain ⟨M, hM⟩ : ∃ N, ps.length = N := ⟨_, rfl⟩
  obtain ⟨M2, hM2⟩ : ∃ N, ps2.length = N := ⟨_, rfl⟩
  have HD : Hid (decide ((⟨kd, id, s, m, t, n, l, y, ps⟩ : Rcd) = ⟨kd2, id2, s2, m2, t2, n2, l2, y2, ps2⟩) = decide (kd = kd2 ∧ id = id2 ∧ s = s2 ∧ m = m2 ∧ t = t2 ∧ n = n2 ∧ y = y2 ∧ l = l2 ∧ ps = ps2)) := by
    show _ = _
    rw [Bool.eq_iff_iff, decide_eq_true_eq, decide_eq_true_eq, rcd_eq]
  show Calls Try.prog 17 #[.agg #[.int .i64 kd, .int .i64 id, .int .i64 s, .int .u8 m, .int .i64 t, .int .u8 n, .slice a l.length c, .bool y, .slice pa ps.length pc], .agg #[.int .i64 kd2, .int .i64 id2, .int .i64 s2, .int .u8 m2, .int .i64 t2, .int .u8 n2, .slice a2 l2.length c2, .bool y2, .slice pa2 ps2.length pc2]] w fun e w' => e = .returned (.bool (decide ((⟨kd, id, s, m, t, n, l, y, ps⟩ : Rcd) = ⟨kd2, id2, s2, m2, t2, n2, l2, y2, ps2⟩))) ∧ Below w.heap.size w w'
  rw [hN, hN2, hM, hM2, HD.out]
  rw [hN] at hrm hfw
  rw [hN2] at hrm2 hfw2
  rw [hM] at hpr hpf
  rw [hM2] at hpr2 hpf2
  obtain ⟨U, hU⟩ : ∃ U, U = (w.alloc (.cells #[.int .i64 kd, .int .i64 id, .int .i64 s, .int .u8 m, .int .i64 t, .int .u8 n, .slice a N c, .bool y, .slice pa M pc] 37)).alloc (.cells #[.int .i64 kd2, .int .i64 id2, .int .i64 s2, .int .u8 m2, .int .i64 t2, .int .u8 n2, .slice a2 N2 c2, .bool y2, .slice pa2 M2 pc2] 37) := ⟨_, rfl⟩
  have HU : Hid ((w.alloc (.cells #[.int .i64 kd, .int .i64 id, .int .i64 s, .int .u8 m, .int .i64 t, .int .u8 n, .slice a N c, .bool y, .slice pa M pc] 37)).alloc (.cells #[.int .i64 kd2, .int .i64 id2, .int .i64 s2, .int .u8 m2, .int .i64 t2, .int .u8 n2, .slice a2 N2 c2, .bool y2, .slice pa2 M2 pc2] 37) = U) := hU.symm
  have HB : Hid (Below w.heap.size w U) := by rw [hU]; exact ((Below.refl _ _).alloc (Nat.le_refl _) _).alloc (by simp) _
  have hbx : RBox U w.heap.size kd id s m t n a N c y pa M pc := by
    rw [hU]; exact (RBox.made w 37 kd id s m t n a N c y pa M pc).past ((Below.refl _ _).alloc (Nat.le_refl _) _)
  have hbx2 : RBox U (w.heap.size + 1) kd2 id2 s2 m2 t2 n2 a2 N2 c2 y2 pa2 M2 pc2 := by
    rw [hU]
    have := RBox.made (w.alloc (.cells #[.int .i64 kd, .int .i64 id, .int .i64 s, .int .u8 m, .int .i64 t, .int .u8 n, .slice a N c, .bool y, .slice pa M pc] 37)) 37 kd2 id2 s2 m2 t2 n2 a2 N2 c2 y2 pa2 M2 pc2
    rw [World.size_alloc] at this
    exact this
  have FB : Hid (∀ u, Below U.heap.size U u → RBox u w.heap.size kd id s m t n a N c y pa M pc ∧ RBox u (w.heap.size + 1) kd2 id2 s2 m2 t2 n2 a2 N2 c2 y2 pa2 M2 pc2) := fun u hb => ⟨hbx.past hb, hbx2.past hb⟩
  by_cases h_kd : kd = kd2
  · subst h_kd
    have b_kd : (kd != kd) = false := by simp
    by_cases h_id : id = id2
    · subst h_id
      have b_id : (id != id) = false := by simp
      by_cases h_s : s = s2
      · subst h_s
        by_cases h_m : m = m2
        · subst h_m
          by_cases h_t : t = t2
          · subst h_t
            by_cases h_n : n = n2
            · subst h_n
              by_cases h_y : y = y2
              · subst h_y
                have b_y : (y != y) = false := by simp
                have HR : Hid (decide (kd = kd ∧ id = id ∧ s = s ∧ m = m ∧ t = t ∧ n = n ∧ y = y ∧ l = l2 ∧ ps = ps2) = (decide (l = l2) && decide (ps = ps2))) := by show _ = _; rw [Bool.eq_iff_iff]; simp
                rw [HR.out]
                have CW : Hid (Calls Try.prog 46 #[.slice a N c, .slice a2 N2 c2] U fun e w' => e = .returned (.bool (decide (l = l2))) ∧ Below U.heap.size U w') := lequal_any a a2 N N2 c c2 l l2 U hN hN2 hrm hrm2 (by omega) (by omega) (hwr.past HB.out) (hwr2.past HB.out)
                have CP : Hid (∀ u, Below U.heap.size U u → Calls Try.prog 47 #[.slice pa M pc, .slice pa2 M2 pc2] u fun e w' => e = .returned (.bool (decide (ps = ps2))) ∧ Below u.heap.size u w') := fun u hu => iequal_any pa pa2 M M2 pc pc2 ps ps2 u hM hM2 (by omega) (by omega) ((hps.past HB.out).past hu) ((hps2.past HB.out).past hu)
                obtain ⟨R1, hR1⟩ : ∃ R, R = decide (l = l2) := ⟨_, rfl⟩
                obtain ⟨R2, hR2⟩ : ∃ R, R = decide (ps = ps2) := ⟨_, rfl⟩
                rw [← hR1] at CW ⊢
                rw [← hR2] at CP ⊢
                clear hR1 hR2 HR
                clear hwr hrm hfw hps hpr hpf hkd hwr2 hrm2 hfw2 hps2 hpr2 hpf2 hkd2 hN hN2 hM hM2 hok hok2 HD hU hbx hbx2
                cases R1 with
                | false =>
                  go_enter Try.func17, Try.ntmps17
                  go_wp2_with (first | (go_at_call 46; rw [HU.out]; refine CW.out.mono ?_; rintro e u1 ⟨rfl, hb1⟩; have B1 : Hid (Below U.heap.size U u1) := hb1; obtain ⟨⟨y0, y1, y2, y3, y4, y5, y6, y7, y8⟩, ⟨z0, z1, z2, z3, z4, z5, z6, z7, z8⟩⟩ := FB.out _ B1.out; clear hb1))
                  go_ret
                  exact ⟨rfl, HB.out.trans (B1.out.mono HB.out.size)⟩
                | true =>
                  go_enter Try.func17, Try.ntmps17
                  go_wp2_with (first | (go_at_call 46; rw [HU.out]; refine CW.out.mono ?_; rintro e u1 ⟨rfl, hb1⟩; have B1 : Hid (Below U.heap.size U u1) := hb1; obtain ⟨⟨y0, y1, y2, y3, y4, y5, y6, y7, y8⟩, ⟨z0, z1, z2, z3, z4, z5, z6, z7, z8⟩⟩ := FB.out _ B1.out; clear hb1) | (go_at_call 47; refine (CP.out _ B1.out).mono ?_; rintro e u2 ⟨rfl, hb2⟩; have B2 : Hid (Below U.heap.size U u2) := B1.out.trans (hb2.mono B1.out.size); clear hb2))
                  go_ret
                  exact ⟨rfl, HB.out.trans (B2.out.mono HB.out.size)⟩
              · have b_y : (y == y2) = false := beq_eq_false_iff_ne.2 h_y
                rw [decide_eq_false (fun e => h_y e.2.2.2.2.2.2.1)]
                clear hwr hrm hfw hps hpr hpf hkd hwr2 hrm2 hfw2 hps2 hpr2 hpf2 hkd2 hN hN2 hM hM2 hok hok2 HD hU hbx hbx2
                go_enter Try.func17, Try.ntmps17
                go_wp2
                rw [HU.out]
                go_ret
                exact ⟨rfl, HB.out⟩
            · have b_n : (n == n2) = false := beq_eq_false_iff_ne.2 h_n
              rw [decide_eq_false (fun e => h_n e.2.2.2.2.2.1)]
              clear hwr hrm hfw hps hpr hpf hkd hwr2 hrm2 hfw2 hps2 hpr2 hpf2 hkd2 hN hN2 hM hM2 hok hok2 HD hU hbx hbx2
              go_enter Try.func17, Try.ntmps17
              go_wp2
              rw [HU.out]
              go_ret
              exact ⟨rfl, HB.out⟩
          · have b_t : (t == t2) = false := beq_eq_false_iff_ne.2 h_t
            rw [decide_eq_false (fun e => h_t e.2.2.2.2.1)]
            clear hwr hrm hfw hps hpr hpf hkd hwr2 hrm2 hfw2 hps2 hpr2 hpf2 hkd2 hN hN2 hM hM2 hok hok2 HD hU hbx hbx2
            go_enter Try.func17, Try.ntmps17
            go_wp2
            rw [HU.out]
            go_ret
            exact ⟨rfl, HB.out⟩
        · have b_m : (m == m2) = false := beq_eq_false_iff_ne.2 h_m
          rw [decide_eq_false (fun e => h_m e.2.2.2.1)]
          clear hwr hrm hfw hps hpr hpf hkd hwr2 hrm2 hfw2 hps2 hpr2 hpf2 hkd2 hN hN2 hM hM2 hok hok2 HD hU hbx hbx2
          go_enter Try.func17, Try.ntmps17
          go_wp2
          rw [HU.out]
          go_ret
          exact ⟨rfl, HB.out⟩
      · have b_s : (s == s2) = false := beq_eq_false_iff_ne.2 h_s
        rw [decide_eq_false (fun e => h_s e.2.2.1)]
        clear hwr hrm hfw hps hpr hpf hkd hwr2 hrm2 hfw2 hps2 hpr2 hpf2 hkd2 hN hN2 hM hM2 hok hok2 HD hU hbx hbx2
        go_enter Try.func17, Try.ntmps17
        go_wp2
        rw [HU.out]
        go_ret
        exact ⟨rfl, HB.out⟩
    · have b_id : (id != id2) = true := bne_iff_ne.2 h_id
      rw [decide_eq_false (fun e => h_id e.2.1)]
      clear hwr hrm hfw hps hpr hpf hkd hwr2 hrm2 hfw2 hps2 hpr2 hpf2 hkd2 hN hN2 hM hM2 hok hok2 HD hU hbx hbx2
      go_enter Try.func17, Try.ntmps17
      go_wp2
      rw [HU.out]
      go_ret
      exact ⟨rfl, HB.out⟩
  · have b_kd : (kd != kd2) = true := bne_iff_ne.2 h_kd
    rw [decide_eq_false (fun e => h_kd e.1)]
    clear hwr hrm hfw hps hpr hpf hkd hwr2 hrm2 hfw2 hps2 hpr2 hpf2 hkd2 hN hN2 hM hM2 hok hok2 HD hU hbx hbx2
    go_enter Try.func17, Try.ntmps17
    go_wp2
    rw [HU.out]
    go_ret
    exact ⟨rfl, HB.out⟩
end Go.Proofs.Ytcppihpehipelaa

