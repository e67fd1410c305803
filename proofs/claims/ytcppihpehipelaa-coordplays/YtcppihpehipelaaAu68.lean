/-
  Records in memory: nine cells, and two lists that lie elsewhere.
  The landed rec: Same.
  The landed rec: only.
-/
import Derived.Test.YtcppihpehipelaaRecL4
namespace Go.Proofs.Ytcppihpehipelaa
open Go.RowKit
set_option linter.unusedVariables false

/-- A record in memory: where its lists lie. -/
structure RcM where
  r : Rcd
  a : Option Addr
  c : Nat
  pa : Option Addr
  pc : Nat
def encR (x : RcM) : List Value := [.int .i64 x.r.kd, .int .i64 x.r.id, .int .i64 x.r.s, .int .u8 x.r.m, .int .i64 x.r.t, .int .u8 x.r.n, .slice x.a x.r.l.length x.c, .bool x.r.y, .slice x.pa x.r.ps.length x.pc]
abbrev rcv (x : RcM) : Value := .agg (encR x).toArray
theorem encR_one (x : RcM) : ∀ u ∈ encR x, u.oneCell' = true := by
  intro u hu
  simp [encR] at hu
  rcases hu with rfl | rfl | rfl | rfl | rfl | rfl | rfl | rfl | rfl <;> rfl
/-- Its lists, and what its numbers are. -/
structure RcW (w : World) (x : RcM) : Prop where
  wr : WrtsAt w x.a x.r.l
  room : x.r.l.length ≤ x.c
  few : x.r.l.length ≤ 1000
  ps : IntsAt w x.pa x.r.ps
  proom : x.r.ps.length ≤ x.pc
  pfew : x.r.ps.length ≤ 1000
  kd : -9223372036854775808 ≤ x.r.kd ∧ x.r.kd ≤ 9223372036854775807
  ok : RcdOk x.r
theorem RcW.past {w w' : World} {x : RcM} (h : RcW w x) (hb : Below w.heap.size w w') : RcW w' x := ⟨h.wr.past hb, h.room, h.few, h.ps.past hb, h.proom, h.pfew, h.kd, h.ok⟩
/-- A record's cells in a box. -/
structure RBox (u : World) (b : Nat) (kd id s m t n : Int) (a : Option Addr) (N c : Nat) (y : Bool) (pa : Option Addr) (M pc : Nat) : Prop where
  c0 : u.cell? ⟨b, 0, none⟩ = some (.int .i64 kd)
  c1 : u.cell? ⟨b, 1, none⟩ = some (.int .i64 id)
  c2 : u.cell? ⟨b, 2, none⟩ = some (.int .i64 s)
  c3 : u.cell? ⟨b, 3, none⟩ = some (.int .u8 m)
  c4 : u.cell? ⟨b, 4, none⟩ = some (.int .i64 t)
  c5 : u.cell? ⟨b, 5, none⟩ = some (.int .u8 n)
  c6 : u.cell? ⟨b, 6, none⟩ = some (.slice a N c)
  c7 : u.cell? ⟨b, 7, none⟩ = some (.bool y)
  c8 : u.cell? ⟨b, 8, none⟩ = some (.slice pa M pc)
theorem RBox.made (w : World) (T : TypeId) (kd id s m t n : Int) (a : Option Addr) (N c : Nat) (y : Bool) (pa : Option Addr) (M pc : Nat) : RBox (w.alloc (.cells #[.int .i64 kd, .int .i64 id, .int .i64 s, .int .u8 m, .int .i64 t, .int .u8 n, .slice a N c, .bool y, .slice pa M pc] T)) w.heap.size kd id s m t n a N c y pa M pc := by
  refine ⟨?_, ?_, ?_, ?_, ?_, ?_, ?_, ?_, ?_⟩ <;> (rw [World.cell?_alloc_new]; rfl)
theorem RBox.lt {u : World} {b : Nat} {kd id s m t n : Int} {a : Option Addr} {N c : Nat} {y : Bool} {pa : Option Addr} {M pc : Nat} (h : RBox u b kd id s m t n a N c y pa M pc) : b < u.heap.size := cell_lt h.c0
theorem RBox.kept {u u' : World} {b : Nat} {kd id s m t n : Int} {a : Option Addr} {N c : Nat} {y : Bool} {pa : Option Addr} {M pc : Nat} (h : RBox u b kd id s m t n a N c y pa M pc) (hb : u'.heap[b]? = u.heap[b]?) : RBox u' b kd id s m t n a N c y pa M pc :=
  ⟨(cell_of_block hb 0).1.trans h.c0, (cell_of_block hb 1).1.trans h.c1, (cell_of_block hb 2).1.trans h.c2, (cell_of_block hb 3).1.trans h.c3, (cell_of_block hb 4).1.trans h.c4, (cell_of_block hb 5).1.trans h.c5, (cell_of_block hb 6).1.trans h.c6, (cell_of_block hb 7).1.trans h.c7, (cell_of_block hb 8).1.trans h.c8⟩
theorem RBox.past {u u' : World} {b : Nat} {kd id s m t n : Int} {a : Option Addr} {N c : Nat} {y : Bool} {pa : Option Addr} {M pc : Nat} (h : RBox u b kd id s m t n a N c y pa M pc) (hb : Below u.heap.size u u') : RBox u' b kd id s m t n a N c y pa M pc := h.kept (hb.block b h.lt)
theorem rcd_eq {A B : Rcd} : A = B ↔ A.kd = B.kd ∧ A.id = B.id ∧ A.s = B.s ∧ A.m = B.m ∧ A.t = B.t ∧ A.n = B.n ∧ A.y = B.y ∧ A.l = B.l ∧ A.ps = B.ps := by
  constructor
  · rintro rfl; simp
  · rintro ⟨h1, h2, h3, h4, h5, h6, h7, h8, h9⟩
    cases A; cases B; simp_all
end Go.Proofs.Ytcppihpehipelaa

namespace Go.Proofs.Ytcppihpehipelaa
open Go.RowKit
set_option linter.unusedVariables false

open Classical in
set_option maxHeartbeats 8000000 in
set_option maxRecDepth 8000 in
theorem lsame_any (x x2 : RcM) (w : World) (h : RcW w x) (h2 : RcW w x2) :
    Calls Try.prog 17 #[rcv x, rcv x2] w fun e w' => e = .returned (.bool (decide (x.r = x2.r))) ∧ Below w.heap.size w w' := by
  obtain ⟨⟨kd, id, s, m, t, n, l, y, ps⟩, a, c, pa, pc⟩ := x
  obtain ⟨⟨kd2, id2, s2, m2, t2, n2, l2, y2, ps2⟩, a2, c2, pa2, pc2⟩ := x2
  obtain ⟨hwr, hrm, hfw, hps, hpr, hpf, hkd, hok⟩ := h
  obtain ⟨hwr2, hrm2, hfw2, hps2, hpr2, hpf2, hkd2, hok2⟩ := h2
  simp only at hwr hrm hfw hps hpr hpf hkd hwr2 hrm2 hfw2 hps2 hpr2 hpf2 hkd2
  obtain ⟨N, hN⟩ : ∃ N, l.length = N := ⟨_, rfl⟩
  obtain ⟨N2, hN2⟩ : ∃ N, l2.length = N := ⟨_, rfl⟩
  obtain ⟨M, hM⟩ : ∃ N, ps.length = N := ⟨_, rfl⟩
  obtain ⟨M2, hM2⟩ : ∃ N, ps2.length = N := ⟨_, rfl⟩
  have HD : Hid (decide ((⟨kd, id, s, m, t, n, l, y, ps⟩ : Rcd) = ⟨kd2, id2, s2, m2, t2, n2, l2, y2, ps2⟩) = decide (kd = kd2 ∧ id = id2 ∧ s = s2 ∧ m = m2 ∧ t = t2 ∧ n = n2 ∧ y = y2 ∧ l = l2 ∧ ps = ps2)) := by
    show _ = _
    rw [Bool.eq_iff_iff, decide_eq_true_eq, decide_eq_true_eq, rcd_eq]
  show Calls Try.prog 17 #[.agg #[.int .i64 kd, .int .i64 id, .int .i64 s, .int .u8 m, .int .i64 t, .int .u8 n, .slice a l.length c, .bool y, .slice pa ps.length pc], .agg #[.int .i64 kd2, .int .i64 id2, .int .i64 s2, .int .u8 m2, .int .i64 t2, .int .u8 n2, .slice a2 l2.length c2, .bool y2, .slice pa2 ps2.length pc2]] w fun e w' => e = .returned (.bool (decide ((⟨kd, id, s, m, t, n, l, y, ps⟩ : Rcd) = ⟨kd2, id2, s2, m2, t2, n2, l2, y2, ps2⟩))) ∧ Below w.heap.size w w'
  rw [hN, hN2, hM, hM2, HD.out]
  rw [hN] at hrm hfw
  rw [hN2] at hrm2 hfw2
  rw [hM] at hpr hpf
  rw [hM2] at hpr2 hpf2
  obtain ⟨U, hU⟩ : ∃ U, U = (w.alloc (.cells #[.int .i64 kd, .int .i64 id, .int .i64 s, .int .u8 m, .int .i64 t, .int .u8 n, .slice a N c, .bool y, .slice pa M pc] 37)).alloc (.cells #[.int .i64 kd2, .int .i64 id2, .int .i64 s2, .int .u8 m2, .int .i64 t2, .int .u8 n2, .slice a2 N2 c2, .bool y2, .slice pa2 M2 pc2] 37) := ⟨_, rfl⟩
  have HU : Hid ((w.alloc (.cells #[.int .i64 kd, .int .i64 id, .int .i64 s, .int .u8 m, .int .i64 t, .int .u8 n, .slice a N c, .bool y, .slice pa M pc] 37)).alloc (.cells #[.int .i64 kd2, .int .i64 id2, .int .i64 s2, .int .u8 m2, .int .i64 t2, .int .u8 n2, .slice a2 N2 c2, .bool y2, .slice pa2 M2 pc2] 37) = U) := hU.symm
  have HB : Hid (Below w.heap.size w U) := by rw [hU]; exact ((Below.refl _ _).alloc (Nat.le_refl _) _).alloc (by simp) _
  have hbx : RBox U w.heap.size kd id s m t n a N c y pa M pc := by
    rw [hU]; exact (RBox.made w 37 kd id s m t n a N c y pa M pc).past ((Below.refl _ _).alloc (Nat.le_refl _) _)
  have hbx2 : RBox U (w.heap.size + 1) kd2 id2 s2 m2 t2 n2 a2 N2 c2 y2 pa2 M2 pc2 := by
    rw [hU]
    have := RBox.made (w.alloc (.cells #[.int .i64 kd, .int .i64 id, .int .i64 s, .int .u8 m, .int .i64 t, .int .u8 n, .slice a N c, .bool y, .slice pa M pc] 37)) 37 kd2 id2 s2 m2 t2 n2 a2 N2 c2 y2 pa2 M2 pc2
    rw [World.size_alloc] at this
    exact this
  have FB : Hid (∀ u, Below U.heap.size U u → RBox u w.heap.size kd id s m t n a N c y pa M pc ∧ RBox u (w.heap.size + 1) kd2 id2 s2 m2 t2 n2 a2 N2 c2 y2 pa2 M2 pc2) := fun u hb => ⟨hbx.past hb, hbx2.past hb⟩
  by_cases h_kd : kd = kd2
  · subst h_kd
    have b_kd : (kd != kd) = false := by simp
    by_cases h_id : id = id2
    · subst h_id
      have b_id : (id != id) = false := by simp
      by_cases h_s : s = s2
      · subst h_s
        by_cases h_m : m = m2
        · subst h_m
          by_cases h_t : t = t2
          · subst h_t
            by_cases h_n : n = n2
            · subst h_n
              by_cases h_y : y = y2
              · subst h_y
                have b_y : (y != y) = false := by simp
                have HR : Hid (decide (kd = kd ∧ id = id ∧ s = s ∧ m = m ∧ t = t ∧ n = n ∧ y = y ∧ l = l2 ∧ ps = ps2) = (decide (l = l2) && decide (ps = ps2))) := by show _ = _; rw [Bool.eq_iff_iff]; simp
                rw [HR.out]
                have CW : Hid (Calls Try.prog 46 #[.slice a N c, .slice a2 N2 c2] U fun e w' => e = .returned (.bool (decide (l = l2))) ∧ Below U.heap.size U w') := lequal_any a a2 N N2 c c2 l l2 U hN hN2 hrm hrm2 (by omega) (by omega) (hwr.past HB.out) (hwr2.past HB.out)
                have CP : Hid (∀ u, Below U.heap.size U u → Calls Try.prog 47 #[.slice pa M pc, .slice pa2 M2 pc2] u fun e w' => e = .returned (.bool (decide (ps = ps2))) ∧ Below u.heap.size u w') := fun u hu => iequal_any pa pa2 M M2 pc pc2 ps ps2 u hM hM2 (by omega) (by omega) ((hps.past HB.out).past hu) ((hps2.past HB.out).past hu)
                obtain ⟨R1, hR1⟩ : ∃ R, R = decide (l = l2) := ⟨_, rfl⟩
                obtain ⟨R2, hR2⟩ : ∃ R, R = decide (ps = ps2) := ⟨_, rfl⟩
                rw [← hR1] at CW ⊢
                rw [← hR2] at CP ⊢
                clear hR1 hR2 HR
                clear hwr hrm hfw hps hpr hpf hkd hwr2 hrm2 hfw2 hps2 hpr2 hpf2 hkd2 hN hN2 hM hM2 hok hok2 HD hU hbx hbx2
                cases R1 with
                | false =>
                  go_enter Try.func17, Try.ntmps17
                  go_wp2_with (first | (go_at_call 46; rw [HU.out]; refine CW.out.mono ?_; rintro e u1 ⟨rfl, hb1⟩; have B1 : Hid (Below U.heap.size U u1) := hb1; obtain ⟨⟨y0, y1, y2, y3, y4, y5, y6, y7, y8⟩, ⟨z0, z1, z2, z3, z4, z5, z6, z7, z8⟩⟩ := FB.out _ B1.out; clear hb1))
                  go_ret
                  exact ⟨rfl, HB.out.trans (B1.out.mono HB.out.size)⟩
                | true =>
                  go_enter Try.func17, Try.ntmps17
                  go_wp2_with (first | (go_at_call 46; rw [HU.out]; refine CW.out.mono ?_; rintro e u1 ⟨rfl, hb1⟩; have B1 : Hid (Below U.heap.size U u1) := hb1; obtain ⟨⟨y0, y1, y2, y3, y4, y5, y6, y7, y8⟩, ⟨z0, z1, z2, z3, z4, z5, z6, z7, z8⟩⟩ := FB.out _ B1.out; clear hb1) | (go_at_call 47; refine (CP.out _ B1.out).mono ?_; rintro e u2 ⟨rfl, hb2⟩; have B2 : Hid (Below U.heap.size U u2) := B1.out.trans (hb2.mono B1.out.size); clear hb2))
                  go_ret
                  exact ⟨rfl, HB.out.trans (B2.out.mono HB.out.size)⟩
              · have b_y : (y == y2) = false := beq_eq_false_iff_ne.2 h_y
                rw [decide_eq_false (fun e => h_y e.2.2.2.2.2.2.1)]
                clear hwr hrm hfw hps hpr hpf hkd hwr2 hrm2 hfw2 hps2 hpr2 hpf2 hkd2 hN hN2 hM hM2 hok hok2 HD hU hbx hbx2
                go_enter Try.func17, Try.ntmps17
                go_wp2
                rw [HU.out]
                go_ret
                exact ⟨rfl, HB.out⟩
            · have b_n : (n == n2) = false := beq_eq_false_iff_ne.2 h_n
              rw [decide_eq_false (fun e => h_n e.2.2.2.2.2.1)]
              clear hwr hrm hfw hps hpr hpf hkd hwr2 hrm2 hfw2 hps2 hpr2 hpf2 hkd2 hN hN2 hM hM2 hok hok2 HD hU hbx hbx2
              go_enter Try.func17, Try.ntmps17
              go_wp2
              rw [HU.out]
              go_ret
              exact ⟨rfl, HB.out⟩
          · have b_t : (t == t2) = false := beq_eq_false_iff_ne.2 h_t
            rw [decide_eq_false (fun e => h_t e.2.2.2.2.1)]
            clear hwr hrm hfw hps hpr hpf hkd hwr2 hrm2 hfw2 hps2 hpr2 hpf2 hkd2 hN hN2 hM hM2 hok hok2 HD hU hbx hbx2
            go_enter Try.func17, Try.ntmps17
            go_wp2
            rw [HU.out]
            go_ret
            exact ⟨rfl, HB.out⟩
        · have b_m : (m == m2) = false := beq_eq_false_iff_ne.2 h_m
          rw [decide_eq_false (fun e => h_m e.2.2.2.1)]
          clear hwr hrm hfw hps hpr hpf hkd hwr2 hrm2 hfw2 hps2 hpr2 hpf2 hkd2 hN hN2 hM hM2 hok hok2 HD hU hbx hbx2
          go_enter Try.func17, Try.ntmps17
          go_wp2
          rw [HU.out]
          go_ret
          exact ⟨rfl, HB.out⟩
      · have b_s : (s == s2) = false := beq_eq_false_iff_ne.2 h_s
        rw [decide_eq_false (fun e => h_s e.2.2.1)]
        clear hwr hrm hfw hps hpr hpf hkd hwr2 hrm2 hfw2 hps2 hpr2 hpf2 hkd2 hN hN2 hM hM2 hok hok2 HD hU hbx hbx2
        go_enter Try.func17, Try.ntmps17
        go_wp2
        rw [HU.out]
        go_ret
        exact ⟨rfl, HB.out⟩
    · have b_id : (id != id2) = true := bne_iff_ne.2 h_id
      rw [decide_eq_false (fun e => h_id e.2.1)]
      clear hwr hrm hfw hps hpr hpf hkd hwr2 hrm2 hfw2 hps2 hpr2 hpf2 hkd2 hN hN2 hM hM2 hok hok2 HD hU hbx hbx2
      go_enter Try.func17, Try.ntmps17
      go_wp2
      rw [HU.out]
      go_ret
      exact ⟨rfl, HB.out⟩
  · have b_kd : (kd != kd2) = true := bne_iff_ne.2 h_kd
    rw [decide_eq_false (fun e => h_kd e.1)]
    clear hwr hrm hfw hps hpr hpf hkd hwr2 hrm2 hfw2 hps2 hpr2 hpf2 hkd2 hN hN2 hM hM2 hok hok2 HD hU hbx hbx2
    go_enter Try.func17, Try.ntmps17
    go_wp2
    rw [HU.out]
    go_ret
    exact ⟨rfl, HB.out⟩
end Go.Proofs.Ytcppihpehipelaa

namespace Go.Proofs.Ytcppihpehipelaa
open Go.RowKit
set_option linter.unusedVariables false

/-- Nothing but what a record's kind has. -/
def onlyM (x : RcM) : RcM :=
  if x.r.kd = 1 then ⟨⟨x.r.kd, x.r.id, x.r.s, x.r.m, x.r.t, x.r.n, x.r.l, false, []⟩, x.a, x.c, none, 0⟩
  else if x.r.kd = 2 then ⟨⟨x.r.kd, x.r.id, 0, 0, x.r.t, x.r.n, [], false, []⟩, none, 0, none, 0⟩
  else if x.r.kd = 3 then ⟨⟨x.r.kd, x.r.id, 0, 0, 0, 0, [], false, []⟩, none, 0, none, 0⟩
  else if x.r.kd = 4 then (if x.r.y = false then ⟨⟨x.r.kd, x.r.id, 0, 0, 0, 0, [], false, x.r.ps⟩, none, 0, x.pa, x.pc⟩ else ⟨⟨x.r.kd, x.r.id, 0, 0, x.r.t, x.r.n, [], true, x.r.ps⟩, none, 0, x.pa, x.pc⟩)
  else if x.r.kd = 5 then ⟨⟨x.r.kd, 0, 0, 0, x.r.t, 0, [], false, []⟩, none, 0, none, 0⟩
  else ⟨⟨0, 0, 0, 0, 0, 0, [], false, []⟩, none, 0, none, 0⟩
theorem WrtsAt.none (w : World) (a : Option Addr) : WrtsAt w a [] := ⟨.inl rfl, fun W hW => by simp at hW⟩
theorem IntsAt.none (w : World) (a : Option Addr) : IntsAt w a [] := ⟨.inl rfl, fun W hW => by simp at hW⟩
theorem RcW.only {w : World} {x : RcM} (h : RcW w x) : RcW w (onlyM x) := by
  obtain ⟨⟨kd, id, s, m, t, n, l, y, ps⟩, a, c, pa, pc⟩ := x
  obtain ⟨hwr, hrm, hfw, hps, hpr, hpf, hkd, ⟨o1, o2, o3, o4, o5, o6, o7, o8⟩⟩ := h
  simp only at *
  unfold onlyM
  simp only
  by_cases k1 : kd = 1
  · rw [if_pos k1]
    exact ⟨hwr, hrm, hfw, IntsAt.none _ _, Nat.zero_le _, Nat.zero_le _, hkd, ⟨o1, o2, o3, o4, o5, o6, o7, o8⟩⟩
  rw [if_neg k1]
  by_cases k2 : kd = 2
  · rw [if_pos k2]
    exact ⟨WrtsAt.none _ _, Nat.zero_le _, Nat.zero_le _, IntsAt.none _ _, Nat.zero_le _, Nat.zero_le _, hkd, ⟨o1, o2, by simp, by simp, o5, o6, by simp, by simp⟩⟩
  rw [if_neg k2]
  by_cases k3 : kd = 3
  · rw [if_pos k3]
    exact ⟨WrtsAt.none _ _, Nat.zero_le _, Nat.zero_le _, IntsAt.none _ _, Nat.zero_le _, Nat.zero_le _, hkd, ⟨o1, o2, by simp, by simp, by simp, by simp, by simp, by simp⟩⟩
  rw [if_neg k3]
  by_cases k4 : kd = 4
  · rw [if_pos k4]
    by_cases hy : y = false
    · rw [if_pos hy]
      exact ⟨WrtsAt.none _ _, Nat.zero_le _, Nat.zero_le _, hps, hpr, hpf, hkd, ⟨o1, o2, by simp, by simp, by simp, by simp, by simp, by simp⟩⟩
    · rw [if_neg hy]
      exact ⟨WrtsAt.none _ _, Nat.zero_le _, Nat.zero_le _, hps, hpr, hpf, hkd, ⟨o1, o2, by simp, by simp, o5, o6, by simp, by simp⟩⟩
  rw [if_neg k4]
  by_cases k5 : kd = 5
  · rw [if_pos k5]
    exact ⟨WrtsAt.none _ _, Nat.zero_le _, Nat.zero_le _, IntsAt.none _ _, Nat.zero_le _, Nat.zero_le _, hkd, ⟨by simp, by simp, by simp, by simp, by simp, by simp, by simp, by simp⟩⟩
  rw [if_neg k5]
  exact ⟨WrtsAt.none _ _, Nat.zero_le _, Nat.zero_le _, IntsAt.none _ _, Nat.zero_le _, Nat.zero_le _, by simp, ⟨by simp, by simp, by simp, by simp, by simp, by simp, by simp, by simp⟩⟩
theorem info_rcd : (Try.prog.info? 37).map (·.size) = some 9 := by kernel_rfl
theorem results_rcd {fn : Func} {c : Tmp} (h : fn.results = #[.cell c 37]) (tmps : Array Value) (w : World) (b : Nat) (kd id s m t n : Int) (a : Option Addr) (N cp : Nat) (y : Bool) (pa : Option Addr) (M pc : Nat) (hp : tmps.getD c undef = .pointer (some ⟨b, 0, none⟩)) (hb : RBox w b kd id s m t n a N cp y pa M pc) :
    (results fn tmps).run Try.prog w = .ok (.agg #[.int .i64 kd, .int .i64 id, .int .i64 s, .int .u8 m, .int .i64 t, .int .u8 n, .slice a N cp, .bool y, .slice pa M pc]) w := by
  obtain ⟨c0, c1, c2, c3, c4, c5, c6, c7, c8⟩ := hb
  have hl := run_loadVar_mid (P := Try.prog) w b 0 37 [.int .i64 kd, .int .i64 id, .int .i64 s, .int .u8 m, .int .i64 t, .int .u8 n, .slice a N cp, .bool y, .slice pa M pc] _ (fun j v hv => by
    have hj : j = 0 ∨ j = 1 ∨ j = 2 ∨ j = 3 ∨ j = 4 ∨ j = 5 ∨ j = 6 ∨ j = 7 ∨ j = 8 := by
      have := (List.getElem?_eq_some_iff.1 hv).1
      simp at this; omega
    rw [Nat.zero_add]
    rcases hj with rfl | rfl | rfl | rfl | rfl | rfl | rfl | rfl | rfl <;> (injection hv with hv; rw [← hv]; assumption)) Try.underlying37 rfl (by rw [info_rcd]; rfl)
  unfold results
  rw [h]
  simp only [List.mapM_toArray, List.mapM_cons, List.mapM_nil, hp]
  simp [asAddr, hl]
theorem RBox.made2 (w : World) (o : Obj) (T : TypeId) (kd id s m t n : Int) (a : Option Addr) (N c : Nat) (y : Bool) (pa : Option Addr) (M pc : Nat) : RBox ((w.alloc o).alloc (.cells #[.int .i64 kd, .int .i64 id, .int .i64 s, .int .u8 m, .int .i64 t, .int .u8 n, .slice a N c, .bool y, .slice pa M pc] T)) (w.heap.size + 1) kd id s m t n a N c y pa M pc := by
  have := RBox.made (w.alloc o) T kd id s m t n a N c y pa M pc
  rw [World.size_alloc] at this
  exact this
set_option maxHeartbeats 4000000 in
set_option maxRecDepth 8000 in
theorem lonly_any (x : RcM) (w : World) :
    Calls Try.prog 56 #[rcv x] w fun e w' => e = .returned (rcv (onlyM x)) ∧ Below w.heap.size w w' := by
  obtain ⟨⟨kd, id, s, m, t, n, l, y, ps⟩, a, c, pa, pc⟩ := x
  unfold onlyM rcv encR
  simp only
  obtain ⟨N, hN⟩ : ∃ N, l.length = N := ⟨_, rfl⟩
  obtain ⟨M, hM⟩ : ∃ N, ps.length = N := ⟨_, rfl⟩
  by_cases k1 : kd = 1
  · rw [if_pos k1]
    simp only [hN, hM, List.length_nil]
    subst k1
    go_enter Try.func56, Try.ntmps56
    go_wp2
    refine bodyPost_ret (results_rcd rfl _ _ (w.heap.size + 1) _ _ _ _ _ _ _ _ _ _ _ _ _ rfl (RBox.made2 w _ 37 _ _ _ _ _ _ _ _ _ _ _ _ _)) rfl ?_
    exact ⟨rfl, ((Below.refl _ _).alloc (Nat.le_refl _) _).alloc (by simp) _⟩
  rw [if_neg k1]
  by_cases k2 : kd = 2
  · rw [if_pos k2]
    simp only [hN, hM, List.length_nil]
    subst k2
    go_enter Try.func56, Try.ntmps56
    go_wp2
    refine bodyPost_ret (results_rcd rfl _ _ (w.heap.size + 1) _ _ _ _ _ _ _ _ _ _ _ _ _ rfl (RBox.made2 w _ 37 _ _ _ _ _ _ _ _ _ _ _ _ _)) rfl ?_
    exact ⟨rfl, ((Below.refl _ _).alloc (Nat.le_refl _) _).alloc (by simp) _⟩
  rw [if_neg k2]
  by_cases k3 : kd = 3
  · rw [if_pos k3]
    simp only [hN, hM, List.length_nil]
    subst k3
    go_enter Try.func56, Try.ntmps56
    go_wp2
    refine bodyPost_ret (results_rcd rfl _ _ (w.heap.size + 1) _ _ _ _ _ _ _ _ _ _ _ _ _ rfl (RBox.made2 w _ 37 _ _ _ _ _ _ _ _ _ _ _ _ _)) rfl ?_
    exact ⟨rfl, ((Below.refl _ _).alloc (Nat.le_refl _) _).alloc (by simp) _⟩
  rw [if_neg k3]
  by_cases k4 : kd = 4
  · rw [if_pos k4]
    by_cases hy : y = false
    · rw [if_pos hy]
      simp only [hN, hM, List.length_nil]
      subst k4 hy
      go_enter Try.func56, Try.ntmps56
      go_wp2
      refine bodyPost_ret (results_rcd rfl _ _ (w.heap.size + 1) _ _ _ _ _ _ _ _ _ _ _ _ _ rfl (RBox.made2 w _ 37 _ _ _ _ _ _ _ _ _ _ _ _ _)) rfl ?_
      exact ⟨rfl, ((Below.refl _ _).alloc (Nat.le_refl _) _).alloc (by simp) _⟩
    · rw [if_neg hy]
      have hy' : y = true := by simpa using hy
      simp only [hN, hM, List.length_nil]
      subst k4 hy'
      clear hy
      go_enter Try.func56, Try.ntmps56
      go_wp2
      refine bodyPost_ret (results_rcd rfl _ _ (w.heap.size + 1) _ _ _ _ _ _ _ _ _ _ _ _ _ rfl (RBox.made2 w _ 37 _ _ _ _ _ _ _ _ _ _ _ _ _)) rfl ?_
      exact ⟨rfl, ((Below.refl _ _).alloc (Nat.le_refl _) _).alloc (by simp) _⟩
  rw [if_neg k4]
  by_cases k5 : kd = 5
  · rw [if_pos k5]
    simp only [hN, hM, List.length_nil]
    subst k5
    go_enter Try.func56, Try.ntmps56
    go_wp2
    refine bodyPost_ret (results_rcd rfl _ _ (w.heap.size + 1) _ _ _ _ _ _ _ _ _ _ _ _ _ rfl (RBox.made2 w _ 37 _ _ _ _ _ _ _ _ _ _ _ _ _)) rfl ?_
    exact ⟨rfl, ((Below.refl _ _).alloc (Nat.le_refl _) _).alloc (by simp) _⟩
  · rw [if_neg k5]
    simp only [hN, hM, List.length_nil]
    have b1 : (kd == 1) = false := beq_eq_false_iff_ne.2 k1
    have b2 : (kd == 2) = false := beq_eq_false_iff_ne.2 k2
    have b3 : (kd == 3) = false := beq_eq_false_iff_ne.2 k3
    have b4 : (kd == 4) = false := beq_eq_false_iff_ne.2 k4
    have b5 : (kd == 5) = false := beq_eq_false_iff_ne.2 k5
    go_enter Try.func56, Try.ntmps56
    go_wp2
    refine bodyPost_ret (results_rcd rfl _ _ (w.heap.size + 1) _ _ _ _ _ _ _ _ _ _ _ _ _ rfl (RBox.made2 w _ 37 _ _ _ _ _ _ _ _ _ _ _ _ _)) rfl ?_
    exact ⟨rfl, ((Below.refl _ _).alloc (Nat.le_refl _) _).alloc (by simp) _⟩
/-! ### What may be -/
/-- The same question, kind by kind, of a record that has nothing but what its kind has. -/
def kindR (r : Rcd) : Bool :=
  if r.kd = 1 then decide (1 ≤ r.id) && decide (0 < cmpS r.t r.n r.s r.m) && mayW r.l 1
  else if r.kd = 2 then decide (1 ≤ r.id)
  else if r.kd = 3 then decide (1 ≤ r.id)
  else if r.kd = 4 then decide (1 ≤ r.id) && partsB r.ps
  else decide (r.kd = 5)
theorem okS0 : okS 0 := ⟨by omega, by omega⟩
open Classical in
theorem good_only (x : RcM) : goodR x.r = (decide (x.r = (onlyM x).r) && decide (okS x.r.s) && decide (okS x.r.t) && kindR x.r) := by
  obtain ⟨⟨kd, id, s, m, t, n, l, y, ps⟩, a, c, pa, pc⟩ := x
  have h0 := okS0
  rw [Bool.eq_iff_iff]
  unfold goodR kindR onlyM
  simp only
  by_cases k1 : kd = 1
  · simp only [if_pos k1, entR, goodE, Bool.and_eq_true, decide_eq_true_eq, Bool.not_eq_true', rcd_eq]
    constructor
    · rintro ⟨⟨⟨⟨⟨⟨h1, h2⟩, h3⟩, h4⟩, h5⟩, h6⟩, h7⟩
      exact ⟨⟨⟨⟨trivial, trivial, trivial, trivial, trivial, trivial, h6, trivial, list_none h7⟩, of_decide_eq_true h2⟩, of_decide_eq_true h3⟩, ⟨of_decide_eq_true h1, of_decide_eq_true h4⟩, h5⟩
    · rintro ⟨⟨⟨⟨_, _, _, _, _, _, h6, _, h7⟩, h2⟩, h3⟩, ⟨h1, h4⟩, h5⟩
      exact ⟨⟨⟨⟨⟨⟨decide_eq_true h1, decide_eq_true h2⟩, decide_eq_true h3⟩, decide_eq_true h4⟩, h5⟩, h6⟩, by rw [h7]; rfl⟩
  simp only [if_neg k1]
  by_cases k2 : kd = 2
  · simp only [if_pos k2, bareR, plainR, Bool.and_eq_true, decide_eq_true_eq, Bool.not_eq_true', rcd_eq]
    constructor
    · rintro ⟨⟨h1, ⟨⟨⟨⟨h2, h3⟩, h4⟩, h5⟩, h6⟩⟩, h7⟩
      exact ⟨⟨⟨⟨trivial, trivial, h2, h3, trivial, trivial, h5, list_none h4, list_none h6⟩, by rw [h2]; exact h0⟩, h7⟩, h1⟩
    · rintro ⟨⟨⟨⟨_, _, h2, h3, _, _, h5, h4, h6⟩, _⟩, h7⟩, h1⟩
      exact ⟨⟨h1, ⟨⟨⟨⟨h2, h3⟩, by rw [h4]; rfl⟩, h5⟩, by rw [h6]; rfl⟩⟩, h7⟩
  simp only [if_neg k2]
  by_cases k3 : kd = 3
  · simp only [if_pos k3, bareR, plainR, Bool.and_eq_true, decide_eq_true_eq, Bool.not_eq_true', rcd_eq]
    constructor
    · rintro ⟨⟨h1, ⟨⟨⟨⟨h2, h3⟩, h4⟩, h5⟩, h6⟩⟩, h7, h8⟩
      exact ⟨⟨⟨⟨trivial, trivial, h2, h3, h7, h8, h5, list_none h4, list_none h6⟩, by rw [h2]; exact h0⟩, by rw [h7]; exact h0⟩, h1⟩
    · rintro ⟨⟨⟨⟨_, _, h2, h3, h7, h8, h5, h4, h6⟩, _⟩, _⟩, h1⟩
      exact ⟨⟨h1, ⟨⟨⟨⟨h2, h3⟩, by rw [h4]; rfl⟩, h5⟩, by rw [h6]; rfl⟩⟩, h7, h8⟩
  simp only [if_neg k3]
  by_cases k4 : kd = 4
  · simp only [if_pos k4]
    cases y with
    | false =>
      simp only [if_true, plainR, Bool.and_eq_true, decide_eq_true_eq, Bool.false_or, rcd_eq]
      constructor
      · rintro ⟨⟨⟨⟨h1, ⟨⟨h2, h3⟩, h4⟩⟩, h5⟩, h6⟩, h7, h8⟩
        exact ⟨⟨⟨⟨trivial, trivial, h2, h3, h7, h8, trivial, list_none h4, trivial⟩, by rw [h2]; exact h0⟩, h6⟩, h1, h5⟩
      · rintro ⟨⟨⟨⟨_, _, h2, h3, h7, h8, _, h4, _⟩, _⟩, h6⟩, h1, h5⟩
        exact ⟨⟨⟨⟨h1, ⟨⟨h2, h3⟩, by rw [h4]; rfl⟩⟩, h5⟩, h6⟩, h7, h8⟩
    | true =>
      simp only [Bool.true_eq_false, if_false, plainR, Bool.and_eq_true, decide_eq_true_eq, Bool.true_or, rcd_eq]
      constructor
      · rintro ⟨⟨⟨⟨h1, ⟨⟨h2, h3⟩, h4⟩⟩, h5⟩, h6⟩, _⟩
        exact ⟨⟨⟨⟨trivial, trivial, h2, h3, trivial, trivial, trivial, list_none h4, trivial⟩, by rw [h2]; exact h0⟩, h6⟩, h1, h5⟩
      · rintro ⟨⟨⟨⟨_, _, h2, h3, _, _, _, h4, _⟩, _⟩, h6⟩, h1, h5⟩
        exact ⟨⟨⟨⟨h1, ⟨⟨h2, h3⟩, by rw [h4]; rfl⟩⟩, h5⟩, h6⟩, trivial⟩
  simp only [if_neg k4]
  by_cases k5 : kd = 5
  · simp only [if_pos k5, bareR, plainR, Bool.and_eq_true, decide_eq_true_eq, Bool.not_eq_true', rcd_eq]
    constructor
    · rintro ⟨⟨⟨h1, ⟨⟨⟨⟨h2, h3⟩, h4⟩, h5⟩, h6⟩⟩, h7⟩, h8⟩
      exact ⟨⟨⟨⟨trivial, h1, h2, h3, trivial, h8, h5, list_none h4, list_none h6⟩, by rw [h2]; exact h0⟩, h7⟩, k5⟩
    · rintro ⟨⟨⟨⟨_, h1, h2, h3, _, h8, h5, h4, h6⟩, _⟩, h7⟩, _⟩
      exact ⟨⟨⟨h1, ⟨⟨⟨⟨h2, h3⟩, by rw [h4]; rfl⟩, h5⟩, by rw [h6]; rfl⟩⟩, h7⟩, h8⟩
  · simp only [if_neg k5, Bool.and_eq_true, decide_eq_true_eq]
    constructor
    · intro h; cases h
    · intro h; exact absurd h.2 k5
end Go.Proofs.Ytcppihpehipelaa

