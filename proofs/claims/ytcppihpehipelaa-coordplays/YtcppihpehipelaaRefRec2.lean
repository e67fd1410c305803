/-
  The document's own records: Good.
-/
import Derived.Test.YtcppihpehipelaaAu68
import Derived.Test.YtcppihpehipelaaAu63
import Derived.Test.YtcppihpehipelaaAu62
namespace Go.Proofs.Ytcppihpehipelaa
open Go.RowKit
set_option linter.unusedVariables false
set_option linter.unusedSimpArgs false

theorem ret_b {v : Value} {b R : Bool} (hv : v = .bool b) (h : b = R) : Ending.returned v = .returned (.bool R) := by rw [hv, h]
theorem nat_zero (M : Nat) : (((M : Nat) : Int) == 0) = decide (M = 0) := by
  by_cases h : M = 0
  · subst h; rfl
  · rw [decide_eq_false h]; exact beq_eq_false_iff_ne.2 (by omega)
theorem gd_box {w u : World} {T T2 : TypeId} {kd id s m t n : Int} {a : Option Addr} {N c : Nat} {y : Bool} {pa : Option Addr} {M pc : Nat} (hb : Below ((w.alloc (.cells #[.int .i64 kd, .int .i64 id, .int .i64 s, .int .u8 m, .int .i64 t, .int .u8 n, .slice a N c, .bool y, .slice pa M pc] T)).alloc (.cells #[.int .i64 0, .int .u8 0] T2)).heap.size ((w.alloc (.cells #[.int .i64 kd, .int .i64 id, .int .i64 s, .int .u8 m, .int .i64 t, .int .u8 n, .slice a N c, .bool y, .slice pa M pc] T)).alloc (.cells #[.int .i64 0, .int .u8 0] T2)) u) :
    RBox u w.heap.size kd id s m t n a N c y pa M pc ∧ u.cell? ⟨w.heap.size + 1, 0, none⟩ = some (.int .i64 0) ∧ u.cell? ⟨w.heap.size + 1, 1, none⟩ = some (.int .u8 0) ∧ Below w.heap.size w u := by
  have bx := (RBox.made w T kd id s m t n a N c y pa M pc).past ((Below.refl _ _).alloc (Nat.le_refl _) (.cells #[.int .i64 0, .int .u8 0] T2))
  have hs : ((w.alloc (.cells #[.int .i64 kd, .int .i64 id, .int .i64 s, .int .u8 m, .int .i64 t, .int .u8 n, .slice a N c, .bool y, .slice pa M pc] T)).alloc (.cells #[.int .i64 0, .int .u8 0] T2)).heap.size = w.heap.size + 2 := by simp
  refine ⟨bx.past hb, ?_, ?_, ?_⟩
  · rw [hb.cell (p := ⟨w.heap.size + 1, 0, none⟩) (by rw [hs]; show w.heap.size + 1 < _; omega)]
    have := World.cell?_alloc_new (w.alloc (.cells #[.int .i64 kd, .int .i64 id, .int .i64 s, .int .u8 m, .int .i64 t, .int .u8 n, .slice a N c, .bool y, .slice pa M pc] T)) #[.int .i64 0, .int .u8 0] T2 0
    rw [World.size_alloc] at this
    rw [this]; rfl
  · rw [hb.cell (p := ⟨w.heap.size + 1, 1, none⟩) (by rw [hs]; show w.heap.size + 1 < _; omega)]
    have := World.cell?_alloc_new (w.alloc (.cells #[.int .i64 kd, .int .i64 id, .int .i64 s, .int .u8 m, .int .i64 t, .int .u8 n, .slice a N c, .bool y, .slice pa M pc] T)) #[.int .i64 0, .int .u8 0] T2 1
    rw [World.size_alloc] at this
    rw [this]; rfl
  · exact (((Below.refl _ _).alloc (Nat.le_refl _) _).alloc (by simp) _).trans (hb.mono (by rw [hs]; omega))
set_option maxHeartbeats 8000000 in
set_option maxRecDepth 8000 in
theorem rgood14_any (x : RcM) (w : World) (h : RcW w x) :
    Calls Try.prog 54 #[rcv x] w fun e w' => e = .returned (.bool (goodR x.r)) ∧ Below w.heap.size w w' := by
  obtain ⟨⟨kd, id, s, m, t, n, l, y, ps⟩, a, c, pa, pc⟩ := x
  obtain ⟨hwr, hrm, hfw, hps, hpr, hpf, hkd, hok⟩ := h
  simp only at hwr hrm hfw hps hpr hpf hkd
  obtain ⟨N, hN⟩ : ∃ N, l.length = N := ⟨_, rfl⟩
  obtain ⟨M, hM⟩ : ∃ N, ps.length = N := ⟨_, rfl⟩
  unfold rcv encR
  simp only
  simp only [hN, hM] at hrm hfw hpr hpf ⊢
  obtain ⟨ge, hge⟩ : ∃ x, x = goodE ⟨id, s, m, t, n, l⟩ := ⟨_, rfl⟩
  obtain ⟨gs, hgs⟩ : ∃ x, x = decide (okS t) := ⟨_, rfl⟩
  obtain ⟨pb, hpb⟩ : ∃ x, x = partsB ps := ⟨_, rfl⟩
  have CE : Hid (∀ u s' m' N', Below w.heap.size w u → s' = s → m' = m → N' = N → Calls Try.prog 67 #[.agg #[.int .i64 id, .int .i64 s', .int .u8 m', .int .i64 t, .int .u8 n, .slice a N' c]] u fun e w' => e = .returned (.bool ge) ∧ Below u.heap.size u w') := fun u s' m' N' hu e1 e2 e3 => by
    subst e1 e2 e3; rw [hge]; exact rgoode_any id s' m' t n a N' c l u hN hrm (by omega) (hwr.past hu)
  have CG : Hid (∀ u, Calls Try.prog 49 #[.agg #[.int .i64 t, .int .u8 n]] u fun e w' => e = .returned (.bool gs) ∧ Below u.heap.size u w') := fun u => by rw [hgs]; exact rgood6_any t n u
  have CP : Hid (∀ u M', Below w.heap.size w u → M' = M → Calls Try.prog 50 #[.slice pa M' pc] u fun e w' => e = .returned (.bool pb) ∧ Below u.heap.size u w') := fun u M' hu e1 => by
    subst e1; rw [hpb]
    refine (rparts14_any pa M' pc ps u hM (by omega) (hps.past hu)).mono ?_
    rintro e w' ⟨rfl, q, rfl⟩
    exact ⟨rfl, below_dN (Below.refl _ _) q⟩
  obtain ⟨R, hR⟩ : ∃ R, R = goodR ⟨kd, id, s, m, t, n, l, y, ps⟩ := ⟨_, rfl⟩
  have hr : R = (if kd = 1 then ge && !y && decide (M = 0) else if kd = 2 then decide (1 ≤ id) && (decide (s = 0 ∧ m = 0) && decide (N = 0) && !y && decide (M = 0)) && gs else if kd = 3 then decide (1 ≤ id) && (decide (s = 0 ∧ m = 0) && decide (N = 0) && !y && decide (M = 0)) && decide (t = 0 ∧ n = 0) else if kd = 4 then decide (1 ≤ id) && (decide (s = 0 ∧ m = 0) && decide (N = 0)) && pb && gs && (y || decide (t = 0 ∧ n = 0)) else if kd = 5 then decide (id = 0) && (decide (s = 0 ∧ m = 0) && decide (N = 0) && !y && decide (M = 0)) && gs && decide (n = 0) else false) := by
    rw [hR, hge, hgs, hpb, ← hN, ← hM]; rfl
  rw [← hR]
  clear hR hge hgs hpb hwr hrm hfw hps hpr hpf hkd hok hN hM
  by_cases k1 : kd = 1
  · subst k1
    have HR : Hid (R = (ge && !y && decide (M = 0))) := hr
    clear hr
    cases ge with
    | false =>
      go_enter Try.func54, Try.ntmps54
      go_wp2_with (first | (go_at_call 67; refine (CE.out _ _ _ _ (((Below.refl _ _).alloc (Nat.le_refl _) _).alloc (by simp) _) (by first | rfl | (symm; assumption)) (by first | rfl | (symm; assumption)) (by first | rfl | (symm; assumption))).mono ?_; rintro e u1 ⟨rfl, hb1⟩; obtain ⟨⟨y0, y1, y2, y3, y4, y5, y6, y7, y8⟩, z0, z1, hb2⟩ := gd_box hb1; have B1 : Hid (Below w.heap.size w u1) := hb2; clear hb1 hb2))
      all_goals go_ret
      all_goals refine ⟨ret_b rfl ?_, B1.out⟩
      all_goals rw [HR.out]
      all_goals rfl
    | true =>
      go_enter Try.func54, Try.ntmps54
      go_wp2_with (first | (go_at_call 67; refine (CE.out _ _ _ _ (((Below.refl _ _).alloc (Nat.le_refl _) _).alloc (by simp) _) (by first | rfl | (symm; assumption)) (by first | rfl | (symm; assumption)) (by first | rfl | (symm; assumption))).mono ?_; rintro e u1 ⟨rfl, hb1⟩; obtain ⟨⟨y0, y1, y2, y3, y4, y5, y6, y7, y8⟩, z0, z1, hb2⟩ := gd_box hb1; have B1 : Hid (Below w.heap.size w u1) := hb2; clear hb1 hb2))
      all_goals go_ret
      all_goals refine ⟨ret_b rfl ?_, B1.out⟩
      all_goals rw [HR.out]
      all_goals (simp [*, nat_zero] <;> done)
  rw [if_neg k1] at hr
  by_cases k2 : kd = 2
  · subst k2
    have HR : Hid (R = (decide (1 ≤ id) && (decide (s = 0 ∧ m = 0) && decide (N = 0) && !y && decide (M = 0)) && gs)) := hr
    clear hr k1
    go_enter Try.func54, Try.ntmps54
    go_wp2_with (first | (go_at_call 49; refine (CG.out _).mono ?_; rintro e u1 ⟨rfl, hb1⟩; obtain ⟨⟨y0, y1, y2, y3, y4, y5, y6, y7, y8⟩, z0, z1, hb2⟩ := gd_box hb1; have B1 : Hid (Below w.heap.size w u1) := hb2; clear hb1 hb2))
    all_goals go_ret
    all_goals refine ⟨ret_b rfl ?_, by first | exact B2.out | exact B1.out | exact ((Below.refl _ _).alloc (Nat.le_refl _) _).alloc (by simp) _⟩
    all_goals rw [HR.out]
    all_goals first | (simp [*, nat_zero]; done) | (simp [*, nat_zero]; rfl) | (simp [*, nat_zero]; omega) | (simp [*, nat_zero] <;> (intros; omega))
  rw [if_neg k2] at hr
  by_cases k3 : kd = 3
  · subst k3
    have HR : Hid (R = (decide (1 ≤ id) && (decide (s = 0 ∧ m = 0) && decide (N = 0) && !y && decide (M = 0)) && decide (t = 0 ∧ n = 0))) := hr
    clear hr k1 k2
    go_enter Try.func54, Try.ntmps54
    go_wp2
    all_goals go_ret
    all_goals refine ⟨ret_b rfl ?_, by first | exact B2.out | exact B1.out | exact ((Below.refl _ _).alloc (Nat.le_refl _) _).alloc (by simp) _⟩
    all_goals rw [HR.out]
    all_goals first | (simp [*, nat_zero]; done) | (simp [*, nat_zero]; rfl) | (simp [*, nat_zero]; omega) | (simp [*, nat_zero] <;> (intros; omega))
  rw [if_neg k3] at hr
  by_cases k4 : kd = 4
  · subst k4
    have HR : Hid (R = (decide (1 ≤ id) && (decide (s = 0 ∧ m = 0) && decide (N = 0)) && pb && gs && (y || decide (t = 0 ∧ n = 0)))) := hr
    clear hr k1 k2 k3
    go_enter Try.func54, Try.ntmps54
    go_wp2_with (first | (go_at_call 50; refine (CP.out _ _ (((Below.refl _ _).alloc (Nat.le_refl _) _).alloc (by simp) _) (by first | rfl | (symm; assumption))).mono ?_; rintro e u1 ⟨rfl, hb1⟩; have BU : Hid _ := hb1; obtain ⟨⟨y0, y1, y2, y3, y4, y5, y6, y7, y8⟩, z0, z1, hb2⟩ := gd_box hb1; have B1 : Hid (Below w.heap.size w u1) := hb2; clear hb1 hb2) | (go_at_call 49; refine (CG.out _).mono ?_; rintro e u2 ⟨rfl, hb1⟩; obtain ⟨⟨y0, y1, y2, y3, y4, y5, y6, y7, y8⟩, z0, z1, hb2⟩ := gd_box (BU.out.trans (hb1.mono BU.out.size)); have B2 : Hid (Below w.heap.size w u2) := hb2; clear hb1 hb2))
    all_goals go_ret
    all_goals refine ⟨ret_b rfl ?_, by first | exact B2.out | exact B1.out | exact ((Below.refl _ _).alloc (Nat.le_refl _) _).alloc (by simp) _⟩
    all_goals rw [HR.out]
    all_goals first | (simp [*, nat_zero]; done) | (simp [*, nat_zero]; rfl) | (simp [*, nat_zero]; omega) | (simp [*, nat_zero] <;> (intros; omega))
  rw [if_neg k4] at hr
  by_cases k5 : kd = 5
  · subst k5
    have HR : Hid (R = (decide (id = 0) && (decide (s = 0 ∧ m = 0) && decide (N = 0) && !y && decide (M = 0)) && gs && decide (n = 0))) := hr
    clear hr k1 k2 k3 k4
    go_enter Try.func54, Try.ntmps54
    go_wp2_with (first | (go_at_call 49; refine (CG.out _).mono ?_; rintro e u1 ⟨rfl, hb1⟩; obtain ⟨⟨y0, y1, y2, y3, y4, y5, y6, y7, y8⟩, z0, z1, hb2⟩ := gd_box hb1; have B1 : Hid (Below w.heap.size w u1) := hb2; clear hb1 hb2))
    all_goals go_ret
    all_goals refine ⟨ret_b rfl ?_, by first | exact B2.out | exact B1.out | exact ((Below.refl _ _).alloc (Nat.le_refl _) _).alloc (by simp) _⟩
    all_goals rw [HR.out]
    all_goals first | (simp [*, nat_zero]; done) | (simp [*, nat_zero]; rfl) | (simp [*, nat_zero]; omega) | (simp [*, nat_zero] <;> (intros; omega))
  rw [if_neg k5] at hr
  · have HR : Hid (R = false) := hr
    clear hr
    have b1 : (kd == 1) = false := beq_eq_false_iff_ne.2 k1
    have b2 : (kd == 2) = false := beq_eq_false_iff_ne.2 k2
    have b3 : (kd == 3) = false := beq_eq_false_iff_ne.2 k3
    have b4 : (kd == 4) = false := beq_eq_false_iff_ne.2 k4
    have b5 : (kd == 5) = false := beq_eq_false_iff_ne.2 k5
    clear k1 k2 k3 k4 k5
    go_enter Try.func54, Try.ntmps54
    go_wp2
    all_goals go_ret
    all_goals exact ⟨by rw [HR.out]; rfl, ((Below.refl _ _).alloc (Nat.le_refl _) _).alloc (by simp) _⟩
end Go.Proofs.Ytcppihpehipelaa
