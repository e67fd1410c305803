/-
  The document's own records: Good.
  The document's own parts: Play.
  A landed part beside the document's own, and beside blocks that stay as they are.
-/
import Derived.Test.YtileidbdmpeciaaGreatAu73
import Derived.Test.YtileidbdmpeciaaGreatAu100
import Derived.Test.YtileidbdmpeciaaGreatAu97
import Derived.Test.YtileidbdmpeciaaGreatRefPa8
import Derived.Test.YtileidbdmpeciaaGreatAu116
namespace Go.Proofs.YtileidbdmpeciaaGreat
open Go.RowKit
set_option linter.unusedVariables false
set_option linter.unusedSimpArgs false

theorem ret_b {v : Value} {b R : Bool} (hv : v = .bool b) (h : b = R) : Ending.returned v = .returned (.bool R) := by rw [hv, h]
theorem nat_zero (M : Nat) : (((M : Nat) : Int) == 0) = decide (M = 0) := by
  by_cases h : M = 0
  · subst h; rfl
  · rw [decide_eq_false h]; exact beq_eq_false_iff_ne.2 (by omega)
theorem gd_box {w u : World} {T T2 : TypeId} {kd id s m t n : Int} {a : Option Addr} {N c : Nat} {y : Bool} {pa : Option Addr} {M pc : Nat} (hb : Below ((w.alloc (.cells #[.int .i64 kd, .int .i64 id, .int .i64 s, .int .u8 m, .int .i64 t, .int .u8 n, .slice a N c, .bool y, .slice pa M pc] T)).alloc (.cells #[.int .i64 0, .int .u8 0] T2)).heap.size ((w.alloc (.cells #[.int .i64 kd, .int .i64 id, .int .i64 s, .int .u8 m, .int .i64 t, .int .u8 n, .slice a N c, .bool y, .slice pa M pc] T)).alloc (.cells #[.int .i64 0, .int .u8 0] T2)) u) :
    RBox u w.heap.size kd id s m t n a N c y pa M pc ∧ u.cell? ⟨w.heap.size + 1, 0, none⟩ = some (.int .i64 0) ∧ u.cell? ⟨w.heap.size + 1, 1, none⟩ = some (.int .u8 0) ∧ Below w.heap.size w u := by
  have bx := (RBox.made w T kd id s m t n a N c y pa M pc).past ((Below.refl _ _).alloc (Nat.le_refl _) (.cells #[.int .i64 0, .int .u8 0] T2))
  have hs : ((w.alloc (.cells #[.int .i64 kd, .int .i64 id, .int .i64 s, .int .u8 m, .int .i64 t, .int .u8 n, .slice a N c, .bool y, .slice pa M pc] T)).alloc (.cells #[.int .i64 0, .int .u8 0] T2)).heap.size = w.heap.size + 2 := by simp
  refine ⟨bx.past hb, ?_, ?_, ?_⟩
  · rw [hb.cell (p := ⟨w.heap.size + 1, 0, none⟩) (by rw [hs]; show w.heap.size + 1 < _; omega)]
    have := World.cell?_alloc_new (w.alloc (.cells #[.int .i64 kd, .int .i64 id, .int .i64 s, .int .u8 m, .int .i64 t, .int .u8 n, .slice a N c, .bool y, .slice pa M pc] T)) #[.int .i64 0, .int .u8 0] T2 0
    rw [World.size_alloc] at this
    rw [this]; rfl
  · rw [hb.cell (p := ⟨w.heap.size + 1, 1, none⟩) (by rw [hs]; show w.heap.size + 1 < _; omega)]
    have := World.cell?_alloc_new (w.alloc (.cells #[.int .i64 kd, .int .i64 id, .int .i64 s, .int .u8 m, .int .i64 t, .int .u8 n, .slice a N c, .bool y, .slice pa M pc] T)) #[.int .i64 0, .int .u8 0] T2 1
    rw [World.size_alloc] at this
    rw [this]; rfl
  · exact (((Below.refl _ _).alloc (Nat.le_refl _) _).alloc (by simp) _).trans (hb.mono (by rw [hs]; omega))
set_option maxHeartbeats 8000000 in
set_option maxRecDepth 8000 in
theorem rgood14_any (x : RcM) (w : World) (h : RcW w x) :
    Calls Tryz.prog 71 #[rcv x] w fun e w' => e = .returned (.bool (goodR x.r)) ∧ Below w.heap.size w w' := by
  obtain ⟨⟨kd, id, s, m, t, n, l, y, ps⟩, a, c, pa, pc⟩ := x
  obtain ⟨hwr, hrm, hfw, hps, hpr, hpf, hkd, hok⟩ := h
  simp only at hwr hrm hfw hps hpr hpf hkd
  obtain ⟨N, hN⟩ : ∃ N, l.length = N := ⟨_, rfl⟩
  obtain ⟨M, hM⟩ : ∃ N, ps.length = N := ⟨_, rfl⟩
  unfold rcv encR
  simp only
  simp only [hN, hM] at hrm hfw hpr hpf ⊢
  obtain ⟨ge, hge⟩ : ∃ x, x = goodE ⟨id, s, m, t, n, l⟩ := ⟨_, rfl⟩
  obtain ⟨gs, hgs⟩ : ∃ x, x = decide (okS t) := ⟨_, rfl⟩
  obtain ⟨pb, hpb⟩ : ∃ x, x = partsB ps := ⟨_, rfl⟩
  have CE : Hid (∀ u s' m' N', Below w.heap.size w u → s' = s → m' = m → N' = N → Calls Tryz.prog 60 #[.agg #[.int .i64 id, .int .i64 s', .int .u8 m', .int .i64 t, .int .u8 n, .slice a N' c]] u fun e w' => e = .returned (.bool ge) ∧ Below u.heap.size u w') := fun u s' m' N' hu e1 e2 e3 => by
    subst e1 e2 e3; rw [hge]; exact rgoode_any id s' m' t n a N' c l u hN hrm (by omega) (hwr.past hu)
  have CG : Hid (∀ u, Calls Tryz.prog 67 #[.agg #[.int .i64 t, .int .u8 n]] u fun e w' => e = .returned (.bool gs) ∧ Below u.heap.size u w') := fun u => by rw [hgs]; exact rgood6_any t n u
  have CP : Hid (∀ u M', Below w.heap.size w u → M' = M → Calls Tryz.prog 116 #[.slice pa M' pc] u fun e w' => e = .returned (.bool pb) ∧ Below u.heap.size u w') := fun u M' hu e1 => by
    subst e1; rw [hpb]
    refine (rparts14_any pa M' pc ps u hM (by omega) (hps.past hu)).mono ?_
    rintro e w' ⟨rfl, q, rfl⟩
    exact ⟨rfl, below_dN (Below.refl _ _) q⟩
  obtain ⟨R, hR⟩ : ∃ R, R = goodR ⟨kd, id, s, m, t, n, l, y, ps⟩ := ⟨_, rfl⟩
  have hr : R = (if kd = 1 then ge && !y && decide (M = 0) else if kd = 2 then decide (1 ≤ id) && (decide (s = 0 ∧ m = 0) && decide (N = 0) && !y && decide (M = 0)) && gs else if kd = 3 then decide (1 ≤ id) && (decide (s = 0 ∧ m = 0) && decide (N = 0) && !y && decide (M = 0)) && decide (t = 0 ∧ n = 0) else if kd = 4 then decide (1 ≤ id) && (decide (s = 0 ∧ m = 0) && decide (N = 0)) && pb && gs && (y || decide (t = 0 ∧ n = 0)) else if kd = 5 then decide (id = 0) && (decide (s = 0 ∧ m = 0) && decide (N = 0) && !y && decide (M = 0)) && gs && decide (n = 0) else false) := by
    rw [hR, hge, hgs, hpb, ← hN, ← hM]; rfl
  rw [← hR]
  clear hR hge hgs hpb hwr hrm hfw hps hpr hpf hkd hok hN hM
  by_cases k1 : kd = 1
  · subst k1
    have HR : Hid (R = (ge && !y && decide (M = 0))) := hr
    clear hr
    cases ge with
    | false =>
      go_enter Tryz.func71, Tryz.ntmps71
      go_wp2_with (first | (go_at_call 60; refine (CE.out _ _ _ _ (((Below.refl _ _).alloc (Nat.le_refl _) _).alloc (by simp) _) (by first | rfl | (symm; assumption)) (by first | rfl | (symm; assumption)) (by first | rfl | (symm; assumption))).mono ?_; rintro e u1 ⟨rfl, hb1⟩; obtain ⟨⟨y0, y1, y2, y3, y4, y5, y6, y7, y8⟩, z0, z1, hb2⟩ := gd_box hb1; have B1 : Hid (Below w.heap.size w u1) := hb2; clear hb1 hb2))
      all_goals go_ret
      all_goals refine ⟨ret_b rfl ?_, B1.out⟩
      all_goals rw [HR.out]
      all_goals rfl
    | true =>
      go_enter Tryz.func71, Tryz.ntmps71
      go_wp2_with (first | (go_at_call 60; refine (CE.out _ _ _ _ (((Below.refl _ _).alloc (Nat.le_refl _) _).alloc (by simp) _) (by first | rfl | (symm; assumption)) (by first | rfl | (symm; assumption)) (by first | rfl | (symm; assumption))).mono ?_; rintro e u1 ⟨rfl, hb1⟩; obtain ⟨⟨y0, y1, y2, y3, y4, y5, y6, y7, y8⟩, z0, z1, hb2⟩ := gd_box hb1; have B1 : Hid (Below w.heap.size w u1) := hb2; clear hb1 hb2))
      all_goals go_ret
      all_goals refine ⟨ret_b rfl ?_, B1.out⟩
      all_goals rw [HR.out]
      all_goals (simp [*, nat_zero] <;> done)
  rw [if_neg k1] at hr
  by_cases k2 : kd = 2
  · subst k2
    have HR : Hid (R = (decide (1 ≤ id) && (decide (s = 0 ∧ m = 0) && decide (N = 0) && !y && decide (M = 0)) && gs)) := hr
    clear hr k1
    go_enter Tryz.func71, Tryz.ntmps71
    go_wp2_with (first | (go_at_call 67; refine (CG.out _).mono ?_; rintro e u1 ⟨rfl, hb1⟩; obtain ⟨⟨y0, y1, y2, y3, y4, y5, y6, y7, y8⟩, z0, z1, hb2⟩ := gd_box hb1; have B1 : Hid (Below w.heap.size w u1) := hb2; clear hb1 hb2))
    all_goals go_ret
    all_goals refine ⟨ret_b rfl ?_, by first | exact B2.out | exact B1.out | exact ((Below.refl _ _).alloc (Nat.le_refl _) _).alloc (by simp) _⟩
    all_goals rw [HR.out]
    all_goals first | (simp [*, nat_zero]; done) | (simp [*, nat_zero]; rfl) | (simp [*, nat_zero]; omega) | (simp [*, nat_zero] <;> (intros; omega))
  rw [if_neg k2] at hr
  by_cases k3 : kd = 3
  · subst k3
    have HR : Hid (R = (decide (1 ≤ id) && (decide (s = 0 ∧ m = 0) && decide (N = 0) && !y && decide (M = 0)) && decide (t = 0 ∧ n = 0))) := hr
    clear hr k1 k2
    go_enter Tryz.func71, Tryz.ntmps71
    go_wp2
    all_goals go_ret
    all_goals refine ⟨ret_b rfl ?_, by first | exact B2.out | exact B1.out | exact ((Below.refl _ _).alloc (Nat.le_refl _) _).alloc (by simp) _⟩
    all_goals rw [HR.out]
    all_goals first | (simp [*, nat_zero]; done) | (simp [*, nat_zero]; rfl) | (simp [*, nat_zero]; omega) | (simp [*, nat_zero] <;> (intros; omega))
  rw [if_neg k3] at hr
  by_cases k4 : kd = 4
  · subst k4
    have HR : Hid (R = (decide (1 ≤ id) && (decide (s = 0 ∧ m = 0) && decide (N = 0)) && pb && gs && (y || decide (t = 0 ∧ n = 0)))) := hr
    clear hr k1 k2 k3
    go_enter Tryz.func71, Tryz.ntmps71
    go_wp2_with (first | (go_at_call 116; refine (CP.out _ _ (((Below.refl _ _).alloc (Nat.le_refl _) _).alloc (by simp) _) (by first | rfl | (symm; assumption))).mono ?_; rintro e u1 ⟨rfl, hb1⟩; have BU : Hid _ := hb1; obtain ⟨⟨y0, y1, y2, y3, y4, y5, y6, y7, y8⟩, z0, z1, hb2⟩ := gd_box hb1; have B1 : Hid (Below w.heap.size w u1) := hb2; clear hb1 hb2) | (go_at_call 67; refine (CG.out _).mono ?_; rintro e u2 ⟨rfl, hb1⟩; obtain ⟨⟨y0, y1, y2, y3, y4, y5, y6, y7, y8⟩, z0, z1, hb2⟩ := gd_box (BU.out.trans (hb1.mono BU.out.size)); have B2 : Hid (Below w.heap.size w u2) := hb2; clear hb1 hb2))
    all_goals go_ret
    all_goals refine ⟨ret_b rfl ?_, by first | exact B2.out | exact B1.out | exact ((Below.refl _ _).alloc (Nat.le_refl _) _).alloc (by simp) _⟩
    all_goals rw [HR.out]
    all_goals first | (simp [*, nat_zero]; done) | (simp [*, nat_zero]; rfl) | (simp [*, nat_zero]; omega) | (simp [*, nat_zero] <;> (intros; omega))
  rw [if_neg k4] at hr
  by_cases k5 : kd = 5
  · subst k5
    have HR : Hid (R = (decide (id = 0) && (decide (s = 0 ∧ m = 0) && decide (N = 0) && !y && decide (M = 0)) && gs && decide (n = 0))) := hr
    clear hr k1 k2 k3 k4
    go_enter Tryz.func71, Tryz.ntmps71
    go_wp2_with (first | (go_at_call 67; refine (CG.out _).mono ?_; rintro e u1 ⟨rfl, hb1⟩; obtain ⟨⟨y0, y1, y2, y3, y4, y5, y6, y7, y8⟩, z0, z1, hb2⟩ := gd_box hb1; have B1 : Hid (Below w.heap.size w u1) := hb2; clear hb1 hb2))
    all_goals go_ret
    all_goals refine ⟨ret_b rfl ?_, by first | exact B2.out | exact B1.out | exact ((Below.refl _ _).alloc (Nat.le_refl _) _).alloc (by simp) _⟩
    all_goals rw [HR.out]
    all_goals first | (simp [*, nat_zero]; done) | (simp [*, nat_zero]; rfl) | (simp [*, nat_zero]; omega) | (simp [*, nat_zero] <;> (intros; omega))
  rw [if_neg k5] at hr
  · have HR : Hid (R = false) := hr
    clear hr
    have b1 : (kd == 1) = false := beq_eq_false_iff_ne.2 k1
    have b2 : (kd == 2) = false := beq_eq_false_iff_ne.2 k2
    have b3 : (kd == 3) = false := beq_eq_false_iff_ne.2 k3
    have b4 : (kd == 4) = false := beq_eq_false_iff_ne.2 k4
    have b5 : (kd == 5) = false := beq_eq_false_iff_ne.2 k5
    clear k1 k2 k3 k4 k5
    go_enter Tryz.func71, Tryz.ntmps71
    go_wp2
    all_goals go_ret
    all_goals exact ⟨by rw [HR.out]; rfl, ((Below.refl _ _).alloc (Nat.le_refl _) _).alloc (by simp) _⟩
end Go.Proofs.YtileidbdmpeciaaGreat

namespace Go.Proofs.YtileidbdmpeciaaGreat
open Go.RowKit
set_option linter.unusedVariables false
set_option linter.unusedSimpArgs false

theorem PrtD.since {w w1 w' : World} {B q s t : Nat} {S : List Ver} {M : List EntM} {O : List (Int × Int)} {P : PSt} (h : PrtR w B q s t S M O) (hb : Below w.heap.size w w1) (d : PrtD w1 w' B q s t M P) : PrtD w w' B q s t M P := by
  obtain ⟨M', h1, h2, h3⟩ := d.ex
  refine ⟨⟨M', h1, h2, h3.from_ hb.size⟩, (Chg.of_below hb (PrtF w q s t)).trans d.chg (fun j _ e => (PrtF.below h.lt hb j).1 e), fun k hk => ?_, (RowsS.of_below hb h.sto.lt h.tab.lt).trans d.rows hb.size⟩
  rcases d.new k hk with e | e
  · exact .inl ((PrtF.below h.lt hb k).1 e)
  · exact .inr (Nat.le_trans hb.size e)
theorem goodE_ok {e : Ent} (h : goodE e = true) : (-9223372036854775808 ≤ e.s ∧ e.s ≤ 9223372036854775807) ∧ (-9223372036854775808 ≤ e.t ∧ e.t ≤ 9223372036854775807) := by
  unfold goodE at h
  simp only [Bool.and_eq_true, decide_eq_true_eq] at h
  have h1 := h.1.1.1.2
  have h2 := h.1.1.2
  unfold okS at h1 h2
  omega
set_option maxHeartbeats 8000000 in
set_option maxRecDepth 8000 in
theorem rplay_any (B q s tb : Nat) (S : List Ver) (M : List EntM) (O : List (Int × Int)) (x : RcM) (w : World) (h : PrtR w B q s tb S M O) (hB : B ≤ w.heap.size) (hM : M.length ≤ 100) (hO : O.length ≤ 900) (hS : S.length ≤ 900000) (hh : ∀ x ∈ O, x.2 = 2 ∨ x.2 = 3) (he : RcW w x) (hK : goodE (entR' x.r) = true → (keysV S).length + x.r.l.length + (keysT (ents M)).length ≤ 1000) :
    Calls Tryz.prog 27 #[.pointer (some ⟨q, 0, none⟩), rcv x] w fun e w' => e = .returned (.int .i64 (playP ⟨S, ents M, O⟩ x.r).1) ∧ PrtD w w' B q s tb M (playP ⟨S, ents M, O⟩ x.r).2 := by
  obtain ⟨Z, hZ⟩ : ∃ Z, Z = playP ⟨S, ents M, O⟩ x.r := ⟨_, rfl⟩
  rw [← hZ]
  have hgood := fun u (hu : Below w.heap.size w u) => rgood14_any x u (he.past hu)
  obtain ⟨⟨kd, id, es, em, t, n, l, y, ps⟩, a, c, pa, pc⟩ := x
  obtain ⟨N, hN⟩ : ∃ N, N = l.length := ⟨_, rfl⟩
  obtain ⟨NP, hNP⟩ : ∃ NP, NP = ps.length := ⟨_, rfl⟩
  obtain ⟨gd, hgd⟩ : ∃ g, g = goodR ⟨kd, id, es, em, t, n, l, y, ps⟩ := ⟨_, rfl⟩
  have hEW : goodE ⟨id, es, em, t, n, l⟩ = true → EntW w ⟨(⟨id, es, em, t, n, l⟩ : Ent), a, c⟩ := fun hg => by
    obtain ⟨g1, g2⟩ := goodE_ok hg
    exact ⟨he.wr, he.room, Nat.le_trans he.few (by omega), ⟨⟨he.ok.id0, he.ok.id1⟩, g1, ⟨he.ok.m0, he.ok.m1⟩, g2, ⟨he.ok.n0, he.ok.n1⟩⟩⟩
  have hGE : gd = true → kd = 1 → goodE ⟨id, es, em, t, n, l⟩ = true := fun e1 e2 => by
    rw [hgd] at e1
    unfold goodR at e1
    rw [if_pos e2] at e1
    simp only [Bool.and_eq_true] at e1
    exact e1.1.1
  have hn2 : 0 ≤ n ∧ n ≤ 255 := ⟨he.ok.n0, he.ok.n1⟩
  have e1 : rcv ⟨⟨kd, id, es, em, t, n, l, y, ps⟩, a, c, pa, pc⟩ = .agg #[.int .i64 kd, .int .i64 id, .int .i64 es, .int .u8 em, .int .i64 t, .int .u8 n, .slice a N c, .bool y, .slice pa NP pc] := by rw [hN, hNP]; rfl
  rw [e1]
  simp only [e1] at hgood
  obtain ⟨W0, hW0⟩ : ∃ u, u = w.alloc (.cells #[.int .i64 kd, .int .i64 id, .int .i64 es, .int .u8 em, .int .i64 t, .int .u8 n, .slice a N c, .bool y, .slice pa NP pc] 61) := ⟨_, rfl⟩
  have hb0 : Below w.heap.size w W0 := by rw [hW0]; exact (Below.refl _ _).alloc (Nat.le_refl _) _
  have e0 : W0.heap.size = w.heap.size + 1 := by rw [hW0]; simp
  have HB0 : Hid (Below w.heap.size w W0) := hb0
  have HW0 : Hid (w.alloc (.cells #[.int .i64 kd, .int .i64 id, .int .i64 es, .int .u8 em, .int .i64 t, .int .u8 n, .slice a N c, .bool y, .slice pa NP pc] 61) = W0) := hW0.symm
  have hcell : ∀ o, W0.cell? ⟨w.heap.size, o, none⟩ = (#[.int .i64 kd, .int .i64 id, .int .i64 es, .int .u8 em, .int .i64 t, .int .u8 n, .slice a N c, .bool y, .slice pa NP pc] : Array Value)[o]? := fun o => by rw [hW0, World.cell?_alloc_new]
  have FR : Hid (∀ u, Below W0.heap.size W0 u → Below w.heap.size w u ∧ u.cell? ⟨w.heap.size, 0, none⟩ = some (.int .i64 kd) ∧ u.cell? ⟨w.heap.size, 1, none⟩ = some (.int .i64 id) ∧ u.cell? ⟨w.heap.size, 2, none⟩ = some (.int .i64 es) ∧ u.cell? ⟨w.heap.size, 3, none⟩ = some (.int .u8 em) ∧ u.cell? ⟨w.heap.size, 4, none⟩ = some (.int .i64 t) ∧ u.cell? ⟨w.heap.size, 5, none⟩ = some (.int .u8 n) ∧ u.cell? ⟨w.heap.size, 6, none⟩ = some (.slice a N c)) := fun u hu => by
    have f : ∀ o, u.cell? ⟨w.heap.size, o, none⟩ = W0.cell? ⟨w.heap.size, o, none⟩ := fun o => hu.cell (p := ⟨w.heap.size, o, none⟩) (by show w.heap.size < _; omega)
    exact ⟨hb0.trans (hu.mono hb0.size), (f 0).trans (hcell 0), (f 1).trans (hcell 1), (f 2).trans (hcell 2), (f 3).trans (hcell 3), (f 4).trans (hcell 4), (f 5).trans (hcell 5), (f 6).trans (hcell 6)⟩
  have CG : Hid (∀ u, Below w.heap.size w u → Calls Tryz.prog 71 #[.agg #[.int .i64 kd, .int .i64 id, .int .i64 es, .int .u8 em, .int .i64 t, .int .u8 n, .slice a N c, .bool y, .slice pa NP pc]] u fun e w' => e = .returned (.bool gd) ∧ Below u.heap.size u w') := fun u hu => by rw [hgd]; exact hgood u hu
  have HP : Hid (PrtR w B q s tb S M O) := h
  have CP : Hid (gd = true → kd = 1 → ∀ u, Below w.heap.size w u → Calls Tryz.prog 23 #[.pointer (some ⟨q, 0, none⟩), .agg #[.int .i64 id, .int .i64 es, .int .u8 em, .int .i64 t, .int .u8 n, .slice a N c]] u fun e w' => e = .returned (.int .i64 (prepP ⟨S, ents M, O⟩ ⟨id, es, em, t, n, l⟩).1) ∧ PrtD w w' B q s tb M (prepP ⟨S, ents M, O⟩ ⟨id, es, em, t, n, l⟩).2) := fun e1 e2 u hu => by
    refine (rprepare_any B q s tb S M O id es em t n a N c l u (h.past hu) (Nat.le_trans hB hu.size) hM hN.symm ((hEW (hGE e1 e2)).past hu) hK).mono ?_
    rintro e w' ⟨rfl, d⟩
    exact ⟨rfl, d.since h hu⟩
  have CC : Hid (∀ u, Below w.heap.size w u → Calls Tryz.prog 25 #[.pointer (some ⟨q, 0, none⟩), .int .i64 id, .agg #[.int .i64 t, .int .u8 n]] u fun e w' => e = .returned (.int .i64 (commitP ⟨S, ents M, O⟩ id t n).1) ∧ PrtD w w' B q s tb M (commitP ⟨S, ents M, O⟩ id t n).2) := fun u hu => by
    refine (rcommit_any B q s tb S M O id t n u (h.past hu) (Nat.le_trans hB hu.size) hO hn2 hS hh).mono ?_
    rintro e w' ⟨rfl, d⟩
    exact ⟨rfl, d.since h hu⟩
  have CA : Hid (∀ u, Below w.heap.size w u → Calls Tryz.prog 26 #[.pointer (some ⟨q, 0, none⟩), .int .i64 id] u fun e w' => e = .returned (.int .i64 (abortP ⟨S, ents M, O⟩ id).1) ∧ PrtD w w' B q s tb M (abortP ⟨S, ents M, O⟩ id).2) := fun u hu => by
    refine (rabort_any B q s tb S M O id u (h.past hu) (Nat.le_trans hB hu.size) hO).mono ?_
    rintro e w' ⟨rfl, d⟩
    exact ⟨rfl, d.since h hu⟩
  have HZ : Hid (Z = if gd = false then (3, ⟨S, ents M, O⟩) else if kd = 1 then prepP ⟨S, ents M, O⟩ ⟨id, es, em, t, n, l⟩ else if kd = 2 then commitP ⟨S, ents M, O⟩ id t n else if kd = 3 then abortP ⟨S, ents M, O⟩ id else (0, ⟨S, ents M, O⟩)) := by
    show _ = _
    rw [hZ, hgd]
    rfl
  have HZ2 := HZ.out
  clear h hB hM hO hS hh he hK hZ hgood hN hNP hgd hEW hGE hn2 e1 hW0 hb0 e0 hcell
  cases gd with
  | false =>
    have HF : Hid (Z = (3, ⟨S, ents M, O⟩)) := by rw [if_pos rfl] at HZ2; exact HZ2
    clear HZ2
    go_enter Tryz.func27, Tryz.ntmps27
    go_wp2_with (first | (go_at_call 71; rw [HW0.out]; refine (CG.out _ HB0.out).mono ?_; rintro e w1 ⟨rfl, hb⟩; have H1 : Hid (Below W0.heap.size W0 w1) := hb; clear hb))
    go_ret
    exact ⟨by rw [HF.out]; rfl, by rw [HF.out]; exact HP.out.stay (FR.out _ H1.out).1⟩
  | true =>
  rw [if_neg (by decide)] at HZ2
  by_cases h1 : kd = 1
  · have HF : Hid (Z = prepP ⟨S, ents M, O⟩ ⟨id, es, em, t, n, l⟩) := by rw [if_pos h1] at HZ2; exact HZ2
    clear HZ2 HZ
    subst h1
    have CP1 : Hid (∀ u, Below w.heap.size w u → Calls Tryz.prog 23 #[.pointer (some ⟨q, 0, none⟩), .agg #[.int .i64 id, .int .i64 es, .int .u8 em, .int .i64 t, .int .u8 n, .slice a N c]] u fun e w' => e = .returned (.int .i64 (prepP ⟨S, ents M, O⟩ ⟨id, es, em, t, n, l⟩).1) ∧ PrtD w w' B q s tb M (prepP ⟨S, ents M, O⟩ ⟨id, es, em, t, n, l⟩).2) := CP.out rfl rfl
    go_enter Tryz.func27, Tryz.ntmps27
    go_wp2_with (first | (have hgo := H1.out; clear hgo; go_at_call 23; refine (CP1.out _ (FR.out _ H1.out).1).mono ?_; rintro e w2 ⟨rfl, hd⟩; have HD : Hid (PrtD w w2 B q s tb M (prepP ⟨S, ents M, O⟩ ⟨id, es, em, t, n, l⟩).2) := hd; clear hd) | (go_at_call 71; rw [HW0.out]; refine (CG.out _ HB0.out).mono ?_; rintro e w1 ⟨rfl, hb⟩; have H1 : Hid (Below W0.heap.size W0 w1) := hb; obtain ⟨_, z0, z1, z2, z3, z4, z5, z6⟩ := FR.out w1 hb; clear hb))
    go_ret
    exact ⟨by rw [HF.out]; rfl, by rw [HF.out]; exact HD.out⟩
  by_cases h2 : kd = 2
  · have HF : Hid (Z = commitP ⟨S, ents M, O⟩ id t n) := by rw [if_neg h1, if_pos h2] at HZ2; exact HZ2
    clear HZ2 HZ
    subst h2
    go_enter Tryz.func27, Tryz.ntmps27
    go_wp2_with (first | (have hgo := H1.out; clear hgo; go_at_call 25; refine (CC.out _ (FR.out _ H1.out).1).mono ?_; rintro e w2 ⟨rfl, hd⟩; have HD : Hid (PrtD w w2 B q s tb M (commitP ⟨S, ents M, O⟩ id t n).2) := hd; clear hd) | (go_at_call 71; rw [HW0.out]; refine (CG.out _ HB0.out).mono ?_; rintro e w1 ⟨rfl, hb⟩; have H1 : Hid (Below W0.heap.size W0 w1) := hb; obtain ⟨_, z0, z1, z2, z3, z4, z5, z6⟩ := FR.out w1 hb; clear hb))
    go_ret
    exact ⟨by rw [HF.out]; rfl, by rw [HF.out]; exact HD.out⟩
  by_cases h3 : kd = 3
  · have HF : Hid (Z = abortP ⟨S, ents M, O⟩ id) := by rw [if_neg h1, if_neg h2, if_pos h3] at HZ2; exact HZ2
    clear HZ2 HZ
    subst h3
    go_enter Tryz.func27, Tryz.ntmps27
    go_wp2_with (first | (have hgo := H1.out; clear hgo; go_at_call 26; refine (CA.out _ (FR.out _ H1.out).1).mono ?_; rintro e w2 ⟨rfl, hd⟩; have HD : Hid (PrtD w w2 B q s tb M (abortP ⟨S, ents M, O⟩ id).2) := hd; clear hd) | (go_at_call 71; rw [HW0.out]; refine (CG.out _ HB0.out).mono ?_; rintro e w1 ⟨rfl, hb⟩; have H1 : Hid (Below W0.heap.size W0 w1) := hb; obtain ⟨_, z0, z1, z2, z3, z4, z5, z6⟩ := FR.out w1 hb; clear hb))
    go_ret
    exact ⟨by rw [HF.out]; rfl, by rw [HF.out]; exact HD.out⟩
  have HF : Hid (Z = (0, ⟨S, ents M, O⟩)) := by rw [if_neg h1, if_neg h2, if_neg h3] at HZ2; exact HZ2
  have b1 : (kd == 1) = false := by simpa using h1
  have b2 : (kd == 2) = false := by simpa using h2
  have b3 : (kd == 3) = false := by simpa using h3
  clear HZ2 HZ h1 h2 h3
  go_enter Tryz.func27, Tryz.ntmps27
  go_wp2_with (first | (go_at_call 71; rw [HW0.out]; refine (CG.out _ HB0.out).mono ?_; rintro e w1 ⟨rfl, hb⟩; have H1 : Hid (Below W0.heap.size W0 w1) := hb; obtain ⟨_, z0, z1, z2, z3, z4, z5, z6⟩ := FR.out w1 hb; clear hb))
  go_ret
  exact ⟨by rw [HF.out]; rfl, by rw [HF.out]; exact HP.out.stay (FR.out _ H1.out).1⟩
end Go.Proofs.YtileidbdmpeciaaGreat

namespace Go.Proofs.YtileidbdmpeciaaGreat
open Go.RowKit
set_option linter.unusedVariables false

theorem PrtR.rows {u : World} {B q s t : Nat} {S : List Ver} {M : List EntM} {O : List (Int × Int)} (h : PrtR u B q s t S M O) : ∀ k, PrtF u q s t k → B ≤ k ∧ k < u.heap.size := fun k hk => by
  rcases hk with e | e | e | ⟨v, e1, e2⟩
  · rw [e]; exact ⟨h.lo, h.lt⟩
  · rw [e]; exact ⟨h.sto.lo, h.sto.lt⟩
  · rw [e]; exact ⟨h.tab.lo, h.tab.lt⟩
  · obtain ⟨a, c, h1, h2, _⟩ := h.over
    rw [h1] at e1
    injection e1 with e1
    rw [← e1] at e2
    exact h2.lt k e2
theorem PrtR.slt {u : World} {B q s t : Nat} {S : List Ver} {M : List EntM} {O : List (Int × Int)} (h : PrtR u B q s t S M O) : ∀ v, u.cell? ⟨s, 0, none⟩ = some v → ∀ g, v.ownBlock = some g → g < u.heap.size := fun v hv g hg => by
  obtain ⟨a, c, h1, h2, _⟩ := h.sto.list
  rw [h1] at hv
  injection hv with hv
  rw [← hv] at hg
  exact (h2.lt g hg).2
theorem PrtR.tlt {u : World} {B q s t : Nat} {S : List Ver} {M : List EntM} {O : List (Int × Int)} (h : PrtR u B q s t S M O) : ∀ v, u.cell? ⟨t, 0, none⟩ = some v → ∀ g, v.ownBlock = some g → g < u.heap.size := fun v hv g hg => by
  obtain ⟨a, c, h1, h2, _⟩ := h.tab.list
  rw [h1] at hv
  injection hv with hv
  rw [← hv] at hg
  exact (h2.lt g hg).2
/-- The document's part has no block of X. -/
structure FarD (u : World) (q s t : Nat) (M : List EntM) (X : Foot) : Prop where
  f : ∀ k, X k → ¬ PrtF u q s t k
  sl : ∀ v, u.cell? ⟨s, 0, none⟩ = some v → ∀ g, v.ownBlock = some g → ¬ X g
  tl : ∀ v, u.cell? ⟨t, 0, none⟩ = some v → ∀ g, v.ownBlock = some g → ¬ X g
  w : ∀ x ∈ M, x.e.l ≠ [] → ∀ b o, x.a = some ⟨b, o, none⟩ → ¬ X b
theorem PrtR.keptX {u u' : World} {B q s t : Nat} {S : List Ver} {M : List EntM} {O : List (Int × Int)} {X : Foot} (h : PrtR u B q s t S M O) (hf : FarD u q s t M X) (hc : Chg u u' X) :
    PrtR u' B q s t S M O ∧ (∀ k, PrtF u' q s t k ↔ PrtF u q s t k) ∧ u'.heap[s]? = u.heap[s]? ∧ u'.heap[t]? = u.heap[t]? := by
  have hq := hc.block q h.lt (fun e => hf.f q e (.inl rfl))
  have hs := hc.block s h.sto.lt (fun e => hf.f s e (.inr (.inl rfl)))
  have ht := hc.block t h.tab.lt (fun e => hf.f t e (.inr (.inr (.inl rfl))))
  obtain ⟨a, c, h1, h2, h3⟩ := h.over
  obtain ⟨a2, c2, m1, m2, m3⟩ := h.sto.list
  obtain ⟨a3, c3, n1, n2, n3⟩ := h.tab.list
  refine ⟨⟨(cell_of_block hq 0).1.trans h.c0, (cell_of_block hq 1).1.trans h.c1, ⟨a, c, (cell_of_block hq 2).1.trans h1, row_keptT h2 (fun k e => hc.block k (h2.lt k e).2 (fun x => hf.f k x (.inr (.inr (.inr ⟨_, h1, e⟩))))), h3⟩, (cell_of_block hq 2).2.trans h.free, ⟨Nat.lt_of_lt_of_le h.sto.lt hc.size, h.sto.lo, ⟨a2, c2, (cell_of_block hs 0).1.trans m1, row_keptT m2 (fun k e => hc.block k (m2.lt k e).2 (hf.sl _ m1 k e)), m3⟩, (cell_of_block hs 0).2.trans h.sto.free, h.sto.oks, h.sto.few⟩, ⟨Nat.lt_of_lt_of_le h.tab.lt hc.size, h.tab.lo, ⟨a3, c3, (cell_of_block ht 0).1.trans n1, row_keptT n2 (fun k e => hc.block k (n2.lt k e).2 (hf.tl _ n1 k e)), n3⟩, (cell_of_block ht 0).2.trans h.tab.free, fun x hx => (h.tab.wrs x hx).kept (fun hl b o e => hc.block b ((h.tab.wrs x hx).wr.blt hl e) (hf.w x hx hl b o e)), h.tab.far, h.tab.few⟩, h.lo, h.qs, h.qt, h.st, fun v hv => h.sl v ((cell_of_block hs 0).1.symm.trans hv), fun v hv => h.tl v ((cell_of_block ht 0).1.symm.trans hv), fun x hx hl b o e => ⟨(h.far x hx hl b o e).1, (h.far x hx hl b o e).2.1, (h.far x hx hl b o e).2.2.1, fun v hv => (h.far x hx hl b o e).2.2.2 v ((cell_of_block hq 2).1.symm.trans hv)⟩, h.few⟩, fun k => ?_, hs, ht⟩
  unfold PrtF
  rw [(cell_of_block hq 2).1]
/-- The landed part in p, the document's in q (its store in s, its table in t), since W. -/
structure DuoI (W u : World) (p q s t : Nat) (P Q : PSt) (s1 t1 m : Nat) (M : List EntM) (XS XT : Foot) (M' : List EntM) : Prop where
  par : ParI u p s1 t1 m P M XS XT
  prt : PrtR u W.heap.size q s t Q.S M' Q.O
  is : ents M' = Q.T
  k : PstK P
  k2 : PstK Q
  below : Below W.heap.size W u
  lo : ∀ k, ParX p m XS XT k → W.heap.size ≤ k
  far : FarD u q s t M' (ParX p m XS XT)
  wl : ∀ x ∈ M, x.e.l ≠ [] → ∀ b o, x.a = some ⟨b, o, none⟩ → ¬ PrtF u q s t b
theorem DuoI.past {W u u' : World} {p q s t : Nat} {P Q : PSt} {s1 t1 m : Nat} {M : List EntM} {XS XT : Foot} {M' : List EntM} (h : DuoI W u p q s t P Q s1 t1 m M XS XT M') (hb : Below u.heap.size u u') : DuoI W u' p q s t P Q s1 t1 m M XS XT M' :=
  ⟨h.par.past hb, h.prt.past hb, h.is, h.k, h.k2, h.below.trans (hb.mono h.below.size), h.lo, ⟨fun k hk hf => h.far.f k hk ((PrtF.below h.prt.lt hb k).1 hf), fun v hv => h.far.sl v ((hb.cell (p := ⟨s, 0, none⟩) h.prt.sto.lt).symm.trans hv), fun v hv => h.far.tl v ((hb.cell (p := ⟨t, 0, none⟩) h.prt.tab.lt).symm.trans hv), h.far.w⟩, fun x hx hl b o e hf => h.wl x hx hl b o e ((PrtF.below h.prt.lt hb b).1 hf)⟩
theorem DuoI.turnL {W u u' : World} {p q s t : Nat} {P Q P' : PSt} {s1 t1 m : Nat} {M : List EntM} {XS XT : Foot} {M' : List EntM} (h : DuoI W u p q s t P Q s1 t1 m M XS XT M') (hl : ParL u u' p s1 t1 m M XS XT P') (hk : PstK P') :
    ∃ M2 XS2 XT2, DuoI W u' p q s t P' Q s1 t1 m M2 XS2 XT2 M' ∧ Did u u' (ParX p m XS XT) (ParX p m XS2 XT2) ∧ ∀ k, PrtF u' q s t k ↔ PrtF u q s t k := by
  obtain ⟨M2, XS2, XT2, j1, j2, j3⟩ := hl
  obtain ⟨r1, r2, r3, r4⟩ := h.prt.keptX h.far j2.chg
  refine ⟨M2, XS2, XT2, ⟨j1, r1, h.is, hk, h.k2, h.below.trans (j2.chg.below h.below.size h.lo), fun k hk => (j2.new k hk).1.elim (h.lo k) (fun e => Nat.le_trans h.below.size e), ⟨fun k hk hf => ?_, fun v hv g hg hx => ?_, fun v hv g hg hx => ?_, fun x hx hl b o e hX => ?_⟩, fun x hx hl b o e hf => ?_⟩, j2, r2⟩
  · rw [r2] at hf
    rcases (j2.new k hk).1 with e | e
    · exact h.far.f k e hf
    · have := (h.prt.rows k hf).2; omega
  · rw [(cell_of_block r3 0).1] at hv
    rcases (j2.new g hx).1 with e | e
    · exact h.far.sl v hv g hg e
    · have := h.prt.slt v hv g hg; omega
  · rw [(cell_of_block r4 0).1] at hv
    rcases (j2.new g hx).1 with e | e
    · exact h.far.tl v hv g hg e
    · have := h.prt.tlt v hv g hg; omega
  · rcases (j2.new b hX).1 with e2 | e2
    · exact h.far.w x hx hl b o e e2
    · have := (h.prt.tab.wrs x hx).wr.blt hl e; omega
  · rw [r2] at hf
    rcases j3 x hx with e2 | e2
    · exact h.wl x e2 hl b o e hf
    · have := e2 hl b o e
      have := (h.prt.rows b hf).2
      omega
theorem DuoI.turnD {W u u' : World} {p q s t : Nat} {P Q Q' : PSt} {s1 t1 m : Nat} {M : List EntM} {XS XT : Foot} {M' : List EntM} (h : DuoI W u p q s t P Q s1 t1 m M XS XT M') (hd : PrtD u u' W.heap.size q s t M' Q') (hk : PstK Q') :
    ∃ M2, DuoI W u' p q s t P Q' s1 t1 m M XS XT M2 := by
  obtain ⟨M2, j1, j2, j3⟩ := hd.ex
  refine ⟨M2, h.par.kept hd.chg.size (fun k hk => hd.chg.block k (h.par.lt k hk) (h.far.f k hk)) (fun x hx hl b o e => hd.chg.block b ((h.par.tab.wrs x hx).wr.blt hl e) (h.wl x hx hl b o e)), j1, j2, h.k, hk, h.below.trans (hd.chg.below h.below.size (fun k hk => (h.prt.rows k hk).1)), h.lo, ⟨fun k hk hf => ?_, fun v hv g hg hx => ?_, fun v hv g hg hx => ?_, fun x hx hl b o e hX => ?_⟩, fun x hx hl b o e hf => ?_⟩
  · rcases hd.new k hf with e | e
    · exact h.far.f k hk e
    · have := h.par.lt k hk; omega
  · rcases hd.rows.1 v hv g hg with e | ⟨v0, e1, e2⟩
    · have := h.par.lt g hx; omega
    · exact h.far.sl v0 e1 g e2 hx
  · rcases hd.rows.2 v hv g hg with e | ⟨v0, e1, e2⟩
    · have := h.par.lt g hx; omega
    · exact h.far.tl v0 e1 g e2 hx
  · rcases j3 x hx with e2 | e2
    · exact h.far.w x e2 hl b o e hX
    · have := e2 hl b o e
      have := h.par.lt b hX
      omega
  · rcases hd.new b hf with e2 | e2
    · exact h.wl x hx hl b o e e2
    · have := (h.par.tab.wrs x hx).wr.blt hl e; omega
/-- Both, and blocks of F that are no part of either; c calls at most have ended something. -/
def DuoQ (W u : World) (p q s t : Nat) (P Q : PSt) (c : Nat) (F : Foot) : Prop :=
  ∃ s1 t1 m M XS XT M', DuoI W u p q s t P Q s1 t1 m M XS XT M' ∧ P.O.length ≤ c ∧ Q.O.length ≤ c ∧ ∀ k, F k → k < u.heap.size ∧ ¬ ParX p m XS XT k ∧ ¬ PrtF u q s t k
theorem DuoQ.below {W u : World} {p q s t c : Nat} {P Q : PSt} {F : Foot} (h : DuoQ W u p q s t P Q c F) : Below W.heap.size W u := by obtain ⟨_, _, _, _, _, _, _, h, _⟩ := h; exact h.below
theorem DuoQ.more {W u u' : World} {p q s t c : Nat} {P Q : PSt} {F G : Foot} (h : DuoQ W u p q s t P Q c F) (hb : Below u.heap.size u u') (hG : ∀ k, G k → F k ∨ u.heap.size ≤ k ∧ k < u'.heap.size) : DuoQ W u' p q s t P Q c G := by
  obtain ⟨s1, t1, m, M, XS, XT, M', h1, h2, h3, h4⟩ := h
  refine ⟨s1, t1, m, M, XS, XT, M', h1.past hb, h2, h3, fun k hk => ?_⟩
  rcases hG k hk with e | e
  · exact ⟨Nat.lt_of_lt_of_le (h4 k e).1 hb.size, (h4 k e).2.1, fun x => (h4 k e).2.2 ((PrtF.below h1.prt.lt hb k).1 x)⟩
  · refine ⟨e.2, fun hx => ?_, fun hx => ?_⟩
    · have := h1.par.lt k hx; omega
    · have := (h1.prt.rows k ((PrtF.below h1.prt.lt hb k).1 hx)).2; omega
theorem DuoQ.past {W u u' : World} {p q s t c : Nat} {P Q : PSt} {F : Foot} (h : DuoQ W u p q s t P Q c F) (hb : Below u.heap.size u u') : DuoQ W u' p q s t P Q c F := h.more hb (fun k hk => .inl hk)
theorem DuoQ.less {W u : World} {p q s t c : Nat} {P Q : PSt} {F G : Foot} (h : DuoQ W u p q s t P Q c F) (hG : ∀ k, G k → F k) : DuoQ W u p q s t P Q c G := by
  obtain ⟨s1, t1, m, M, XS, XT, M', h1, h2, h3, h4⟩ := h
  exact ⟨s1, t1, m, M, XS, XT, M', h1, h2, h3, fun k hk => h4 k (hG k hk)⟩
theorem DuoQ.turnL {W u u' : World} {p q s t c' : Nat} {P Q P' : PSt} {F : Foot} {s1 t1 m : Nat} {M : List EntM} {XS XT : Foot} {M' : List EntM} (h1 : DuoI W u p q s t P Q s1 t1 m M XS XT M') (h4 : ∀ k, F k → k < u.heap.size ∧ ¬ ParX p m XS XT k ∧ ¬ PrtF u q s t k) (hl : ParL u u' p s1 t1 m M XS XT P') (hk : PstK P') (hc : P'.O.length ≤ c') (hq : Q.O.length ≤ c') :
    DuoQ W u' p q s t P' Q c' F ∧ ∀ k, F k → u'.heap[k]? = u.heap[k]? := by
  obtain ⟨M2, XS2, XT2, j1, j2, j3⟩ := h1.turnL hl hk
  refine ⟨⟨s1, t1, m, M2, XS2, XT2, M', j1, hc, hq, fun k hk => ⟨Nat.lt_of_lt_of_le (h4 k hk).1 j2.chg.size, fun hx => ?_, fun hx => (h4 k hk).2.2 ((j3 k).1 hx)⟩⟩, fun k hk => j2.chg.block k (h4 k hk).1 (h4 k hk).2.1⟩
  rcases (j2.new k hx).1 with e | e
  · exact (h4 k hk).2.1 e
  · have := (h4 k hk).1; omega
theorem DuoQ.turnD {W u u' : World} {p q s t c' : Nat} {P Q Q' : PSt} {F : Foot} {s1 t1 m : Nat} {M : List EntM} {XS XT : Foot} {M' : List EntM} (h1 : DuoI W u p q s t P Q s1 t1 m M XS XT M') (h4 : ∀ k, F k → k < u.heap.size ∧ ¬ ParX p m XS XT k ∧ ¬ PrtF u q s t k) (hd : PrtD u u' W.heap.size q s t M' Q') (hk : PstK Q') (hc : P.O.length ≤ c') (hq : Q'.O.length ≤ c') :
    DuoQ W u' p q s t P Q' c' F ∧ ∀ k, F k → u'.heap[k]? = u.heap[k]? := by
  obtain ⟨M2, j1⟩ := h1.turnD hd hk
  refine ⟨⟨s1, t1, m, M, XS, XT, M2, j1, hc, hq, fun k hk => ⟨Nat.lt_of_lt_of_le (h4 k hk).1 hd.chg.size, (h4 k hk).2.1, fun hx => ?_⟩⟩, fun k hk => hd.chg.block k (h4 k hk).1 (h4 k hk).2.2⟩
  rcases hd.new k hx with e | e
  · exact (h4 k hk).2.2 e
  · have := (h4 k hk).1; omega
theorem keys_few {Q : PSt} (K : PstK Q) {e : Ent} (hg : goodE e = true) {M' : List EntM} (hi : ents M' = Q.T) : (keysV Q.S).length + e.l.length + (keysT (ents M')).length ≤ 1000 := by
  have h1 := K.few
  have h2 := (good_few hg).1
  rw [hi]
  omega
theorem tab_few {Q : PSt} (K : PstK Q) {M' : List EntM} (hi : ents M' = Q.T) : M'.length ≤ 100 := by
  have := K.tab.few
  rw [← hi] at this
  simpa [ents] using this
/-! ### The calls -/
theorem qprep_p {W u : World} {p q s t c : Nat} {P Q : PSt} {F : Foot} (h : DuoQ W u p q s t P Q c F) (Y : EntM) (he : EntW u Y) :
    Calls Tryz.prog 10 #[.pointer (some ⟨p, 0, none⟩), ev Y] u fun e w' => e = .returned (.int .i64 (prepP P Y.e).1) ∧ DuoQ W w' p q s t (prepP P Y.e).2 Q c F ∧ ∀ k, F k → w'.heap[k]? = u.heap[k]? := by
  obtain ⟨s1, t1, m, M, XS, XT, M', h1, h2, h3, h4⟩ := h
  refine (pprep_any Y.e.id Y.e.s Y.e.m Y.e.t Y.e.n Y.a Y.e.l.length Y.c Y.e.l u h1.par h1.k rfl he).mono ?_
  rintro e w' ⟨rfl, hl⟩
  exact ⟨rfl, DuoQ.turnL h1 h4 hl (h1.k.prep _ (wrts_ok he.wr)) (by rw [olen_prep]; exact h2) h3⟩
theorem qprep_d {W u : World} {p q s t c : Nat} {P Q : PSt} {F : Foot} (h : DuoQ W u p q s t P Q c F) (Y : EntM) (he : EntW u Y) :
    Calls Tryz.prog 23 #[.pointer (some ⟨q, 0, none⟩), ev Y] u fun e w' => e = .returned (.int .i64 (prepP Q Y.e).1) ∧ DuoQ W w' p q s t P (prepP Q Y.e).2 c F ∧ ∀ k, F k → w'.heap[k]? = u.heap[k]? := by
  obtain ⟨s1, t1, m, M, XS, XT, M', h1, h2, h3, h4⟩ := h
  have h9 := rprepare_any W.heap.size q s t Q.S M' Q.O Y.e.id Y.e.s Y.e.m Y.e.t Y.e.n Y.a Y.e.l.length Y.c Y.e.l u h1.prt h1.below.size (tab_few h1.k2 h1.is) rfl he (fun hg => keys_few h1.k2 hg h1.is)
  rw [h1.is] at h9
  refine h9.mono ?_
  rintro e w' ⟨rfl, hd⟩
  exact ⟨rfl, DuoQ.turnD h1 h4 hd (h1.k2.prep _ (wrts_ok he.wr)) h2 (by rw [olen_prep]; exact h3)⟩
theorem qcommit_p {W u : World} {p q s t c : Nat} {P Q : PSt} {F : Foot} (h : DuoQ W u p q s t P Q c F) (id a n : Int) (hid : I64 id) (hn : 0 ≤ n ∧ n ≤ 255) (hc : c ≤ 800) :
    Calls Tryz.prog 12 #[.pointer (some ⟨p, 0, none⟩), .int .i64 id, .agg #[.int .i64 a, .int .u8 n]] u fun e w' => e = .returned (.int .i64 (commitP P id a n).1) ∧ DuoQ W w' p q s t (commitP P id a n).2 Q (c + 1) F ∧ ∀ k, F k → w'.heap[k]? = u.heap[k]? := by
  obtain ⟨s1, t1, m, M, XS, XT, M', h1, h2, h3, h4⟩ := h
  refine (pcommit_any id a n hid hn u h1.par h1.k (by omega)).mono ?_
  rintro e w' ⟨rfl, hl⟩
  exact ⟨rfl, DuoQ.turnL h1 h4 hl (h1.k.commit _ _ _ hn) (by have := olen_commit P id a n; omega) (by omega)⟩
theorem qcommit_d {W u : World} {p q s t c : Nat} {P Q : PSt} {F : Foot} (h : DuoQ W u p q s t P Q c F) (id a n : Int) (hn : 0 ≤ n ∧ n ≤ 255) (hc : c ≤ 800) :
    Calls Tryz.prog 25 #[.pointer (some ⟨q, 0, none⟩), .int .i64 id, .agg #[.int .i64 a, .int .u8 n]] u fun e w' => e = .returned (.int .i64 (commitP Q id a n).1) ∧ DuoQ W w' p q s t P (commitP Q id a n).2 (c + 1) F ∧ ∀ k, F k → w'.heap[k]? = u.heap[k]? := by
  obtain ⟨s1, t1, m, M, XS, XT, M', h1, h2, h3, h4⟩ := h
  have h9 := rcommit_any W.heap.size q s t Q.S M' Q.O id a n u h1.prt h1.below.size (by omega) hn (by have := h1.k2.sto.len; omega) h1.k2.how
  rw [h1.is] at h9
  refine h9.mono ?_
  rintro e w' ⟨rfl, hd⟩
  exact ⟨rfl, DuoQ.turnD h1 h4 hd (h1.k2.commit _ _ _ hn) (by omega) (by have h8 : (commitP Q id a n).2.O.length ≤ Q.O.length + 1 := olen_commit Q id a n; omega)⟩
theorem qabort_p {W u : World} {p q s t c : Nat} {P Q : PSt} {F : Foot} (h : DuoQ W u p q s t P Q c F) (id : Int) (hid : I64 id) (hc : c ≤ 800) :
    Calls Tryz.prog 17 #[.pointer (some ⟨p, 0, none⟩), .int .i64 id] u fun e w' => e = .returned (.int .i64 (abortP P id).1) ∧ DuoQ W w' p q s t (abortP P id).2 Q (c + 1) F ∧ ∀ k, F k → w'.heap[k]? = u.heap[k]? := by
  obtain ⟨s1, t1, m, M, XS, XT, M', h1, h2, h3, h4⟩ := h
  refine (pabort_any id hid u h1.par h1.k (by omega)).mono ?_
  rintro e w' ⟨rfl, hl⟩
  exact ⟨rfl, DuoQ.turnL h1 h4 hl (h1.k.abort _) (by have := olen_abort P id; omega) (by omega)⟩
theorem qabort_d {W u : World} {p q s t c : Nat} {P Q : PSt} {F : Foot} (h : DuoQ W u p q s t P Q c F) (id : Int) (hc : c ≤ 800) :
    Calls Tryz.prog 26 #[.pointer (some ⟨q, 0, none⟩), .int .i64 id] u fun e w' => e = .returned (.int .i64 (abortP Q id).1) ∧ DuoQ W w' p q s t P (abortP Q id).2 (c + 1) F ∧ ∀ k, F k → w'.heap[k]? = u.heap[k]? := by
  obtain ⟨s1, t1, m, M, XS, XT, M', h1, h2, h3, h4⟩ := h
  have h9 := rabort_any W.heap.size q s t Q.S M' Q.O id u h1.prt h1.below.size (by omega)
  rw [h1.is] at h9
  refine h9.mono ?_
  rintro e w' ⟨rfl, hd⟩
  exact ⟨rfl, DuoQ.turnD h1 h4 hd (h1.k2.abort _) (by omega) (by have h8 : (abortP Q id).2.O.length ≤ Q.O.length + 1 := olen_abort Q id; omega)⟩
theorem qplay_p {W u : World} {p q s t c : Nat} {P Q : PSt} {F : Foot} (h : DuoQ W u p q s t P Q c F) (x : RcM) (he : RcW u x) (hc : c ≤ 800) :
    Calls Tryz.prog 18 #[.pointer (some ⟨p, 0, none⟩), rcv x] u fun e w' => e = .returned (.int .i64 (playP P x.r).1) ∧ DuoQ W w' p q s t (playP P x.r).2 Q (c + 1) F ∧ ∀ k, F k → w'.heap[k]? = u.heap[k]? := by
  obtain ⟨s1, t1, m, M, XS, XT, M', h1, h2, h3, h4⟩ := h
  refine (pplay_any x u h1.par h1.k (by omega) he).mono ?_
  rintro e w' ⟨rfl, hl⟩
  exact ⟨rfl, DuoQ.turnL h1 h4 hl (h1.k.play _ ⟨he.ok.n0, he.ok.n1⟩ (wrts_ok he.wr)) (by have := olen_play P x.r; omega) (by omega)⟩
theorem qplay_d {W u : World} {p q s t c : Nat} {P Q : PSt} {F : Foot} (h : DuoQ W u p q s t P Q c F) (x : RcM) (he : RcW u x) (hc : c ≤ 800) :
    Calls Tryz.prog 27 #[.pointer (some ⟨q, 0, none⟩), rcv x] u fun e w' => e = .returned (.int .i64 (playP Q x.r).1) ∧ DuoQ W w' p q s t P (playP Q x.r).2 (c + 1) F ∧ ∀ k, F k → w'.heap[k]? = u.heap[k]? := by
  obtain ⟨s1, t1, m, M, XS, XT, M', h1, h2, h3, h4⟩ := h
  have h9 := rplay_any W.heap.size q s t Q.S M' Q.O x u h1.prt h1.below.size (tab_few h1.k2 h1.is) (by omega) (by have := h1.k2.sto.len; omega) h1.k2.how he (fun hg => keys_few h1.k2 hg h1.is)
  rw [h1.is] at h9
  refine h9.mono ?_
  rintro e w' ⟨rfl, hd⟩
  exact ⟨rfl, DuoQ.turnD h1 h4 hd (h1.k2.play _ ⟨he.ok.n0, he.ok.n1⟩ (wrts_ok he.wr)) (by omega) (by have h8 : (playP Q x.r).2.O.length ≤ Q.O.length + 1 := olen_play Q x.r; omega)⟩
theorem qtrim_p {W u : World} {p q s t c : Nat} {P Q : PSt} {F : Foot} (h : DuoQ W u p q s t P Q c F) (a n : Int) :
    Calls Tryz.prog 29 #[.pointer (some ⟨p, 0, none⟩), .agg #[.int .i64 a, .int .u8 n]] u fun e w' => e = .returned (.int .i64 (trimP P a n).1) ∧ DuoQ W w' p q s t (trimP P a n).2 Q c F ∧ ∀ k, F k → w'.heap[k]? = u.heap[k]? := by
  obtain ⟨s1, t1, m, M, XS, XT, M', h1, h2, h3, h4⟩ := h
  refine (ptrim_any a n u h1.par).mono ?_
  rintro e w' ⟨rfl, hl⟩
  exact ⟨rfl, DuoQ.turnL h1 h4 hl (h1.k.trim a n) h2 h3⟩
theorem qtrim_d {W u : World} {p q s t c : Nat} {P Q : PSt} {F : Foot} (h : DuoQ W u p q s t P Q c F) (a n : Int) :
    Calls Tryz.prog 30 #[.pointer (some ⟨s, 0, none⟩), .agg #[.int .i64 a, .int .u8 n]] u fun e w' => e = .returned (.int .i64 (trimP Q a n).1) ∧ DuoQ W w' p q s t P (trimP Q a n).2 c F ∧ ∀ k, F k → w'.heap[k]? = u.heap[k]? := by
  obtain ⟨s1, t1, m, M, XS, XT, M', h1, h2, h3, h4⟩ := h
  refine (rtrim10_row W.heap.size s Q.S a n u h1.prt.sto h1.below.size).mono ?_
  rintro e w' ⟨rfl, k1, k2, k3⟩
  have hp := h1.prt.turnS k1 k2 k3
  have hq := k2.block q h1.prt.lt h1.prt.qs
  have hd : PrtD u w' W.heap.size q s t M' (trimP Q a n).2 := ⟨⟨M', hp, h1.is, fun x hx => .inl hx⟩, k2.mono (fun k _ e => .inr (.inl e)), fun k hk => .inl (by unfold PrtF at hk ⊢; rw [(cell_of_block hq 2).1] at hk; exact hk), RowsS.turnS k2 k3 h1.prt.tab.lt h1.prt.st⟩
  exact ⟨rfl, DuoQ.turnD h1 h4 hd (h1.k2.trim a n) h2 h3⟩
theorem qread_p {W u : World} {p q s t c : Nat} {P Q : PSt} {F : Foot} (h : DuoQ W u p q s t P Q c F) (k : List Int) (hk : Ky k) (a n now : Int) :
    Calls Tryz.prog 14 #[.pointer (some ⟨p, 0, none⟩), kv k, .agg #[.int .i64 a, .int .u8 n], .int .i64 now] u fun e w' => e = .returned (.tuple #[.string (strOfNums ((readP P k a n now).2.getD [])), .bool (readP P k a n now).2.isSome, .int .i64 (readP P k a n now).1]) ∧ Below u.heap.size u w' := by
  obtain ⟨s1, t1, m, M, XS, XT, M', h1, h2, h3, h4⟩ := h
  exact pread_any k hk a n now u h1.par
theorem qread_d {W u : World} {p q s t c : Nat} {P Q : PSt} {F : Foot} (h : DuoQ W u p q s t P Q c F) (k : List Int) (hk : Ky k) (a n now : Int) :
    Calls Tryz.prog 31 #[.pointer (some ⟨q, 0, none⟩), kv k, .agg #[.int .i64 a, .int .u8 n], .int .i64 now] u fun e w' => e = .returned (.tuple #[.string (strOfNums ((readP Q k a n now).2.getD [])), .bool (readP Q k a n now).2.isSome, .int .i64 (readP Q k a n now).1]) ∧ Below u.heap.size u w' := by
  obtain ⟨s1, t1, m, M, XS, XT, M', h1, h2, h3, h4⟩ := h
  have h9 := rread_any W.heap.size q s t Q.S M' Q.O k hk a n now u h1.prt
  rw [h1.is] at h9
  exact h9
theorem qscan_p {W u : World} {p q s t c : Nat} {P Q : PSt} {F : Foot} (h : DuoQ W u p q s t P Q c F) (j k : List Int) (hj : Ky j) (hk : Ky k) (a n now most : Int) (hmo : -9223372036854775808 ≤ most ∧ most ≤ 9223372036854775807) :
    Calls Tryz.prog 16 #[.pointer (some ⟨p, 0, none⟩), kv j, kv k, .agg #[.int .i64 a, .int .u8 n], .int .i64 now, .int .i64 most] u fun e w' => (∃ a' c', e = .returned (.tuple #[.slice a' (scanP P j k a n now most).2.length c', .int .i64 (scanP P j k a n now most).1]) ∧ ItmsAt w' a' (scanP P j k a n now most).2 ∧ (scanP P j k a n now most).2.length ≤ c') ∧ Below u.heap.size u w' := by
  obtain ⟨s1, t1, m, M, XS, XT, M', h1, h2, h3, h4⟩ := h
  exact pscan_any j k hj hk a n now most hmo u h1.par
theorem qscan_d {W u : World} {p q s t c : Nat} {P Q : PSt} {F : Foot} (h : DuoQ W u p q s t P Q c F) (j k : List Int) (hj : Ky j) (hk : Ky k) (a n now most : Int) (hmo : -9223372036854775808 ≤ most ∧ most ≤ 9223372036854775807) :
    Calls Tryz.prog 32 #[.pointer (some ⟨q, 0, none⟩), kv j, kv k, .agg #[.int .i64 a, .int .u8 n], .int .i64 now, .int .i64 most] u fun e w' => (∃ a' c', e = .returned (.tuple #[.slice a' (scanP Q j k a n now most).2.length c', .int .i64 (scanP Q j k a n now most).1]) ∧ ItmsAt w' a' (scanP Q j k a n now most).2 ∧ (scanP Q j k a n now most).2.length ≤ c') ∧ Below u.heap.size u w' := by
  obtain ⟨s1, t1, m, M, XS, XT, M', h1, h2, h3, h4⟩ := h
  have h9 := rpscan_any W.heap.size q s t Q.S M' Q.O j k hj hk a n now most hmo u h1.prt h1.k2.sto
  rw [h1.is] at h9
  exact h9
theorem qstate_p {W u : World} {p q s t c : Nat} {P Q : PSt} {F : Foot} (h : DuoQ W u p q s t P Q c F) (id : Int) (hid : I64 id) :
    Calls Tryz.prog 19 #[.pointer (some ⟨p, 0, none⟩), .int .i64 id] u fun e w' => e = .returned (.int .i64 (stateP P id)) ∧ Below u.heap.size u w' := by
  obtain ⟨s1, t1, m, M, XS, XT, M', h1, h2, h3, h4⟩ := h
  exact pstate_any id hid u h1.par h1.k.opn
theorem qstate_d {W u : World} {p q s t c : Nat} {P Q : PSt} {F : Foot} (h : DuoQ W u p q s t P Q c F) (id : Int) :
    Calls Tryz.prog 34 #[.pointer (some ⟨q, 0, none⟩), .int .i64 id] u fun e w' => e = .returned (.int .i64 (stateP Q id)) ∧ Below u.heap.size u w' := by
  obtain ⟨s1, t1, m, M, XS, XT, M', h1, h2, h3, h4⟩ := h
  have h9 := rstate_any W.heap.size q s t Q.S M' Q.O id u h1.prt
  rw [h1.is] at h9
  exact h9
theorem qprepared_p {W u : World} {p q s t c : Nat} {P Q : PSt} {F : Foot} (h : DuoQ W u p q s t P Q c F) :
    Calls Tryz.prog 20 #[.pointer (some ⟨p, 0, none⟩)] u fun e w' => ∃ a cc, e = .returned (.slice a P.T.length cc) ∧ OwnB 2 1 u w' (.slice a P.T.length cc) P.T.length ((idsV P.T).map (Value.int .i64)) := by
  obtain ⟨s1, t1, m, M, XS, XT, M', h1, h2, h3, h4⟩ := h
  have e1 : M.length = P.T.length := by rw [← h1.par.is]; unfold ents; simp
  have h9 := pprepared_any u h1.par
  rw [e1] at h9
  exact h9
/-- What the walk reads of the document's part: where its store and table lie; the table's entries. -/
theorem DuoQ.cells {W u : World} {p q s t c : Nat} {P Q : PSt} {F : Foot} (h : DuoQ W u p q s t P Q c F) : u.cell? ⟨q, 0, none⟩ = some (.pointer (some ⟨s, 0, none⟩)) ∧ u.cell? ⟨q, 1, none⟩ = some (.pointer (some ⟨t, 0, none⟩)) := by
  obtain ⟨s1, t1, m, M, XS, XT, M', h1, h2, h3, h4⟩ := h
  exact ⟨h1.prt.c0, h1.prt.c1⟩
theorem DuoQ.tabs {W u : World} {p q s t c : Nat} {P Q : PSt} {F : Foot} (h : DuoQ W u p q s t P Q c F) : ∃ a cc, Q.T.length ≤ cc ∧ Q.T.length ≤ 100 ∧ (∀ v, Below u.heap.size u v → v.cell? ⟨t, 0, none⟩ = some (.slice a Q.T.length cc)) ∧ ∀ i x, Q.T[i]? = some x → ∃ g, a = some ⟨g, 0, none⟩ ∧ ∀ v, Below u.heap.size u v → v.cell? ⟨g, i * 6, none⟩ = some (.int .i64 x.id) := by
  obtain ⟨s1, t1, m, M, XS, XT, M', h1, h2, h3, h4⟩ := h
  have e1 : M'.length = Q.T.length := by rw [← h1.is]; unfold ents; simp
  obtain ⟨a, cc, j1, j2, j3⟩ := h1.prt.tab.open
  rw [e1] at j1 j2
  refine ⟨a, cc, j1, h1.k2.tab.few, j2, fun i x hx => ?_⟩
  rw [← h1.is] at hx
  unfold ents at hx
  rw [List.getElem?_map] at hx
  cases hy : M'[i]? with
  | none => rw [hy] at hx; cases hx
  | some y =>
    rw [hy] at hx
    have hx2 : y.e = x := Option.some.inj hx
    rcases j3 with e | ⟨g, e2, e3⟩
    · rw [e] at hy; simp at hy
    · exact ⟨g, e2, fun v hv => by rw [← hx2]; exact (e3 v hv i y hy).cells.1⟩
theorem qstore_p {W u : World} {p q s t c : Nat} {P Q : PSt} {F : Foot} (h : DuoQ W u p q s t P Q c F) :
    Calls Tryz.prog 38 #[.pointer (some ⟨p, 0, none⟩)] u fun e w' => ∃ b, e = .returned (.pointer (some ⟨b, 0, none⟩)) ∧ Hid (∃ Z, StD w' b P.S Z) ∧ Below u.heap.size u w' := by
  obtain ⟨s1, t1, m, M, XS, XT, M', h1, h2, h3, h4⟩ := h
  refine (pstore_any u h1.par).mono ?_
  rintro e w' ⟨b, Z, rfl, j1, j2, j3⟩
  exact ⟨b, rfl, ⟨Z, j1⟩, j2⟩
theorem DuoQ.sto {W u : World} {p q s t c : Nat} {P Q : PSt} {F : Foot} (h : DuoQ W u p q s t P Q c F) : StoreR u W.heap.size s Q.S := by
  obtain ⟨s1, t1, m, M, XS, XT, M', h1, h2, h3, h4⟩ := h
  exact h1.prt.sto
theorem duoq_new {W v v2 : World} {p q s t : Nat} (h : PaX W v p ⟨[], [], []⟩ 0) (k : PrtR v2 v.heap.size q s t [] [] []) (hb : Below v.heap.size v v2) : DuoQ W v2 p q s t ⟨[], [], []⟩ ⟨[], [], []⟩ 0 noFoot := by
  obtain ⟨s1, t1, m, M, XS, XT, h1, h2, h3, h4, h5⟩ := h
  have hv : W.heap.size ≤ v.heap.size := h4.size
  have hr := k.rows
  have hM : M = [] := by have := h1.is; simpa [ents] using this
  refine ⟨s1, t1, m, M, XS, XT, [], ⟨h1.past hb, ?_, rfl, h2, PstK.nil, h4.trans (hb.mono h4.size), h5, ⟨fun x hx hf => ?_, fun x hx g hg hX => ?_, fun x hx g hg hX => ?_, fun x hx => by simp at hx⟩, fun x hx => by rw [hM] at hx; simp at hx⟩, Nat.zero_le _, Nat.zero_le _, fun k hk => hk.elim⟩
  · obtain ⟨a, c, o1, o2, o3⟩ := k.over
    obtain ⟨a2, c2, m1, m2, m3⟩ := k.sto.list
    obtain ⟨a3, c3, n1, n2, n3⟩ := k.tab.list
    exact ⟨k.c0, k.c1, ⟨a, c, o1, own_downT o2 hv, o3⟩, k.free, ⟨k.sto.lt, Nat.le_trans hv k.sto.lo, ⟨a2, c2, m1, own_downT m2 hv, m3⟩, k.sto.free, k.sto.oks, k.sto.few⟩, ⟨k.tab.lt, Nat.le_trans hv k.tab.lo, ⟨a3, c3, n1, own_downT n2 hv, n3⟩, k.tab.free, k.tab.wrs, k.tab.far, k.tab.few⟩, Nat.le_trans hv k.lo, k.qs, k.qt, k.st, k.sl, k.tl, k.far, k.few⟩
  · have := h1.lt x hx
    have := (hr x hf).1
    omega
  · obtain ⟨a2, c2, m1, m2, m3⟩ := k.sto.list
    rw [m1] at hx
    injection hx with hx
    rw [← hx] at hg
    have := (m2.lt g hg).1
    have := h1.lt g hX
    omega
  · obtain ⟨a2, c2, m1, m2, m3⟩ := k.tab.list
    rw [m1] at hx
    injection hx with hx
    rw [← hx] at hg
    have := (m2.lt g hg).1
    have := h1.lt g hX
    omega
end Go.Proofs.YtileidbdmpeciaaGreat

