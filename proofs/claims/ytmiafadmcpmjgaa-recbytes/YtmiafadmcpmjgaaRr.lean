/-
  The document's own records: Good.
  The document's own records: PutWrites.
  The document's own records: Put.
-/
import Derived.Test.YtmiafadmcpmjgaaRl
import Derived.Test.YtmiafadmcpmjgaaRefPrep1
import Derived.Test.YtmiafadmcpmjgaaRefParts
import Derived.Test.YtmiafadmcpmjgaaRw
import Derived.Test.YtmiafadmcpmjgaaRecL1
import Derived.Test.YtmiafadmcpmjgaaRegLast
import Derived.Test.YtmiafadmcpmjgaaLg
namespace Go.Proofs.Ytmiafadmcpmjgaa
open Go.RowKit
set_option linter.unusedVariables false
set_option linter.unusedSimpArgs false

theorem ret_b {v : Value} {b R : Bool} (hv : v = .bool b) (h : b = R) : Ending.returned v = .returned (.bool R) := by rw [hv, h]
theorem nat_zero (M : Nat) : (((M : Nat) : Int) == 0) = decide (M = 0) := by
  by_cases h : M = 0
  · subst h; rfl
  · rw [decide_eq_false h]; exact beq_eq_false_iff_ne.2 (by omega)
theorem gd_box {w u : World} {T T2 : TypeId} {kd id s m t n : Int} {a : Option Addr} {N c : Nat} {y : Bool} {pa : Option Addr} {M pc : Nat} (hb : Below ((w.alloc (.cells #[.int .i64 kd, .int .i64 id, .int .i64 s, .int .u8 m, .int .i64 t, .int .u8 n, .slice a N c, .bool y, .slice pa M pc] T)).alloc (.cells #[.int .i64 0, .int .u8 0] T2)).heap.size ((w.alloc (.cells #[.int .i64 kd, .int .i64 id, .int .i64 s, .int .u8 m, .int .i64 t, .int .u8 n, .slice a N c, .bool y, .slice pa M pc] T)).alloc (.cells #[.int .i64 0, .int .u8 0] T2)) u) :
    RBox u w.heap.size kd id s m t n a N c y pa M pc ∧ u.cell? ⟨w.heap.size + 1, 0, none⟩ = some (.int .i64 0) ∧ u.cell? ⟨w.heap.size + 1, 1, none⟩ = some (.int .u8 0) ∧ Below w.heap.size w u := by
  have bx := (RBox.made w T kd id s m t n a N c y pa M pc).past ((Below.refl _ _).alloc (Nat.le_refl _) (.cells #[.int .i64 0, .int .u8 0] T2))
  have hs : ((w.alloc (.cells #[.int .i64 kd, .int .i64 id, .int .i64 s, .int .u8 m, .int .i64 t, .int .u8 n, .slice a N c, .bool y, .slice pa M pc] T)).alloc (.cells #[.int .i64 0, .int .u8 0] T2)).heap.size = w.heap.size + 2 := by simp
  refine ⟨bx.past hb, ?_, ?_, ?_⟩
  · rw [hb.cell (p := ⟨w.heap.size + 1, 0, none⟩) (by rw [hs]; show w.heap.size + 1 < _; omega)]
    have := World.cell?_alloc_new (w.alloc (.cells #[.int .i64 kd, .int .i64 id, .int .i64 s, .int .u8 m, .int .i64 t, .int .u8 n, .slice a N c, .bool y, .slice pa M pc] T)) #[.int .i64 0, .int .u8 0] T2 0
    rw [World.size_alloc] at this
    rw [this]; rfl
  · rw [hb.cell (p := ⟨w.heap.size + 1, 1, none⟩) (by rw [hs]; show w.heap.size + 1 < _; omega)]
    have := World.cell?_alloc_new (w.alloc (.cells #[.int .i64 kd, .int .i64 id, .int .i64 s, .int .u8 m, .int .i64 t, .int .u8 n, .slice a N c, .bool y, .slice pa M pc] T)) #[.int .i64 0, .int .u8 0] T2 1
    rw [World.size_alloc] at this
    rw [this]; rfl
  · exact (((Below.refl _ _).alloc (Nat.le_refl _) _).alloc (by simp) _).trans (hb.mono (by rw [hs]; omega))
set_option maxHeartbeats 8000000 in
set_option maxRecDepth 8000 in
theorem rgood14_any (x : RcM) (w : World) (h : RcW w x) :
    Calls Try.prog 20 #[rcv x] w fun e w' => e = .returned (.bool (goodR x.r)) ∧ Below w.heap.size w w' := by
  obtain ⟨⟨kd, id, s, m, t, n, l, y, ps⟩, a, c, pa, pc⟩ := x
  obtain ⟨hwr, hrm, hfw, hps, hpr, hpf, hkd, hok⟩ := h
  simp only at hwr hrm hfw hps hpr hpf hkd
  obtain ⟨N, hN⟩ : ∃ N, l.length = N := ⟨_, rfl⟩
  obtain ⟨M, hM⟩ : ∃ N, ps.length = N := ⟨_, rfl⟩
  unfold rcv encR
  simp only
  simp only [hN, hM] at hrm hfw hpr hpf ⊢
  obtain ⟨ge, hge⟩ : ∃ x, x = goodE ⟨id, s, m, t, n, l⟩ := ⟨_, rfl⟩
  obtain ⟨gs, hgs⟩ : ∃ x, x = decide (okS t) := ⟨_, rfl⟩
  obtain ⟨pb, hpb⟩ : ∃ x, x = partsB ps := ⟨_, rfl⟩
  have CE : Hid (∀ u s' m' N', Below w.heap.size w u → s' = s → m' = m → N' = N → Calls Try.prog 55 #[.agg #[.int .i64 id, .int .i64 s', .int .u8 m', .int .i64 t, .int .u8 n, .slice a N' c]] u fun e w' => e = .returned (.bool ge) ∧ Below u.heap.size u w') := fun u s' m' N' hu e1 e2 e3 => by
    subst e1 e2 e3; rw [hge]; exact rgoode_any id s' m' t n a N' c l u hN hrm (by omega) (hwr.past hu)
  have CG : Hid (∀ u, Calls Try.prog 56 #[.agg #[.int .i64 t, .int .u8 n]] u fun e w' => e = .returned (.bool gs) ∧ Below u.heap.size u w') := fun u => by rw [hgs]; exact rgood6_any t n u
  have CP : Hid (∀ u M', Below w.heap.size w u → M' = M → Calls Try.prog 57 #[.slice pa M' pc] u fun e w' => e = .returned (.bool pb) ∧ Below u.heap.size u w') := fun u M' hu e1 => by
    subst e1; rw [hpb]
    refine (rparts14_any pa M' pc ps u hM (by omega) (hps.past hu)).mono ?_
    rintro e w' ⟨rfl, q, rfl⟩
    exact ⟨rfl, below_dN (Below.refl _ _) q⟩
  obtain ⟨R, hR⟩ : ∃ R, R = goodR ⟨kd, id, s, m, t, n, l, y, ps⟩ := ⟨_, rfl⟩
  have hr : R = (if kd = 1 then ge && !y && decide (M = 0) else if kd = 2 then decide (1 ≤ id) && (decide (s = 0 ∧ m = 0) && decide (N = 0) && !y && decide (M = 0)) && gs else if kd = 3 then decide (1 ≤ id) && (decide (s = 0 ∧ m = 0) && decide (N = 0) && !y && decide (M = 0)) && decide (t = 0 ∧ n = 0) else if kd = 4 then decide (1 ≤ id) && (decide (s = 0 ∧ m = 0) && decide (N = 0)) && pb && gs && (y || decide (t = 0 ∧ n = 0)) else if kd = 5 then decide (id = 0) && (decide (s = 0 ∧ m = 0) && decide (N = 0) && !y && decide (M = 0)) && gs && decide (n = 0) else false) := by
    rw [hR, hge, hgs, hpb, ← hN, ← hM]; rfl
  rw [← hR]
  clear hR hge hgs hpb hwr hrm hfw hps hpr hpf hkd hok hN hM
  by_cases k1 : kd = 1
  · subst k1
    have HR : Hid (R = (ge && !y && decide (M = 0))) := hr
    clear hr
    cases ge with
    | false =>
      go_enter Try.func20, Try.ntmps20
      go_wp2_with (first | (go_at_call 55; refine (CE.out _ _ _ _ (((Below.refl _ _).alloc (Nat.le_refl _) _).alloc (by simp) _) (by first | rfl | (symm; assumption)) (by first | rfl | (symm; assumption)) (by first | rfl | (symm; assumption))).mono ?_; rintro e u1 ⟨rfl, hb1⟩; obtain ⟨⟨y0, y1, y2, y3, y4, y5, y6, y7, y8⟩, z0, z1, hb2⟩ := gd_box hb1; have B1 : Hid (Below w.heap.size w u1) := hb2; clear hb1 hb2))
      all_goals go_ret
      all_goals refine ⟨ret_b rfl ?_, B1.out⟩
      all_goals rw [HR.out]
      all_goals rfl
    | true =>
      go_enter Try.func20, Try.ntmps20
      go_wp2_with (first | (go_at_call 55; refine (CE.out _ _ _ _ (((Below.refl _ _).alloc (Nat.le_refl _) _).alloc (by simp) _) (by first | rfl | (symm; assumption)) (by first | rfl | (symm; assumption)) (by first | rfl | (symm; assumption))).mono ?_; rintro e u1 ⟨rfl, hb1⟩; obtain ⟨⟨y0, y1, y2, y3, y4, y5, y6, y7, y8⟩, z0, z1, hb2⟩ := gd_box hb1; have B1 : Hid (Below w.heap.size w u1) := hb2; clear hb1 hb2))
      all_goals go_ret
      all_goals refine ⟨ret_b rfl ?_, B1.out⟩
      all_goals rw [HR.out]
      all_goals (simp [*, nat_zero] <;> done)
  rw [if_neg k1] at hr
  by_cases k2 : kd = 2
  · subst k2
    have HR : Hid (R = (decide (1 ≤ id) && (decide (s = 0 ∧ m = 0) && decide (N = 0) && !y && decide (M = 0)) && gs)) := hr
    clear hr k1
    go_enter Try.func20, Try.ntmps20
    go_wp2_with (first | (go_at_call 56; refine (CG.out _).mono ?_; rintro e u1 ⟨rfl, hb1⟩; obtain ⟨⟨y0, y1, y2, y3, y4, y5, y6, y7, y8⟩, z0, z1, hb2⟩ := gd_box hb1; have B1 : Hid (Below w.heap.size w u1) := hb2; clear hb1 hb2))
    all_goals go_ret
    all_goals refine ⟨ret_b rfl ?_, by first | exact B2.out | exact B1.out | exact ((Below.refl _ _).alloc (Nat.le_refl _) _).alloc (by simp) _⟩
    all_goals rw [HR.out]
    all_goals first | (simp [*, nat_zero]; done) | (simp [*, nat_zero]; rfl) | (simp [*, nat_zero]; omega) | (simp [*, nat_zero] <;> (intros; omega))
  rw [if_neg k2] at hr
  by_cases k3 : kd = 3
  · subst k3
    have HR : Hid (R = (decide (1 ≤ id) && (decide (s = 0 ∧ m = 0) && decide (N = 0) && !y && decide (M = 0)) && decide (t = 0 ∧ n = 0))) := hr
    clear hr k1 k2
    go_enter Try.func20, Try.ntmps20
    go_wp2
    all_goals go_ret
    all_goals refine ⟨ret_b rfl ?_, by first | exact B2.out | exact B1.out | exact ((Below.refl _ _).alloc (Nat.le_refl _) _).alloc (by simp) _⟩
    all_goals rw [HR.out]
    all_goals first | (simp [*, nat_zero]; done) | (simp [*, nat_zero]; rfl) | (simp [*, nat_zero]; omega) | (simp [*, nat_zero] <;> (intros; omega))
  rw [if_neg k3] at hr
  by_cases k4 : kd = 4
  · subst k4
    have HR : Hid (R = (decide (1 ≤ id) && (decide (s = 0 ∧ m = 0) && decide (N = 0)) && pb && gs && (y || decide (t = 0 ∧ n = 0)))) := hr
    clear hr k1 k2 k3
    go_enter Try.func20, Try.ntmps20
    go_wp2_with (first | (go_at_call 57; refine (CP.out _ _ (((Below.refl _ _).alloc (Nat.le_refl _) _).alloc (by simp) _) (by first | rfl | (symm; assumption))).mono ?_; rintro e u1 ⟨rfl, hb1⟩; have BU : Hid _ := hb1; obtain ⟨⟨y0, y1, y2, y3, y4, y5, y6, y7, y8⟩, z0, z1, hb2⟩ := gd_box hb1; have B1 : Hid (Below w.heap.size w u1) := hb2; clear hb1 hb2) | (go_at_call 56; refine (CG.out _).mono ?_; rintro e u2 ⟨rfl, hb1⟩; obtain ⟨⟨y0, y1, y2, y3, y4, y5, y6, y7, y8⟩, z0, z1, hb2⟩ := gd_box (BU.out.trans (hb1.mono BU.out.size)); have B2 : Hid (Below w.heap.size w u2) := hb2; clear hb1 hb2))
    all_goals go_ret
    all_goals refine ⟨ret_b rfl ?_, by first | exact B2.out | exact B1.out | exact ((Below.refl _ _).alloc (Nat.le_refl _) _).alloc (by simp) _⟩
    all_goals rw [HR.out]
    all_goals first | (simp [*, nat_zero]; done) | (simp [*, nat_zero]; rfl) | (simp [*, nat_zero]; omega) | (simp [*, nat_zero] <;> (intros; omega))
  rw [if_neg k4] at hr
  by_cases k5 : kd = 5
  · subst k5
    have HR : Hid (R = (decide (id = 0) && (decide (s = 0 ∧ m = 0) && decide (N = 0) && !y && decide (M = 0)) && gs && decide (n = 0))) := hr
    clear hr k1 k2 k3 k4
    go_enter Try.func20, Try.ntmps20
    go_wp2_with (first | (go_at_call 56; refine (CG.out _).mono ?_; rintro e u1 ⟨rfl, hb1⟩; obtain ⟨⟨y0, y1, y2, y3, y4, y5, y6, y7, y8⟩, z0, z1, hb2⟩ := gd_box hb1; have B1 : Hid (Below w.heap.size w u1) := hb2; clear hb1 hb2))
    all_goals go_ret
    all_goals refine ⟨ret_b rfl ?_, by first | exact B2.out | exact B1.out | exact ((Below.refl _ _).alloc (Nat.le_refl _) _).alloc (by simp) _⟩
    all_goals rw [HR.out]
    all_goals first | (simp [*, nat_zero]; done) | (simp [*, nat_zero]; rfl) | (simp [*, nat_zero]; omega) | (simp [*, nat_zero] <;> (intros; omega))
  rw [if_neg k5] at hr
  · have HR : Hid (R = false) := hr
    clear hr
    have b1 : (kd == 1) = false := beq_eq_false_iff_ne.2 k1
    have b2 : (kd == 2) = false := beq_eq_false_iff_ne.2 k2
    have b3 : (kd == 3) = false := beq_eq_false_iff_ne.2 k3
    have b4 : (kd == 4) = false := beq_eq_false_iff_ne.2 k4
    have b5 : (kd == 5) = false := beq_eq_false_iff_ne.2 k5
    clear k1 k2 k3 k4 k5
    go_enter Try.func20, Try.ntmps20
    go_wp2
    all_goals go_ret
    all_goals exact ⟨by rw [HR.out]; rfl, ((Below.refl _ _).alloc (Nat.le_refl _) _).alloc (by simp) _⟩
end Go.Proofs.Ytmiafadmcpmjgaa

namespace Go.Proofs.Ytmiafadmcpmjgaa
open Go.RowKit
set_option linter.unusedVariables false
set_option linter.unusedSimpArgs false

theorem row_made (u : World) (x : Int) (h0 : 0 ≤ x) (h1 : x ≤ 255) (q : Nat) (hq : q = u.heap.size) : Row (u.alloc (.cells #[.int .u8 x] 5)) (some ⟨q, 0, none⟩) [x] := by
  subst hq
  refine ⟨fun z hz => by simp at hz; omega, .inr ⟨_, 0, rfl, fun j hj => ?_⟩⟩
  simp at hj
  subst hj
  rw [World.cell?_alloc_new]
  rfl
theorem row_past {u u' : World} {q : Nat} {row : Option Nat} {zs : List Int} (h : Row u (some ⟨q, 0, none⟩) zs) (hg : u.grownBy u' row) (hne : row ≠ some q) : Row u' (some ⟨q, 0, none⟩) zs :=
  h.chg (Chg.of_grown hg (X := fun k => row = some k) (fun k e => e)) (fun _ b o s e x => by cases e; exact hne x)
theorem flagB_bd (g : Bool) : 0 ≤ flagB g ∧ flagB g ≤ 255 := by cases g <;> decide
/-- What the rounds of PutWrites hold. -/
structure RpW (w wr : World) (zs : List Int) (l : List Wrt) (i : Nat) (v : Value) (m : Nat) : Prop where
  own : wr.ownsRow w.heap.size 5 1 v m (bs (zs ++ (l.take i).flatMap wrtB))
  below : Below w.heap.size w wr
  len : m = (zs ++ (l.take i).flatMap wrtB).length
theorem wrtB_bytes {W : Wrt} (hok : WrtOk W) (hv : W.v.length ≤ 1000) : Bys (wrtB W) := by
  intro z hz
  unfold wrtB txtB at hz
  rcases List.mem_append.1 hz with e | e
  · exact hok.key.bytes z e
  · rcases List.mem_cons.1 e with rfl | e
    · exact flagB_bd _
    · rcases List.mem_append.1 e with e | e
      · exact putI_bytes _ (by omega) (by omega) z e
      · exact hok.val z e
theorem wrts_bytes {l : List Wrt} (h : ∀ W ∈ l, WrtOk W ∧ W.v.length ≤ 1000) : Bys (l.flatMap wrtB) := fun z hz => by
  obtain ⟨W, hW, hz⟩ := List.mem_flatMap.1 hz
  exact wrtB_bytes (h W hW).1 (h W hW).2 z hz
set_option maxHeartbeats 4000000 in
set_option maxRecDepth 8000 in
theorem rputws_any (a0 : Option Addr) (c0 n0 : Nat) (zs : List Int) (a : Option Addr) (N cap : Nat) (l : List Wrt) (w : World) (hr : Row w a0 zs) (hn0 : zs.length = n0) (hm : n0 ≤ 100000) (hnil : a0 = none → n0 = 0 ∧ c0 = 0) (hl : l.length = N) (hN : N ≤ 100) (hv : ∀ W ∈ l, W.v.length ≤ 1000) (hat : WrtsAt w a l) :
    Calls Try.prog 23 #[.slice a0 n0 c0, .slice a N cap] w fun e w' => ∃ a' m c', e = .returned (.slice a' m c') ∧ m = (zs ++ wrtsB l).length ∧ w'.ownsRow w.heap.size 5 1 (.slice a' m c') m (bs (zs ++ wrtsB l)) ∧ Below w.heap.size w w' := by
  have HL : Hid (l.length = N) := hl
  have HV : Hid (∀ W ∈ l, WrtOk W ∧ W.v.length ≤ 1000) := fun W hW => ⟨hat.oks W hW, hv W hW⟩
  have HA : Hid (WrtsAt w a l) := hat
  have hpl := Pl.put_length_le 9 (N : Int)
  obtain ⟨ys, hys⟩ : ∃ ys, ys = zs ++ Pl.putI (N : Int) := ⟨_, rfl⟩
  have HY : Hid (ys ++ l.flatMap wrtB = zs ++ wrtsB l) := by show _ = _; rw [hys]; unfold wrtsB; rw [HL.out, List.append_assoc]
  have hyl : ys.length ≤ 100010 := by rw [hys, List.length_append]; unfold Pl.putI; omega
  have HBZ : Hid (∀ i, Bys (ys ++ (l.take i).flatMap wrtB)) := fun i => by
    refine Bys.app ?_ (wrts_bytes (fun W hW => HV.out W (List.mem_of_mem_take hW)))
    rw [hys]
    exact Bys.app hr.bytes (putI_bytes _ (by omega) (by omega))
  have HLEN : Hid (∀ i, (ys ++ (l.take i).flatMap wrtB).length ≤ 300000) := fun i => by
    have h1 := wrts_len (l := l.take i) (fun W hW => ⟨(HV.out W (List.mem_of_mem_take hW)).1.key, (HV.out W (List.mem_of_mem_take hW)).2⟩)
    have h2 : (l.take i).length ≤ 100 := by rw [List.length_take]; have := HL.out; omega
    rw [List.length_append]; omega
  have CN : Hid (Calls Try.prog 49 #[.slice a0 n0 c0, .int .u64 (N : Nat)] w fun e w'' => ∃ a' m c', e = .returned (.slice a' m c') ∧ RpW w w'' ys l 0 (.slice a' m c') m) := (rnum14_any a0 c0 n0 zs N w hr hn0 (by omega) hnil (by omega) (by omega)).mono (by
    rintro e w' ⟨a', m, c', rfl, h2, h3, h4⟩
    refine ⟨a', m, c', rfl, ?_, h4, ?_⟩
    · rw [List.take_zero, List.flatMap_nil, List.append_nil, hys]; exact h3
    · rw [List.take_zero, List.flatMap_nil, List.append_nil, hys]; exact h2)
  clear hr hn0 hm hnil hl hv hat hys hyl hpl
  go_enter Try.func23, Try.ntmps23
  go_wp2_with (first | (go_at_call 49; refine CN.out.mono ?_; rintro e w1 ⟨a1, m1, c1, rfl, h1⟩; have H1 : Hid (RpW w w1 ys l 0 (.slice a1 m1 c1) m1) := h1; clear h1))
  go_loopw [0, 5] (fun v i wr => ∃ (n m : Nat) (ax : Option Addr) (cx : Nat), n ≤ N ∧ i = .int .i64 n ∧ v = .slice ax m cx ∧ Hid (RpW w wr ys l n (.slice ax m cx) m)) (fun _ i _ => N - (intOf i).toNat)
  case atStart => exact ⟨0, m1, a1, c1, Nat.zero_le _, rfl, rfl, H1⟩
  case round =>
    obtain ⟨n, m, ax, cx, hn, rfl, rfl, HS⟩ := hrel
    have hi0 : (0 : Int) ≤ (n : Int) := by omega
    by_cases hlt : n < N
    · have bl : (n : Int) < (N : Int) := by omega
      obtain ⟨W, hW⟩ : ∃ W, l[n]? = some W := ⟨_, List.getElem?_eq_getElem (by rw [HL.out]; exact hlt)⟩
      obtain ⟨b, o, rfl, _, hwo⟩ := (HA.out.past HS.out.below).wrt hW
      have HWA : Hid (∀ u, Below w.heap.size w u → WrtAt u b (o + n * 18) W) := fun u hu => by
        obtain ⟨b', o', e, h1, _⟩ := (HA.out.past hu).wrt hW
        cases e; exact h1
      have KW : Hid (Ky W.k) := hwo.key
      have KV : Hid (Bys W.v ∧ W.v.length ≤ 1000) := ⟨hwo.val, (HV.out W (List.mem_of_getElem? hW)).2⟩
      have HT : Hid ((l.take (n + 1)).flatMap wrtB = (l.take n).flatMap wrtB ++ wrtB W) := by show _ = _; rw [take_nextW hW, List.flatMap_append]; simp
      obtain ⟨ZZ, hZ⟩ : ∃ Z, Z = ys ++ (l.take n).flatMap wrtB := ⟨_, rfl⟩
      have hmz : m ≤ 300000 := by rw [HS.out.len]; exact HLEN.out n
      have HZ : Hid (ZZ = ys ++ (l.take n).flatMap wrtB) := hZ
      have HMZ : Hid (ZZ.length = m) := by rw [HZ.out]; exact HS.out.len.symm
      have BZ : Hid (Bys ZZ) := by rw [HZ.out]; exact HBZ.out n
      have HO : Hid (wr.ownsRow w.heap.size 5 1 (.slice ax m cx) m (bs ZZ) ∧ wr.drew.ownsRow w.heap.size 5 1 (.slice ax m cx) m (bs ZZ)) := by
        have := HS.out.own
        rw [← hZ] at this
        exact ⟨this, own_below this (Below.refl _ _).drew (Nat.le_refl _)⟩
      have HB : Hid (Below w.heap.size w wr ∧ Below w.heap.size w wr.drew) := ⟨HS.out.below, HS.out.below.drew⟩
      have FK : Hid (∀ u, Below w.heap.size w u → Row u (some ⟨b, o + n * 18, none⟩) W.k) := fun u hu => ⟨KW.out.bytes, .inr ⟨b, o + n * 18, rfl, fun j hj => ((HWA.out u hu).key KW.out).cell j (by rw [KW.out.len] at hj; exact hj)⟩⟩
      have HKL : Hid (W.k.length = 16) := KW.out.len
      have g17 := ((HWA.out wr HB.out.1).cells KW.out).2
      have g17' := ((HWA.out wr.drew HB.out.2).cells KW.out).2
      have v16 := ((HWA.out wr HB.out.1).cells KW.out).1
      obtain ⟨fl, hfl⟩ : ∃ fl, fl = flagB W.g := ⟨_, rfl⟩
      have HFB : Hid (0 ≤ fl ∧ fl ≤ 255) := by rw [hfl]; exact flagB_bd W.g
      have CF : Hid (∀ u, Calls Try.prog 52 #[.bool W.g] u fun e w' => e = .returned (.int .u8 fl) ∧ w' = u) := fun u => by rw [hfl]; exact rflag14_any W.g u
      have HFL : Hid (fl = flagB W.g) := hfl
      have CT : Hid (∀ w7 a7 c7, w7.ownsRow w.heap.size 5 1 (.slice a7 (m + 16 + 1) c7) (m + 16 + 1) (bs (ZZ ++ W.k ++ [fl])) → Below w.heap.size w w7 → Calls Try.prog 58 #[.slice a7 (m + 16 + 1) c7, .string (strOfNums W.v)] w7 fun e w' => ∃ a' m' c', e = .returned (.slice a' m' c') ∧ RpW w w' ys l (n + 1) (.slice a' m' c') m') := fun w7 a7 c7 ho hb => by
        have hby : Bys (ZZ ++ W.k ++ [fl]) := (BZ.out.app KW.out.bytes).app (fun z hz => by simp at hz; rw [hz]; exact HFB.out)
        obtain ⟨a', c', e, hrow, hlen⟩ := own_shape ho hby
        injection e with e1 e2 e3
        subst e1
        refine (rtxt14_any a7 c7 (m + 16 + 1) (ZZ ++ W.k ++ [fl]) W.v w7 hrow hlen (by omega) (fun e1 => ?_) KV.out.1 (by have := KV.out.2; omega)).mono ?_
        · rcases ho.2 with ⟨e2, e3⟩ | ⟨g, cap, cur, e2, _⟩
          · omega
          · injection e2 with e4; rw [e1] at e4; cases e4
        rintro e w' ⟨a', m', c', rfl, h2, h3, h4⟩
        have e2 : ys ++ (l.take (n + 1)).flatMap wrtB = ZZ ++ W.k ++ [fl] ++ txtB W.v := by rw [HT.out, HZ.out, HFL.out]; unfold wrtB; simp [List.append_assoc]
        refine ⟨a', m', c', rfl, ?_, hb.trans (h4.mono hb.size), by rw [e2]; exact h2⟩
        rw [e2]
        exact ⟨h3.1, h3.2.imp (fun x => x) (fun ⟨g, cc, cur, x1, x2, x3⟩ => ⟨g, cc, cur, x1, Nat.le_trans hb.size x2, x3⟩)⟩
      clear hZ hfl hwo hW
      go_wp2
      refine wp_region_noPanic ?_
      refine region_till 15 (fun u => Below w.heap.size w u) (by kernel_rfl) ?_ (fun hHeld => ?_)
      · exact HB.out.2
      refine till_take (i := 0) (v := ?_) 0 (by kernel_rfl) (Or.inl rfl) (by kernel_rfl) rfl (by kernel_rfl) (by kernel_rfl) (by kernel_rfl) (fun _ _ _ h => h) (Or.inl ⟨by rfl, ?_⟩) hHeld ?_
      rotate_left
      · intro u hSu
        (go_simp) <;> (with_reducible rfl)
      change wpTill _ _ _ _ _ _ _ _ (Act.put _ (some 17) _) _
      simp only [Act.put, List.setIfInBounds_toArray, List.set_cons_zero, List.set_cons_succ]
      refine till_take (i := 1) (v := ?_) 1 (by kernel_rfl) (Or.inl rfl) (by kernel_rfl) rfl (by kernel_rfl) (by kernel_rfl) (by kernel_rfl) (fun _ _ _ h => h) (Or.inl ⟨by rfl, ?_⟩) hHeld ?_
      rotate_left
      · intro u hSu
        (go_simp) <;> (with_reducible rfl)
      change wpTill _ _ _ _ _ _ _ _ (Act.put _ (some 18) _) _
      simp only [Act.put, List.setIfInBounds_toArray, List.set_cons_zero, List.set_cons_succ]
      refine till_take (i := 2) (v := ?_) 2 (by kernel_rfl) (Or.inl rfl) (by kernel_rfl) rfl (by kernel_rfl) (by kernel_rfl) (by kernel_rfl) (fun _ _ _ h => h) (Or.inl ⟨by rfl, ?_⟩) hHeld ?_
      rotate_left
      · intro u hSu
        (go_simp) <;> (with_reducible rfl)
      change wpTill _ _ _ _ _ _ _ _ (Act.put _ (some 19) _) _
      simp only [Act.put, List.setIfInBounds_toArray, List.set_cons_zero, List.set_cons_succ]
      refine till_take (i := 3) (v := ?_) 3 (by kernel_rfl) (Or.inl rfl) (by kernel_rfl) rfl (by kernel_rfl) (by kernel_rfl) (by kernel_rfl) (fun _ _ _ h => h) (Or.inl ⟨by rfl, ?_⟩) hHeld ?_
      rotate_left
      · intro u hSu
        (go_simp) <;> (with_reducible rfl)
      change wpTill _ _ _ _ _ _ _ _ (Act.put _ (some 20) _) _
      simp only [Act.put, List.setIfInBounds_toArray, List.set_cons_zero, List.set_cons_succ]
      refine till_take (i := 4) (v := ?_) 4 (by kernel_rfl) (Or.inl rfl) (by kernel_rfl) rfl (by kernel_rfl) (by kernel_rfl) (by kernel_rfl) (fun _ _ _ h => h) (Or.inl ⟨by rfl, ?_⟩) hHeld ?_
      rotate_left
      · intro u hSu
        (go_simp) <;> (with_reducible rfl)
      change wpTill _ _ _ _ _ _ _ _ (Act.put _ (some 21) _) _
      simp only [Act.put, List.setIfInBounds_toArray, List.set_cons_zero, List.set_cons_succ]
      refine till_take (i := 5) (v := ?_) 5 (by kernel_rfl) (Or.inl rfl) (by kernel_rfl) rfl (by kernel_rfl) (by kernel_rfl) (by kernel_rfl) (fun _ _ _ h => h) (Or.inl ⟨by rfl, ?_⟩) hHeld ?_
      rotate_left
      · intro u hSu
        (go_simp) <;> (with_reducible rfl)
      change wpTill _ _ _ _ _ _ _ _ (Act.put _ (some 22) _) _
      simp only [Act.put, List.setIfInBounds_toArray, List.set_cons_zero, List.set_cons_succ]
      refine till_take (i := 7) (v := ?_) 7 (by kernel_rfl) (Or.inl rfl) (by kernel_rfl) rfl (by kernel_rfl) (by kernel_rfl) (by kernel_rfl) (fun _ _ _ h => h) (Or.inl ⟨by rfl, ?_⟩) hHeld ?_
      rotate_left
      · intro u hSu
        (go_simp) <;> (with_reducible rfl)
      change wpTill _ _ _ _ _ _ _ _ (Act.put _ (some 24) _) _
      simp only [Act.put, List.setIfInBounds_toArray, List.set_cons_zero, List.set_cons_succ]
      refine till_take (i := 8) (v := ?_) 8 (by kernel_rfl) (Or.inl rfl) (by kernel_rfl) rfl (by kernel_rfl) (by kernel_rfl) (by kernel_rfl) (fun _ _ _ h => h) (Or.inl ⟨by rfl, ?_⟩) hHeld ?_
      rotate_left
      · intro u hSu
        (go_simp) <;> (with_reducible rfl)
      change wpTill _ _ _ _ _ _ _ _ (Act.put _ (some 25) _) _
      simp only [Act.put, List.setIfInBounds_toArray, List.set_cons_zero, List.set_cons_succ]
      refine till_take (i := 9) (v := ?_) 9 (by kernel_rfl) (Or.inl rfl) (by kernel_rfl) rfl (by kernel_rfl) (by kernel_rfl) (by kernel_rfl) (fun _ _ _ h => h) (Or.inl ⟨by rfl, ?_⟩) hHeld ?_
      rotate_left
      · intro u hSu
        (go_simp) <;> (with_reducible rfl)
      change wpTill _ _ _ _ _ _ _ _ (Act.put _ (some 26) _) _
      simp only [Act.put, List.setIfInBounds_toArray, List.set_cons_zero, List.set_cons_succ]
      refine till_take (i := 10) (v := ?_) 10 (by kernel_rfl) (Or.inl rfl) (by kernel_rfl) rfl (by kernel_rfl) (by kernel_rfl) (by kernel_rfl) (fun _ _ _ h => h) (Or.inl ⟨by rfl, ?_⟩) hHeld ?_
      rotate_left
      · intro u hSu
        (go_simp) <;> (with_reducible rfl)
      change wpTill _ _ _ _ _ _ _ _ (Act.put _ (some 27) _) _
      simp only [Act.put, List.setIfInBounds_toArray, List.set_cons_zero, List.set_cons_succ]
      refine till_take (i := 11) (v := ?_) 11 (by kernel_rfl) (Or.inl rfl) (by kernel_rfl) rfl (by kernel_rfl) (by kernel_rfl) (by kernel_rfl) (fun _ _ _ h => h) (Or.inl ⟨by rfl, ?_⟩) hHeld ?_
      rotate_left
      · intro u hSu
        have g17 := ((HWA.out u hSu).cells KW.out).2
        (go_simp) <;> (with_reducible rfl)
      change wpTill _ _ _ _ _ _ _ _ (Act.put _ (some 28) _) _
      simp only [Act.put, List.setIfInBounds_toArray, List.set_cons_zero, List.set_cons_succ]
      refine till_ready (rs := [6]) (by kernel_rfl) (by simp) ?_
      refine AllTill.cons rfl (fun K hK => ?_) AllTill.nil
      refine step_append_row rfl (.tmp 17) (.tmp 22) rfl w.heap.size _ m ZZ W.k rfl HO.out.2 _ 16 16 rfl (FK.out _ hHeld) HKL.out (fun h => by cases h) BZ.out (by omega) hHeld.size ?_
      intro a6 c6 w6 o6 g6
      have HO6 : Hid (w6.ownsRow w.heap.size 5 1 (.slice a6 (m + 16) c6) (m + 16) (bs (ZZ ++ W.k)) ∧ Below w.heap.size w w6) := ⟨o6, hHeld.grown g6 hHeld.size (fun k hk => (HO.out.2.lt k hk).1)⟩
      clear o6 g6
      refine hK.out _ _ ?_ (fun hHeld2 => ?_)
      · exact HO6.out.2
      clear hK K hHeld
      have hHeld := hHeld2
      clear hHeld2
      change wpTill _ _ _ _ _ _ _ _ (Act.put _ (some 23) _) _
      simp only [Act.put, List.setIfInBounds_toArray, List.set_cons_zero, List.set_cons_succ]
      refine till_ready (rs := [12]) (by kernel_rfl) (by simp) ?_
      refine AllTill.cons rfl (fun K hK => ?_) AllTill.nil
      go_simp
      go_at_call 52
      refine (CF.out _).mono ?_
      rintro e u1 ⟨rfl, hu⟩
      subst hu
      refine hK.out _ _ ?_ (fun hHeld2 => ?_)
      · exact hHeld
      clear hK K hHeld
      have hHeld := hHeld2
      clear hHeld2
      refine till_ready (rs := [13]) (by kernel_rfl) (by simp) ?_
      refine AllTill.cons rfl (fun K hK => ?_) AllTill.nil
      go_simp
      refine hK.out _ _ ?_ (fun hHeld2 => ?_)
      · exact hHeld.alloc hHeld.size _
      clear hK K hHeld
      have hHeld := hHeld2
      clear hHeld2
      refine till_ready (rs := [14]) (by kernel_rfl) (by simp) ?_
      refine AllTill.cons rfl (fun K hK => ?_) AllTill.nil
      refine step_append_row rfl (.tmp 23) (.tmp 30) rfl w.heap.size _ (m + 16) (ZZ ++ W.k) [fl] rfl (own_below HO6.out.1 ((Below.refl _ _).alloc (Nat.le_refl _) _) (Nat.le_refl _)) _ _ _ rfl (row_made _ fl HFB.out.1 HFB.out.2 _ rfl) rfl (fun h => by cases h) (BZ.out.app KW.out.bytes) (by omega) hHeld.size ?_
      intro a7 c7 w7 o7 g7
      have HO7 : Hid (w7.ownsRow w.heap.size 5 1 (.slice a7 (m + 16 + 1) c7) (m + 16 + 1) (bs (ZZ ++ W.k ++ [fl])) ∧ Below w.heap.size w w7) := ⟨o7, hHeld.grown g7 hHeld.size (fun k hk => (HO6.out.1.lt k hk).1)⟩
      clear o7 g7
      refine hK.out _ _ ?_ (fun hHeld2 => ?_)
      · exact HO7.out.2
      clear hK K hHeld
      have hHeld := hHeld2
      clear hHeld2
      change wpTill _ _ _ _ _ _ _ _ (Act.put _ (some 31) _) _
      simp only [Act.put, List.setIfInBounds_toArray, List.set_cons_zero, List.set_cons_succ]
      refine till_last (by kernel_rfl) (by kernel_rfl) rfl (fun K hK => ?_)
      go_simp
      refine hK.out _ _ ?_
      refine NoPanic.normal ?_
      clear hK K hHeld
      have v16 := ((HWA.out w7 HO7.out.2).cells KW.out).1
      go_wp2_with (first | (go_at_call 58; refine (CT.out w7 a7 c7 HO7.out.1 HO7.out.2).mono ?_; rintro e w8 ⟨a8, m8, c8, rfl, h8⟩; have H8 : Hid (RpW w w8 ys l (n + 1) (.slice a8 m8 c8) m8) := h8; clear h8))
      exact ⟨⟨n + 1, m8, a8, c8, by omega, by simp, rfl, H8⟩, by simp [intOf]; omega⟩
    · obtain rfl : n = N := by omega
      have bl : ¬ (n : Int) < (n : Int) := by omega
      have HE : Hid (wr.ownsRow w.heap.size 5 1 (.slice ax m cx) m (bs (zs ++ wrtsB l)) ∧ Below w.heap.size w wr ∧ m = (zs ++ wrtsB l).length) := by
        have h1 := HS.out.own
        have h2 := HS.out.len
        rw [List.take_of_length_le (by rw [HL.out]; exact Nat.le_refl _), HY.out] at h1 h2
        exact ⟨h1, HS.out.below, h2⟩
      clear HS
      go_wp2
      go_returns
      exact ⟨ax, m, cx, rfl, by first | exact HE.out.2.2 | (rw [← List.length_append]; exact HE.out.2.2), HE.out.1, HE.out.2.1⟩
end Go.Proofs.Ytmiafadmcpmjgaa

namespace Go.Proofs.Ytmiafadmcpmjgaa
open Go.RowKit
set_option linter.unusedVariables false
set_option linter.unusedSimpArgs false

theorem Hid.mk' {p : Prop} (h : p) : Hid p := h
/-- Bytes of the call's own, all made behind w. -/
structure Bt (w u : World) (zs : List Int) (a : Option Addr) (m c : Nat) : Prop where
  own : u.ownsRow w.heap.size 5 1 (.slice a m c) m (bs zs)
  len : zs.length = m
  bytes : Bys zs
  below : Below w.heap.size w u
theorem Bt.row {w u : World} {zs : List Int} {a : Option Addr} {m c : Nat} (h : Bt w u zs a m c) : Row u a zs := by
  obtain ⟨a', c', e, hrow, _⟩ := own_shape h.own h.bytes
  injection e with e1 e2 e3
  subst e1
  exact hrow
theorem Bt.nil {w u : World} {zs : List Int} {a : Option Addr} {m c : Nat} (h : Bt w u zs a m c) (e1 : a = none) : m = 0 ∧ c = 0 := by
  rcases h.own.2 with ⟨e2, e3⟩ | ⟨g, cap, cur, e2, _⟩
  · injection e2 with _ _ e4
    exact ⟨e3, e4⟩
  · injection e2 with e4
    rw [e1] at e4; cases e4
theorem Bt.made {w u u' : World} {zs : List Int} {a : Option Addr} {m c : Nat} (hb : Below w.heap.size w u) (ho : u'.ownsRow u.heap.size 5 1 (.slice a m c) m (bs zs)) (hl : m = zs.length) (hz : Bys zs) (hu : Below u.heap.size u u') : Bt w u' zs a m c :=
  ⟨⟨ho.1, ho.2.imp (fun x => x) (fun ⟨g, cc, cur, x1, x2, x3⟩ => ⟨g, cc, cur, x1, Nat.le_trans hb.size x2, x3⟩)⟩, hl.symm, hz, hb.trans (hu.mono hb.size)⟩
theorem row_drew {u : World} {a : Option Addr} {zs : List Int} (h : Row u a zs) : Row u.drew a zs := ⟨h.bytes, h.cells⟩
theorem Bt.drew {w u : World} {zs : List Int} {a : Option Addr} {m c : Nat} (h : Bt w u zs a m c) : Bt w u.drew zs a m c := ⟨own_below h.own (Below.refl _ _).drew (Nat.le_refl _), h.len, h.bytes, h.below.drew⟩
theorem Bt.base {w U u : World} {zs : List Int} {a : Option Addr} {m c : Nat} (h : Bt U u zs a m c) (hb : Below w.heap.size w U) : Bt w u zs a m c :=
  ⟨⟨h.own.1, h.own.2.imp (fun x => x) (fun ⟨g, cc, cur, x1, x2, x3⟩ => ⟨g, cc, cur, x1, Nat.le_trans hb.size x2, x3⟩)⟩, h.len, h.bytes, hb.trans (h.below.mono hb.size)⟩
theorem stp_bytes (t n : Int) (hn : 0 ≤ n ∧ n ≤ 255) : Bys (stpB t n) := by
  unfold stpB
  by_cases h : okS t
  · rw [if_pos h]
    obtain ⟨h1, h2⟩ := h
    exact putI_bytes _ (by omega) (by omega)
  · rw [if_neg h]; exact putI_bytes _ (by omega) (by omega)
theorem num_nil (w u : World) (hb : Below w.heap.size w u) (v : Int) (h0 : 0 ≤ v) (h1 : v ≤ 18446744073709551615) :
    Calls Try.prog 49 #[.slice none 0 0, .int .u64 v] u fun e w' => ∃ a' m' c', e = .returned (.slice a' m' c') ∧ Bt w w' (Pl.putI v) a' m' c' ∧ Below u.heap.size u w' := by
  refine (rnum14_any none 0 0 [] v u (Row.nil _ _) rfl (by omega) (fun _ => ⟨rfl, rfl⟩) h0 h1).mono ?_
  rintro e w' ⟨a', m, c', rfl, h2, h3, h4⟩
  exact ⟨a', m, c', rfl, Bt.made hb h3 h2 (putI_bytes v h0 h1) h4, h4⟩
theorem Bt.num {w u : World} {zs : List Int} {a : Option Addr} {m c : Nat} (h : Bt w u zs a m c) (hm : m ≤ 100000) (v : Int) (h0 : 0 ≤ v) (h1 : v ≤ 18446744073709551615) :
    Calls Try.prog 49 #[.slice a m c, .int .u64 v] u fun e w' => ∃ a' m' c', e = .returned (.slice a' m' c') ∧ Bt w w' (zs ++ Pl.putI v) a' m' c' ∧ Below u.heap.size u w' := by
  refine (rnum14_any a c m zs v u h.row h.len (by omega) h.nil h0 h1).mono ?_
  rintro e w' ⟨a', m', c', rfl, h2, h3, h4⟩
  exact ⟨a', m', c', rfl, Bt.made h.below h3 h2 (h.bytes.app (putI_bytes v h0 h1)) h4, h4⟩
theorem Bt.stp {w u : World} {zs : List Int} {a : Option Addr} {m c : Nat} (h : Bt w u zs a m c) (hm : m ≤ 100000) (t n : Int) (hn : 0 ≤ n ∧ n ≤ 255) :
    Calls Try.prog 51 #[.slice a m c, .agg #[.int .i64 t, .int .u8 n]] u fun e w' => ∃ a' m' c', e = .returned (.slice a' m' c') ∧ Bt w w' (zs ++ stpB t n) a' m' c' ∧ Below u.heap.size u w' := by
  refine (rstp14_any a c m zs t n u h.row h.len (by omega) h.nil hn).mono ?_
  rintro e w' ⟨a', m', c', rfl, h2, h3, h4⟩
  exact ⟨a', m', c', rfl, Bt.made h.below h3 h2 (h.bytes.app (stp_bytes t n hn)) h4, h4⟩
theorem wrtsB_bytes {l : List Wrt} (h : ∀ W ∈ l, WrtOk W ∧ W.v.length ≤ 1000) (hl : l.length ≤ 1000) : Bys (wrtsB l) := by
  unfold wrtsB
  exact Bys.app (putI_bytes _ (by omega) (by omega)) (wrts_bytes h)
theorem Bt.pws {w u : World} {zs : List Int} {a : Option Addr} {m c : Nat} (h : Bt w u zs a m c) (hm : m ≤ 100000) (a2 : Option Addr) (N c2 : Nat) (l : List Wrt) (hl : l.length = N) (hN : N ≤ 100) (hv : ∀ W ∈ l, W.v.length ≤ 1000) (hat : WrtsAt u a2 l) :
    Calls Try.prog 23 #[.slice a m c, .slice a2 N c2] u fun e w' => ∃ a' m' c', e = .returned (.slice a' m' c') ∧ Bt w w' (zs ++ wrtsB l) a' m' c' ∧ Below u.heap.size u w' := by
  refine (rputws_any a c m zs a2 N c2 l u h.row h.len hm h.nil hl hN hv hat).mono ?_
  rintro e w' ⟨a', m', c', rfl, h2, h3, h4⟩
  exact ⟨a', m', c', rfl, Bt.made h.below h3 h2 (h.bytes.app (wrtsB_bytes (fun W hW => ⟨hat.oks W hW, hv W hW⟩) (by omega))) h4, h4⟩
set_option maxHeartbeats 8000000 in
set_option maxRecDepth 8000 in
theorem rput14_any (x : RcM) (w : World) (h : RcW w x) (hN1 : x.r.l.length ≤ 100) (hP1 : x.r.ps.length ≤ 100) (hV : ∀ W ∈ x.r.l, W.v.length ≤ 1000) :
    Calls Try.prog 16 #[rcv x] w fun e w' => ∃ a m c, e = .returned (.slice a m c) ∧ Bt w w' (recB x.r) a m c := by
  have CG : Hid (∀ u, Below w.heap.size w u → Calls Try.prog 20 #[rcv x] u fun e w' => e = .returned (.bool (goodR x.r)) ∧ Below u.heap.size u w') := fun u hu => rgood14_any x u (h.past hu)
  have hrb : recB x.r = if goodR x.r = true then Pl.putI x.r.kd ++ (Pl.putI (Pl.zigI x.r.id) ++ tailB x.r) else [] := rfl
  have hgh := @good_has x.r
  obtain ⟨RB, hRB⟩ : ∃ RB, RB = recB x.r := ⟨_, rfl⟩
  rw [← hRB] at hrb ⊢
  obtain ⟨R, hR⟩ : ∃ R, R = goodR x.r := ⟨_, rfl⟩
  rw [← hR] at CG hrb hgh
  clear hRB hR
  obtain ⟨⟨kd, id, s, m, t, n, l, y, ps⟩, a, c, pa, pc⟩ := x
  obtain ⟨hwr, hrm, hfw, hps, hpr, hpf, hkd, ⟨o1, o2, o3, o4, o5, o6, o7, o8⟩⟩ := h
  simp only at hwr hrm hfw hps hpr hpf hkd hrb hgh hN1 hP1 hV o1 o2 o3 o4 o5 o6 o7 o8
  obtain ⟨N, hN⟩ : ∃ N, l.length = N := ⟨_, rfl⟩
  obtain ⟨M, hM⟩ : ∃ N, ps.length = N := ⟨_, rfl⟩
  unfold rcv encR at CG ⊢
  simp only at CG ⊢
  simp only [hN, hM] at CG hrm hfw hpr hpf hN1 hP1 ⊢
  obtain ⟨U, hU⟩ : ∃ U, U = w.alloc (.cells #[.int .i64 kd, .int .i64 id, .int .i64 s, .int .u8 m, .int .i64 t, .int .u8 n, .slice a N c, .bool y, .slice pa M pc] 43) := ⟨_, rfl⟩
  have HU : Hid (w.alloc (.cells #[.int .i64 kd, .int .i64 id, .int .i64 s, .int .u8 m, .int .i64 t, .int .u8 n, .slice a N c, .bool y, .slice pa M pc] 43) = U) := hU.symm
  have HB : Hid (Below w.heap.size w U) := by rw [hU]; exact (Below.refl _ _).alloc (Nat.le_refl _) _
  have HSZ : Hid (U.heap.size = w.heap.size + 1) := by rw [hU]; exact World.size_alloc _ _
  have hbx : RBox U w.heap.size kd id s m t n a N c y pa M pc := by
    rw [hU]; exact RBox.made w 43 kd id s m t n a N c y pa M pc
  have FB : Hid (∀ u, Below U.heap.size U u → RBox u w.heap.size kd id s m t n a N c y pa M pc) := fun u hb => hbx.past hb
  have CG : Hid (Calls Try.prog 20 #[.agg #[.int .i64 kd, .int .i64 id, .int .i64 s, .int .u8 m, .int .i64 t, .int .u8 n, .slice a N c, .bool y, .slice pa M pc]] U fun e w' => e = .returned (.bool R) ∧ Below U.heap.size U w') := CG.out U HB.out
  cases R with
  | false =>
    have E : Hid (RB = []) := hrb
    clear hrb hgh hwr hrm hfw hps hpr hpf hkd hbx hU hV o1 o2 o3 o4 o5 o6 o7 o8
    obtain ⟨y0, y1, y2, y3, y4, y5, y6, y7, y8⟩ := FB.out U (Below.refl _ _)
    go_enter Try.func16, Try.ntmps16
    go_wp2_with (first | (go_at_call 20; rw [HU.out]; refine CG.out.mono ?_; rintro e u1 ⟨rfl, hb1⟩; have B1 : Hid (Below U.heap.size U u1) := hb1; clear hb1))
    go_returns
    refine ⟨none, 0, 0, rfl, ?_⟩
    rw [E.out]
    exact ⟨⟨rfl, .inl ⟨rfl, rfl⟩⟩, rfl, fun z hz => by simp at hz, HB.out.trans (B1.out.mono HB.out.size)⟩
  | true =>
    rw [if_pos rfl] at hrb
    have hzb := Pl.zig_bd id o1 o2
    have HWR : Hid (∀ u, Below U.heap.size U u → WrtsAt u a l ∧ IntsAt u pa ps ∧ Below w.heap.size w u) := fun u b2 => ⟨(hwr.past HB.out).past b2, (hps.past HB.out).past b2, HB.out.trans (b2.mono HB.out.size)⟩
    have HL : Hid (l.length = N ∧ N ≤ 100 ∧ ∀ W ∈ l, W.v.length ≤ 1000) := ⟨hN, hN1, hV⟩
    have HLP : Hid (ps.length = M ∧ M ≤ 100) := ⟨hM, hP1⟩
    have HMN : Hid ((0 ≤ m ∧ m ≤ 255) ∧ (0 ≤ n ∧ n ≤ 255)) := ⟨⟨o3, o4⟩, ⟨o5, o6⟩⟩
    have Z0 : Hid ((Pl.putI kd).length ≤ 10 ∧ (Pl.putI (Pl.zigI id)).length ≤ 10 ∧ (stpB s m).length ≤ 10 ∧ (stpB t n).length ≤ 10) := ⟨putL_len _, putL_len _, stp_len _ _, stp_len _ _⟩
    obtain ⟨zg, hzg⟩ : ∃ z, z = Pl.zigI id := ⟨_, rfl⟩
    have CZ : Hid (∀ u, Calls Try.prog 50 #[.int .i64 id] u fun e w' => e = .returned (.int .u64 zg) ∧ w' = u) := fun u => by rw [hzg]; exact rzig_any id u o1 o2
    rw [← hzg] at hrb hzb Z0
    have zb0 : 0 ≤ zg := hzb.1
    have zb1 : zg ≤ 18446744073709551615 := hzb.2
    have HGH := hgh rfl
    have HRB : Hid (RB = Pl.putI kd ++ (Pl.putI zg ++ tailB ⟨kd, id, s, m, t, n, l, y, ps⟩)) := hrb
    obtain ⟨y0, y1, y2, y3, y4, y5, y6, y7, y8⟩ := FB.out U (Below.refl _ _)
    clear hrb hgh hwr hrm hfw hps hpr hpf hkd hbx hU hV o1 o2 o3 o4 o5 o6 o7 o8 hzb hzg hN hM hN1 hP1
    rcases HGH with ⟨rfl, ok1, ok2⟩ | ⟨rfl, ok2⟩ | rfl | ⟨rfl, ok2, ok3⟩ | ⟨rfl, ok2⟩
    · go_enter Try.func16, Try.ntmps16
      go_wp2_with (first | (go_at_call 20; rw [HU.out]; refine CG.out.mono ?_; rintro e u1 ⟨rfl, hb1⟩; have B1 : Hid (Below U.heap.size U u1) := hb1; have FU : Hid (∀ u, Below u1.heap.size u1 u → RBox u w.heap.size 1 id s m t n a N c y pa M pc) := (fun u hu => FB.out u (B1.out.trans (hu.mono B1.out.size))); clear hb1 CG))
      refine wp_region_noPanic ?_
      refine wp_region_held_drew (S := fun u => Below u1.heap.size u1 u) (by kernel_rfl) ?_ (fun hHeld => ?_)
      · exact (Below.refl _ _).drew
      refine wpAnyH_take (i := 0) (v := ?_) rfl (by kernel_rfl) (by kernel_rfl) (by kernel_rfl) (fun _ _ _ h => h) (Or.inl ⟨by rfl, ?_⟩) hHeld ?_
      rotate_left
      · intro u hSu
        (go_simp) <;> (with_reducible rfl)
      change wpAnyH _ _ _ _ _ _ _ (Act.put _ (some 8) _) _
      simp only [Act.put, List.setIfInBounds_toArray, List.set_cons_zero, List.set_cons_succ]
      refine wpAnyH_take (i := 1) (v := ?_) rfl (by kernel_rfl) (by kernel_rfl) (by kernel_rfl) (fun _ _ _ h => h) (Or.inl ⟨by rfl, ?_⟩) hHeld ?_
      rotate_left
      · intro u hSu
        obtain ⟨q0, q1, q2, q3, q4, q5, q6, q7, q8⟩ := FU.out u hSu
        (go_simp) <;> (with_reducible rfl)
      change wpAnyH _ _ _ _ _ _ _ (Act.put _ (some 9) _) _
      simp only [Act.put, List.setIfInBounds_toArray, List.set_cons_zero, List.set_cons_succ]
      refine wpAnyH_take (i := 2) (v := ?_) rfl (by kernel_rfl) (by kernel_rfl) (by kernel_rfl) (fun _ _ _ h => h) (Or.inl ⟨by rfl, ?_⟩) hHeld ?_
      rotate_left
      · intro u hSu
        (go_simp) <;> (with_reducible rfl)
      change wpAnyH _ _ _ _ _ _ _ (Act.put _ (some 10) _) _
      simp only [Act.put, List.setIfInBounds_toArray, List.set_cons_zero, List.set_cons_succ]
      refine wpAnyH_take (i := 4) (v := ?_) rfl (by kernel_rfl) (by kernel_rfl) (by kernel_rfl) (fun _ _ _ h => h) (Or.inl ⟨by rfl, ?_⟩) hHeld ?_
      rotate_left
      · intro u hSu
        (go_simp) <;> (with_reducible rfl)
      change wpAnyH _ _ _ _ _ _ _ (Act.put _ (some 12) _) _
      simp only [Act.put, List.setIfInBounds_toArray, List.set_cons_zero, List.set_cons_succ]
      refine wpAnyH_take (i := 5) (v := ?_) rfl (by kernel_rfl) (by kernel_rfl) (by kernel_rfl) (fun _ _ _ h => h) (Or.inl ⟨by rfl, ?_⟩) hHeld ?_
      rotate_left
      · intro u hSu
        obtain ⟨q0, q1, q2, q3, q4, q5, q6, q7, q8⟩ := FU.out u hSu
        (go_simp) <;> (with_reducible rfl)
      change wpAnyH _ _ _ _ _ _ _ (Act.put _ (some 13) _) _
      simp only [Act.put, List.setIfInBounds_toArray, List.set_cons_zero, List.set_cons_succ]
      refine wpAnyH_ready (rs := [3]) (by kernel_rfl) (by simp) ?_
      refine AllReadyH.cons rfl (fun K hK => ?_) AllReadyH.nil
      go_simp
      go_at_call 49
      refine (num_nil U _ (B1.out.trans (hHeld.mono B1.out.size)) 1 (by omega) (by omega)).mono ?_
      rintro e v1 ⟨a1, m1, c1, rfl, k1, k2⟩
      have S1 : Hid (Bt U v1 (Pl.putI 1) a1 m1 c1 ∧ Below u1.heap.size u1 v1) := ⟨k1, hHeld.trans (k2.mono hHeld.size)⟩; clear k1 k2
      refine hK.out _ _ ?_ (fun hHeld2 => ?_)
      · exact (Hid.mk' S1.out.2).out
      clear hK K hHeld
      have hHeld := hHeld2
      clear hHeld2
      refine wpAnyH_ready (rs := [6]) (by kernel_rfl) (by simp) ?_
      refine AllReadyH.cons rfl (fun K hK => ?_) AllReadyH.nil
      go_simp
      go_at_call 50
      refine (CZ.out _).mono ?_
      rintro e v1' ⟨rfl, hv1⟩
      obtain rfl := hv1.symm; clear hv1
      refine hK.out _ _ ?_ (fun hHeld2 => ?_)
      · exact (Hid.mk' S1.out.2).out
      clear hK K hHeld
      have hHeld := hHeld2
      clear hHeld2
      refine wpAnyH_ready (rs := [7]) (by kernel_rfl) (by simp) ?_
      refine AllReadyH.cons rfl (fun K hK => ?_) AllReadyH.nil
      go_simp
      go_at_call 49
      refine (S1.out.1.num (by have := S1.out.1.len; have := Z0.out; omega) zg zb0 zb1).mono ?_
      rintro e v2 ⟨a2, m2, c2, rfl, k1, k2⟩
      have S2 : Hid (Bt U v2 (Pl.putI 1 ++ Pl.putI zg) a2 m2 c2 ∧ Below u1.heap.size u1 v2) := ⟨k1, S1.out.2.trans (k2.mono S1.out.2.size)⟩; clear k1 k2
      refine hK.out _ _ ?_ (fun hHeld2 => ?_)
      · exact (Hid.mk' S2.out.2).out
      clear hK K hHeld
      have hHeld := hHeld2
      clear hHeld2
      refine wpAnyH_take (i := 8) (v := ?_) rfl (by kernel_rfl) (by kernel_rfl) (by kernel_rfl) (fun _ _ _ h => h) (Or.inl ⟨by rfl, ?_⟩) hHeld ?_
      rotate_left
      · intro u hSu
        (go_simp) <;> (with_reducible rfl)
      change wpAnyH _ _ _ _ _ _ _ (Act.put _ (some 3) _) _
      simp only [Act.put, List.setIfInBounds_toArray, List.set_cons_zero, List.set_cons_succ]
      refine wpAnyH_done (by kernel_rfl) ?_ _
      refine NoPanic.normal ?_
      have BV2 : Hid (Below U.heap.size U v2) := B1.out.trans (S2.out.2.mono B1.out.size)
      have FV : Hid (∀ u, Below v2.heap.size v2 u → RBox u w.heap.size 1 id s m t n a N c y pa M pc ∧ WrtsAt u a l ∧ IntsAt u pa ps ∧ Below U.heap.size U u) := fun u hu => ⟨FB.out u (BV2.out.trans (hu.mono BV2.out.size)), (HWR.out u (BV2.out.trans (hu.mono BV2.out.size))).1, (HWR.out u (BV2.out.trans (hu.mono BV2.out.size))).2.1, BV2.out.trans (hu.mono BV2.out.size)⟩
      obtain ⟨q0, q1, q2, q3, q4, q5, q6, q7, q8⟩ := (FV.out v2 (Below.refl _ _)).1
      go_wp2
      refine wp_region_noPanic ?_
      refine wp_region_held_drew (S := fun u => Below v2.heap.size v2 u) (by kernel_rfl) ?_ (fun hHeld => ?_)
      · exact (Below.refl _ _).drew
      refine wpAnyH_take (i := 0) (v := ?_) rfl (by kernel_rfl) (by kernel_rfl) (by kernel_rfl) (fun _ _ _ h => h) (Or.inl ⟨by rfl, ?_⟩) hHeld ?_
      rotate_left
      · intro u hSu
        (go_simp) <;> (with_reducible rfl)
      change wpAnyH _ _ _ _ _ _ _ (Act.put _ (some 20) _) _
      simp only [Act.put, List.setIfInBounds_toArray, List.set_cons_zero, List.set_cons_succ]
      refine wpAnyH_take (i := 1) (v := ?_) rfl (by kernel_rfl) (by kernel_rfl) (by kernel_rfl) (fun _ _ _ h => h) (Or.inl ⟨by rfl, ?_⟩) hHeld ?_
      rotate_left
      · intro u hSu
        (go_simp) <;> (with_reducible rfl)
      change wpAnyH _ _ _ _ _ _ _ (Act.put _ (some 21) _) _
      simp only [Act.put, List.setIfInBounds_toArray, List.set_cons_zero, List.set_cons_succ]
      refine wpAnyH_take (i := 2) (v := ?_) rfl (by kernel_rfl) (by kernel_rfl) (by kernel_rfl) (fun _ _ _ h => h) (Or.inl ⟨by rfl, ?_⟩) hHeld ?_
      rotate_left
      · intro u hSu
        obtain ⟨q0, q1, q2, q3, q4, q5, q6, q7, q8⟩ := (FV.out u hSu).1
        (go_simp) <;> (with_reducible rfl)
      change wpAnyH _ _ _ _ _ _ _ (Act.put _ (some 22) _) _
      simp only [Act.put, List.setIfInBounds_toArray, List.set_cons_zero, List.set_cons_succ]
      refine wpAnyH_take (i := 4) (v := ?_) rfl (by kernel_rfl) (by kernel_rfl) (by kernel_rfl) (fun _ _ _ h => h) (Or.inl ⟨by rfl, ?_⟩) hHeld ?_
      rotate_left
      · intro u hSu
        (go_simp) <;> (with_reducible rfl)
      change wpAnyH _ _ _ _ _ _ _ (Act.put _ (some 24) _) _
      simp only [Act.put, List.setIfInBounds_toArray, List.set_cons_zero, List.set_cons_succ]
      refine wpAnyH_take (i := 5) (v := ?_) rfl (by kernel_rfl) (by kernel_rfl) (by kernel_rfl) (fun _ _ _ h => h) (Or.inl ⟨by rfl, ?_⟩) hHeld ?_
      rotate_left
      · intro u hSu
        obtain ⟨q0, q1, q2, q3, q4, q5, q6, q7, q8⟩ := (FV.out u hSu).1
        (go_simp) <;> (with_reducible rfl)
      change wpAnyH _ _ _ _ _ _ _ (Act.put _ (some 25) _) _
      simp only [Act.put, List.setIfInBounds_toArray, List.set_cons_zero, List.set_cons_succ]
      refine wpAnyH_take (i := 7) (v := ?_) rfl (by kernel_rfl) (by kernel_rfl) (by kernel_rfl) (fun _ _ _ h => h) (Or.inl ⟨by rfl, ?_⟩) hHeld ?_
      rotate_left
      · intro u hSu
        (go_simp) <;> (with_reducible rfl)
      change wpAnyH _ _ _ _ _ _ _ (Act.put _ (some 27) _) _
      simp only [Act.put, List.setIfInBounds_toArray, List.set_cons_zero, List.set_cons_succ]
      refine wpAnyH_take (i := 8) (v := ?_) rfl (by kernel_rfl) (by kernel_rfl) (by kernel_rfl) (fun _ _ _ h => h) (Or.inl ⟨by rfl, ?_⟩) hHeld ?_
      rotate_left
      · intro u hSu
        obtain ⟨q0, q1, q2, q3, q4, q5, q6, q7, q8⟩ := (FV.out u hSu).1
        (go_simp) <;> (with_reducible rfl)
      change wpAnyH _ _ _ _ _ _ _ (Act.put _ (some 28) _) _
      simp only [Act.put, List.setIfInBounds_toArray, List.set_cons_zero, List.set_cons_succ]
      refine wpAnyH_ready (rs := [3]) (by kernel_rfl) (by simp) ?_
      refine AllReadyH.cons rfl (fun K hK => ?_) AllReadyH.nil
      go_simp
      go_at_call 51
      refine (S2.out.1.drew.stp (by have h1 := S2.out.1.len; have := Z0.out; simp only [List.length_append] at h1; omega) s m HMN.out.1).mono ?_
      rintro e v3 ⟨a3, m3, c3, rfl, k1, k2⟩
      have S3 : Hid (Bt U v3 (Pl.putI 1 ++ Pl.putI zg ++ stpB s m) a3 m3 c3 ∧ Below v2.heap.size v2 v3) := ⟨k1, hHeld.trans (k2.mono hHeld.size)⟩; clear k1 k2
      refine hK.out _ _ ?_ (fun hHeld2 => ?_)
      · exact (Hid.mk' S3.out.2).out
      clear hK K hHeld
      have hHeld := hHeld2
      clear hHeld2
      refine wpAnyH_ready (rs := [6]) (by kernel_rfl) (by simp) ?_
      refine AllReadyH.cons rfl (fun K hK => ?_) AllReadyH.nil
      go_simp
      go_at_call 51
      refine (S3.out.1.stp (by have h1 := S3.out.1.len; have := Z0.out; simp only [List.length_append] at h1; omega) t n HMN.out.2).mono ?_
      rintro e v4 ⟨a4, m4, c4, rfl, k1, k2⟩
      have S4 : Hid (Bt U v4 (Pl.putI 1 ++ Pl.putI zg ++ stpB s m ++ stpB t n) a4 m4 c4 ∧ Below v2.heap.size v2 v4) := ⟨k1, S3.out.2.trans (k2.mono S3.out.2.size)⟩; clear k1 k2
      refine hK.out _ _ ?_ (fun hHeld2 => ?_)
      · exact (Hid.mk' S4.out.2).out
      clear hK K hHeld
      have hHeld := hHeld2
      clear hHeld2
      refine wpAnyH_ready (rs := [9]) (by kernel_rfl) (by simp) ?_
      refine AllReadyH.cons rfl (fun K hK => ?_) AllReadyH.nil
      go_simp
      go_at_call 23
      refine (S4.out.1.pws (by have h1 := S4.out.1.len; have := Z0.out; simp only [List.length_append] at h1; omega) a N c l HL.out.1 HL.out.2.1 HL.out.2.2 (FV.out _ S4.out.2).2.1).mono ?_
      rintro e v5 ⟨a5, m5, c5, rfl, k1, k2⟩
      have S5 : Hid (Bt U v5 (Pl.putI 1 ++ Pl.putI zg ++ stpB s m ++ stpB t n ++ wrtsB l) a5 m5 c5 ∧ Below v2.heap.size v2 v5) := ⟨k1, S4.out.2.trans (k2.mono S4.out.2.size)⟩; clear k1 k2
      refine hK.out _ _ ?_ (fun hHeld2 => ?_)
      · exact (Hid.mk' S5.out.2).out
      clear hK K hHeld
      have hHeld := hHeld2
      clear hHeld2
      refine wpAnyH_take (i := 10) (v := ?_) rfl (by kernel_rfl) (by kernel_rfl) (by kernel_rfl) (fun _ _ _ h => h) (Or.inl ⟨by rfl, ?_⟩) hHeld ?_
      rotate_left
      · intro u hSu
        (go_simp) <;> (with_reducible rfl)
      change wpAnyH _ _ _ _ _ _ _ (Act.put _ (some 2) _) _
      simp only [Act.put, List.setIfInBounds_toArray, List.set_cons_zero, List.set_cons_succ]
      refine wpAnyH_done (by kernel_rfl) ?_ _
      refine NoPanic.normal ?_
      go_wp2
      go_returns
      refine ⟨_, _, _, rfl, ?_⟩
      have e : RB = Pl.putI 1 ++ Pl.putI zg ++ stpB s m ++ stpB t n ++ wrtsB l := by rw [HRB.out]; unfold tailB; simp [List.append_assoc]
      rw [e]
      exact S5.out.1.base HB.out
    · go_enter Try.func16, Try.ntmps16
      go_wp2_with (first | (go_at_call 20; rw [HU.out]; refine CG.out.mono ?_; rintro e u1 ⟨rfl, hb1⟩; have B1 : Hid (Below U.heap.size U u1) := hb1; have FU : Hid (∀ u, Below u1.heap.size u1 u → RBox u w.heap.size 2 id s m t n a N c y pa M pc) := (fun u hu => FB.out u (B1.out.trans (hu.mono B1.out.size))); clear hb1 CG))
      refine wp_region_noPanic ?_
      refine wp_region_held_drew (S := fun u => Below u1.heap.size u1 u) (by kernel_rfl) ?_ (fun hHeld => ?_)
      · exact (Below.refl _ _).drew
      refine wpAnyH_take (i := 0) (v := ?_) rfl (by kernel_rfl) (by kernel_rfl) (by kernel_rfl) (fun _ _ _ h => h) (Or.inl ⟨by rfl, ?_⟩) hHeld ?_
      rotate_left
      · intro u hSu
        (go_simp) <;> (with_reducible rfl)
      change wpAnyH _ _ _ _ _ _ _ (Act.put _ (some 8) _) _
      simp only [Act.put, List.setIfInBounds_toArray, List.set_cons_zero, List.set_cons_succ]
      refine wpAnyH_take (i := 1) (v := ?_) rfl (by kernel_rfl) (by kernel_rfl) (by kernel_rfl) (fun _ _ _ h => h) (Or.inl ⟨by rfl, ?_⟩) hHeld ?_
      rotate_left
      · intro u hSu
        obtain ⟨q0, q1, q2, q3, q4, q5, q6, q7, q8⟩ := FU.out u hSu
        (go_simp) <;> (with_reducible rfl)
      change wpAnyH _ _ _ _ _ _ _ (Act.put _ (some 9) _) _
      simp only [Act.put, List.setIfInBounds_toArray, List.set_cons_zero, List.set_cons_succ]
      refine wpAnyH_take (i := 2) (v := ?_) rfl (by kernel_rfl) (by kernel_rfl) (by kernel_rfl) (fun _ _ _ h => h) (Or.inl ⟨by rfl, ?_⟩) hHeld ?_
      rotate_left
      · intro u hSu
        (go_simp) <;> (with_reducible rfl)
      change wpAnyH _ _ _ _ _ _ _ (Act.put _ (some 10) _) _
      simp only [Act.put, List.setIfInBounds_toArray, List.set_cons_zero, List.set_cons_succ]
      refine wpAnyH_take (i := 4) (v := ?_) rfl (by kernel_rfl) (by kernel_rfl) (by kernel_rfl) (fun _ _ _ h => h) (Or.inl ⟨by rfl, ?_⟩) hHeld ?_
      rotate_left
      · intro u hSu
        (go_simp) <;> (with_reducible rfl)
      change wpAnyH _ _ _ _ _ _ _ (Act.put _ (some 12) _) _
      simp only [Act.put, List.setIfInBounds_toArray, List.set_cons_zero, List.set_cons_succ]
      refine wpAnyH_take (i := 5) (v := ?_) rfl (by kernel_rfl) (by kernel_rfl) (by kernel_rfl) (fun _ _ _ h => h) (Or.inl ⟨by rfl, ?_⟩) hHeld ?_
      rotate_left
      · intro u hSu
        obtain ⟨q0, q1, q2, q3, q4, q5, q6, q7, q8⟩ := FU.out u hSu
        (go_simp) <;> (with_reducible rfl)
      change wpAnyH _ _ _ _ _ _ _ (Act.put _ (some 13) _) _
      simp only [Act.put, List.setIfInBounds_toArray, List.set_cons_zero, List.set_cons_succ]
      refine wpAnyH_ready (rs := [3]) (by kernel_rfl) (by simp) ?_
      refine AllReadyH.cons rfl (fun K hK => ?_) AllReadyH.nil
      go_simp
      go_at_call 49
      refine (num_nil U _ (B1.out.trans (hHeld.mono B1.out.size)) 2 (by omega) (by omega)).mono ?_
      rintro e v1 ⟨a1, m1, c1, rfl, k1, k2⟩
      have S1 : Hid (Bt U v1 (Pl.putI 2) a1 m1 c1 ∧ Below u1.heap.size u1 v1) := ⟨k1, hHeld.trans (k2.mono hHeld.size)⟩; clear k1 k2
      refine hK.out _ _ ?_ (fun hHeld2 => ?_)
      · exact (Hid.mk' S1.out.2).out
      clear hK K hHeld
      have hHeld := hHeld2
      clear hHeld2
      refine wpAnyH_ready (rs := [6]) (by kernel_rfl) (by simp) ?_
      refine AllReadyH.cons rfl (fun K hK => ?_) AllReadyH.nil
      go_simp
      go_at_call 50
      refine (CZ.out _).mono ?_
      rintro e v1' ⟨rfl, hv1⟩
      obtain rfl := hv1.symm; clear hv1
      refine hK.out _ _ ?_ (fun hHeld2 => ?_)
      · exact (Hid.mk' S1.out.2).out
      clear hK K hHeld
      have hHeld := hHeld2
      clear hHeld2
      refine wpAnyH_ready (rs := [7]) (by kernel_rfl) (by simp) ?_
      refine AllReadyH.cons rfl (fun K hK => ?_) AllReadyH.nil
      go_simp
      go_at_call 49
      refine (S1.out.1.num (by have := S1.out.1.len; have := Z0.out; omega) zg zb0 zb1).mono ?_
      rintro e v2 ⟨a2, m2, c2, rfl, k1, k2⟩
      have S2 : Hid (Bt U v2 (Pl.putI 2 ++ Pl.putI zg) a2 m2 c2 ∧ Below u1.heap.size u1 v2) := ⟨k1, S1.out.2.trans (k2.mono S1.out.2.size)⟩; clear k1 k2
      refine hK.out _ _ ?_ (fun hHeld2 => ?_)
      · exact (Hid.mk' S2.out.2).out
      clear hK K hHeld
      have hHeld := hHeld2
      clear hHeld2
      refine wpAnyH_take (i := 8) (v := ?_) rfl (by kernel_rfl) (by kernel_rfl) (by kernel_rfl) (fun _ _ _ h => h) (Or.inl ⟨by rfl, ?_⟩) hHeld ?_
      rotate_left
      · intro u hSu
        (go_simp) <;> (with_reducible rfl)
      change wpAnyH _ _ _ _ _ _ _ (Act.put _ (some 3) _) _
      simp only [Act.put, List.setIfInBounds_toArray, List.set_cons_zero, List.set_cons_succ]
      refine wpAnyH_done (by kernel_rfl) ?_ _
      refine NoPanic.normal ?_
      have BV2 : Hid (Below U.heap.size U v2) := B1.out.trans (S2.out.2.mono B1.out.size)
      have FV : Hid (∀ u, Below v2.heap.size v2 u → RBox u w.heap.size 2 id s m t n a N c y pa M pc ∧ WrtsAt u a l ∧ IntsAt u pa ps ∧ Below U.heap.size U u) := fun u hu => ⟨FB.out u (BV2.out.trans (hu.mono BV2.out.size)), (HWR.out u (BV2.out.trans (hu.mono BV2.out.size))).1, (HWR.out u (BV2.out.trans (hu.mono BV2.out.size))).2.1, BV2.out.trans (hu.mono BV2.out.size)⟩
      obtain ⟨q0, q1, q2, q3, q4, q5, q6, q7, q8⟩ := (FV.out v2 (Below.refl _ _)).1
      go_wp2_with (first | (go_at_call 51; refine (S2.out.1.stp (by have h1 := S2.out.1.len; have := Z0.out; simp only [List.length_append] at h1; omega) t n HMN.out.2).mono ?_; rintro e v3 ⟨a3, m3, c3, rfl, k1, k2⟩; have S3 : Hid (Bt U v3 (Pl.putI 2 ++ Pl.putI zg ++ stpB t n) a3 m3 c3) := k1; clear k1 k2))
      go_returns
      refine ⟨_, _, _, rfl, ?_⟩
      have e : RB = Pl.putI 2 ++ Pl.putI zg ++ stpB t n := by rw [HRB.out]; unfold tailB; simp [List.append_assoc]
      rw [e]
      exact S3.out.base HB.out
    · go_enter Try.func16, Try.ntmps16
      go_wp2_with (first | (go_at_call 20; rw [HU.out]; refine CG.out.mono ?_; rintro e u1 ⟨rfl, hb1⟩; have B1 : Hid (Below U.heap.size U u1) := hb1; have FU : Hid (∀ u, Below u1.heap.size u1 u → RBox u w.heap.size 3 id s m t n a N c y pa M pc) := (fun u hu => FB.out u (B1.out.trans (hu.mono B1.out.size))); clear hb1 CG))
      refine wp_region_noPanic ?_
      refine wp_region_held_drew (S := fun u => Below u1.heap.size u1 u) (by kernel_rfl) ?_ (fun hHeld => ?_)
      · exact (Below.refl _ _).drew
      refine wpAnyH_take (i := 0) (v := ?_) rfl (by kernel_rfl) (by kernel_rfl) (by kernel_rfl) (fun _ _ _ h => h) (Or.inl ⟨by rfl, ?_⟩) hHeld ?_
      rotate_left
      · intro u hSu
        (go_simp) <;> (with_reducible rfl)
      change wpAnyH _ _ _ _ _ _ _ (Act.put _ (some 8) _) _
      simp only [Act.put, List.setIfInBounds_toArray, List.set_cons_zero, List.set_cons_succ]
      refine wpAnyH_take (i := 1) (v := ?_) rfl (by kernel_rfl) (by kernel_rfl) (by kernel_rfl) (fun _ _ _ h => h) (Or.inl ⟨by rfl, ?_⟩) hHeld ?_
      rotate_left
      · intro u hSu
        obtain ⟨q0, q1, q2, q3, q4, q5, q6, q7, q8⟩ := FU.out u hSu
        (go_simp) <;> (with_reducible rfl)
      change wpAnyH _ _ _ _ _ _ _ (Act.put _ (some 9) _) _
      simp only [Act.put, List.setIfInBounds_toArray, List.set_cons_zero, List.set_cons_succ]
      refine wpAnyH_take (i := 2) (v := ?_) rfl (by kernel_rfl) (by kernel_rfl) (by kernel_rfl) (fun _ _ _ h => h) (Or.inl ⟨by rfl, ?_⟩) hHeld ?_
      rotate_left
      · intro u hSu
        (go_simp) <;> (with_reducible rfl)
      change wpAnyH _ _ _ _ _ _ _ (Act.put _ (some 10) _) _
      simp only [Act.put, List.setIfInBounds_toArray, List.set_cons_zero, List.set_cons_succ]
      refine wpAnyH_take (i := 4) (v := ?_) rfl (by kernel_rfl) (by kernel_rfl) (by kernel_rfl) (fun _ _ _ h => h) (Or.inl ⟨by rfl, ?_⟩) hHeld ?_
      rotate_left
      · intro u hSu
        (go_simp) <;> (with_reducible rfl)
      change wpAnyH _ _ _ _ _ _ _ (Act.put _ (some 12) _) _
      simp only [Act.put, List.setIfInBounds_toArray, List.set_cons_zero, List.set_cons_succ]
      refine wpAnyH_take (i := 5) (v := ?_) rfl (by kernel_rfl) (by kernel_rfl) (by kernel_rfl) (fun _ _ _ h => h) (Or.inl ⟨by rfl, ?_⟩) hHeld ?_
      rotate_left
      · intro u hSu
        obtain ⟨q0, q1, q2, q3, q4, q5, q6, q7, q8⟩ := FU.out u hSu
        (go_simp) <;> (with_reducible rfl)
      change wpAnyH _ _ _ _ _ _ _ (Act.put _ (some 13) _) _
      simp only [Act.put, List.setIfInBounds_toArray, List.set_cons_zero, List.set_cons_succ]
      refine wpAnyH_ready (rs := [3]) (by kernel_rfl) (by simp) ?_
      refine AllReadyH.cons rfl (fun K hK => ?_) AllReadyH.nil
      go_simp
      go_at_call 49
      refine (num_nil U _ (B1.out.trans (hHeld.mono B1.out.size)) 3 (by omega) (by omega)).mono ?_
      rintro e v1 ⟨a1, m1, c1, rfl, k1, k2⟩
      have S1 : Hid (Bt U v1 (Pl.putI 3) a1 m1 c1 ∧ Below u1.heap.size u1 v1) := ⟨k1, hHeld.trans (k2.mono hHeld.size)⟩; clear k1 k2
      refine hK.out _ _ ?_ (fun hHeld2 => ?_)
      · exact (Hid.mk' S1.out.2).out
      clear hK K hHeld
      have hHeld := hHeld2
      clear hHeld2
      refine wpAnyH_ready (rs := [6]) (by kernel_rfl) (by simp) ?_
      refine AllReadyH.cons rfl (fun K hK => ?_) AllReadyH.nil
      go_simp
      go_at_call 50
      refine (CZ.out _).mono ?_
      rintro e v1' ⟨rfl, hv1⟩
      obtain rfl := hv1.symm; clear hv1
      refine hK.out _ _ ?_ (fun hHeld2 => ?_)
      · exact (Hid.mk' S1.out.2).out
      clear hK K hHeld
      have hHeld := hHeld2
      clear hHeld2
      refine wpAnyH_ready (rs := [7]) (by kernel_rfl) (by simp) ?_
      refine AllReadyH.cons rfl (fun K hK => ?_) AllReadyH.nil
      go_simp
      go_at_call 49
      refine (S1.out.1.num (by have := S1.out.1.len; have := Z0.out; omega) zg zb0 zb1).mono ?_
      rintro e v2 ⟨a2, m2, c2, rfl, k1, k2⟩
      have S2 : Hid (Bt U v2 (Pl.putI 3 ++ Pl.putI zg) a2 m2 c2 ∧ Below u1.heap.size u1 v2) := ⟨k1, S1.out.2.trans (k2.mono S1.out.2.size)⟩; clear k1 k2
      refine hK.out _ _ ?_ (fun hHeld2 => ?_)
      · exact (Hid.mk' S2.out.2).out
      clear hK K hHeld
      have hHeld := hHeld2
      clear hHeld2
      refine wpAnyH_take (i := 8) (v := ?_) rfl (by kernel_rfl) (by kernel_rfl) (by kernel_rfl) (fun _ _ _ h => h) (Or.inl ⟨by rfl, ?_⟩) hHeld ?_
      rotate_left
      · intro u hSu
        (go_simp) <;> (with_reducible rfl)
      change wpAnyH _ _ _ _ _ _ _ (Act.put _ (some 3) _) _
      simp only [Act.put, List.setIfInBounds_toArray, List.set_cons_zero, List.set_cons_succ]
      refine wpAnyH_done (by kernel_rfl) ?_ _
      refine NoPanic.normal ?_
      have BV2 : Hid (Below U.heap.size U v2) := B1.out.trans (S2.out.2.mono B1.out.size)
      have FV : Hid (∀ u, Below v2.heap.size v2 u → RBox u w.heap.size 3 id s m t n a N c y pa M pc ∧ WrtsAt u a l ∧ IntsAt u pa ps ∧ Below U.heap.size U u) := fun u hu => ⟨FB.out u (BV2.out.trans (hu.mono BV2.out.size)), (HWR.out u (BV2.out.trans (hu.mono BV2.out.size))).1, (HWR.out u (BV2.out.trans (hu.mono BV2.out.size))).2.1, BV2.out.trans (hu.mono BV2.out.size)⟩
      obtain ⟨q0, q1, q2, q3, q4, q5, q6, q7, q8⟩ := (FV.out v2 (Below.refl _ _)).1
      go_wp2
      go_returns
      refine ⟨_, _, _, rfl, ?_⟩
      have e : RB = Pl.putI 3 ++ Pl.putI zg := by rw [HRB.out]; unfold tailB; simp
      rw [e]
      exact S2.out.1.base HB.out
    · have HP3 : Hid (∀ z ∈ ps, 0 ≤ z ∧ z ≤ 7) := ok3
      clear ok3
      go_enter Try.func16, Try.ntmps16
      go_wp2_with (first | (go_at_call 20; rw [HU.out]; refine CG.out.mono ?_; rintro e u1 ⟨rfl, hb1⟩; have B1 : Hid (Below U.heap.size U u1) := hb1; have FU : Hid (∀ u, Below u1.heap.size u1 u → RBox u w.heap.size 4 id s m t n a N c y pa M pc) := (fun u hu => FB.out u (B1.out.trans (hu.mono B1.out.size))); clear hb1 CG))
      refine wp_region_noPanic ?_
      refine wp_region_held_drew (S := fun u => Below u1.heap.size u1 u) (by kernel_rfl) ?_ (fun hHeld => ?_)
      · exact (Below.refl _ _).drew
      refine wpAnyH_take (i := 0) (v := ?_) rfl (by kernel_rfl) (by kernel_rfl) (by kernel_rfl) (fun _ _ _ h => h) (Or.inl ⟨by rfl, ?_⟩) hHeld ?_
      rotate_left
      · intro u hSu
        (go_simp) <;> (with_reducible rfl)
      change wpAnyH _ _ _ _ _ _ _ (Act.put _ (some 8) _) _
      simp only [Act.put, List.setIfInBounds_toArray, List.set_cons_zero, List.set_cons_succ]
      refine wpAnyH_take (i := 1) (v := ?_) rfl (by kernel_rfl) (by kernel_rfl) (by kernel_rfl) (fun _ _ _ h => h) (Or.inl ⟨by rfl, ?_⟩) hHeld ?_
      rotate_left
      · intro u hSu
        obtain ⟨q0, q1, q2, q3, q4, q5, q6, q7, q8⟩ := FU.out u hSu
        (go_simp) <;> (with_reducible rfl)
      change wpAnyH _ _ _ _ _ _ _ (Act.put _ (some 9) _) _
      simp only [Act.put, List.setIfInBounds_toArray, List.set_cons_zero, List.set_cons_succ]
      refine wpAnyH_take (i := 2) (v := ?_) rfl (by kernel_rfl) (by kernel_rfl) (by kernel_rfl) (fun _ _ _ h => h) (Or.inl ⟨by rfl, ?_⟩) hHeld ?_
      rotate_left
      · intro u hSu
        (go_simp) <;> (with_reducible rfl)
      change wpAnyH _ _ _ _ _ _ _ (Act.put _ (some 10) _) _
      simp only [Act.put, List.setIfInBounds_toArray, List.set_cons_zero, List.set_cons_succ]
      refine wpAnyH_take (i := 4) (v := ?_) rfl (by kernel_rfl) (by kernel_rfl) (by kernel_rfl) (fun _ _ _ h => h) (Or.inl ⟨by rfl, ?_⟩) hHeld ?_
      rotate_left
      · intro u hSu
        (go_simp) <;> (with_reducible rfl)
      change wpAnyH _ _ _ _ _ _ _ (Act.put _ (some 12) _) _
      simp only [Act.put, List.setIfInBounds_toArray, List.set_cons_zero, List.set_cons_succ]
      refine wpAnyH_take (i := 5) (v := ?_) rfl (by kernel_rfl) (by kernel_rfl) (by kernel_rfl) (fun _ _ _ h => h) (Or.inl ⟨by rfl, ?_⟩) hHeld ?_
      rotate_left
      · intro u hSu
        obtain ⟨q0, q1, q2, q3, q4, q5, q6, q7, q8⟩ := FU.out u hSu
        (go_simp) <;> (with_reducible rfl)
      change wpAnyH _ _ _ _ _ _ _ (Act.put _ (some 13) _) _
      simp only [Act.put, List.setIfInBounds_toArray, List.set_cons_zero, List.set_cons_succ]
      refine wpAnyH_ready (rs := [3]) (by kernel_rfl) (by simp) ?_
      refine AllReadyH.cons rfl (fun K hK => ?_) AllReadyH.nil
      go_simp
      go_at_call 49
      refine (num_nil U _ (B1.out.trans (hHeld.mono B1.out.size)) 4 (by omega) (by omega)).mono ?_
      rintro e v1 ⟨a1, m1, c1, rfl, k1, k2⟩
      have S1 : Hid (Bt U v1 (Pl.putI 4) a1 m1 c1 ∧ Below u1.heap.size u1 v1) := ⟨k1, hHeld.trans (k2.mono hHeld.size)⟩; clear k1 k2
      refine hK.out _ _ ?_ (fun hHeld2 => ?_)
      · exact (Hid.mk' S1.out.2).out
      clear hK K hHeld
      have hHeld := hHeld2
      clear hHeld2
      refine wpAnyH_ready (rs := [6]) (by kernel_rfl) (by simp) ?_
      refine AllReadyH.cons rfl (fun K hK => ?_) AllReadyH.nil
      go_simp
      go_at_call 50
      refine (CZ.out _).mono ?_
      rintro e v1' ⟨rfl, hv1⟩
      obtain rfl := hv1.symm; clear hv1
      refine hK.out _ _ ?_ (fun hHeld2 => ?_)
      · exact (Hid.mk' S1.out.2).out
      clear hK K hHeld
      have hHeld := hHeld2
      clear hHeld2
      refine wpAnyH_ready (rs := [7]) (by kernel_rfl) (by simp) ?_
      refine AllReadyH.cons rfl (fun K hK => ?_) AllReadyH.nil
      go_simp
      go_at_call 49
      refine (S1.out.1.num (by have := S1.out.1.len; have := Z0.out; omega) zg zb0 zb1).mono ?_
      rintro e v2 ⟨a2, m2, c2, rfl, k1, k2⟩
      have S2 : Hid (Bt U v2 (Pl.putI 4 ++ Pl.putI zg) a2 m2 c2 ∧ Below u1.heap.size u1 v2) := ⟨k1, S1.out.2.trans (k2.mono S1.out.2.size)⟩; clear k1 k2
      refine hK.out _ _ ?_ (fun hHeld2 => ?_)
      · exact (Hid.mk' S2.out.2).out
      clear hK K hHeld
      have hHeld := hHeld2
      clear hHeld2
      refine wpAnyH_take (i := 8) (v := ?_) rfl (by kernel_rfl) (by kernel_rfl) (by kernel_rfl) (fun _ _ _ h => h) (Or.inl ⟨by rfl, ?_⟩) hHeld ?_
      rotate_left
      · intro u hSu
        (go_simp) <;> (with_reducible rfl)
      change wpAnyH _ _ _ _ _ _ _ (Act.put _ (some 3) _) _
      simp only [Act.put, List.setIfInBounds_toArray, List.set_cons_zero, List.set_cons_succ]
      refine wpAnyH_done (by kernel_rfl) ?_ _
      refine NoPanic.normal ?_
      have BV2 : Hid (Below U.heap.size U v2) := B1.out.trans (S2.out.2.mono B1.out.size)
      have FV : Hid (∀ u, Below v2.heap.size v2 u → RBox u w.heap.size 4 id s m t n a N c y pa M pc ∧ WrtsAt u a l ∧ IntsAt u pa ps ∧ Below U.heap.size U u) := fun u hu => ⟨FB.out u (BV2.out.trans (hu.mono BV2.out.size)), (HWR.out u (BV2.out.trans (hu.mono BV2.out.size))).1, (HWR.out u (BV2.out.trans (hu.mono BV2.out.size))).2.1, BV2.out.trans (hu.mono BV2.out.size)⟩
      obtain ⟨q0, q1, q2, q3, q4, q5, q6, q7, q8⟩ := (FV.out v2 (Below.refl _ _)).1
      obtain ⟨fl, hfl⟩ : ∃ fl, fl = flagB y := ⟨_, rfl⟩
      have HFL : Hid (fl = flagB y) := hfl
      have HFB : Hid (0 ≤ fl ∧ fl ≤ 255) := by rw [hfl]; exact flagB_bd y
      have CF : Hid (∀ u, Calls Try.prog 52 #[.bool y] u fun e w' => e = .returned (.int .u8 fl) ∧ w' = u) := fun u => by rw [hfl]; exact rflag14_any y u
      obtain ⟨G, hG⟩ : ∃ G : Foot, G = fun j => U.heap.size ≤ j := ⟨_, rfl⟩
      have HGU : Hid (∀ u, Chg v2 u G → Below U.heap.size U u) := fun u hc => BV2.out.trans (hc.below BV2.out.size (fun k e => by rw [hG] at e; exact e))
      have HGX : Hid (∀ k, (Value.slice a2 m2 c2).ownBlock = some k → G k) := fun k hk => by rw [hG]; exact (S2.out.1.own.lt k hk).1
      have FG : Hid (∀ u, Chg v2 u G → RBox u w.heap.size 4 id s m t n a N c y pa M pc) := fun u hc => FB.out u (HGU.out u hc)
      have HMM : Hid (M ≤ 100) := HLP.out.2
      have hmm : M ≤ 100 := HMM.out
      have hwm : IntKind.u64.wrap ((M : Nat) : Int) = M := by rw [IntKind.wrap_u64]; omega
      have hm2 : m2 ≤ 1000 := (by have h1 := S2.out.1.len; have := Z0.out; simp only [List.length_append, List.length_singleton] at h1; omega)
      have HB2 : Hid (Bys (Pl.putI 4 ++ Pl.putI zg)) := S2.out.1.bytes
      clear hfl hG
      go_wp2
      refine wp_region_noPanic ?_
      refine region_till 14 (fun u => Chg v2 u G) (by kernel_rfl) ?_ (fun hHeld => ?_)
      · exact (Chg.refl _ _).drew
      refine till_take (i := 0) (v := ?_) 0 (by kernel_rfl) (Or.inl rfl) (by kernel_rfl) rfl (by kernel_rfl) (by kernel_rfl) (by kernel_rfl) (fun _ _ _ h => h) (Or.inl ⟨by rfl, ?_⟩) hHeld ?_
      rotate_left
      · intro u hSu
        (go_simp) <;> (with_reducible rfl)
      change wpTill _ _ _ _ _ _ _ _ (Act.put _ (some 39) _) _
      simp only [Act.put, List.setIfInBounds_toArray, List.set_cons_zero, List.set_cons_succ]
      refine till_take (i := 1) (v := ?_) 1 (by kernel_rfl) (Or.inl rfl) (by kernel_rfl) rfl (by kernel_rfl) (by kernel_rfl) (by kernel_rfl) (fun _ _ _ h => h) (Or.inl ⟨by rfl, ?_⟩) hHeld ?_
      rotate_left
      · intro u hSu
        (go_simp) <;> (with_reducible rfl)
      change wpTill _ _ _ _ _ _ _ _ (Act.put _ (some 40) _) _
      simp only [Act.put, List.setIfInBounds_toArray, List.set_cons_zero, List.set_cons_succ]
      refine till_take (i := 2) (v := ?_) 2 (by kernel_rfl) (Or.inl rfl) (by kernel_rfl) rfl (by kernel_rfl) (by kernel_rfl) (by kernel_rfl) (fun _ _ _ h => h) (Or.inl ⟨by rfl, ?_⟩) hHeld ?_
      rotate_left
      · intro u hSu
        obtain ⟨q0, q1, q2, q3, q4, q5, q6, q7, q8⟩ := FG.out u hSu
        (go_simp) <;> (with_reducible rfl)
      change wpTill _ _ _ _ _ _ _ _ (Act.put _ (some 41) _) _
      simp only [Act.put, List.setIfInBounds_toArray, List.set_cons_zero, List.set_cons_succ]
      refine till_take (i := 6) (v := ?_) 6 (by kernel_rfl) (Or.inl rfl) (by kernel_rfl) rfl (by kernel_rfl) (by kernel_rfl) (by kernel_rfl) (fun _ _ _ h => h) (Or.inl ⟨by rfl, ?_⟩) hHeld ?_
      rotate_left
      · intro u hSu
        (go_simp) <;> (with_reducible rfl)
      change wpTill _ _ _ _ _ _ _ _ (Act.put _ (some 45) _) _
      simp only [Act.put, List.setIfInBounds_toArray, List.set_cons_zero, List.set_cons_succ]
      refine till_take (i := 7) (v := ?_) 7 (by kernel_rfl) (Or.inl rfl) (by kernel_rfl) rfl (by kernel_rfl) (by kernel_rfl) (by kernel_rfl) (fun _ _ _ h => h) (Or.inl ⟨by rfl, ?_⟩) hHeld ?_
      rotate_left
      · intro u hSu
        obtain ⟨q0, q1, q2, q3, q4, q5, q6, q7, q8⟩ := FG.out u hSu
        (go_simp) <;> (with_reducible rfl)
      change wpTill _ _ _ _ _ _ _ _ (Act.put _ (some 46) _) _
      simp only [Act.put, List.setIfInBounds_toArray, List.set_cons_zero, List.set_cons_succ]
      refine till_take (i := 9) (v := ?_) 9 (by kernel_rfl) (Or.inl rfl) (by kernel_rfl) rfl (by kernel_rfl) (by kernel_rfl) (by kernel_rfl) (fun _ _ _ h => h) (Or.inl ⟨by rfl, ?_⟩) hHeld ?_
      rotate_left
      · intro u hSu
        (go_simp) <;> (with_reducible rfl)
      change wpTill _ _ _ _ _ _ _ _ (Act.put _ (some 48) _) _
      simp only [Act.put, List.setIfInBounds_toArray, List.set_cons_zero, List.set_cons_succ]
      refine till_take (i := 10) (v := ?_) 10 (by kernel_rfl) (Or.inl rfl) (by kernel_rfl) rfl (by kernel_rfl) (by kernel_rfl) (by kernel_rfl) (fun _ _ _ h => h) (Or.inl ⟨by rfl, ?_⟩) hHeld ?_
      rotate_left
      · intro u hSu
        obtain ⟨q0, q1, q2, q3, q4, q5, q6, q7, q8⟩ := FG.out u hSu
        (go_simp) <;> (with_reducible rfl)
      change wpTill _ _ _ _ _ _ _ _ (Act.put _ (some 49) _) _
      simp only [Act.put, List.setIfInBounds_toArray, List.set_cons_zero, List.set_cons_succ]
      refine till_take (i := 11) (v := ?_) 11 (by kernel_rfl) (Or.inl rfl) (by kernel_rfl) rfl (by kernel_rfl) (by kernel_rfl) (by kernel_rfl) (fun _ _ _ h => h) (Or.inl ⟨by rfl, ?_⟩) hHeld ?_
      rotate_left
      · intro u hSu
        (go_simp) <;> (with_reducible rfl)
      change wpTill _ _ _ _ _ _ _ _ (Act.put _ (some 50) _) _
      simp only [Act.put, List.setIfInBounds_toArray, List.set_cons_zero, List.set_cons_succ]
      refine till_take (i := 12) (v := ?_) 12 (by kernel_rfl) (Or.inl rfl) (by kernel_rfl) rfl (by kernel_rfl) (by kernel_rfl) (by kernel_rfl) (fun _ _ _ h => h) (Or.inl ⟨by rfl, ?_⟩) hHeld ?_
      rotate_left
      · intro u hSu
        (go_simp) <;> (with_reducible rfl)
      change wpTill _ _ _ _ _ _ _ _ (Act.put _ (some 51) _) _
      simp only [Act.put, List.setIfInBounds_toArray, List.set_cons_zero, List.set_cons_succ]
      refine till_ready (rs := [3]) (by kernel_rfl) (by simp) ?_
      refine AllTill.cons rfl (fun K hK => ?_) AllTill.nil
      go_simp; go_at_call 52; refine (CF.out _).mono ?_; rintro e u9 ⟨rfl, hu⟩; subst hu
      refine hK.out _ _ ?_ (fun hHeld2 => ?_)
      · exact hHeld
      clear hK K hHeld
      have hHeld := hHeld2
      clear hHeld2
      refine till_ready (rs := [4]) (by kernel_rfl) (by simp) ?_
      refine AllTill.cons rfl (fun K hK => ?_) AllTill.nil
      go_simp
      refine hK.out _ _ ?_ (fun hHeld2 => ?_)
      · exact hHeld.alloc _
      clear hK K hHeld
      have hHeld := hHeld2
      clear hHeld2
      refine till_ready (rs := [5]) (by kernel_rfl) (by simp) ?_
      refine AllTill.cons rfl (fun K hK => ?_) AllTill.nil
      refine step_append_row rfl (.tmp 39) (.tmp 43) rfl U.heap.size _ m2 (Pl.putI 4 ++ Pl.putI zg) [fl] rfl (own_below S2.out.1.own ((Below.refl _ _).alloc (Nat.le_refl _) _).drew (Nat.le_refl _)) _ _ _ rfl (row_drew (row_made v2 fl HFB.out.1 HFB.out.2 v2.heap.size rfl)) rfl (fun h => by cases h) HB2.out (by omega) (HGU.out _ hHeld).size ?_; intro a6 c6 w6 o6 g6; have C6 : Hid (Chg v2 w6 G) := hHeld.trans (Chg.of_grown g6 (X := G) (fun k e => HGX.out k e)) (fun _ _ x => x); have S6 : Hid (Bt U w6 (Pl.putI 4 ++ Pl.putI zg ++ [fl]) a6 (m2 + 1) c6) := ⟨o6, (by have h1 := S2.out.1.len; simp only [List.length_append, List.length_singleton] at h1 ⊢; omega), HB2.out.app (fun z hz => by simp at hz; rw [hz]; exact HFB.out), HGU.out _ C6.out⟩; clear o6 g6
      refine hK.out _ _ ?_ (fun hHeld2 => ?_)
      · exact C6.out
      clear hK K hHeld
      have hHeld := hHeld2
      clear hHeld2
      change wpTill _ _ _ _ _ _ _ _ (Act.put _ (some 44) _) _
      simp only [Act.put, List.setIfInBounds_toArray, List.set_cons_zero, List.set_cons_succ]
      refine till_ready (rs := [8]) (by kernel_rfl) (by simp) ?_
      refine AllTill.cons rfl (fun K hK => ?_) AllTill.nil
      go_simp; go_at_call 51; refine (S6.out.stp (by omega) t n HMN.out.2).mono ?_; rintro e v7 ⟨a7, m7, c7, rfl, k1, k2⟩; have C7 : Hid (Chg v2 v7 G) := hHeld.trans (Chg.of_below k2 G) (fun _ _ x => x); have S7 : Hid (Bt U v7 (Pl.putI 4 ++ Pl.putI zg ++ [fl] ++ stpB t n) a7 m7 c7) := k1; clear k1 k2
      refine hK.out _ _ ?_ (fun hHeld2 => ?_)
      · exact C7.out
      clear hK K hHeld
      have hHeld := hHeld2
      clear hHeld2
      refine till_ready (rs := [13]) (by kernel_rfl) (by simp) ?_
      refine AllTill.cons rfl (fun K hK => ?_) AllTill.nil
      go_simp; go_at_call 49; refine (S7.out.num (by have h1 := S7.out.len; have := Z0.out; simp only [List.length_append, List.length_singleton] at h1; omega) (M : Int) (by omega) (by omega)).mono ?_; rintro e v8 ⟨a8, m8, c8, rfl, k1, k2⟩; have C8 : Hid (Chg v2 v8 G) := hHeld.trans (Chg.of_below k2 G) (fun _ _ x => x); have S8 : Hid (Bt U v8 (Pl.putI 4 ++ Pl.putI zg ++ [fl] ++ stpB t n ++ Pl.putI (M : Int)) a8 m8 c8) := k1; clear k1 k2
      refine hK.out _ _ ?_ (fun hHeld2 => ?_)
      · exact C8.out
      clear hK K hHeld
      have hHeld := hHeld2
      clear hHeld2
      refine till_last (by kernel_rfl) (by kernel_rfl) rfl (fun K hK => ?_)
      go_simp; refine hK.out _ _ ?_; refine NoPanic.normal ?_; clear hK K hHeld
      obtain ⟨Q, hQ⟩ : ∃ Q, Q = Pl.putI 4 ++ Pl.putI zg ++ [fl] ++ stpB t n ++ Pl.putI (M : Int) := ⟨_, rfl⟩
      rw [← hQ] at S8
      have HQ : Hid (Q = Pl.putI 4 ++ Pl.putI zg ++ [fl] ++ stpB t n ++ Pl.putI (M : Int)) := hQ
      have hql : Q.length ≤ 100 := by
        rw [hQ]
        have h1 := Z0.out
        have h2 := putL_len (M : Int)
        simp only [List.length_append, List.length_singleton]
        omega
      have HQL : Hid (Q.length ≤ 100) := hql
      clear hql
      clear hQ q0 q1 q2 q3 q4 q5 q6 q7 q8
      go_wp2
      go_loopw [3, 4] (fun v i wr => ∃ (nn mm : Nat) (ax : Option Addr) (cx : Nat), nn ≤ M ∧ i = .int .i64 nn ∧ v = .slice ax mm cx ∧ Hid (Bt U wr (Q ++ (ps.take nn).flatMap Pl.putI) ax mm cx)) (fun _ i _ => M - (intOf i).toNat)
      case atStart => exact ⟨0, m8, a8, c8, Nat.zero_le _, rfl, rfl, by rw [List.take_zero, List.flatMap_nil, List.append_nil]; exact S8⟩
      case round =>
        obtain ⟨nn, mm, ax, cx, hnn, rfl, rfl, HS⟩ := hrel
        have hi0 : (0 : Int) ≤ (nn : Int) := by omega
        obtain ⟨q0, q1, q2, q3, q4, q5, q6, q7, q8⟩ := FB.out wr HS.out.below
        by_cases hlt : nn < M
        · have bl : (nn : Int) < (M : Int) := by omega
          obtain ⟨bq, oq, x, hpa, hx, hvx⟩ := (HWR.out wr HS.out.below).2.1.at (i := nn) (by rw [HLP.out.1]; exact hlt)
          subst hpa
          have hxb := HP3.out x (List.mem_of_getElem? hvx)
          have hx0 : 0 ≤ x := hxb.1
          have hx1 : x ≤ 7 := hxb.2
          have hwx : IntKind.u64.wrap x = x := by rw [IntKind.wrap_u64]; omega
          have HT : Hid ((ps.take (nn + 1)).flatMap Pl.putI = (ps.take nn).flatMap Pl.putI ++ Pl.putI x) := by show _ = _; rw [take_nextW hvx, List.flatMap_append]; simp
          have hml : mm ≤ 100000 := by
            have h1 := HS.out.len
            have h2 := ints_len (ps.take nn)
            have h3 := HQL.out
            rw [List.length_append] at h1
            rw [List.length_take] at h2
            omega
          have CX : Hid (Calls Try.prog 49 #[.slice ax mm cx, .int .u64 x] wr fun e w' => ∃ a' m' c', e = .returned (.slice a' m' c') ∧ Bt U w' (Q ++ (ps.take (nn + 1)).flatMap Pl.putI) a' m' c') := (HS.out.num hml x (by omega) (by omega)).mono (by
            rintro e w' ⟨a', m', c', rfl, k1, k2⟩
            refine ⟨a', m', c', rfl, ?_⟩
            rw [HT.out, ← List.append_assoc]
            exact k1)
          clear hvx hxb
          go_wp2_with (first | (go_at_call 49; refine CX.out.mono ?_; rintro e w9 ⟨a9, m9, c9, rfl, k1⟩; have H9 : Hid (Bt U w9 (Q ++ (ps.take (nn + 1)).flatMap Pl.putI) a9 m9 c9) := k1; clear k1))
          exact ⟨⟨nn + 1, m9, a9, c9, by omega, by simp, rfl, H9⟩, by simp [intOf]; omega⟩
        · obtain rfl : nn = M := by omega
          have bl : ¬ (nn : Int) < (nn : Int) := by omega
          have e : RB = Q ++ (ps.take nn).flatMap Pl.putI := by
            rw [HRB.out, HQ.out, HFL.out, List.take_of_length_le (by rw [HLP.out.1]; exact Nat.le_refl _)]
            unfold tailB partsL
            rw [← HLP.out.1]
            simp [List.append_assoc]
          have HE : Hid (Bt w wr RB ax mm cx) := by rw [e]; exact HS.out.base HB.out
          clear e
          go_wp2
          go_returns
          exact ⟨_, _, _, rfl, HE.out⟩
    · go_enter Try.func16, Try.ntmps16
      go_wp2_with (first | (go_at_call 20; rw [HU.out]; refine CG.out.mono ?_; rintro e u1 ⟨rfl, hb1⟩; have B1 : Hid (Below U.heap.size U u1) := hb1; have FU : Hid (∀ u, Below u1.heap.size u1 u → RBox u w.heap.size 5 id s m t n a N c y pa M pc) := (fun u hu => FB.out u (B1.out.trans (hu.mono B1.out.size))); clear hb1 CG))
      refine wp_region_noPanic ?_
      refine wp_region_held_drew (S := fun u => Below u1.heap.size u1 u) (by kernel_rfl) ?_ (fun hHeld => ?_)
      · exact (Below.refl _ _).drew
      refine wpAnyH_take (i := 0) (v := ?_) rfl (by kernel_rfl) (by kernel_rfl) (by kernel_rfl) (fun _ _ _ h => h) (Or.inl ⟨by rfl, ?_⟩) hHeld ?_
      rotate_left
      · intro u hSu
        (go_simp) <;> (with_reducible rfl)
      change wpAnyH _ _ _ _ _ _ _ (Act.put _ (some 8) _) _
      simp only [Act.put, List.setIfInBounds_toArray, List.set_cons_zero, List.set_cons_succ]
      refine wpAnyH_take (i := 1) (v := ?_) rfl (by kernel_rfl) (by kernel_rfl) (by kernel_rfl) (fun _ _ _ h => h) (Or.inl ⟨by rfl, ?_⟩) hHeld ?_
      rotate_left
      · intro u hSu
        obtain ⟨q0, q1, q2, q3, q4, q5, q6, q7, q8⟩ := FU.out u hSu
        (go_simp) <;> (with_reducible rfl)
      change wpAnyH _ _ _ _ _ _ _ (Act.put _ (some 9) _) _
      simp only [Act.put, List.setIfInBounds_toArray, List.set_cons_zero, List.set_cons_succ]
      refine wpAnyH_take (i := 2) (v := ?_) rfl (by kernel_rfl) (by kernel_rfl) (by kernel_rfl) (fun _ _ _ h => h) (Or.inl ⟨by rfl, ?_⟩) hHeld ?_
      rotate_left
      · intro u hSu
        (go_simp) <;> (with_reducible rfl)
      change wpAnyH _ _ _ _ _ _ _ (Act.put _ (some 10) _) _
      simp only [Act.put, List.setIfInBounds_toArray, List.set_cons_zero, List.set_cons_succ]
      refine wpAnyH_take (i := 4) (v := ?_) rfl (by kernel_rfl) (by kernel_rfl) (by kernel_rfl) (fun _ _ _ h => h) (Or.inl ⟨by rfl, ?_⟩) hHeld ?_
      rotate_left
      · intro u hSu
        (go_simp) <;> (with_reducible rfl)
      change wpAnyH _ _ _ _ _ _ _ (Act.put _ (some 12) _) _
      simp only [Act.put, List.setIfInBounds_toArray, List.set_cons_zero, List.set_cons_succ]
      refine wpAnyH_take (i := 5) (v := ?_) rfl (by kernel_rfl) (by kernel_rfl) (by kernel_rfl) (fun _ _ _ h => h) (Or.inl ⟨by rfl, ?_⟩) hHeld ?_
      rotate_left
      · intro u hSu
        obtain ⟨q0, q1, q2, q3, q4, q5, q6, q7, q8⟩ := FU.out u hSu
        (go_simp) <;> (with_reducible rfl)
      change wpAnyH _ _ _ _ _ _ _ (Act.put _ (some 13) _) _
      simp only [Act.put, List.setIfInBounds_toArray, List.set_cons_zero, List.set_cons_succ]
      refine wpAnyH_ready (rs := [3]) (by kernel_rfl) (by simp) ?_
      refine AllReadyH.cons rfl (fun K hK => ?_) AllReadyH.nil
      go_simp
      go_at_call 49
      refine (num_nil U _ (B1.out.trans (hHeld.mono B1.out.size)) 5 (by omega) (by omega)).mono ?_
      rintro e v1 ⟨a1, m1, c1, rfl, k1, k2⟩
      have S1 : Hid (Bt U v1 (Pl.putI 5) a1 m1 c1 ∧ Below u1.heap.size u1 v1) := ⟨k1, hHeld.trans (k2.mono hHeld.size)⟩; clear k1 k2
      refine hK.out _ _ ?_ (fun hHeld2 => ?_)
      · exact (Hid.mk' S1.out.2).out
      clear hK K hHeld
      have hHeld := hHeld2
      clear hHeld2
      refine wpAnyH_ready (rs := [6]) (by kernel_rfl) (by simp) ?_
      refine AllReadyH.cons rfl (fun K hK => ?_) AllReadyH.nil
      go_simp
      go_at_call 50
      refine (CZ.out _).mono ?_
      rintro e v1' ⟨rfl, hv1⟩
      obtain rfl := hv1.symm; clear hv1
      refine hK.out _ _ ?_ (fun hHeld2 => ?_)
      · exact (Hid.mk' S1.out.2).out
      clear hK K hHeld
      have hHeld := hHeld2
      clear hHeld2
      refine wpAnyH_ready (rs := [7]) (by kernel_rfl) (by simp) ?_
      refine AllReadyH.cons rfl (fun K hK => ?_) AllReadyH.nil
      go_simp
      go_at_call 49
      refine (S1.out.1.num (by have := S1.out.1.len; have := Z0.out; omega) zg zb0 zb1).mono ?_
      rintro e v2 ⟨a2, m2, c2, rfl, k1, k2⟩
      have S2 : Hid (Bt U v2 (Pl.putI 5 ++ Pl.putI zg) a2 m2 c2 ∧ Below u1.heap.size u1 v2) := ⟨k1, S1.out.2.trans (k2.mono S1.out.2.size)⟩; clear k1 k2
      refine hK.out _ _ ?_ (fun hHeld2 => ?_)
      · exact (Hid.mk' S2.out.2).out
      clear hK K hHeld
      have hHeld := hHeld2
      clear hHeld2
      refine wpAnyH_take (i := 8) (v := ?_) rfl (by kernel_rfl) (by kernel_rfl) (by kernel_rfl) (fun _ _ _ h => h) (Or.inl ⟨by rfl, ?_⟩) hHeld ?_
      rotate_left
      · intro u hSu
        (go_simp) <;> (with_reducible rfl)
      change wpAnyH _ _ _ _ _ _ _ (Act.put _ (some 3) _) _
      simp only [Act.put, List.setIfInBounds_toArray, List.set_cons_zero, List.set_cons_succ]
      refine wpAnyH_done (by kernel_rfl) ?_ _
      refine NoPanic.normal ?_
      have BV2 : Hid (Below U.heap.size U v2) := B1.out.trans (S2.out.2.mono B1.out.size)
      have FV : Hid (∀ u, Below v2.heap.size v2 u → RBox u w.heap.size 5 id s m t n a N c y pa M pc ∧ WrtsAt u a l ∧ IntsAt u pa ps ∧ Below U.heap.size U u) := fun u hu => ⟨FB.out u (BV2.out.trans (hu.mono BV2.out.size)), (HWR.out u (BV2.out.trans (hu.mono BV2.out.size))).1, (HWR.out u (BV2.out.trans (hu.mono BV2.out.size))).2.1, BV2.out.trans (hu.mono BV2.out.size)⟩
      obtain ⟨q0, q1, q2, q3, q4, q5, q6, q7, q8⟩ := (FV.out v2 (Below.refl _ _)).1
      go_wp2_with (first | (go_at_call 51; refine (S2.out.1.stp (by have h1 := S2.out.1.len; have := Z0.out; simp only [List.length_append] at h1; omega) t n HMN.out.2).mono ?_; rintro e v3 ⟨a3, m3, c3, rfl, k1, k2⟩; have S3 : Hid (Bt U v3 (Pl.putI 5 ++ Pl.putI zg ++ stpB t n) a3 m3 c3) := k1; clear k1 k2))
      go_returns
      refine ⟨_, _, _, rfl, ?_⟩
      have e : RB = Pl.putI 5 ++ Pl.putI zg ++ stpB t n := by rw [HRB.out]; unfold tailB; simp [List.append_assoc]
      rw [e]
      exact S3.out.base HB.out
end Go.Proofs.Ytmiafadmcpmjgaa

