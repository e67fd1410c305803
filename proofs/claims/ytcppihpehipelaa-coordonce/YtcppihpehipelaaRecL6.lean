/-
  The landed rec: only.
-/
import Derived.Test.YtcppihpehipelaaAu53
namespace Go.Proofs.Ytcppihpehipelaa
open Go.RowKit
set_option linter.unusedVariables false

/-- Nothing but what a record's kind has. -/
def onlyM (x : RcM) : RcM :=
  if x.r.kd = 1 then ⟨⟨x.r.kd, x.r.id, x.r.s, x.r.m, x.r.t, x.r.n, x.r.l, false, []⟩, x.a, x.c, none, 0⟩
  else if x.r.kd = 2 then ⟨⟨x.r.kd, x.r.id, 0, 0, x.r.t, x.r.n, [], false, []⟩, none, 0, none, 0⟩
  else if x.r.kd = 3 then ⟨⟨x.r.kd, x.r.id, 0, 0, 0, 0, [], false, []⟩, none, 0, none, 0⟩
  else if x.r.kd = 4 then (if x.r.y = false then ⟨⟨x.r.kd, x.r.id, 0, 0, 0, 0, [], false, x.r.ps⟩, none, 0, x.pa, x.pc⟩ else ⟨⟨x.r.kd, x.r.id, 0, 0, x.r.t, x.r.n, [], true, x.r.ps⟩, none, 0, x.pa, x.pc⟩)
  else if x.r.kd = 5 then ⟨⟨x.r.kd, 0, 0, 0, x.r.t, 0, [], false, []⟩, none, 0, none, 0⟩
  else ⟨⟨0, 0, 0, 0, 0, 0, [], false, []⟩, none, 0, none, 0⟩
theorem WrtsAt.none (w : World) (a : Option Addr) : WrtsAt w a [] := ⟨.inl rfl, fun W hW => by simp at hW⟩
theorem IntsAt.none (w : World) (a : Option Addr) : IntsAt w a [] := ⟨.inl rfl, fun W hW => by simp at hW⟩
theorem RcW.only {w : World} {x : RcM} (h : RcW w x) : RcW w (onlyM x) := by
  obtain ⟨⟨kd, id, s, m, t, n, l, y, ps⟩, a, c, pa, pc⟩ := x
  obtain ⟨hwr, hrm, hfw, hps, hpr, hpf, hkd, ⟨o1, o2, o3, o4, o5, o6, o7, o8⟩⟩ := h
  simp only at *
  unfold onlyM
  simp only
  by_cases k1 : kd = 1
  · rw [if_pos k1]
    exact ⟨hwr, hrm, hfw, IntsAt.none _ _, Nat.zero_le _, Nat.zero_le _, hkd, ⟨o1, o2, o3, o4, o5, o6, o7, o8⟩⟩
  rw [if_neg k1]
  by_cases k2 : kd = 2
  · rw [if_pos k2]
    exact ⟨WrtsAt.none _ _, Nat.zero_le _, Nat.zero_le _, IntsAt.none _ _, Nat.zero_le _, Nat.zero_le _, hkd, ⟨o1, o2, by simp, by simp, o5, o6, by simp, by simp⟩⟩
  rw [if_neg k2]
  by_cases k3 : kd = 3
  · rw [if_pos k3]
    exact ⟨WrtsAt.none _ _, Nat.zero_le _, Nat.zero_le _, IntsAt.none _ _, Nat.zero_le _, Nat.zero_le _, hkd, ⟨o1, o2, by simp, by simp, by simp, by simp, by simp, by simp⟩⟩
  rw [if_neg k3]
  by_cases k4 : kd = 4
  · rw [if_pos k4]
    by_cases hy : y = false
    · rw [if_pos hy]
      exact ⟨WrtsAt.none _ _, Nat.zero_le _, Nat.zero_le _, hps, hpr, hpf, hkd, ⟨o1, o2, by simp, by simp, by simp, by simp, by simp, by simp⟩⟩
    · rw [if_neg hy]
      exact ⟨WrtsAt.none _ _, Nat.zero_le _, Nat.zero_le _, hps, hpr, hpf, hkd, ⟨o1, o2, by simp, by simp, o5, o6, by simp, by simp⟩⟩
  rw [if_neg k4]
  by_cases k5 : kd = 5
  · rw [if_pos k5]
    exact ⟨WrtsAt.none _ _, Nat.zero_le _, Nat.zero_le _, IntsAt.none _ _, Nat.zero_le _, Nat.zero_le _, hkd, ⟨by simp, by simp, by simp, by simp, by simp, by simp, by simp, by simp⟩⟩
  rw [if_neg k5]
  exact ⟨WrtsAt.none _ _, Nat.zero_le _, Nat.zero_le _, IntsAt.none _ _, Nat.zero_le _, Nat.zero_le _, by simp, ⟨by simp, by simp, by simp, by simp, by simp, by simp, by simp, by simp⟩⟩
theorem info_rcd : (Try.prog.info? 37).map (·.size) = some 9 := by kernel_rfl
theorem results_rcd {fn : Func} {c : Tmp} (h : fn.results = #[.cell c 37]) (tmps : Array Value) (w : World) (b : Nat) (kd id s m t n : Int) (a : Option Addr) (N cp : Nat) (y : Bool) (pa : Option Addr) (M pc : Nat) (hp : tmps.getD c undef = .pointer (some ⟨b, 0, none⟩)) (hb : RBox w b kd id s m t n a N cp y pa M pc) :
    (results fn tmps).run Try.prog w = .ok (.agg #[.int .i64 kd, .int .i64 id, .int .i64 s, .int .u8 m, .int .i64 t, .int .u8 n, .slice a N cp, .bool y, .slice pa M pc]) w := by
  obtain ⟨c0, c1, c2, c3, c4, c5, c6, c7, c8⟩ := hb
  have hl := run_loadVar_mid (P := Try.prog) w b 0 37 [.int .i64 kd, .int .i64 id, .int .i64 s, .int .u8 m, .int .i64 t, .int .u8 n, .slice a N cp, .bool y, .slice pa M pc] _ (fun j v hv => by
    have hj : j = 0 ∨ j = 1 ∨ j = 2 ∨ j = 3 ∨ j = 4 ∨ j = 5 ∨ j = 6 ∨ j = 7 ∨ j = 8 := by
      have := (List.getElem?_eq_some_iff.1 hv).1
      simp at this; omega
    rw [Nat.zero_add]
    rcases hj with rfl | rfl | rfl | rfl | rfl | rfl | rfl | rfl | rfl <;> (injection hv with hv; rw [← hv]; assumption)) Try.underlying37 rfl (by rw [info_rcd]; rfl)
  unfold results
  rw [h]
  simp only [List.mapM_toArray, List.mapM_cons, List.mapM_nil, hp]
  simp [asAddr, hl]
theorem RBox.made2 (w : World) (o : Obj) (T : TypeId) (kd id s m t n : Int) (a : Option Addr) (N c : Nat) (y : Bool) (pa : Option Addr) (M pc : Nat) : RBox ((w.alloc o).alloc (.cells #[.int .i64 kd, .int .i64 id, .int .i64 s, .int .u8 m, .int .i64 t, .int .u8 n, .slice a N c, .bool y, .slice pa M pc] T)) (w.heap.size + 1) kd id s m t n a N c y pa M pc := by
  have := RBox.made (w.alloc o) T kd id s m t n a N c y pa M pc
  rw [World.size_alloc] at this
  exact this
set_option maxHeartbeats 4000000 in
set_option maxRecDepth 8000 in
theorem lonly_any (x : RcM) (w : World) :
    Calls Try.prog 56 #[rcv x] w fun e w' => e = .returned (rcv (onlyM x)) ∧ Below w.heap.size w w' := by
  obtain ⟨⟨kd, id, s, m, t, n, l, y, ps⟩, a, c, pa, pc⟩ := x
  unfold onlyM rcv encR
  simp only
  obtain ⟨N, hN⟩ : ∃ N, l.length = N := ⟨_, rfl⟩
  obtain ⟨M, hM⟩ : ∃ N, ps.length = N := ⟨_, rfl⟩
  by_cases k1 : kd = 1
  · rw [if_pos k1]
    simp only [hN, hM, List.length_nil]
    subst k1
    go_enter Try.func56, Try.ntmps56
    go_wp2
    refine bodyPost_ret (results_rcd rfl _ _ (w.heap.size + 1) _ _ _ _ _ _ _ _ _ _ _ _ _ rfl (RBox.made2 w _ 37 _ _ _ _ _ _ _ _ _ _ _ _ _)) rfl ?_
    exact ⟨rfl, ((Below.refl _ _).alloc (Nat.le_refl _) _).alloc (by simp) _⟩
  rw [if_neg k1]
  by_cases k2 : kd = 2
  · rw [if_pos k2]
    simp only [hN, hM, List.length_nil]
    subst k2
    go_enter Try.func56, Try.ntmps56
    go_wp2
    refine bodyPost_ret (results_rcd rfl _ _ (w.heap.size + 1) _ _ _ _ _ _ _ _ _ _ _ _ _ rfl (RBox.made2 w _ 37 _ _ _ _ _ _ _ _ _ _ _ _ _)) rfl ?_
    exact ⟨rfl, ((Below.refl _ _).alloc (Nat.le_refl _) _).alloc (by simp) _⟩
  rw [if_neg k2]
  by_cases k3 : kd = 3
  · rw [if_pos k3]
    simp only [hN, hM, List.length_nil]
    subst k3
    go_enter Try.func56, Try.ntmps56
    go_wp2
    refine bodyPost_ret (results_rcd rfl _ _ (w.heap.size + 1) _ _ _ _ _ _ _ _ _ _ _ _ _ rfl (RBox.made2 w _ 37 _ _ _ _ _ _ _ _ _ _ _ _ _)) rfl ?_
    exact ⟨rfl, ((Below.refl _ _).alloc (Nat.le_refl _) _).alloc (by simp) _⟩
  rw [if_neg k3]
  by_cases k4 : kd = 4
  · rw [if_pos k4]
    by_cases hy : y = false
    · rw [if_pos hy]
      simp only [hN, hM, List.length_nil]
      subst k4 hy
      go_enter Try.func56, Try.ntmps56
      go_wp2
      refine bodyPost_ret (results_rcd rfl _ _ (w.heap.size + 1) _ _ _ _ _ _ _ _ _ _ _ _ _ rfl (RBox.made2 w _ 37 _ _ _ _ _ _ _ _ _ _ _ _ _)) rfl ?_
      exact ⟨rfl, ((Below.refl _ _).alloc (Nat.le_refl _) _).alloc (by simp) _⟩
    · rw [if_neg hy]
      have hy' : y = true := by simpa using hy
      simp only [hN, hM, List.length_nil]
      subst k4 hy'
      clear hy
      go_enter Try.func56, Try.ntmps56
      go_wp2
      refine bodyPost_ret (results_rcd rfl _ _ (w.heap.size + 1) _ _ _ _ _ _ _ _ _ _ _ _ _ rfl (RBox.made2 w _ 37 _ _ _ _ _ _ _ _ _ _ _ _ _)) rfl ?_
      exact ⟨rfl, ((Below.refl _ _).alloc (Nat.le_refl _) _).alloc (by simp) _⟩
  rw [if_neg k4]
  by_cases k5 : kd = 5
  · rw [if_pos k5]
    simp only [hN, hM, List.length_nil]
    subst k5
    go_enter Try.func56, Try.ntmps56
    go_wp2
    refine bodyPost_ret (results_rcd rfl _ _ (w.heap.size + 1) _ _ _ _ _ _ _ _ _ _ _ _ _ rfl (RBox.made2 w _ 37 _ _ _ _ _ _ _ _ _ _ _ _ _)) rfl ?_
    exact ⟨rfl, ((Below.refl _ _).alloc (Nat.le_refl _) _).alloc (by simp) _⟩
  · rw [if_neg k5]
    simp only [hN, hM, List.length_nil]
    have b1 : (kd == 1) = false := beq_eq_false_iff_ne.2 k1
    have b2 : (kd == 2) = false := beq_eq_false_iff_ne.2 k2
    have b3 : (kd == 3) = false := beq_eq_false_iff_ne.2 k3
    have b4 : (kd == 4) = false := beq_eq_false_iff_ne.2 k4
    have b5 : (kd == 5) = false := beq_eq_false_iff_ne.2 k5
    go_enter Try.func56, Try.ntmps56
    go_wp2
    refine bodyPost_ret (results_rcd rfl _ _ (w.heap.size + 1) _ _ _ _ _ _ _ _ _ _ _ _ _ rfl (RBox.made2 w _ 37 _ _ _ _ _ _ _ _ _ _ _ _ _)) rfl ?_
    exact ⟨rfl, ((Below.refl _ _).alloc (Nat.le_refl _) _).alloc (by simp) _⟩
/-! ### What may be -/
/-- The same question, kind by kind, of a record that has nothing but what its kind has. -/
def kindR (r : Rcd) : Bool :=
  if r.kd = 1 then decide (1 ≤ r.id) && decide (0 < cmpS r.t r.n r.s r.m) && mayW r.l 1
  else if r.kd = 2 then decide (1 ≤ r.id)
  else if r.kd = 3 then decide (1 ≤ r.id)
  else if r.kd = 4 then decide (1 ≤ r.id) && partsB r.ps
  else decide (r.kd = 5)
theorem okS0 : okS 0 := ⟨by omega, by omega⟩
open Classical in
theorem good_only (x : RcM) : goodR x.r = (decide (x.r = (onlyM x).r) && decide (okS x.r.s) && decide (okS x.r.t) && kindR x.r) := by
  obtain ⟨⟨kd, id, s, m, t, n, l, y, ps⟩, a, c, pa, pc⟩ := x
  have h0 := okS0
  rw [Bool.eq_iff_iff]
  unfold goodR kindR onlyM
  simp only
  by_cases k1 : kd = 1
  · simp only [if_pos k1, entR, goodE, Bool.and_eq_true, decide_eq_true_eq, Bool.not_eq_true', rcd_eq]
    constructor
    · rintro ⟨⟨⟨⟨⟨⟨h1, h2⟩, h3⟩, h4⟩, h5⟩, h6⟩, h7⟩
      exact ⟨⟨⟨⟨trivial, trivial, trivial, trivial, trivial, trivial, h6, trivial, list_none h7⟩, of_decide_eq_true h2⟩, of_decide_eq_true h3⟩, ⟨of_decide_eq_true h1, of_decide_eq_true h4⟩, h5⟩
    · rintro ⟨⟨⟨⟨_, _, _, _, _, _, h6, _, h7⟩, h2⟩, h3⟩, ⟨h1, h4⟩, h5⟩
      exact ⟨⟨⟨⟨⟨⟨decide_eq_true h1, decide_eq_true h2⟩, decide_eq_true h3⟩, decide_eq_true h4⟩, h5⟩, h6⟩, by rw [h7]; rfl⟩
  simp only [if_neg k1]
  by_cases k2 : kd = 2
  · simp only [if_pos k2, bareR, plainR, Bool.and_eq_true, decide_eq_true_eq, Bool.not_eq_true', rcd_eq]
    constructor
    · rintro ⟨⟨h1, ⟨⟨⟨⟨h2, h3⟩, h4⟩, h5⟩, h6⟩⟩, h7⟩
      exact ⟨⟨⟨⟨trivial, trivial, h2, h3, trivial, trivial, h5, list_none h4, list_none h6⟩, by rw [h2]; exact h0⟩, h7⟩, h1⟩
    · rintro ⟨⟨⟨⟨_, _, h2, h3, _, _, h5, h4, h6⟩, _⟩, h7⟩, h1⟩
      exact ⟨⟨h1, ⟨⟨⟨⟨h2, h3⟩, by rw [h4]; rfl⟩, h5⟩, by rw [h6]; rfl⟩⟩, h7⟩
  simp only [if_neg k2]
  by_cases k3 : kd = 3
  · simp only [if_pos k3, bareR, plainR, Bool.and_eq_true, decide_eq_true_eq, Bool.not_eq_true', rcd_eq]
    constructor
    · rintro ⟨⟨h1, ⟨⟨⟨⟨h2, h3⟩, h4⟩, h5⟩, h6⟩⟩, h7, h8⟩
      exact ⟨⟨⟨⟨trivial, trivial, h2, h3, h7, h8, h5, list_none h4, list_none h6⟩, by rw [h2]; exact h0⟩, by rw [h7]; exact h0⟩, h1⟩
    · rintro ⟨⟨⟨⟨_, _, h2, h3, h7, h8, h5, h4, h6⟩, _⟩, _⟩, h1⟩
      exact ⟨⟨h1, ⟨⟨⟨⟨h2, h3⟩, by rw [h4]; rfl⟩, h5⟩, by rw [h6]; rfl⟩⟩, h7, h8⟩
  simp only [if_neg k3]
  by_cases k4 : kd = 4
  · simp only [if_pos k4]
    cases y with
    | false =>
      simp only [if_true, plainR, Bool.and_eq_true, decide_eq_true_eq, Bool.false_or, rcd_eq]
      constructor
      · rintro ⟨⟨⟨⟨h1, ⟨⟨h2, h3⟩, h4⟩⟩, h5⟩, h6⟩, h7, h8⟩
        exact ⟨⟨⟨⟨trivial, trivial, h2, h3, h7, h8, trivial, list_none h4, trivial⟩, by rw [h2]; exact h0⟩, h6⟩, h1, h5⟩
      · rintro ⟨⟨⟨⟨_, _, h2, h3, h7, h8, _, h4, _⟩, _⟩, h6⟩, h1, h5⟩
        exact ⟨⟨⟨⟨h1, ⟨⟨h2, h3⟩, by rw [h4]; rfl⟩⟩, h5⟩, h6⟩, h7, h8⟩
    | true =>
      simp only [Bool.true_eq_false, if_false, plainR, Bool.and_eq_true, decide_eq_true_eq, Bool.true_or, rcd_eq]
      constructor
      · rintro ⟨⟨⟨⟨h1, ⟨⟨h2, h3⟩, h4⟩⟩, h5⟩, h6⟩, _⟩
        exact ⟨⟨⟨⟨trivial, trivial, h2, h3, trivial, trivial, trivial, list_none h4, trivial⟩, by rw [h2]; exact h0⟩, h6⟩, h1, h5⟩
      · rintro ⟨⟨⟨⟨_, _, h2, h3, _, _, _, h4, _⟩, _⟩, h6⟩, h1, h5⟩
        exact ⟨⟨⟨⟨h1, ⟨⟨h2, h3⟩, by rw [h4]; rfl⟩⟩, h5⟩, h6⟩, trivial⟩
  simp only [if_neg k4]
  by_cases k5 : kd = 5
  · simp only [if_pos k5, bareR, plainR, Bool.and_eq_true, decide_eq_true_eq, Bool.not_eq_true', rcd_eq]
    constructor
    · rintro ⟨⟨⟨h1, ⟨⟨⟨⟨h2, h3⟩, h4⟩, h5⟩, h6⟩⟩, h7⟩, h8⟩
      exact ⟨⟨⟨⟨trivial, h1, h2, h3, trivial, h8, h5, list_none h4, list_none h6⟩, by rw [h2]; exact h0⟩, h7⟩, k5⟩
    · rintro ⟨⟨⟨⟨_, h1, h2, h3, _, h8, h5, h4, h6⟩, _⟩, h7⟩, _⟩
      exact ⟨⟨⟨h1, ⟨⟨⟨⟨h2, h3⟩, by rw [h4]; rfl⟩, h5⟩, by rw [h6]; rfl⟩⟩, h7⟩, h8⟩
  · simp only [if_neg k5, Bool.and_eq_true, decide_eq_true_eq]
    constructor
    · intro h; cases h
    · intro h; exact absurd h.2 k5
end Go.Proofs.Ytcppihpehipelaa
