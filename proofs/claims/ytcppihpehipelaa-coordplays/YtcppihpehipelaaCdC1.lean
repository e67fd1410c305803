/-
  The landed stamp's Max; the landed coord's known, refuse, vote of one that is to be decided.
-/
import Derived.Test.YtcppihpehipelaaCdDel
import Derived.Test.YtcppihpehipelaaAu61
import Derived.Test.YtcppihpehipelaaAu53
import Derived.Test.YtcppihpehipelaaAu57
namespace Go.Proofs.Ytcppihpehipelaa
open Go.RowKit
set_option linter.unusedVariables false
set_option linter.unusedSimpArgs false

set_option maxHeartbeats 2000000 in
theorem cdmax_any (t n t' n' : Int) (w : World) :
    Calls Try.prog 62 #[.agg #[.int .i64 t, .int .u8 n], .agg #[.int .i64 t', .int .u8 n']] w fun e w' => e = .returned (.agg #[.int .i64 (mxS t n t' n').1, .int .u8 (mxS t n t' n').2]) ∧ Below w.heap.size w w' := by
  have H0 : Hid (Three w (((w.alloc (.cells #[.int .i64 t, .int .u8 n] 28)).alloc (.cells #[.int .i64 t', .int .u8 n'] 28)).alloc (.cells #[.int .i64 0, .int .u8 0] 28)) t n t' n') := Three.made w 28 t n t' n'
  by_cases h : ltS t n t' n'
  · have CC : Hid (∀ w, Calls Try.prog 39 #[.agg #[.int .i64 t, .int .u8 n], .agg #[.int .i64 t', .int .u8 n']] w fun e w' => e = .returned (.int .i64 (-1)) ∧ Below w.heap.size w w') := fun w => by
      have c := scmp_any t n t' n' w
      rw [cmp_lt h] at c
      exact c
    have e : mxS t n t' n' = (t', n') := if_pos h
    rw [e]
    clear e h
    go_enter Try.func62, Try.ntmps62
    go_wp2_with (go_at_call 39; refine (CC.out _).mono ?_; rintro e w1 ⟨rfl, hb1⟩; have H1 : Hid (Three w w1 t n t' n') := H0.out.step hb1; have q0 := H1.out.b0; have q1 := H1.out.b1; have z0 := H1.out.c0; have z1 := H1.out.c1; have f0 := H1.out.free 0; have f1 := H1.out.free 1; clear hb1)
    obtain ⟨r1, r2⟩ := set_two z0 z1
    (try simp only [Exit.inBlock, Exit.then])
    refine bodyPost_ret (v := .agg #[.int .i64 t', .int .u8 n']) (by simp [results, Try.results62, go_sem, r1, r2]) rfl ?_
    exact ⟨rfl, (H1.out.below.setCell (by show w.heap.size ≤ w.heap.size + 2; omega) _).setCell (by show w.heap.size ≤ w.heap.size + 2; omega) _⟩
  · have CC : Hid (∀ w, Calls Try.prog 39 #[.agg #[.int .i64 t, .int .u8 n], .agg #[.int .i64 t', .int .u8 n']] w fun e w' => (∃ k : Int, e = .returned (.int .i64 k) ∧ 0 ≤ k) ∧ Below w.heap.size w w') := fun w => by
      refine (scmp_any t n t' n' w).mono ?_
      rintro e w' ⟨rfl, hb⟩
      refine ⟨⟨_, rfl, ?_⟩, hb⟩
      unfold cmpS
      rw [if_neg h]
      split <;> omega
    have e : mxS t n t' n' = (t, n) := if_neg h
    rw [e]
    clear e h
    go_enter Try.func62, Try.ntmps62
    go_wp2_with (go_at_call 39; refine (CC.out _).mono ?_; rintro e w1 ⟨⟨k, rfl, hk⟩, hb1⟩; have H1 : Hid (Three w w1 t n t' n') := H0.out.step hb1; have q0 := H1.out.a0; have q1 := H1.out.a1; have z0 := H1.out.c0; have z1 := H1.out.c1; have f0 := H1.out.free 0; have f1 := H1.out.free 1; clear hb1)
    obtain ⟨r1, r2⟩ := set_two z0 z1
    (try simp only [Exit.inBlock, Exit.then])
    refine bodyPost_ret (v := .agg #[.int .i64 t, .int .u8 n]) (by simp [results, Try.results62, go_sem, r1, r2]) rfl ?_
    exact ⟨rfl, (H1.out.below.setCell (by show w.heap.size ≤ w.heap.size + 2; omega) _).setCell (by show w.heap.size ≤ w.heap.size + 2; omega) _⟩
/-- The eight cells of one. -/
structure MBox (u : World) (g : Nat) (st sn : Int) (vp va vo : Value) (y : Bool) (t n : Int) : Prop where
  c0 : u.cell? ⟨g, 0, none⟩ = some (.int .i64 st)
  c1 : u.cell? ⟨g, 1, none⟩ = some (.int .u8 sn)
  c2 : u.cell? ⟨g, 2, none⟩ = some vp
  c3 : u.cell? ⟨g, 3, none⟩ = some va
  c4 : u.cell? ⟨g, 4, none⟩ = some vo
  c5 : u.cell? ⟨g, 5, none⟩ = some (.bool y)
  c6 : u.cell? ⟨g, 6, none⟩ = some (.int .i64 t)
  c7 : u.cell? ⟨g, 7, none⟩ = some (.int .u8 n)
  free : ∀ j, u.frozen? ⟨g, j, none⟩ = false
theorem MBox.kept {u u' : World} {g : Nat} {st sn : Int} {vp va vo : Value} {y : Bool} {t n : Int} (h : MBox u g st sn vp va vo y t n) (hg : u'.heap[g]? = u.heap[g]?) : MBox u' g st sn vp va vo y t n :=
  ⟨(cell_kept hg _).trans h.c0, (cell_kept hg _).trans h.c1, (cell_kept hg _).trans h.c2, (cell_kept hg _).trans h.c3, (cell_kept hg _).trans h.c4, (cell_kept hg _).trans h.c5, (cell_kept hg _).trans h.c6, (cell_kept hg _).trans h.c7, fun j => (frozen_kept hg j).trans (h.free j)⟩
theorem MBox.lt {u : World} {g : Nat} {st sn : Int} {vp va vo : Value} {y : Bool} {t n : Int} (h : MBox u g st sn vp va vo y t n) : g < u.heap.size := cell_lt h.c0
theorem MBox.past {u u' : World} {g : Nat} {st sn : Int} {vp va vo : Value} {y : Bool} {t n : Int} (h : MBox u g st sn vp va vo y t n) (hb : Below u.heap.size u u') : MBox u' g st sn vp va vo y t n := h.kept (hb.block g h.lt)
theorem cell_offC {u : World} {g o o' : Nat} {v x : Value} (h : u.cell? ⟨g, o', none⟩ = some x) (hne : o ≠ o') : (u.setCell ⟨g, o, none⟩ v).cell? ⟨g, o', none⟩ = some x := by
  rw [World.cell?_setCell_other _ _ _ _ (by intro e; injection e with _ e2; exact hne e2)]
  exact h
theorem MBox.set3 {u : World} {g : Nat} {st sn : Int} {vp va vo : Value} {y : Bool} {t n : Int} (h : MBox u g st sn vp va vo y t n) (v : Value) : MBox (u.setCell ⟨g, 3, none⟩ v) g st sn vp v vo y t n :=
  ⟨cell_offC h.c0 (by decide), cell_offC h.c1 (by decide), cell_offC h.c2 (by decide), World.cell?_setCell_same _ _ _ h.c3, cell_offC h.c4 (by decide), cell_offC h.c5 (by decide), cell_offC h.c6 (by decide), cell_offC h.c7 (by decide), fun j => by rw [World.frozen?_setCell]; exact h.free j⟩
theorem MBox.set4 {u : World} {g : Nat} {st sn : Int} {vp va vo : Value} {y : Bool} {t n : Int} (h : MBox u g st sn vp va vo y t n) (v : Value) : MBox (u.setCell ⟨g, 4, none⟩ v) g st sn vp va v y t n :=
  ⟨cell_offC h.c0 (by decide), cell_offC h.c1 (by decide), cell_offC h.c2 (by decide), cell_offC h.c3 (by decide), World.cell?_setCell_same _ _ _ h.c4, cell_offC h.c5 (by decide), cell_offC h.c6 (by decide), cell_offC h.c7 (by decide), fun j => by rw [World.frozen?_setCell]; exact h.free j⟩
theorem MBox.set5 {u : World} {g : Nat} {st sn : Int} {vp va vo : Value} {y : Bool} {t n : Int} (h : MBox u g st sn vp va vo y t n) (b : Bool) : MBox (u.setCell ⟨g, 5, none⟩ (.bool b)) g st sn vp va vo b t n :=
  ⟨cell_offC h.c0 (by decide), cell_offC h.c1 (by decide), cell_offC h.c2 (by decide), cell_offC h.c3 (by decide), cell_offC h.c4 (by decide), World.cell?_setCell_same _ _ _ h.c5, cell_offC h.c6 (by decide), cell_offC h.c7 (by decide), fun j => by rw [World.frozen?_setCell]; exact h.free j⟩
theorem MBox.set67 {u : World} {g : Nat} {st sn : Int} {vp va vo : Value} {y : Bool} {t n : Int} (h : MBox u g st sn vp va vo y t n) (t' n' : Int) : MBox ((u.setCell ⟨g, 6, none⟩ (.int .i64 t')).setCell ⟨g, 7, none⟩ (.int .u8 n')) g st sn vp va vo y t' n' :=
  ⟨cell_offC (cell_offC h.c0 (by decide)) (by decide), cell_offC (cell_offC h.c1 (by decide)) (by decide), cell_offC (cell_offC h.c2 (by decide)) (by decide), cell_offC (cell_offC h.c3 (by decide)) (by decide), cell_offC (cell_offC h.c4 (by decide)) (by decide), cell_offC (cell_offC h.c5 (by decide)) (by decide), cell_offC (World.cell?_setCell_same _ _ _ h.c6) (by decide), World.cell?_setCell_same _ _ _ (cell_offC h.c7 (by decide)), fun j => by rw [World.frozen?_setCell, World.frozen?_setCell]; exact h.free j⟩
theorem MatI.box {u : World} {g gp cp : Nat} {aa : Option Addr} {ac go co : Nat} {d : DecC} (h : MatI u g gp cp aa ac go co d) : MBox u g d.st d.sn (.slice (some ⟨gp, 0, none⟩) d.parts.length cp) (.slice aa (awaitsD d).length ac) (.slice (some ⟨go, 0, none⟩) (owesD d).length co) (decide (d.how = 1)) d.at_ d.an :=
  ⟨h.c0, h.c1, h.c2, h.c3, h.c4, h.c5, h.c6, h.c7, h.free⟩
/-- known: is it decided? -/
theorem cdknown_raw (g : Nat) (aa : Option Addr) (N ac : Nat) (w : World) (h : w.cell? ⟨g, 3, none⟩ = some (.slice aa N ac)) :
    Calls Try.prog 42 #[.pointer (some ⟨g, 0, none⟩)] w fun e w' => e = .returned (.bool (decide (N = 0))) ∧ w' = w := by
  by_cases h0 : N = 0
  · subst h0
    go_enter Try.func42, Try.ntmps42
    go_wp2
    go_ret
    exact ⟨rfl, rfl⟩
  · have hb : ((N : Int) == 0) = false := beq_eq_false_iff_ne.2 (by omega)
    rw [decide_eq_false h0]
    clear h0
    go_enter Try.func42, Try.ntmps42
    go_wp2
    go_ret
    exact ⟨rfl, rfl⟩
theorem cdknown_any (g : Nat) (d : DecC) (Y : Foot) (w : World) (h : MatD w g d Y) (hd : DecL d) :
    Calls Try.prog 42 #[.pointer (some ⟨g, 0, none⟩)] w fun e w' => e = .returned (.bool (decide (d.how ≠ 0))) ∧ w' = w := by
  obtain ⟨⟨gp, cp, aa, ac, go, co, h1, h2⟩, h3⟩ := h
  have e : decide ((awaitsD d).length = 0) = decide (d.how ≠ 0) := by
    rw [Bool.eq_iff_iff, decide_eq_true_eq, decide_eq_true_eq, ← awaits_nil hd]
    exact List.length_eq_zero_iff
  rw [← e]
  exact cdknown_raw g aa _ ac w h1.c3
/-- refuse: it is decided, not to be committed. -/
theorem MatI.refused {u u' : World} {g gp cp : Nat} {aa : Option Addr} {ac go co : Nat} {d : DecC} (h : MatI u g gp cp aa ac go co d) (h0 : d.how = 0) (hc : Chg u u' (fun k => k = g)) (hx : gp < u.heap.size ∧ go < u.heap.size) (hb : MBox u' g d.st d.sn (.slice (some ⟨gp, 0, none⟩) d.parts.length cp) (.slice none 0 0) (.slice (some ⟨go, 0, none⟩) (owesD d).length co) (decide (d.how = 1)) 0 0) : MatI u' g gp cp none 0 go co (noD d) := by
  have ea : awaitsD (noD d) = [] := if_neg (by simp [noD])
  refine ⟨hb.c0, hb.c1, hb.c2, by rw [ea]; exact hb.c3, hb.c4, ?_, hb.c6, hb.c7, hb.free, h.parts.kept (hc.block gp hx.1 h.ne.1), h.pr, fun hn => absurd ea hn, by rw [ea]; exact Nat.zero_le _, h.ow.kept (hc.block go hx.2 h.ne.2.1), h.orr, h.ne⟩
  rw [hb.c5, decide_eq_false (by omega : ¬ d.how = 1)]
  rfl
set_option maxHeartbeats 1000000 in
theorem cdrefuse_any (g : Nat) (d : DecC) (Y : Foot) (w : World) (h : MatD w g d Y) (h0 : d.how = 0) :
    Calls Try.prog 45 #[.pointer (some ⟨g, 0, none⟩)] w fun e w' => e = .returned (.tuple #[]) ∧ MatD w' g (noD d) Y ∧ Chg w w' Y := by
  obtain ⟨⟨gp, cp, aa, ac, go, co, h1, h2⟩, h3⟩ := h
  have b0 := h1.box
  have b1 := b0.set3 (.slice none 0 0)
  have b2 := b1.set67 0 0
  have c3 := b0.c3
  have f3 := b0.free 3
  have c6 := b1.c6
  have c7 := b1.c7
  have f6 := b1.free 6
  have f7 := b1.free 7
  have HC : Hid (Chg w (((w.setCell ⟨g, 3, none⟩ (.slice none 0 0)).setCell ⟨g, 6, none⟩ (.int .i64 0)).setCell ⟨g, 7, none⟩ (.int .u8 0)) (fun k => k = g)) := ((Chg.set w ⟨g, 3, none⟩ (.slice none 0 0) (X := fun k => k = g) rfl).trans (Chg.set _ ⟨g, 6, none⟩ _ (X := fun k => k = g) rfl) (fun _ _ y => y)).trans (Chg.set _ ⟨g, 7, none⟩ _ (X := fun k => k = g) rfl) (fun _ _ y => y)
  have HM : Hid (MatI (((w.setCell ⟨g, 3, none⟩ (.slice none 0 0)).setCell ⟨g, 6, none⟩ (.int .i64 0)).setCell ⟨g, 7, none⟩ (.int .u8 0)) g gp cp none 0 go co (noD d)) := h1.refused h0 HC.out ⟨h3 gp (h2 gp (.inr (.inl rfl))), h3 go (h2 go (.inr (.inr (.inl rfl))))⟩ b2
  have HY : Hid (∀ k, matF g gp none go k → Y k) := fun k hk => h2 k (by
    rcases hk with e | e | e | ⟨ga, e, _⟩
    · exact .inl e
    · exact .inr (.inl e)
    · exact .inr (.inr (.inl e))
    · cases e)
  have HLT : Hid (∀ k, Y k → k < w.heap.size) := h3
  have HG : Hid (Y g) := h2 g (.inl rfl)
  clear h1 h2 h3 b0 b1 b2
  go_enter Try.func45, Try.ntmps45
  go_wp2
  go_end0
  refine ⟨rfl, ⟨⟨gp, cp, none, 0, go, co, HM.out, HY.out⟩, fun k hk => ?_⟩, HC.out.mono (fun k _ e => by rw [e]; exact HG.out)⟩
  have := HLT.out k hk
  exact Nat.lt_of_lt_of_le this HC.out.size
end Go.Proofs.Ytcppihpehipelaa
