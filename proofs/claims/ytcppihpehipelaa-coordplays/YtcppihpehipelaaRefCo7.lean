/-
  The document's own table of decisions: Play.
-/
import Derived.Test.YtcppihpehipelaaRefCo6
import Derived.Test.YtcppihpehipelaaRefCo2
import Derived.Test.YtcppihpehipelaaRefRec2
import Derived.Deep.DeepCutAuto
namespace Go.Proofs.Ytcppihpehipelaa
open Go.RowKit
set_option linter.unusedVariables false
set_option linter.unusedSimpArgs false

theorem frozenC : ∀ (vs : List Value) (w : World) (b o : Nat) (a : Addr), (w.setCells b o vs).frozen? a = w.frozen? a
  | [], w, b, o, a => rfl
  | v :: r, w, b, o, a => by
    show ((w.setCell ⟨b, o, none⟩ v).setCells b (o + 1) r).frozen? a = _
    rw [frozenC r _ b (o + 1) a, World.frozen?_setCell]
/-- The first of them in a box: a store of it whole. -/
theorem step_store_boxO {w : World} {ops : Array Oper} {o : Oper} {a : Act} {K : Act → World → Prop} {Q : Exit → Act → World → Prop} {E : Prop} (hgd : o.guard = none) (x y : Operand) (ho : o.op = .store 92 x y) (p : Nat) (cs : List Value) (hx : a.eval x = .pointer (some ⟨p, 0, none⟩)) (hy : a.eval y = .agg cs.toArray)
    (hl : cs.length = 9) (h1 : ∀ u ∈ cs, u.oneCell' = true) (hr : RowO w p [zeroO]) (h : ∀ u, u.rangeAt p 0 cs → (∀ j, u.frozen? ⟨p, j, none⟩ = false) → Chg w u (fun k => k = p) → K (a.put o.dst undef) u) : if Region.wanted o (yielded ops a.tmps) = true then Oper.wp Try.prog o a w K Q else E := by
  have hw : Region.wanted o (yielded ops a.tmps) = true := by simp [Region.wanted, hgd]
  rw [if_pos hw]
  have ht : w.there p 0 9 := fun j hj => by
    refine ⟨?_, hr.free _⟩
    have hv : (encO zeroO)[j]? = some ((encO zeroO)[j]'(by rw [encO_len]; exact hj)) := List.getElem?_eq_getElem _
    have := hr.cell (i := 0) (x := zeroO) rfl hv
    rw [Nat.zero_mul] at this
    rw [this]
    rfl
  refine wp_store_mid 92 x y ho p 0 cs.toArray hx hy (by rw [List.size_toArray, hl]; exact ht) (by rw [List.size_toArray, hl]; exact info_rone) (all_oneCell_toArray h1) ?_
  exact h _ (World.rangeAt_setCells_same w p 0 cs (by rw [hl]; exact ht)) (fun j => by rw [frozenC]; exact hr.free j) (setCellsC_chg cs w p 0)
/-- What the region of Play leaves: one in a box, its lists made. -/
structure PlayS (U u : World) (id t n hw : Int) (ps : List Int) (M p gp cp gv ga : Nat) : Prop where
  below : Below U.heap.size U u
  rng : u.rangeAt p 0 [.int .i64 id, .int .i64 0, .int .u8 0, .slice (some ⟨gp, 0, none⟩) M cp, .slice (some ⟨gv, 0, none⟩) M M, .int .i64 hw, .int .i64 t, .int .u8 n, .slice (some ⟨ga, 0, none⟩) M M]
  free : ∀ j, u.frozen? ⟨p, j, none⟩ = false
  lo : U.heap.size ≤ p ∧ U.heap.size ≤ gp ∧ U.heap.size ≤ gv ∧ U.heap.size ≤ ga
  ne : gv ≠ ga ∧ p ≠ gp ∧ p ≠ gv ∧ p ≠ ga
  i : IntsO u gp ps
  v : BoolsO u gv (List.replicate M false)
  a : BoolsO u ga (List.replicate M false)
  r : M ≤ cp
theorem PlayS.made {U v u : World} {id t n hw : Int} {ps : List Int} {N p gp cp gv ga : Nat} (hb : Below U.heap.size U v) (h1 : IntsO v gp ps ∧ U.heap.size ≤ gp ∧ N ≤ cp) (h2 : BoolsO v gv (List.replicate N false) ∧ U.heap.size ≤ gv) (h3 : BoolsO v ga (List.replicate N false) ∧ U.heap.size ≤ ga) (h4 : RowO v p [zeroO] ∧ U.heap.size ≤ p) (hne : gv ≠ ga)
    (r1 : u.rangeAt p 0 [.int .i64 id, .int .i64 0, .int .u8 0, .slice (some ⟨gp, 0, none⟩) N cp, .slice (some ⟨gv, 0, none⟩) N N, .int .i64 hw, .int .i64 t, .int .u8 n, .slice (some ⟨ga, 0, none⟩) N N]) (r2 : ∀ j, u.frozen? ⟨p, j, none⟩ = false) (r3 : Chg v u (fun k => k = p)) : PlayS U u id t n hw ps N p gp cp gv ga := by
  have e1 := row_ints_ne h4.1 h1.1
  have e2 := row_bools_ne h4.1 h2.1
  have e3 := row_bools_ne h4.1 h3.1
  exact ⟨hb.trans (r3.below hb.size (fun k e => by rw [e]; exact h4.2)), r1, r2, ⟨h4.2, h1.2.1, h2.2, h3.2⟩, ⟨hne, e1, e2, e3⟩, h1.1.kept (r3.block gp h1.1.lt e1.symm), h2.1.kept (r3.block gv h2.1.lt e2.symm), h3.1.kept (r3.block ga h3.1.lt e3.symm), h1.2.2⟩
/-- The region's last: the one is laid into its box. -/
theorem tr_one {U w : World} {ops : Array Oper} {o : Oper} {a : Act} {K Z : Act → World → Prop} {Q : Exit → Act → World → Prop} {E : Prop} {id t n hw : Int} {l : List Int} {N p gp cp gv ga : Nat} (hU : Below U.heap.size U w) (hgd : o.guard = none) (x y : Operand) (ho : o.op = .store 92 x y) (hx : a.eval x = .pointer (some ⟨p, 0, none⟩)) (hy : a.eval y = .agg #[.int .i64 id, .int .i64 0, .int .u8 0, .slice (some ⟨gp, 0, none⟩) N cp, .slice (some ⟨gv, 0, none⟩) N N, .int .i64 hw, .int .i64 t, .int .u8 n, .slice (some ⟨ga, 0, none⟩) N N])
    (hI : MkI U w l N gp cp) (hV : MkB U w N gv) (hA : MkB U w N ga) (hO : MkO U w p) (hne : gv ≠ ga) (hK : Hid (∀ a w, Z a w → K a w)) (h : ∀ u, Hid (PlayS U u id t n hw l N p gp cp gv ga) → Z (a.put o.dst undef) u) : if Region.wanted o (yielded ops a.tmps) = true then Oper.wp Try.prog o a w K Q else E :=
  step_store_boxO hgd x y ho p [.int .i64 id, .int .i64 0, .int .u8 0, .slice (some ⟨gp, 0, none⟩) N cp, .slice (some ⟨gv, 0, none⟩) N N, .int .i64 hw, .int .i64 t, .int .u8 n, .slice (some ⟨ga, 0, none⟩) N N] hx hy rfl (fun u hu => by simp at hu; rcases hu with rfl | rfl | rfl | rfl | rfl | rfl | rfl | rfl | rfl <;> rfl) hO.row fun u r1 r2 r3 => hK.out _ _ (h u (PlayS.made hU ⟨hI.ints, hI.lo, hI.room⟩ ⟨hV.bools, hV.lo⟩ ⟨hA.bools, hA.lo⟩ ⟨hO.row, hO.lo⟩ hne r1 r2 r3))
/-- It is to be committed. -/
theorem PlayS.yes {U u : World} {id t n hw : Int} {ps : List Int} {M p gp cp gv ga : Nat} (h : PlayS U u id t n hw ps M p gp cp gv ga) : PlayS U (u.setCell ⟨p, 5, none⟩ (.int .i64 1)) id t n 1 ps M p gp cp gv ga := by
  have hk : ∀ k, k ≠ p → (u.setCell ⟨p, 5, none⟩ (.int .i64 1)).heap[k]? = u.heap[k]? := fun k hne => Below.heap_setCell _ ⟨p, 5, none⟩ _ k hne
  have h5 : u.cell? ⟨p, 5, none⟩ = some (.int .i64 hw) := h.rng 5 _ rfl
  refine ⟨h.below.setCell h.lo.1 _, fun j v hv => ?_, fun j => by rw [World.frozen?_setCell]; exact h.free j, h.lo, h.ne, h.i.kept (hk gp h.ne.2.1.symm), h.v.kept (hk gv h.ne.2.2.1.symm), h.a.kept (hk ga h.ne.2.2.2.symm), h.r⟩
  rw [Nat.zero_add]
  by_cases e : j = 5
  · subst e
    injection hv with hv
    rw [← hv]
    exact World.cell?_setCell_same _ _ _ h5
  · rw [World.cell?_setCell_other _ _ _ _ (by intro q; injection q with _ q; exact e q.symm)]
    have := h.rng j v (by
      have hj : j < 9 := (List.getElem?_eq_some_iff.1 hv).1
      have hj' : j = 0 ∨ j = 1 ∨ j = 2 ∨ j = 3 ∨ j = 4 ∨ j = 6 ∨ j = 7 ∨ j = 8 := by omega
      rcases hj' with rfl | rfl | rfl | rfl | rfl | rfl | rfl | rfl <;> exact hv)
    rwa [Nat.zero_add] at this
set_option maxHeartbeats 32000000 in
set_option maxRecDepth 8000 in
theorem rcplay_any {q : Nat} {M0 : List OneM} {F : Foot} (x : RcM) (w : World) (h : CrdO w q M0 F) (hf : M0.length ≤ 100000) (hx : RcW w x) :
    Calls Try.prog 24 #[.pointer (some ⟨q, 0, none⟩), rcv x] w fun e w' => e = .returned (.int .i64 (playC (decs M0) x.r).1) ∧ DidO w w' q (playC (decs M0) x.r).2 F := by
  have CR0 := fun u (hu : Below w.heap.size w u) => rgood14_any x u (hx.past hu)
  have HRP : playC (decs M0) x.r = if goodR x.r = false ∨ x.r.kd ≠ 4 then ((3 : Int), decs M0) else match getC (decs M0) x.r.id with | some _ => (5, decs M0) | none => (0, layC (decs M0) (saidC x.r)) := rfl
  obtain ⟨⟨kd, id, s, mm, t, n, l0, y, ps⟩, a, c, pa, pc⟩ := x
  obtain ⟨hwr, hrm, hfw, hps, hpr, hpf, hkd, hok⟩ := hx
  simp only at hwr hrm hfw hps hpr hpf hkd
  obtain ⟨r, hr⟩ : ∃ r : Rcd, r = ⟨kd, id, s, mm, t, n, l0, y, ps⟩ := ⟨_, rfl⟩
  obtain ⟨N0, hN0⟩ : ∃ N, l0.length = N := ⟨_, rfl⟩
  obtain ⟨N, hN⟩ : ∃ N, ps.length = N := ⟨_, rfl⟩
  unfold rcv encR at CR0 ⊢
  simp only at CR0 HRP ⊢
  simp only [hN0, hN] at CR0 hrm hfw hpr hpf ⊢
  rw [← hr] at CR0 HRP ⊢
  obtain ⟨W, hW⟩ : ∃ U, U = w.alloc (.cells #[.int .i64 kd, .int .i64 id, .int .i64 s, .int .u8 mm, .int .i64 t, .int .u8 n, .slice a N0 c, .bool y, .slice pa N pc] 56) := ⟨_, rfl⟩
  have HW : Hid (w.alloc (.cells #[.int .i64 kd, .int .i64 id, .int .i64 s, .int .u8 mm, .int .i64 t, .int .u8 n, .slice a N0 c, .bool y, .slice pa N pc] 56) = W) := hW.symm
  have HBW : Hid (Below w.heap.size w W) := by rw [hW]; exact (Below.refl _ _).alloc (Nat.le_refl _) _
  have hbx : RBox W w.heap.size kd id s mm t n a N0 c y pa N pc := by
    rw [hW]; exact RBox.made w 56 kd id s mm t n a N0 c y pa N pc
  have FB : Hid (∀ u, Below W.heap.size W u → RBox u w.heap.size kd id s mm t n a N0 c y pa N pc) := fun u hb => hbx.past hb
  have CR : Hid (∀ u, Below W.heap.size W u → Calls Try.prog 54 #[.agg #[.int .i64 kd, .int .i64 id, .int .i64 s, .int .u8 mm, .int .i64 t, .int .u8 n, .slice a N0 c, .bool y, .slice pa N pc]] u fun e w' => e = .returned (.bool (goodR r)) ∧ Below u.heap.size u w') := fun u hu => CR0 u (HBW.out.trans (hu.mono HBW.out.size))
  have HS : Hid (∀ u, Below W.heap.size W u → DidO w u q (decs M0) F) := fun u hu => DidO.stay h (HBW.out.trans (hu.mono HBW.out.size))
  have CA : Hid (∀ u, Below W.heap.size W u → Calls Try.prog 51 #[.pointer (some ⟨q, 0, none⟩), .int .i64 id] u fun e w' => e = .returned (.int .i64 (atC (decs M0) id)) ∧ w' = u) := fun u hu => rcat_any id u (h.view.past (HBW.out.trans (hu.mono HBW.out.size))) (by omega)
  obtain ⟨y0, y1, y2, y3, y4, y5, y6, y7, y8⟩ := FB.out W (Below.refl _ _)
  cases hg : goodR r with
  | false =>
    rw [hg] at CR
    have HR : Hid (playC (decs M0) r = (3, decs M0)) := by show _ = _; rw [HRP, if_pos (.inl hg)]
    clear h hwr hrm hfw hps hpr hpf hkd hok hr hN0 hN hW hbx hg HRP CR0 CA
    go_enter Try.func24, Try.ntmps24
    go_wp2_with (go_at_call 54; rw [HW.out]; refine (CR.out _ (Below.refl _ _)).mono ?_; rintro e u1 ⟨rfl, hb1⟩; have B1 : Hid (Below W.heap.size W u1) := hb1; clear hb1)
    go_ret
    rw [HR.out]
    exact ⟨rfl, HS.out _ B1.out⟩
  | true =>
    rw [hg] at CR
    by_cases hk4 : kd = 4
    · have hb4 : (kd != 4) = false := by rw [hk4]; rfl
      have hps4 : partsB ps = true := by
        have := hg
        rw [hr] at this
        unfold goodR at this
        simp only [hk4, show ¬ ((4 : Int) = 1) from by omega, show ¬ ((4 : Int) = 2) from by omega, show ¬ ((4 : Int) = 3) from by omega, if_false, if_true, Bool.and_eq_true] at this
        exact this.1.1.2
      rw [if_neg (by rintro (q | q); rw [hg] at q; cases q; exact q hk4)] at HRP
      have hlp := (parts_nodup hps4).2
      obtain ⟨pb, po, rfl⟩ : ∃ pb po, pa = some ⟨pb, po, none⟩ := by
        rcases hps.cells with e | ⟨pb, po, e, _⟩
        · rw [e] at hlp; simp at hlp
        · exact ⟨pb, po, e⟩
      have HSRC0 : Hid (∀ u, Below W.heap.size W u → Lies u (some ⟨pb, po, none⟩) (ps.map (Value.int .i64))) := fun u hu => (hps.past (HBW.out.trans (hu.mono HBW.out.size))).liesC
      rcases atC_ways M0 id with ⟨h1, h2⟩ | ⟨i, x, h1, h2, h3, h4⟩
      · have e0 : r.id = id := by rw [hr]
        rw [h2] at HRP
        rw [h1] at CA
        have HR : Hid (playC (decs M0) r = (0, layC (decs M0) (saidC r))) := HRP
        obtain ⟨l, hl0⟩ : ∃ l, l = ps := ⟨_, rfl⟩
        rw [← hl0] at HSRC0 hN hps hlp
        have HL : Hid (l.length = N) := hN
        have HN3 : Hid (N ≤ 1000) := hpf
        have HPOS : Hid (0 < N) := by show 0 < N; omega
        have HLAY : Hid (∀ (v : World) (p gp cp gv ga : Nat), PlayS W v id t n (if y = true then 1 else 2) l N p gp cp gv ga → Calls Try.prog 52 #[.pointer (some ⟨q, 0, none⟩), .agg #[.int .i64 id, .int .i64 0, .int .u8 0, .slice (some ⟨gp, 0, none⟩) N cp, .slice (some ⟨gv, 0, none⟩) N N, .int .i64 (if y = true then 1 else 2), .int .i64 t, .int .u8 n, .slice (some ⟨ga, 0, none⟩) N N]] v fun e w' => e = .returned (.tuple #[]) ∧ DidO w w' q (layC (decs M0) (saidC r)) F) := fun v p gp cp gv ga hp => by
          have hbv := HBW.out.trans (hp.below.mono HBW.out.size)
          have hsz := HBW.out.size
          obtain ⟨O, a1, c1, hI⟩ := h.out
          have e1 : saidC r = ⟨id, 0, 0, l, List.replicate N false, if y = true then 1 else 2, t, n, List.replicate N false⟩ := by
            rw [hr]; show (⟨_, _, _, ps, List.replicate ps.length false, _, _, _, List.replicate ps.length false⟩ : DecC) = _; rw [← hl0, HL.out]
          obtain ⟨X, hX⟩ : ∃ X : OneM, X = ⟨saidC r, some ⟨gp, 0, none⟩, cp, some ⟨gv, 0, none⟩, N, some ⟨ga, 0, none⟩, N⟩ := ⟨_, rfl⟩
          have hd : X.d = saidC r := by rw [hX]
          have e : ov X = .agg #[.int .i64 id, .int .i64 0, .int .u8 0, .slice (some ⟨gp, 0, none⟩) N cp, .slice (some ⟨gv, 0, none⟩) N N, .int .i64 (if y = true then 1 else 2), .int .i64 t, .int .u8 n, .slice (some ⟨ga, 0, none⟩) N N] := by
            rw [hX, e1]; simp [ov, encO, HL.out]
          have hlo := hp.lo
          rw [← e, ← hd]
          refine (rclay_any (B := w.heap.size) X v (h.past hbv) hf ⟨⟨gp, gv, ga, by rw [hX], by rw [hX], by rw [hX], ⟨by omega, by omega, by omega⟩, ⟨(bools_ints_ne hp.v hp.i).symm, (bools_ints_ne hp.a hp.i).symm, hp.ne.1⟩, by rw [hd, e1]; exact hp.i, by rw [hd, e1]; exact hp.v, by rw [hd, e1]; exact hp.a⟩, by rw [hd, e1, hX]; show l.length ≤ cp; have := hp.r; have := HL.out; omega, by rw [hd, e1, hX]; show (List.replicate N false).length ≤ N; simp, by rw [hd, e1, hX]; show (List.replicate N false).length ≤ N; simp⟩ (fun k hk => hI.lt k hk) (by rw [hd, e1]; exact h2)).mono fun e w' ⟨e1, e3⟩ => ⟨e1, e3.did hbv hI.fq⟩
        generalize layC (decs M0) (saidC r) = C2 at *
        clear h hwr hrm hfw hps hpr hpf hkd hok hr hN0 hN hW hbx hk4 hg HRP CR0 h1 h2 hps4 hlp e0 hl0
        go_enter Try.func24, Try.ntmps24
        go_wp2_with (first
          | (go_at_call 54; rw [HW.out]; refine (CR.out _ (Below.refl _ _)).mono ?_; rintro e U ⟨rfl, hb1⟩; have B1 : Hid (Below W.heap.size W U) := hb1; obtain ⟨z0, z1, z2, z3, z4, z5, z6, z7, z8⟩ := FB.out U B1.out; clear hb1)
          | (go_at_call 51; refine (CA.out _ B1.out).mono ?_; rintro e w1 ⟨rfl, hw⟩; obtain rfl := hw.symm; clear hw))
        clear y0 y1 y2 y3 y4 y5 y6 y7 y8 z0 z1 z2 z3 z4 z5 z6 z7 z8 CR CA
        have HUW : Hid (W.heap.size ≤ U.heap.size) := B1.out.size
        have HSRC : Hid (∀ u, Below U.heap.size U u → Lies u (some ⟨pb, po, none⟩) (l.map (Value.int .i64))) := fun u hu => HSRC0.out u (B1.out.trans (hu.mono B1.out.size))
        have FB2 : Hid (∀ u, Below U.heap.size U u → RBox u w.heap.size kd id s mm t n a N0 c y (some ⟨pb, po, none⟩) N pc) := fun u hu => FB.out u (B1.out.trans (hu.mono B1.out.size))
        go_cut [5] from 19 to 35 (fun xv wx => ∃ p gp cp gv ga : Nat, xv = .pointer (some ⟨p, 0, none⟩) ∧ Hid (PlayS U wx id t n 2 l N p gp cp gv ga))
        case first =>
          refine wp_region_noPanic ?_
          refine region_up 18 (fun u => Below U.heap.size U u) (by kernel_rfl) ?_ (fun hH0 => ?_)
          · exact (Below.refl _ _).drew
          refine up_take (i := 0) (v := ?_) (by kernel_rfl) (by kernel_rfl) (by kernel_rfl) rfl (by kernel_rfl) (by kernel_rfl) (by kernel_rfl) (fun _ _ _ h => h) (Or.inl ⟨by rfl, ?_⟩) hH0 ?_
          rotate_left
          · intro u hSu
            (go_simp) <;> (with_reducible rfl)
          change wpUp _ _ _ _ _ _ _ _ (Act.put _ (some 19) _) _
          simp only [Act.put, List.setIfInBounds_toArray, List.set_cons_zero, List.set_cons_succ]
          refine up_take (i := 1) (v := ?_) (by kernel_rfl) (by kernel_rfl) (by kernel_rfl) rfl (by kernel_rfl) (by kernel_rfl) (by kernel_rfl) (fun _ _ _ h => h) (Or.inl ⟨by rfl, ?_⟩) hH0 ?_
          rotate_left
          · intro u hSu
            obtain ⟨z0, z1, z2, z3, z4, z5, z6, z7, z8⟩ := FB2.out u hSu
            (go_simp) <;> (with_reducible rfl)
          change wpUp _ _ _ _ _ _ _ _ (Act.put _ (some 20) _) _
          simp only [Act.put, List.setIfInBounds_toArray, List.set_cons_zero, List.set_cons_succ]
          refine up_take (i := 3) (v := ?_) (by kernel_rfl) (by kernel_rfl) (by kernel_rfl) rfl (by kernel_rfl) (by kernel_rfl) (by kernel_rfl) (fun _ _ _ h => h) (Or.inl ⟨by rfl, ?_⟩) hH0 ?_
          rotate_left
          · intro u hSu
            (go_simp) <;> (with_reducible rfl)
          change wpUp _ _ _ _ _ _ _ _ (Act.put _ (some 22) _) _
          simp only [Act.put, List.setIfInBounds_toArray, List.set_cons_zero, List.set_cons_succ]
          refine up_take (i := 4) (v := ?_) (by kernel_rfl) (by kernel_rfl) (by kernel_rfl) rfl (by kernel_rfl) (by kernel_rfl) (by kernel_rfl) (fun _ _ _ h => h) (Or.inl ⟨by rfl, ?_⟩) hH0 ?_
          rotate_left
          · intro u hSu
            obtain ⟨z0, z1, z2, z3, z4, z5, z6, z7, z8⟩ := FB2.out u hSu
            (go_simp) <;> (with_reducible rfl)
          change wpUp _ _ _ _ _ _ _ _ (Act.put _ (some 23) _) _
          simp only [Act.put, List.setIfInBounds_toArray, List.set_cons_zero, List.set_cons_succ]
          refine up_take (i := 6) (v := ?_) (by kernel_rfl) (by kernel_rfl) (by kernel_rfl) rfl (by kernel_rfl) (by kernel_rfl) (by kernel_rfl) (fun _ _ _ h => h) (Or.inl ⟨by rfl, ?_⟩) hH0 ?_
          rotate_left
          · intro u hSu
            (go_simp) <;> (with_reducible rfl)
          change wpUp _ _ _ _ _ _ _ _ (Act.put _ (some 25) _) _
          simp only [Act.put, List.setIfInBounds_toArray, List.set_cons_zero, List.set_cons_succ]
          refine up_take (i := 7) (v := ?_) (by kernel_rfl) (by kernel_rfl) (by kernel_rfl) rfl (by kernel_rfl) (by kernel_rfl) (by kernel_rfl) (fun _ _ _ h => h) (Or.inl ⟨by rfl, ?_⟩) hH0 ?_
          rotate_left
          · intro u hSu
            obtain ⟨z0, z1, z2, z3, z4, z5, z6, z7, z8⟩ := FB2.out u hSu
            (go_simp) <;> (with_reducible rfl)
          change wpUp _ _ _ _ _ _ _ _ (Act.put _ (some 26) _) _
          simp only [Act.put, List.setIfInBounds_toArray, List.set_cons_zero, List.set_cons_succ]
          refine up_take (i := 8) (v := ?_) (by kernel_rfl) (by kernel_rfl) (by kernel_rfl) rfl (by kernel_rfl) (by kernel_rfl) (by kernel_rfl) (fun _ _ _ h => h) (Or.inl ⟨by rfl, ?_⟩) hH0 ?_
          rotate_left
          · intro u hSu
            (go_simp) <;> (with_reducible rfl)
          change wpUp _ _ _ _ _ _ _ _ (Act.put _ (some 27) _) _
          simp only [Act.put, List.setIfInBounds_toArray, List.set_cons_zero, List.set_cons_succ]
          refine up_take (i := 10) (v := ?_) (by kernel_rfl) (by kernel_rfl) (by kernel_rfl) rfl (by kernel_rfl) (by kernel_rfl) (by kernel_rfl) (fun _ _ _ h => h) (Or.inl ⟨by rfl, ?_⟩) hH0 ?_
          rotate_left
          · intro u hSu
            (go_simp) <;> (with_reducible rfl)
          change wpUp _ _ _ _ _ _ _ _ (Act.put _ (some 29) _) _
          simp only [Act.put, List.setIfInBounds_toArray, List.set_cons_zero, List.set_cons_succ]
          refine up_take (i := 11) (v := ?_) (by kernel_rfl) (by kernel_rfl) (by kernel_rfl) rfl (by kernel_rfl) (by kernel_rfl) (by kernel_rfl) (fun _ _ _ h => h) (Or.inl ⟨by rfl, ?_⟩) hH0 ?_
          rotate_left
          · intro u hSu
            obtain ⟨z0, z1, z2, z3, z4, z5, z6, z7, z8⟩ := FB2.out u hSu
            (go_simp) <;> (with_reducible rfl)
          change wpUp _ _ _ _ _ _ _ _ (Act.put _ (some 30) _) _
          simp only [Act.put, List.setIfInBounds_toArray, List.set_cons_zero, List.set_cons_succ]
          refine up_take (i := 12) (v := ?_) (by kernel_rfl) (by kernel_rfl) (by kernel_rfl) rfl (by kernel_rfl) (by kernel_rfl) (by kernel_rfl) (fun _ _ _ h => h) (Or.inl ⟨by rfl, ?_⟩) hH0 ?_
          rotate_left
          · intro u hSu
            (go_simp) <;> (with_reducible rfl)
          change wpUp _ _ _ _ _ _ _ _ (Act.put _ (some 31) _) _
          simp only [Act.put, List.setIfInBounds_toArray, List.set_cons_zero, List.set_cons_succ]
          refine up_take (i := 14) (v := ?_) (by kernel_rfl) (by kernel_rfl) (by kernel_rfl) rfl (by kernel_rfl) (by kernel_rfl) (by kernel_rfl) (fun _ _ _ h => h) (Or.inl ⟨by rfl, ?_⟩) hH0 ?_
          rotate_left
          · intro u hSu
            (go_simp) <;> (with_reducible rfl)
          change wpUp _ _ _ _ _ _ _ _ (Act.put _ (some 33) _) _
          simp only [Act.put, List.setIfInBounds_toArray, List.set_cons_zero, List.set_cons_succ]
          refine up_take (i := 15) (v := ?_) (by kernel_rfl) (by kernel_rfl) (by kernel_rfl) rfl (by kernel_rfl) (by kernel_rfl) (by kernel_rfl) (fun _ _ _ h => h) (Or.inl ⟨by rfl, ?_⟩) hH0 ?_
          rotate_left
          · intro u hSu
            obtain ⟨z0, z1, z2, z3, z4, z5, z6, z7, z8⟩ := FB2.out u hSu
            (go_simp) <;> (with_reducible rfl)
          change wpUp _ _ _ _ _ _ _ _ (Act.put _ (some 34) _) _
          simp only [Act.put, List.setIfInBounds_toArray, List.set_cons_zero, List.set_cons_succ]
          refine gen_up (fun Z0 hZ0 A0 hA0 => ?_)
          have MNIVAOz : Hid (∀ (L : Array Bool), L = #[true, true, true, true, true, true, true, true, true, true, true, true, true, true, true, true, false, true, false] → ∀ (b0 : Nat) (gp : Nat) (cp : Nat) (gv : Nat) (ga : Nat) (p : Nat), ∀ a, a = (((((A0.put (some 21) (.slice (some ⟨b0, 0, none⟩) 0 0)).put (some 24) (.slice (some ⟨gp, 0, none⟩) N cp)).put (some 28) (.slice (some ⟨gv, 0, none⟩) N N)).put (some 32) (.slice (some ⟨ga, 0, none⟩) N N)).put (some 5) (.pointer (some ⟨p, 0, none⟩))) → ∀ v, Below U.heap.size U v → MkI U v l N gp cp → MkB U v N gv → MkB U v N ga → gv ≠ ga → MkO U v p → Z0 2 L a v) := by
            intro L hL b0 gp cp gv ga p a ha v hH hI hV hA NE hO
            subst hL ha hA0
            rw [hZ0]
            simp only [Act.put, List.setIfInBounds_toArray, List.set_cons_zero, List.set_cons_succ]
            refine up_take (i := 16) (v := ?_) (by kernel_rfl) (by kernel_rfl) (by kernel_rfl) rfl (by kernel_rfl) (by kernel_rfl) (by kernel_rfl) (fun _ _ _ h => h) (Or.inl ⟨by rfl, ?_⟩) hH ?_
            rotate_left
            · intro u hSu
              (go_simp) <;> (with_reducible rfl)
            change wpUp _ _ _ _ _ _ _ _ (Act.put _ (some 35) _) _
            simp only [Act.put, List.setIfInBounds_toArray, List.set_cons_zero, List.set_cons_succ]
            refine up_ready (rs := [18]) (by kernel_rfl) (by simp) (AllUp.that rfl (fun K hK => ?_) AllUp.nil)
            refine tr_one hH rfl _ _ rfl rfl rfl hI hV hA hO NE hK ?_
            intro u9 HPS; refine up_done (by kernel_rfl) (NoPanic.normal ?_); go_wp2; go_meet; exact ⟨p, gp, cp, gv, ga, rfl, HPS⟩
          have MNIVAz : Hid (∀ (L : Array Bool), L = #[true, true, true, true, true, true, true, true, true, true, true, true, true, true, true, true, false, false, false] → ∀ (b0 : Nat) (gp : Nat) (cp : Nat) (gv : Nat) (ga : Nat), ∀ a, a = ((((A0.put (some 21) (.slice (some ⟨b0, 0, none⟩) 0 0)).put (some 24) (.slice (some ⟨gp, 0, none⟩) N cp)).put (some 28) (.slice (some ⟨gv, 0, none⟩) N N)).put (some 32) (.slice (some ⟨ga, 0, none⟩) N N)) → ∀ v, Below U.heap.size U v → MkI U v l N gp cp → MkB U v N gv → MkB U v N ga → gv ≠ ga → Z0 3 L a v) := by
            intro L hL b0 gp cp gv ga a ha v hH hI hV hA NE
            subst hL ha hA0
            rw [hZ0]
            simp only [Act.put, List.setIfInBounds_toArray, List.set_cons_zero, List.set_cons_succ]
            refine up_take (i := 16) (v := ?_) (by kernel_rfl) (by kernel_rfl) (by kernel_rfl) rfl (by kernel_rfl) (by kernel_rfl) (by kernel_rfl) (fun _ _ _ h => h) (Or.inl ⟨by rfl, ?_⟩) hH ?_
            rotate_left
            · intro u hSu
              (go_simp) <;> (with_reducible rfl)
            change wpUp _ _ _ _ _ _ _ _ (Act.put _ (some 35) _) _
            simp only [Act.put, List.setIfInBounds_toArray, List.set_cons_zero, List.set_cons_succ]
            refine up_ready (rs := [17]) (by kernel_rfl) (by simp) ?_
            refine AllUp.cons rfl (fun K hK => ?_) AllUp.nil
            refine tr_box hH rfl rfl hK ?_
            intro v1 p hn hB O1
            clear hK
            refine up_ready (rs := [18]) (by kernel_rfl) (by simp) (AllUp.that rfl (fun K hK => ?_) AllUp.nil)
            refine tr_one hB rfl _ _ rfl rfl rfl (hI.past hn.1) (hV.past hn.1) (hA.past hn.1) O1 NE hK ?_
            intro u9 HPS; refine up_done (by kernel_rfl) (NoPanic.normal ?_); go_wp2; go_meet; exact ⟨p, gp, cp, gv, ga, rfl, HPS⟩
          have MNIVOz : Hid (∀ (L : Array Bool), L = #[true, true, true, true, true, true, true, true, true, true, true, true, true, false, true, true, false, true, false] → ∀ (b0 : Nat) (gp : Nat) (cp : Nat) (gv : Nat) (p : Nat), ∀ a, a = ((((A0.put (some 21) (.slice (some ⟨b0, 0, none⟩) 0 0)).put (some 24) (.slice (some ⟨gp, 0, none⟩) N cp)).put (some 28) (.slice (some ⟨gv, 0, none⟩) N N)).put (some 5) (.pointer (some ⟨p, 0, none⟩))) → ∀ v, Below U.heap.size U v → MkI U v l N gp cp → MkB U v N gv → MkO U v p → Z0 3 L a v) := by
            intro L hL b0 gp cp gv p a ha v hH hI hV hO
            subst hL ha hA0
            rw [hZ0]
            refine up_ready (rs := [13]) (by kernel_rfl) (by simp) ?_
            refine AllUp.cons rfl (fun K hK => ?_) AllUp.nil
            refine tr_mk hH rfl (.tmp 31) (.tmp 31) rfl rfl rfl HN3.out hK ?_
            intro v1 ga hn hB A1
            exact memo_use hZ0 (MNIVAOz.out _ (by kernel_rfl) b0 gp cp gv ga p _ (by kernel_rfl) v1 hB (hI.past hn.1) (hV.past hn.1) A1 (A1.ne hV hn.2) (hO.past hn.1))
          have MNIAOz : Hid (∀ (L : Array Bool), L = #[true, true, true, true, true, true, true, true, true, false, true, true, true, true, true, true, false, true, false] → ∀ (b0 : Nat) (gp : Nat) (cp : Nat) (ga : Nat) (p : Nat), ∀ a, a = ((((A0.put (some 21) (.slice (some ⟨b0, 0, none⟩) 0 0)).put (some 24) (.slice (some ⟨gp, 0, none⟩) N cp)).put (some 32) (.slice (some ⟨ga, 0, none⟩) N N)).put (some 5) (.pointer (some ⟨p, 0, none⟩))) → ∀ v, Below U.heap.size U v → MkI U v l N gp cp → MkB U v N ga → MkO U v p → Z0 3 L a v) := by
            intro L hL b0 gp cp ga p a ha v hH hI hA hO
            subst hL ha hA0
            rw [hZ0]
            refine up_ready (rs := [9]) (by kernel_rfl) (by simp) ?_
            refine AllUp.cons rfl (fun K hK => ?_) AllUp.nil
            refine tr_mk hH rfl (.tmp 27) (.tmp 27) rfl rfl rfl HN3.out hK ?_
            intro v1 gv hn hB V1
            exact memo_use hZ0 (MNIVAOz.out _ (by kernel_rfl) b0 gp cp gv ga p _ (by kernel_rfl) v1 hB (hI.past hn.1) V1 (hA.past hn.1) (V1.ne hA hn.2).symm (hO.past hn.1))
          have MNVAOz : Hid (∀ (L : Array Bool), L = #[true, true, true, true, true, false, true, true, true, true, true, true, true, true, true, true, false, true, false] → ∀ (vb : World) (b0 : Nat) (gv : Nat) (ga : Nat) (p : Nat), ∀ a, a = ((((A0.put (some 21) (.slice (some ⟨b0, 0, none⟩) 0 0)).put (some 28) (.slice (some ⟨gv, 0, none⟩) N N)).put (some 32) (.slice (some ⟨ga, 0, none⟩) N N)).put (some 5) (.pointer (some ⟨p, 0, none⟩))) → ∀ v, Below U.heap.size U v → MkN U vb v b0 → MkB U v N gv → MkB U v N ga → gv ≠ ga → MkO U v p → Z0 3 L a v) := by
            intro L hL vb b0 gv ga p a ha v hH hN hV hA NE hO
            subst hL ha hA0
            rw [hZ0]
            refine up_ready (rs := [5]) (by kernel_rfl) (by simp) ?_
            refine AllUp.cons rfl (fun K hK => ?_) AllUp.nil
            refine tr_app hH rfl (.tmp 21) (.tmp 23) rfl rfl hN HL.out HN3.out HPOS.out (HSRC.out _ hH) rfl hK ?_
            intro v1 gp cp hn hB I1
            exact memo_use hZ0 (MNIVAOz.out _ (by kernel_rfl) b0 gp cp gv ga p _ (by kernel_rfl) v1 hB I1 (hV.app hN hn) (hA.app hN hn) NE (hO.app hN hn))
          have MNIVz : Hid (∀ (L : Array Bool), L = #[true, true, true, true, true, true, true, true, true, true, true, true, true, false, true, true, false, false, false] → ∀ (b0 : Nat) (gp : Nat) (cp : Nat) (gv : Nat), ∀ a, a = (((A0.put (some 21) (.slice (some ⟨b0, 0, none⟩) 0 0)).put (some 24) (.slice (some ⟨gp, 0, none⟩) N cp)).put (some 28) (.slice (some ⟨gv, 0, none⟩) N N)) → ∀ v, Below U.heap.size U v → MkI U v l N gp cp → MkB U v N gv → Z0 4 L a v) := by
            intro L hL b0 gp cp gv a ha v hH hI hV
            subst hL ha hA0
            rw [hZ0]
            refine up_ready (rs := [13, 17]) (by kernel_rfl) (by simp) ?_
            refine AllUp.cons rfl (fun K hK => ?_) ?_
            · refine tr_mk hH rfl (.tmp 31) (.tmp 31) rfl rfl rfl HN3.out hK ?_
              intro v1 ga hn hB A1
              exact memo_use hZ0 (MNIVAz.out _ (by kernel_rfl) b0 gp cp gv ga _ (by kernel_rfl) v1 hB (hI.past hn.1) (hV.past hn.1) A1 (A1.ne hV hn.2))
            refine AllUp.cons rfl (fun K hK => ?_) AllUp.nil
            refine tr_box hH rfl rfl hK ?_
            intro v1 p hn hB O1
            exact memo_use hZ0 (MNIVOz.out _ (by kernel_rfl) b0 gp cp gv p _ (by kernel_rfl) v1 hB (hI.past hn.1) (hV.past hn.1) O1)
          have MNIAz : Hid (∀ (L : Array Bool), L = #[true, true, true, true, true, true, true, true, true, false, true, true, true, true, true, true, false, false, false] → ∀ (b0 : Nat) (gp : Nat) (cp : Nat) (ga : Nat), ∀ a, a = (((A0.put (some 21) (.slice (some ⟨b0, 0, none⟩) 0 0)).put (some 24) (.slice (some ⟨gp, 0, none⟩) N cp)).put (some 32) (.slice (some ⟨ga, 0, none⟩) N N)) → ∀ v, Below U.heap.size U v → MkI U v l N gp cp → MkB U v N ga → Z0 4 L a v) := by
            intro L hL b0 gp cp ga a ha v hH hI hA
            subst hL ha hA0
            rw [hZ0]
            refine up_ready (rs := [9, 17]) (by kernel_rfl) (by simp) ?_
            refine AllUp.cons rfl (fun K hK => ?_) ?_
            · refine tr_mk hH rfl (.tmp 27) (.tmp 27) rfl rfl rfl HN3.out hK ?_
              intro v1 gv hn hB V1
              exact memo_use hZ0 (MNIVAz.out _ (by kernel_rfl) b0 gp cp gv ga _ (by kernel_rfl) v1 hB (hI.past hn.1) V1 (hA.past hn.1) (V1.ne hA hn.2).symm)
            refine AllUp.cons rfl (fun K hK => ?_) AllUp.nil
            refine tr_box hH rfl rfl hK ?_
            intro v1 p hn hB O1
            exact memo_use hZ0 (MNIAOz.out _ (by kernel_rfl) b0 gp cp ga p _ (by kernel_rfl) v1 hB (hI.past hn.1) (hA.past hn.1) O1)
          have MNIOz : Hid (∀ (L : Array Bool), L = #[true, true, true, true, true, true, true, true, true, false, true, true, true, false, true, true, false, true, false] → ∀ (b0 : Nat) (gp : Nat) (cp : Nat) (p : Nat), ∀ a, a = (((A0.put (some 21) (.slice (some ⟨b0, 0, none⟩) 0 0)).put (some 24) (.slice (some ⟨gp, 0, none⟩) N cp)).put (some 5) (.pointer (some ⟨p, 0, none⟩))) → ∀ v, Below U.heap.size U v → MkI U v l N gp cp → MkO U v p → Z0 4 L a v) := by
            intro L hL b0 gp cp p a ha v hH hI hO
            subst hL ha hA0
            rw [hZ0]
            refine up_ready (rs := [9, 13]) (by kernel_rfl) (by simp) ?_
            refine AllUp.cons rfl (fun K hK => ?_) ?_
            · refine tr_mk hH rfl (.tmp 27) (.tmp 27) rfl rfl rfl HN3.out hK ?_
              intro v1 gv hn hB V1
              exact memo_use hZ0 (MNIVOz.out _ (by kernel_rfl) b0 gp cp gv p _ (by kernel_rfl) v1 hB (hI.past hn.1) V1 (hO.past hn.1))
            refine AllUp.cons rfl (fun K hK => ?_) AllUp.nil
            refine tr_mk hH rfl (.tmp 31) (.tmp 31) rfl rfl rfl HN3.out hK ?_
            intro v1 ga hn hB A1
            exact memo_use hZ0 (MNIAOz.out _ (by kernel_rfl) b0 gp cp ga p _ (by kernel_rfl) v1 hB (hI.past hn.1) A1 (hO.past hn.1))
          have MNVAz : Hid (∀ (L : Array Bool), L = #[true, true, true, true, true, false, true, true, true, true, true, true, true, true, true, true, false, false, false] → ∀ (vb : World) (b0 : Nat) (gv : Nat) (ga : Nat), ∀ a, a = (((A0.put (some 21) (.slice (some ⟨b0, 0, none⟩) 0 0)).put (some 28) (.slice (some ⟨gv, 0, none⟩) N N)).put (some 32) (.slice (some ⟨ga, 0, none⟩) N N)) → ∀ v, Below U.heap.size U v → MkN U vb v b0 → MkB U v N gv → MkB U v N ga → gv ≠ ga → Z0 4 L a v) := by
            intro L hL vb b0 gv ga a ha v hH hN hV hA NE
            subst hL ha hA0
            rw [hZ0]
            refine up_ready (rs := [5, 17]) (by kernel_rfl) (by simp) ?_
            refine AllUp.cons rfl (fun K hK => ?_) ?_
            · refine tr_app hH rfl (.tmp 21) (.tmp 23) rfl rfl hN HL.out HN3.out HPOS.out (HSRC.out _ hH) rfl hK ?_
              intro v1 gp cp hn hB I1
              exact memo_use hZ0 (MNIVAz.out _ (by kernel_rfl) b0 gp cp gv ga _ (by kernel_rfl) v1 hB I1 (hV.app hN hn) (hA.app hN hn) NE)
            refine AllUp.cons rfl (fun K hK => ?_) AllUp.nil
            refine tr_box hH rfl rfl hK ?_
            intro v1 p hn hB O1
            exact memo_use hZ0 (MNVAOz.out _ (by kernel_rfl) vb b0 gv ga p _ (by kernel_rfl) v1 hB (hN.past hn.1) (hV.past hn.1) (hA.past hn.1) NE O1)
          have MNVOz : Hid (∀ (L : Array Bool), L = #[true, true, true, true, true, false, true, true, true, true, true, true, true, false, true, true, false, true, false] → ∀ (vb : World) (b0 : Nat) (gv : Nat) (p : Nat), ∀ a, a = (((A0.put (some 21) (.slice (some ⟨b0, 0, none⟩) 0 0)).put (some 28) (.slice (some ⟨gv, 0, none⟩) N N)).put (some 5) (.pointer (some ⟨p, 0, none⟩))) → ∀ v, Below U.heap.size U v → MkN U vb v b0 → MkB U v N gv → MkO U v p → Z0 4 L a v) := by
            intro L hL vb b0 gv p a ha v hH hN hV hO
            subst hL ha hA0
            rw [hZ0]
            refine up_ready (rs := [5, 13]) (by kernel_rfl) (by simp) ?_
            refine AllUp.cons rfl (fun K hK => ?_) ?_
            · refine tr_app hH rfl (.tmp 21) (.tmp 23) rfl rfl hN HL.out HN3.out HPOS.out (HSRC.out _ hH) rfl hK ?_
              intro v1 gp cp hn hB I1
              exact memo_use hZ0 (MNIVOz.out _ (by kernel_rfl) b0 gp cp gv p _ (by kernel_rfl) v1 hB I1 (hV.app hN hn) (hO.app hN hn))
            refine AllUp.cons rfl (fun K hK => ?_) AllUp.nil
            refine tr_mk hH rfl (.tmp 31) (.tmp 31) rfl rfl rfl HN3.out hK ?_
            intro v1 ga hn hB A1
            exact memo_use hZ0 (MNVAOz.out _ (by kernel_rfl) vb b0 gv ga p _ (by kernel_rfl) v1 hB (hN.past hn.1) (hV.past hn.1) A1 (A1.ne hV hn.2) (hO.past hn.1))
          have MNAOz : Hid (∀ (L : Array Bool), L = #[true, true, true, true, true, false, true, true, true, false, true, true, true, true, true, true, false, true, false] → ∀ (vb : World) (b0 : Nat) (ga : Nat) (p : Nat), ∀ a, a = (((A0.put (some 21) (.slice (some ⟨b0, 0, none⟩) 0 0)).put (some 32) (.slice (some ⟨ga, 0, none⟩) N N)).put (some 5) (.pointer (some ⟨p, 0, none⟩))) → ∀ v, Below U.heap.size U v → MkN U vb v b0 → MkB U v N ga → MkO U v p → Z0 4 L a v) := by
            intro L hL vb b0 ga p a ha v hH hN hA hO
            subst hL ha hA0
            rw [hZ0]
            refine up_ready (rs := [5, 9]) (by kernel_rfl) (by simp) ?_
            refine AllUp.cons rfl (fun K hK => ?_) ?_
            · refine tr_app hH rfl (.tmp 21) (.tmp 23) rfl rfl hN HL.out HN3.out HPOS.out (HSRC.out _ hH) rfl hK ?_
              intro v1 gp cp hn hB I1
              exact memo_use hZ0 (MNIAOz.out _ (by kernel_rfl) b0 gp cp ga p _ (by kernel_rfl) v1 hB I1 (hA.app hN hn) (hO.app hN hn))
            refine AllUp.cons rfl (fun K hK => ?_) AllUp.nil
            refine tr_mk hH rfl (.tmp 27) (.tmp 27) rfl rfl rfl HN3.out hK ?_
            intro v1 gv hn hB V1
            exact memo_use hZ0 (MNVAOz.out _ (by kernel_rfl) vb b0 gv ga p _ (by kernel_rfl) v1 hB (hN.past hn.1) V1 (hA.past hn.1) (V1.ne hA hn.2).symm (hO.past hn.1))
          have MVAOz : Hid (∀ (L : Array Bool), L = #[true, true, false, true, true, false, true, true, true, true, true, true, true, true, true, true, false, true, false] → ∀ (gv : Nat) (ga : Nat) (p : Nat), ∀ a, a = (((A0.put (some 28) (.slice (some ⟨gv, 0, none⟩) N N)).put (some 32) (.slice (some ⟨ga, 0, none⟩) N N)).put (some 5) (.pointer (some ⟨p, 0, none⟩))) → ∀ v, Below U.heap.size U v → MkB U v N gv → MkB U v N ga → gv ≠ ga → MkO U v p → Z0 4 L a v) := by
            intro L hL gv ga p a ha v hH hV hA NE hO
            subst hL ha hA0
            rw [hZ0]
            refine up_ready (rs := [2]) (by kernel_rfl) (by simp) ?_
            refine AllUp.cons rfl (fun K hK => ?_) AllUp.nil
            refine tr_nil hH rfl rfl hK ?_
            intro v1 b0 hn hB N1
            exact memo_use hZ0 (MNVAOz.out _ (by kernel_rfl) v b0 gv ga p _ (by kernel_rfl) v1 hB N1 (hV.past hn.1) (hA.past hn.1) NE (hO.past hn.1))
          have MNIz : Hid (∀ (L : Array Bool), L = #[true, true, true, true, true, true, true, true, true, false, true, true, true, false, true, true, false, false, false] → ∀ (b0 : Nat) (gp : Nat) (cp : Nat), ∀ a, a = ((A0.put (some 21) (.slice (some ⟨b0, 0, none⟩) 0 0)).put (some 24) (.slice (some ⟨gp, 0, none⟩) N cp)) → ∀ v, Below U.heap.size U v → MkI U v l N gp cp → Z0 5 L a v) := by
            intro L hL b0 gp cp a ha v hH hI
            subst hL ha hA0
            rw [hZ0]
            refine up_ready (rs := [9, 13, 17]) (by kernel_rfl) (by simp) ?_
            refine AllUp.cons rfl (fun K hK => ?_) ?_
            · refine tr_mk hH rfl (.tmp 27) (.tmp 27) rfl rfl rfl HN3.out hK ?_
              intro v1 gv hn hB V1
              exact memo_use hZ0 (MNIVz.out _ (by kernel_rfl) b0 gp cp gv _ (by kernel_rfl) v1 hB (hI.past hn.1) V1)
            refine AllUp.cons rfl (fun K hK => ?_) ?_
            · refine tr_mk hH rfl (.tmp 31) (.tmp 31) rfl rfl rfl HN3.out hK ?_
              intro v1 ga hn hB A1
              exact memo_use hZ0 (MNIAz.out _ (by kernel_rfl) b0 gp cp ga _ (by kernel_rfl) v1 hB (hI.past hn.1) A1)
            refine AllUp.cons rfl (fun K hK => ?_) AllUp.nil
            refine tr_box hH rfl rfl hK ?_
            intro v1 p hn hB O1
            exact memo_use hZ0 (MNIOz.out _ (by kernel_rfl) b0 gp cp p _ (by kernel_rfl) v1 hB (hI.past hn.1) O1)
          have MNVz : Hid (∀ (L : Array Bool), L = #[true, true, true, true, true, false, true, true, true, true, true, true, true, false, true, true, false, false, false] → ∀ (vb : World) (b0 : Nat) (gv : Nat), ∀ a, a = ((A0.put (some 21) (.slice (some ⟨b0, 0, none⟩) 0 0)).put (some 28) (.slice (some ⟨gv, 0, none⟩) N N)) → ∀ v, Below U.heap.size U v → MkN U vb v b0 → MkB U v N gv → Z0 5 L a v) := by
            intro L hL vb b0 gv a ha v hH hN hV
            subst hL ha hA0
            rw [hZ0]
            refine up_ready (rs := [5, 13, 17]) (by kernel_rfl) (by simp) ?_
            refine AllUp.cons rfl (fun K hK => ?_) ?_
            · refine tr_app hH rfl (.tmp 21) (.tmp 23) rfl rfl hN HL.out HN3.out HPOS.out (HSRC.out _ hH) rfl hK ?_
              intro v1 gp cp hn hB I1
              exact memo_use hZ0 (MNIVz.out _ (by kernel_rfl) b0 gp cp gv _ (by kernel_rfl) v1 hB I1 (hV.app hN hn))
            refine AllUp.cons rfl (fun K hK => ?_) ?_
            · refine tr_mk hH rfl (.tmp 31) (.tmp 31) rfl rfl rfl HN3.out hK ?_
              intro v1 ga hn hB A1
              exact memo_use hZ0 (MNVAz.out _ (by kernel_rfl) vb b0 gv ga _ (by kernel_rfl) v1 hB (hN.past hn.1) (hV.past hn.1) A1 (A1.ne hV hn.2))
            refine AllUp.cons rfl (fun K hK => ?_) AllUp.nil
            refine tr_box hH rfl rfl hK ?_
            intro v1 p hn hB O1
            exact memo_use hZ0 (MNVOz.out _ (by kernel_rfl) vb b0 gv p _ (by kernel_rfl) v1 hB (hN.past hn.1) (hV.past hn.1) O1)
          have MNAz : Hid (∀ (L : Array Bool), L = #[true, true, true, true, true, false, true, true, true, false, true, true, true, true, true, true, false, false, false] → ∀ (vb : World) (b0 : Nat) (ga : Nat), ∀ a, a = ((A0.put (some 21) (.slice (some ⟨b0, 0, none⟩) 0 0)).put (some 32) (.slice (some ⟨ga, 0, none⟩) N N)) → ∀ v, Below U.heap.size U v → MkN U vb v b0 → MkB U v N ga → Z0 5 L a v) := by
            intro L hL vb b0 ga a ha v hH hN hA
            subst hL ha hA0
            rw [hZ0]
            refine up_ready (rs := [5, 9, 17]) (by kernel_rfl) (by simp) ?_
            refine AllUp.cons rfl (fun K hK => ?_) ?_
            · refine tr_app hH rfl (.tmp 21) (.tmp 23) rfl rfl hN HL.out HN3.out HPOS.out (HSRC.out _ hH) rfl hK ?_
              intro v1 gp cp hn hB I1
              exact memo_use hZ0 (MNIAz.out _ (by kernel_rfl) b0 gp cp ga _ (by kernel_rfl) v1 hB I1 (hA.app hN hn))
            refine AllUp.cons rfl (fun K hK => ?_) ?_
            · refine tr_mk hH rfl (.tmp 27) (.tmp 27) rfl rfl rfl HN3.out hK ?_
              intro v1 gv hn hB V1
              exact memo_use hZ0 (MNVAz.out _ (by kernel_rfl) vb b0 gv ga _ (by kernel_rfl) v1 hB (hN.past hn.1) V1 (hA.past hn.1) (V1.ne hA hn.2).symm)
            refine AllUp.cons rfl (fun K hK => ?_) AllUp.nil
            refine tr_box hH rfl rfl hK ?_
            intro v1 p hn hB O1
            exact memo_use hZ0 (MNAOz.out _ (by kernel_rfl) vb b0 ga p _ (by kernel_rfl) v1 hB (hN.past hn.1) (hA.past hn.1) O1)
          have MNOz : Hid (∀ (L : Array Bool), L = #[true, true, true, true, true, false, true, true, true, false, true, true, true, false, true, true, false, true, false] → ∀ (vb : World) (b0 : Nat) (p : Nat), ∀ a, a = ((A0.put (some 21) (.slice (some ⟨b0, 0, none⟩) 0 0)).put (some 5) (.pointer (some ⟨p, 0, none⟩))) → ∀ v, Below U.heap.size U v → MkN U vb v b0 → MkO U v p → Z0 5 L a v) := by
            intro L hL vb b0 p a ha v hH hN hO
            subst hL ha hA0
            rw [hZ0]
            refine up_ready (rs := [5, 9, 13]) (by kernel_rfl) (by simp) ?_
            refine AllUp.cons rfl (fun K hK => ?_) ?_
            · refine tr_app hH rfl (.tmp 21) (.tmp 23) rfl rfl hN HL.out HN3.out HPOS.out (HSRC.out _ hH) rfl hK ?_
              intro v1 gp cp hn hB I1
              exact memo_use hZ0 (MNIOz.out _ (by kernel_rfl) b0 gp cp p _ (by kernel_rfl) v1 hB I1 (hO.app hN hn))
            refine AllUp.cons rfl (fun K hK => ?_) ?_
            · refine tr_mk hH rfl (.tmp 27) (.tmp 27) rfl rfl rfl HN3.out hK ?_
              intro v1 gv hn hB V1
              exact memo_use hZ0 (MNVOz.out _ (by kernel_rfl) vb b0 gv p _ (by kernel_rfl) v1 hB (hN.past hn.1) V1 (hO.past hn.1))
            refine AllUp.cons rfl (fun K hK => ?_) AllUp.nil
            refine tr_mk hH rfl (.tmp 31) (.tmp 31) rfl rfl rfl HN3.out hK ?_
            intro v1 ga hn hB A1
            exact memo_use hZ0 (MNAOz.out _ (by kernel_rfl) vb b0 ga p _ (by kernel_rfl) v1 hB (hN.past hn.1) A1 (hO.past hn.1))
          have MVAz : Hid (∀ (L : Array Bool), L = #[true, true, false, true, true, false, true, true, true, true, true, true, true, true, true, true, false, false, false] → ∀ (gv : Nat) (ga : Nat), ∀ a, a = ((A0.put (some 28) (.slice (some ⟨gv, 0, none⟩) N N)).put (some 32) (.slice (some ⟨ga, 0, none⟩) N N)) → ∀ v, Below U.heap.size U v → MkB U v N gv → MkB U v N ga → gv ≠ ga → Z0 5 L a v) := by
            intro L hL gv ga a ha v hH hV hA NE
            subst hL ha hA0
            rw [hZ0]
            refine up_ready (rs := [2, 17]) (by kernel_rfl) (by simp) ?_
            refine AllUp.cons rfl (fun K hK => ?_) ?_
            · refine tr_nil hH rfl rfl hK ?_
              intro v1 b0 hn hB N1
              exact memo_use hZ0 (MNVAz.out _ (by kernel_rfl) v b0 gv ga _ (by kernel_rfl) v1 hB N1 (hV.past hn.1) (hA.past hn.1) NE)
            refine AllUp.cons rfl (fun K hK => ?_) AllUp.nil
            refine tr_box hH rfl rfl hK ?_
            intro v1 p hn hB O1
            exact memo_use hZ0 (MVAOz.out _ (by kernel_rfl) gv ga p _ (by kernel_rfl) v1 hB (hV.past hn.1) (hA.past hn.1) NE O1)
          have MVOz : Hid (∀ (L : Array Bool), L = #[true, true, false, true, true, false, true, true, true, true, true, true, true, false, true, true, false, true, false] → ∀ (gv : Nat) (p : Nat), ∀ a, a = ((A0.put (some 28) (.slice (some ⟨gv, 0, none⟩) N N)).put (some 5) (.pointer (some ⟨p, 0, none⟩))) → ∀ v, Below U.heap.size U v → MkB U v N gv → MkO U v p → Z0 5 L a v) := by
            intro L hL gv p a ha v hH hV hO
            subst hL ha hA0
            rw [hZ0]
            refine up_ready (rs := [2, 13]) (by kernel_rfl) (by simp) ?_
            refine AllUp.cons rfl (fun K hK => ?_) ?_
            · refine tr_nil hH rfl rfl hK ?_
              intro v1 b0 hn hB N1
              exact memo_use hZ0 (MNVOz.out _ (by kernel_rfl) v b0 gv p _ (by kernel_rfl) v1 hB N1 (hV.past hn.1) (hO.past hn.1))
            refine AllUp.cons rfl (fun K hK => ?_) AllUp.nil
            refine tr_mk hH rfl (.tmp 31) (.tmp 31) rfl rfl rfl HN3.out hK ?_
            intro v1 ga hn hB A1
            exact memo_use hZ0 (MVAOz.out _ (by kernel_rfl) gv ga p _ (by kernel_rfl) v1 hB (hV.past hn.1) A1 (A1.ne hV hn.2) (hO.past hn.1))
          have MAOz : Hid (∀ (L : Array Bool), L = #[true, true, false, true, true, false, true, true, true, false, true, true, true, true, true, true, false, true, false] → ∀ (ga : Nat) (p : Nat), ∀ a, a = ((A0.put (some 32) (.slice (some ⟨ga, 0, none⟩) N N)).put (some 5) (.pointer (some ⟨p, 0, none⟩))) → ∀ v, Below U.heap.size U v → MkB U v N ga → MkO U v p → Z0 5 L a v) := by
            intro L hL ga p a ha v hH hA hO
            subst hL ha hA0
            rw [hZ0]
            refine up_ready (rs := [2, 9]) (by kernel_rfl) (by simp) ?_
            refine AllUp.cons rfl (fun K hK => ?_) ?_
            · refine tr_nil hH rfl rfl hK ?_
              intro v1 b0 hn hB N1
              exact memo_use hZ0 (MNAOz.out _ (by kernel_rfl) v b0 ga p _ (by kernel_rfl) v1 hB N1 (hA.past hn.1) (hO.past hn.1))
            refine AllUp.cons rfl (fun K hK => ?_) AllUp.nil
            refine tr_mk hH rfl (.tmp 27) (.tmp 27) rfl rfl rfl HN3.out hK ?_
            intro v1 gv hn hB V1
            exact memo_use hZ0 (MVAOz.out _ (by kernel_rfl) gv ga p _ (by kernel_rfl) v1 hB V1 (hA.past hn.1) (V1.ne hA hn.2).symm (hO.past hn.1))
          have MNz : Hid (∀ (L : Array Bool), L = #[true, true, true, true, true, false, true, true, true, false, true, true, true, false, true, true, false, false, false] → ∀ (vb : World) (b0 : Nat), ∀ a, a = (A0.put (some 21) (.slice (some ⟨b0, 0, none⟩) 0 0)) → ∀ v, Below U.heap.size U v → MkN U vb v b0 → Z0 6 L a v) := by
            intro L hL vb b0 a ha v hH hN
            subst hL ha hA0
            rw [hZ0]
            refine up_ready (rs := [5, 9, 13, 17]) (by kernel_rfl) (by simp) ?_
            refine AllUp.cons rfl (fun K hK => ?_) ?_
            · refine tr_app hH rfl (.tmp 21) (.tmp 23) rfl rfl hN HL.out HN3.out HPOS.out (HSRC.out _ hH) rfl hK ?_
              intro v1 gp cp hn hB I1
              exact memo_use hZ0 (MNIz.out _ (by kernel_rfl) b0 gp cp _ (by kernel_rfl) v1 hB I1)
            refine AllUp.cons rfl (fun K hK => ?_) ?_
            · refine tr_mk hH rfl (.tmp 27) (.tmp 27) rfl rfl rfl HN3.out hK ?_
              intro v1 gv hn hB V1
              exact memo_use hZ0 (MNVz.out _ (by kernel_rfl) vb b0 gv _ (by kernel_rfl) v1 hB (hN.past hn.1) V1)
            refine AllUp.cons rfl (fun K hK => ?_) ?_
            · refine tr_mk hH rfl (.tmp 31) (.tmp 31) rfl rfl rfl HN3.out hK ?_
              intro v1 ga hn hB A1
              exact memo_use hZ0 (MNAz.out _ (by kernel_rfl) vb b0 ga _ (by kernel_rfl) v1 hB (hN.past hn.1) A1)
            refine AllUp.cons rfl (fun K hK => ?_) AllUp.nil
            refine tr_box hH rfl rfl hK ?_
            intro v1 p hn hB O1
            exact memo_use hZ0 (MNOz.out _ (by kernel_rfl) vb b0 p _ (by kernel_rfl) v1 hB (hN.past hn.1) O1)
          have MVz : Hid (∀ (L : Array Bool), L = #[true, true, false, true, true, false, true, true, true, true, true, true, true, false, true, true, false, false, false] → ∀ (gv : Nat), ∀ a, a = (A0.put (some 28) (.slice (some ⟨gv, 0, none⟩) N N)) → ∀ v, Below U.heap.size U v → MkB U v N gv → Z0 6 L a v) := by
            intro L hL gv a ha v hH hV
            subst hL ha hA0
            rw [hZ0]
            refine up_ready (rs := [2, 13, 17]) (by kernel_rfl) (by simp) ?_
            refine AllUp.cons rfl (fun K hK => ?_) ?_
            · refine tr_nil hH rfl rfl hK ?_
              intro v1 b0 hn hB N1
              exact memo_use hZ0 (MNVz.out _ (by kernel_rfl) v b0 gv _ (by kernel_rfl) v1 hB N1 (hV.past hn.1))
            refine AllUp.cons rfl (fun K hK => ?_) ?_
            · refine tr_mk hH rfl (.tmp 31) (.tmp 31) rfl rfl rfl HN3.out hK ?_
              intro v1 ga hn hB A1
              exact memo_use hZ0 (MVAz.out _ (by kernel_rfl) gv ga _ (by kernel_rfl) v1 hB (hV.past hn.1) A1 (A1.ne hV hn.2))
            refine AllUp.cons rfl (fun K hK => ?_) AllUp.nil
            refine tr_box hH rfl rfl hK ?_
            intro v1 p hn hB O1
            exact memo_use hZ0 (MVOz.out _ (by kernel_rfl) gv p _ (by kernel_rfl) v1 hB (hV.past hn.1) O1)
          have MAz : Hid (∀ (L : Array Bool), L = #[true, true, false, true, true, false, true, true, true, false, true, true, true, true, true, true, false, false, false] → ∀ (ga : Nat), ∀ a, a = (A0.put (some 32) (.slice (some ⟨ga, 0, none⟩) N N)) → ∀ v, Below U.heap.size U v → MkB U v N ga → Z0 6 L a v) := by
            intro L hL ga a ha v hH hA
            subst hL ha hA0
            rw [hZ0]
            refine up_ready (rs := [2, 9, 17]) (by kernel_rfl) (by simp) ?_
            refine AllUp.cons rfl (fun K hK => ?_) ?_
            · refine tr_nil hH rfl rfl hK ?_
              intro v1 b0 hn hB N1
              exact memo_use hZ0 (MNAz.out _ (by kernel_rfl) v b0 ga _ (by kernel_rfl) v1 hB N1 (hA.past hn.1))
            refine AllUp.cons rfl (fun K hK => ?_) ?_
            · refine tr_mk hH rfl (.tmp 27) (.tmp 27) rfl rfl rfl HN3.out hK ?_
              intro v1 gv hn hB V1
              exact memo_use hZ0 (MVAz.out _ (by kernel_rfl) gv ga _ (by kernel_rfl) v1 hB V1 (hA.past hn.1) (V1.ne hA hn.2).symm)
            refine AllUp.cons rfl (fun K hK => ?_) AllUp.nil
            refine tr_box hH rfl rfl hK ?_
            intro v1 p hn hB O1
            exact memo_use hZ0 (MAOz.out _ (by kernel_rfl) ga p _ (by kernel_rfl) v1 hB (hA.past hn.1) O1)
          have MOz : Hid (∀ (L : Array Bool), L = #[true, true, false, true, true, false, true, true, true, false, true, true, true, false, true, true, false, true, false] → ∀ (p : Nat), ∀ a, a = (A0.put (some 5) (.pointer (some ⟨p, 0, none⟩))) → ∀ v, Below U.heap.size U v → MkO U v p → Z0 6 L a v) := by
            intro L hL p a ha v hH hO
            subst hL ha hA0
            rw [hZ0]
            refine up_ready (rs := [2, 9, 13]) (by kernel_rfl) (by simp) ?_
            refine AllUp.cons rfl (fun K hK => ?_) ?_
            · refine tr_nil hH rfl rfl hK ?_
              intro v1 b0 hn hB N1
              exact memo_use hZ0 (MNOz.out _ (by kernel_rfl) v b0 p _ (by kernel_rfl) v1 hB N1 (hO.past hn.1))
            refine AllUp.cons rfl (fun K hK => ?_) ?_
            · refine tr_mk hH rfl (.tmp 27) (.tmp 27) rfl rfl rfl HN3.out hK ?_
              intro v1 gv hn hB V1
              exact memo_use hZ0 (MVOz.out _ (by kernel_rfl) gv p _ (by kernel_rfl) v1 hB V1 (hO.past hn.1))
            refine AllUp.cons rfl (fun K hK => ?_) AllUp.nil
            refine tr_mk hH rfl (.tmp 31) (.tmp 31) rfl rfl rfl HN3.out hK ?_
            intro v1 ga hn hB A1
            exact memo_use hZ0 (MAOz.out _ (by kernel_rfl) ga p _ (by kernel_rfl) v1 hB A1 (hO.past hn.1))
          have Mz : Hid (∀ (L : Array Bool), L = #[true, true, false, true, true, false, true, true, true, false, true, true, true, false, true, true, false, false, false] → ∀ a, a = A0 → ∀ v, Below U.heap.size U v → Z0 7 L a v) := by
            intro L hL  a ha v hH 
            subst hL ha hA0
            rw [hZ0]
            refine up_ready (rs := [2, 9, 13, 17]) (by kernel_rfl) (by simp) ?_
            refine AllUp.cons rfl (fun K hK => ?_) ?_
            · refine tr_nil hH rfl rfl hK ?_
              intro v1 b0 hn hB N1
              exact memo_use hZ0 (MNz.out _ (by kernel_rfl) v b0 _ (by kernel_rfl) v1 hB N1)
            refine AllUp.cons rfl (fun K hK => ?_) ?_
            · refine tr_mk hH rfl (.tmp 27) (.tmp 27) rfl rfl rfl HN3.out hK ?_
              intro v1 gv hn hB V1
              exact memo_use hZ0 (MVz.out _ (by kernel_rfl) gv _ (by kernel_rfl) v1 hB V1)
            refine AllUp.cons rfl (fun K hK => ?_) ?_
            · refine tr_mk hH rfl (.tmp 31) (.tmp 31) rfl rfl rfl HN3.out hK ?_
              intro v1 ga hn hB A1
              exact memo_use hZ0 (MAz.out _ (by kernel_rfl) ga _ (by kernel_rfl) v1 hB A1)
            refine AllUp.cons rfl (fun K hK => ?_) AllUp.nil
            refine tr_box hH rfl rfl hK ?_
            intro v1 p hn hB O1
            exact memo_use hZ0 (MOz.out _ (by kernel_rfl) p _ (by kernel_rfl) v1 hB O1)
          exact Mz.out _ (by kernel_rfl) _ rfl _ hH0
        case rest =>
          obtain ⟨p, gp, cp, gv, ga, rfl, HP⟩ := hcut
          obtain ⟨v1, rfl⟩ : ∃ v : World, v = wc := ⟨wc, rfl⟩
          have z7 := (FB2.out v1 HP.out.below).c7
          have HUP : Hid (∀ (v : World) (hw : Int), PlayS U v id t n hw l N p gp cp gv ga → PlayS W v id t n hw l N p gp cp gv ga) := fun v hw hp => ⟨B1.out.trans (hp.below.mono B1.out.size), hp.rng, hp.free, ⟨Nat.le_trans HUW.out hp.lo.1, Nat.le_trans HUW.out hp.lo.2.1, Nat.le_trans HUW.out hp.lo.2.2.1, Nat.le_trans HUW.out hp.lo.2.2.2⟩, hp.ne, hp.i, hp.v, hp.a, hp.r⟩
          cases y with
          | true =>
            have HP2 := HP.out.yes
            have c5 : v1.cell? ⟨p, 5, none⟩ = some (.int .i64 2) := HP.out.rng 5 _ rfl
            have f5 := HP.out.free 5
            have HP3 : Hid (PlayS W (v1.setCell ⟨p, 5, none⟩ (.int .i64 1)) id t n 1 l N p gp cp gv ga) := HUP.out _ _ HP2
            clear HP2
            go_wp2_with (first
              | ((with_reducible show wpList _ _ _ (Oper.mk (some 40) _ _ _ _ _ :: _) _ _); refine wpList_load_mid (by rfl) 92 _ (by rfl) p 0 (by rfl) _ _ HP3.out.rng Try.underlying92 rfl info_rone ?_)
              | (go_at_call 52; refine (HLAY.out _ p gp cp gv ga HP3.out).mono ?_; rintro e w9 ⟨rfl, h9⟩; have H9 : Hid (DidO w w9 q C2 F) := h9; clear h9))
            go_ret
            rw [HR.out]
            exact ⟨rfl, H9.out⟩
          | false =>
            have HP3 : Hid (PlayS W v1 id t n 2 l N p gp cp gv ga) := HUP.out _ _ HP.out
            go_wp2_with (first
              | ((with_reducible show wpList _ _ _ (Oper.mk (some 40) _ _ _ _ _ :: _) _ _); refine wpList_load_mid (by rfl) 92 _ (by rfl) p 0 (by rfl) _ _ HP3.out.rng Try.underlying92 rfl info_rone ?_)
              | (go_at_call 52; refine (HLAY.out _ p gp cp gv ga HP3.out).mono ?_; rintro e w9 ⟨rfl, h9⟩; have H9 : Hid (DidO w w9 q C2 F) := h9; clear h9))
            go_ret
            rw [HR.out]
            exact ⟨rfl, H9.out⟩
      · have e0 : r.id = id := by rw [hr]
        rw [h2] at HRP
        rw [h1] at CA
        have HR : Hid (playC (decs M0) r = (5, decs M0)) := HRP
        have d2 : (0 : Int) ≤ (i : Int) := by omega
        clear h hwr hrm hfw hps hpr hpf hkd hok hr hN0 hN hW hbx hk4 hg HRP CR0 h1 h2 h3 h4 hps4 hlp e0
        go_enter Try.func24, Try.ntmps24
        go_wp2_with (first
          | (go_at_call 54; rw [HW.out]; refine (CR.out _ (Below.refl _ _)).mono ?_; rintro e U ⟨rfl, hb1⟩; have B1 : Hid (Below W.heap.size W U) := hb1; obtain ⟨z0, z1, z2, z3, z4, z5, z6, z7, z8⟩ := FB.out U B1.out; clear hb1)
          | (go_at_call 51; refine (CA.out _ B1.out).mono ?_; rintro e w1 ⟨rfl, hw⟩; obtain rfl := hw.symm; clear hw))
        go_ret
        rw [HR.out]
        exact ⟨rfl, HS.out _ B1.out⟩
    · have hb4 : (kd != 4) = true := by simpa using hk4
      have HR : Hid (playC (decs M0) r = (3, decs M0)) := by show _ = _; rw [HRP, if_pos (.inr hk4)]
      clear h hwr hrm hfw hps hpr hpf hkd hok hr hN0 hN hW hbx hg HRP CR0 CA
      go_enter Try.func24, Try.ntmps24
      go_wp2_with (go_at_call 54; rw [HW.out]; refine (CR.out _ (Below.refl _ _)).mono ?_; rintro e U ⟨rfl, hb1⟩; have B1 : Hid (Below W.heap.size W U) := hb1; obtain ⟨z0, z1, z2, z3, z4, z5, z6, z7, z8⟩ := FB.out U B1.out; clear hb1)
      go_ret
      rw [HR.out]
      exact ⟨rfl, HS.out _ B1.out⟩
end Go.Proofs.Ytcppihpehipelaa
