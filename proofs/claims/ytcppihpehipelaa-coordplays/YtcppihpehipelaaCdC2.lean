/-
  The landed coord's vote of one that is to be decided.
-/
import Derived.Test.YtcppihpehipelaaCdC1
namespace Go.Proofs.Ytcppihpehipelaa
open Go.RowKit
set_option linter.unusedVariables false
set_option linter.unusedSimpArgs false

theorem info_stL : (Try.prog.info? 28).map (·.size) = some 2 := by kernel_rfl
theorem MBox.there67 {u : World} {g : Nat} {st sn : Int} {vp va vo : Value} {y : Bool} {t n : Int} (h : MBox u g st sn vp va vo y t n) : u.there g 6 2 := fun j hj => by
  have h' : j = 0 ∨ j = 1 := by omega
  rcases h' with rfl | rfl
  · exact ⟨by rw [h.c6]; rfl, h.free 6⟩
  · exact ⟨by rw [h.c7]; rfl, h.free 7⟩
theorem parts_bounds {d : DecC} (h : DecL d) : ∀ z ∈ d.parts, -9223372036854775808 ≤ z ∧ z ≤ 9223372036854775807 := fun z hz => by
  have h1 := h.k.parts
  unfold partsB at h1
  simp only [Bool.and_eq_true, decide_eq_true_eq] at h1
  have := upP_in h1.1 z hz
  omega
theorem awaits_bounds {d : DecC} (h : DecL d) : ∀ z ∈ awaitsD d, -9223372036854775808 ≤ z ∧ z ≤ 9223372036854775807 := fun z hz => by
  unfold awaitsD at hz
  split at hz
  · exact parts_bounds h z (restD_sub _ _ z hz)
  · simp at hz
theorem owes_bounds {d : DecC} (h : DecL d) : ∀ z ∈ owesD d, -9223372036854775808 ≤ z ∧ z ≤ 9223372036854775807 := fun z hz => parts_bounds h z (restD_sub _ _ z hz)
/-- A yes: what lies there behind it. -/
theorem MatI.said {w u u2 u3 : World} {g gp cp ga ac go co : Nat} {d : DecC} {p t n : Int} (h : MatI w g gp cp (some ⟨ga, 0, none⟩) ac go co d) (hd : DecL d) (h0 : d.how = 0) (hp : hasP d.parts p = true) (hin : (awaitsD d) ≠ [])
    (hc : Chg w u3 (fun k => k = g ∨ k = ga)) (hx : gp < w.heap.size ∧ go < w.heap.size) (hi : IntsO u3 ga ((awaitsD d).filter (fun x => !decide (x = p))))
    (hb : MBox u3 g d.st d.sn (.slice (some ⟨gp, 0, none⟩) d.parts.length cp) (.slice (some ⟨ga, 0, none⟩) ((awaitsD d).filter (fun x => !decide (x = p))).length ac) (.slice (some ⟨go, 0, none⟩) (owesD d).length co) (decide (((awaitsD d).filter (fun x => !decide (x = p))).length = 0)) (mxS d.at_ d.an t n).1 (mxS d.at_ d.an t n).2) :
    MatI u3 g gp cp (some ⟨ga, 0, none⟩) ac go co (yesD d (spotC d.parts p) t n) := by
  obtain ⟨e1, e2⟩ := awaits_yes hd h0 hp t n
  obtain ⟨ga', e, _, n1, n2, n3⟩ := h.aw hin
  injection e with e
  injection e with e
  subst e
  rw [e1] at hi hb
  have hl : (awaitsD (yesD d (spotC d.parts p) t n)).length ≤ (awaitsD d).length := by rw [← e1]; exact List.length_filter_le _ _
  refine ⟨hb.c0, hb.c1, hb.c2, hb.c3, hb.c4, ?_, hb.c6, hb.c7, hb.free, h.parts.kept (hc.block gp hx.1 (fun e => e.elim h.ne.1 (fun e => n2 e.symm))), h.pr, fun _ => ⟨ga, rfl, hi, n1, n2, n3⟩, Nat.le_trans hl h.ar, h.ow.kept (hc.block go hx.2 (fun e => e.elim h.ne.2.1 (fun e => n3 e.symm))), h.orr, h.ne⟩
  rw [hb.c5, e2]
  congr 2
  split
  · next h => rw [decide_eq_true h]; rfl
  · next h => rw [decide_eq_false h]; rfl
set_option maxHeartbeats 4000000 in
set_option maxRecDepth 4000 in
theorem cdvote_any (g : Nat) (d : DecC) (Y : Foot) (p : Int) (y : Bool) (t n : Int) (w : World) (h : MatD w g d Y) (hd : DecL d) (h0 : d.how = 0) (hp : hasP d.parts p = true) (hin : (awaitsD d).contains p = true) :
    Calls Try.prog 41 #[.pointer (some ⟨g, 0, none⟩), .int .i64 p, .bool y, .agg #[.int .i64 t, .int .u8 n]] w fun e w' => e = .returned (.tuple #[]) ∧ MatD w' g (if y = true then yesD d (spotC d.parts p) t n else noD d) Y ∧ Chg w w' Y := by
  obtain ⟨W, hW⟩ : ∃ u, u = w.alloc (.cells #[.int .i64 t, .int .u8 n] 28) := ⟨_, rfl⟩
  have HW : Hid (w.alloc (.cells #[.int .i64 t, .int .u8 n] 28) = W) := hW.symm
  have HBW : Hid (Below w.heap.size w W) := by rw [hW]; exact (Below.refl _ _).alloc (Nat.le_refl _) _
  cases y with
  | false =>
    have CR : Hid (Calls Try.prog 45 #[.pointer (some ⟨g, 0, none⟩)] W fun e w' => e = .returned (.tuple #[]) ∧ MatD w' g (noD d) Y ∧ Chg W w' Y) := cdrefuse_any g d Y W (h.past HBW.out) h0
    clear h hd h0 hp hin hW
    go_enter Try.func41, Try.ntmps41
    go_wp2_with (go_at_call 45; rw [HW.out]; refine CR.out.mono ?_; rintro e w1 ⟨rfl, h2, h3⟩; have H2 : Hid (MatD w1 g (noD d) Y) := h2; have H3 : Hid (Chg w w1 Y) := (Chg.of_below HBW.out Y).trans h3 (fun _ _ y => y); clear h2 h3)
    refine bodyPost_ret (results_none rfl _ _ _) rfl ?_
    exact ⟨rfl, H2.out, H3.out⟩
  | true =>
    obtain ⟨⟨gp, cp, aa, ac, go, co, h1, h2⟩, h3⟩ := h
    have hne : awaitsD d ≠ [] := fun e => by rw [e] at hin; simp at hin
    obtain ⟨ga, rfl, hia, n1, n2, n3⟩ := h1.aw hne
    have box0 := h1.box
    have FB : Hid (∀ u, Below W.heap.size W u → MBox u g d.st d.sn (.slice (some ⟨gp, 0, none⟩) d.parts.length cp) (.slice (some ⟨ga, 0, none⟩) (awaitsD d).length ac) (.slice (some ⟨go, 0, none⟩) (owesD d).length co) (decide (d.how = 1)) d.at_ d.an) := fun u hu => box0.past (HBW.out.trans (hu.mono HBW.out.size))
    have FST : Hid (∀ u, Below W.heap.size W u → u.cell? ⟨w.heap.size, 0, none⟩ = some (.int .i64 t) ∧ u.cell? ⟨w.heap.size, 1, none⟩ = some (.int .u8 n)) := fun u hu => by
      have e0 : W.cell? ⟨w.heap.size, 0, none⟩ = some (.int .i64 t) := by rw [hW, World.cell?_alloc_new]; rfl
      have e1 : W.cell? ⟨w.heap.size, 1, none⟩ = some (.int .u8 n) := by rw [hW, World.cell?_alloc_new]; rfl
      exact ⟨(hu.cell (p := ⟨w.heap.size, 0, none⟩) (cell_lt e0)).trans e0, (hu.cell (p := ⟨w.heap.size, 1, none⟩) (cell_lt e1)).trans e1⟩
    have CM : Hid (∀ u, Calls Try.prog 62 #[.agg #[.int .i64 d.at_, .int .u8 d.an], .agg #[.int .i64 t, .int .u8 n]] u fun e w' => e = .returned (.agg #[.int .i64 (mxS d.at_ d.an t n).1, .int .u8 (mxS d.at_ d.an t n).2]) ∧ Below u.heap.size u w') := fun u => cdmax_any d.at_ d.an t n u
    have hga : ga < w.heap.size := h3 ga (h2 ga (.inr (.inr (.inr ⟨ga, rfl, rfl⟩))))
    have hgg : g < w.heap.size := h3 g (h2 g (.inl rfl))
    -- behind the first store
    have H2 : Hid (∀ u, Below W.heap.size W u → Chg w (u.setCells g 6 (#[.int .i64 (mxS d.at_ d.an t n).1, .int .u8 (mxS d.at_ d.an t n).2] : Array Value).toList) (fun k => k = g) ∧ MBox (u.setCells g 6 (#[.int .i64 (mxS d.at_ d.an t n).1, .int .u8 (mxS d.at_ d.an t n).2] : Array Value).toList) g d.st d.sn (.slice (some ⟨gp, 0, none⟩) d.parts.length cp) (.slice (some ⟨ga, 0, none⟩) (awaitsD d).length ac) (.slice (some ⟨go, 0, none⟩) (owesD d).length co) (decide (d.how = 1)) (mxS d.at_ d.an t n).1 (mxS d.at_ d.an t n).2) := fun u hu => by
      refine ⟨?_, (FB.out u hu).set67 _ _⟩
      exact ((Chg.of_below (HBW.out.trans (hu.mono HBW.out.size)) (fun k => k = g)).trans (Chg.set _ ⟨g, 6, none⟩ _ (X := fun k => k = g) rfl) (fun _ _ y => y)).trans (Chg.set _ ⟨g, 7, none⟩ _ (X := fun k => k = g) rfl) (fun _ _ y => y)
    have CW : Hid (∀ u, Chg w u (fun k => k = g) → Calls Try.prog 43 #[.slice (some ⟨ga, 0, none⟩) (awaitsD d).length ac, .int .i64 p] u fun e w' => Without u w' e ga ac (awaitsD d) p) := fun u hu => cdwo_any ga _ ac (awaitsD d) p u rfl (by have := awaits_len hd; omega) h1.ar (hia.kept (hu.block ga hga n1)) (awaits_bounds hd)
    have CK : Hid (∀ (u : World) (N : Nat), u.cell? ⟨g, 3, none⟩ = some (.slice (some ⟨ga, 0, none⟩) N ac) → Calls Try.prog 42 #[.pointer (some ⟨g, 0, none⟩)] u fun e w' => e = .returned (.bool (decide (N = 0))) ∧ w' = u) := fun u N hu => cdknown_raw g _ N ac u hu
    have HF : Hid (∀ u3, Chg w u3 (fun k => k = g ∨ k = ga) → IntsO u3 ga ((awaitsD d).filter (fun x => !decide (x = p))) → MBox u3 g d.st d.sn (.slice (some ⟨gp, 0, none⟩) d.parts.length cp) (.slice (some ⟨ga, 0, none⟩) ((awaitsD d).filter (fun x => !decide (x = p))).length ac) (.slice (some ⟨go, 0, none⟩) (owesD d).length co) (decide (((awaitsD d).filter (fun x => !decide (x = p))).length = 0)) (mxS d.at_ d.an t n).1 (mxS d.at_ d.an t n).2 → MatD u3 g (yesD d (spotC d.parts p) t n) Y ∧ Chg w u3 Y) := fun u3 k1 k2 k3 => by
      refine ⟨⟨⟨gp, cp, _, ac, go, co, h1.said (u := w) (u2 := w) hd h0 hp hne k1 ⟨h3 gp (h2 gp (.inr (.inl rfl))), h3 go (h2 go (.inr (.inr (.inl rfl))))⟩ k2 k3, h2⟩, fun k hk => Nat.lt_of_lt_of_le (h3 k hk) k1.size⟩, k1.mono (fun k _ e => ?_)⟩
      rcases e with e | e
      · rw [e]; exact h2 g (.inl rfl)
      · rw [e]; exact h2 ga (.inr (.inr (.inr ⟨ga, rfl, rfl⟩)))
    obtain ⟨L, hL⟩ : ∃ L, L = (awaitsD d).filter (fun x => !decide (x = p)) := ⟨_, rfl⟩
    rw [← hL] at HF
    have CW : Hid (∀ u, Chg w u (fun k => k = g) → Calls Try.prog 43 #[.slice (some ⟨ga, 0, none⟩) (awaitsD d).length ac, .int .i64 p] u fun e w' => e = .returned (.slice (some ⟨ga, 0, none⟩) L.length ac) ∧ IntsO w' ga L ∧ Chg u w' (fun k => k = ga)) := fun u hu => (CW.out u hu).mono fun e w' ⟨k1, k2, k3⟩ => by
      rw [← hL] at k1 k2
      exact ⟨k1, k2, k3⟩
    have HNE : Hid (ga ≠ g ∧ ga < w.heap.size ∧ g < w.heap.size) := ⟨n1, hga, hgg⟩
    generalize (awaitsD d).length = N0 at *
    generalize (owesD d).length = O0 at *
    generalize d.parts.length = P0 at *
    generalize d.st = st at *
    generalize d.sn = sn at *
    generalize decide (d.how = 1) = hy at *
    generalize (mxS d.at_ d.an t n).1 = mt at *
    generalize (mxS d.at_ d.an t n).2 = mn at *
    generalize d.at_ = at0 at *
    generalize d.an = an0 at *
    generalize yesD d (spotC d.parts p) t n = D2 at *
    generalize L.length = N1 at *
    clear h1 h2 h3 hd h0 hp hin hW hne hia n1 n2 n3 box0 hga hgg hL
    go_enter Try.func41, Try.ntmps41
    go_wp2
    rw [HW.out]
    refine wp_region_noPanic ?_
    refine region_up 9 (fun u => Below W.heap.size W u) (by kernel_rfl) ?_ (fun hHeld => ?_)
    · exact (Below.refl _ _).drew
    refine up_take (i := 0) (v := ?_) (by kernel_rfl) (by kernel_rfl) (by kernel_rfl) rfl (by kernel_rfl) (by kernel_rfl) (by kernel_rfl) (fun _ _ _ h => h) (Or.inl ⟨by rfl, ?_⟩) hHeld ?_
    rotate_left
    · intro u hSu
      (go_simp) <;> (with_reducible rfl)
    change wpUp _ _ _ _ _ _ _ _ (Act.put _ (some 12) _) _
    simp only [Act.put, List.setIfInBounds_toArray, List.set_cons_zero, List.set_cons_succ]
    refine up_take (i := 1) (v := ?_) (by kernel_rfl) (by kernel_rfl) (by kernel_rfl) rfl (by kernel_rfl) (by kernel_rfl) (by kernel_rfl) (fun _ _ _ h => h) (Or.inl ⟨by rfl, ?_⟩) hHeld ?_
    rotate_left
    · intro u hSu
      (go_simp) <;> (with_reducible rfl)
    change wpUp _ _ _ _ _ _ _ _ (Act.put _ (some 13) _) _
    simp only [Act.put, List.setIfInBounds_toArray, List.set_cons_zero, List.set_cons_succ]
    refine up_take (i := 2) (v := ?_) (by kernel_rfl) (by kernel_rfl) (by kernel_rfl) rfl (by kernel_rfl) (by kernel_rfl) (by kernel_rfl) (fun _ _ _ h => h) (Or.inl ⟨by rfl, ?_⟩) hHeld ?_
    rotate_left
    · intro u hSu
      (go_simp) <;> (with_reducible rfl)
    change wpUp _ _ _ _ _ _ _ _ (Act.put _ (some 14) _) _
    simp only [Act.put, List.setIfInBounds_toArray, List.set_cons_zero, List.set_cons_succ]
    refine up_take (i := 3) (v := ?_) (by kernel_rfl) (by kernel_rfl) (by kernel_rfl) rfl (by kernel_rfl) (by kernel_rfl) (by kernel_rfl) (fun _ _ _ h => h) (Or.inl ⟨by rfl, ?_⟩) hHeld ?_
    rotate_left
    · intro u hSu
      (go_simp) <;> (with_reducible rfl)
    change wpUp _ _ _ _ _ _ _ _ (Act.put _ (some 15) _) _
    simp only [Act.put, List.setIfInBounds_toArray, List.set_cons_zero, List.set_cons_succ]
    refine up_take (i := 4) (v := ?_) (by kernel_rfl) (by kernel_rfl) (by kernel_rfl) rfl (by kernel_rfl) (by kernel_rfl) (by kernel_rfl) (fun _ _ _ h => h) (Or.inl ⟨by rfl, ?_⟩) hHeld ?_
    rotate_left
    · intro u hSu
      obtain ⟨c0, c1, c2, c3, c4, c5, c6, c7, -⟩ := FB.out u hSu
      (go_simp) <;> (with_reducible rfl)
    change wpUp _ _ _ _ _ _ _ _ (Act.put _ (some 16) _) _
    simp only [Act.put, List.setIfInBounds_toArray, List.set_cons_zero, List.set_cons_succ]
    refine up_take (i := 5) (v := ?_) (by kernel_rfl) (by kernel_rfl) (by kernel_rfl) rfl (by kernel_rfl) (by kernel_rfl) (by kernel_rfl) (fun _ _ _ h => h) (Or.inl ⟨by rfl, ?_⟩) hHeld ?_
    rotate_left
    · intro u hSu
      obtain ⟨s0, s1⟩ := FST.out u hSu
      (go_simp) <;> (with_reducible rfl)
    change wpUp _ _ _ _ _ _ _ _ (Act.put _ (some 17) _) _
    simp only [Act.put, List.setIfInBounds_toArray, List.set_cons_zero, List.set_cons_succ]
    refine up_ready (rs := [6]) (by kernel_rfl) (by simp) ?_
    refine AllUp.cons rfl (fun K hK => ?_) AllUp.nil
    go_simp
    go_at_call 62
    refine (CM.out _).mono ?_
    rintro e u1 ⟨rfl, hb1⟩
    have B1 : Hid (Below W.heap.size W u1) := hHeld.trans (hb1.mono hHeld.size); clear hb1
    refine hK.out _ _ ?_ (fun hHeld2 => ?_)
    · exact B1.out
    clear hK K hHeld
    have hHeld := hHeld2
    clear hHeld2
    refine up_take (i := 7) (v := ?_) (by kernel_rfl) (by kernel_rfl) (by kernel_rfl) rfl (by kernel_rfl) (by kernel_rfl) (by kernel_rfl) (fun _ _ _ h => h) (Or.inl ⟨by rfl, ?_⟩) hHeld ?_
    rotate_left
    · intro u hSu
      (go_simp) <;> (with_reducible rfl)
    change wpUp _ _ _ _ _ _ _ _ (Act.put _ (some 19) _) _
    simp only [Act.put, List.setIfInBounds_toArray, List.set_cons_zero, List.set_cons_succ]
    refine up_take (i := 8) (v := ?_) (by kernel_rfl) (by kernel_rfl) (by kernel_rfl) rfl (by kernel_rfl) (by kernel_rfl) (by kernel_rfl) (fun _ _ _ h => h) (Or.inl ⟨by rfl, ?_⟩) hHeld ?_
    rotate_left
    · intro u hSu
      (go_simp) <;> (with_reducible rfl)
    change wpUp _ _ _ _ _ _ _ _ (Act.put _ (some 20) _) _
    simp only [Act.put, List.setIfInBounds_toArray, List.set_cons_zero, List.set_cons_succ]
    refine up_ready (rs := [9]) (by kernel_rfl) (by simp) ?_
    refine AllUp.that rfl (fun K hK => ?_) AllUp.nil
    rw [if_pos (by rfl)]; refine wp_store_mid 28 _ _ rfl g 6 #[.int .i64 mt, .int .u8 mn] rfl rfl (FB.out _ B1.out).there67 (by rw [info_stL]; rfl) (all_oneCell_toArray (fun u hu => by simp at hu; rcases hu with rfl | rfl <;> rfl)) ?_; refine hK.out _ _ ?_; clear hK K hHeld
    refine up_done (by kernel_rfl) ?_
    refine NoPanic.normal ?_
    obtain ⟨k1, k2⟩ := H2.out _ B1.out
    generalize u1.setCells g 6 (#[.int .i64 mt, .int .u8 mn] : Array Value).toList = u2 at k1 k2 ⊢
    have K1 : Hid (Chg w u2 (fun k => k = g)) := k1
    have K2 : Hid (MBox u2 g st sn (Value.slice (some ⟨gp, 0, none⟩) P0 cp) (Value.slice (some ⟨ga, 0, none⟩) N0 ac) (Value.slice (some ⟨go, 0, none⟩) O0 co) hy mt mn) := k2
    have c3 := k2.c3
    clear k1 k2 H2 HW HBW CM FST FB B1
    go_wp2_with (first
      | (have hgo := K2.out; clear hgo; go_at_call 43; refine (CW.out _ K1.out).mono ?_; rintro e u4 ⟨rfl, i4, g4⟩
         have K4 : Hid (Chg w u4 (fun k => k = g ∨ k = ga)) := (K1.out.mono (fun _ _ e => .inl e)).trans (g4.mono (fun _ _ e => .inr e)) (fun _ _ y => y)
         have b4 := K2.out.kept (g4.block g (Nat.lt_of_lt_of_le HNE.out.2.2 K1.out.size) (fun e => HNE.out.1 e.symm))
         have d3 := b4.c3
         have f3 := b4.free 3
         have b5 := b4.set3 (Value.slice (some ⟨ga, 0, none⟩) N1 ac)
         have B5 : Hid (MBox (u4.setCell ⟨g, 3, none⟩ (Value.slice (some ⟨ga, 0, none⟩) N1 ac)) g st sn (Value.slice (some ⟨gp, 0, none⟩) P0 cp) (Value.slice (some ⟨ga, 0, none⟩) N1 ac) (Value.slice (some ⟨go, 0, none⟩) O0 co) hy mt mn) := b5
         have d5 := b5.c5
         have f5 := b5.free 5
         have I5 : Hid (IntsO (u4.setCell ⟨g, 3, none⟩ (Value.slice (some ⟨ga, 0, none⟩) N1 ac)) ga L) := i4.kept (Below.heap_setCell _ ⟨g, 3, none⟩ _ ga HNE.out.1)
         have K5 : Hid (Chg w (u4.setCell ⟨g, 3, none⟩ (Value.slice (some ⟨ga, 0, none⟩) N1 ac)) (fun k => k = g ∨ k = ga)) := K4.out.trans (Chg.set u4 ⟨g, 3, none⟩ _ (X := fun k => k = g ∨ k = ga) (.inl rfl)) (fun _ _ y => y)
         clear b4 b5 i4 g4 K2 c3 K1)
      | (have hgo := B5.out; clear hgo; go_at_call 42; refine (CK.out _ N1 B5.out.c3).mono ?_; rintro e u6 ⟨rfl, hw6⟩; obtain rfl := hw6.symm; clear hw6))
    go_end0
    have b6 := B5.out.set5 (decide (N1 = 0))
    obtain ⟨r1, r2⟩ := HF.out _ (K5.out.trans (Chg.set _ ⟨g, 5, none⟩ _ (X := fun k => k = g ∨ k = ga) (.inl rfl)) (fun _ _ y => y)) (I5.out.kept (Below.heap_setCell _ ⟨g, 5, none⟩ _ ga HNE.out.1)) b6
    exact ⟨rfl, r1, r2⟩
end Go.Proofs.Ytcppihpehipelaa
