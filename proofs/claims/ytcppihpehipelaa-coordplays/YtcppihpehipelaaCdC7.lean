/-
  The landed coord: Play.
-/
import Derived.Test.YtcppihpehipelaaCdC6
namespace Go.Proofs.Ytcppihpehipelaa
open Go.RowKit
set_option linter.unusedVariables false
set_option linter.unusedSimpArgs false

theorem owes_said (r : Rcd) : owesD (saidC r) = r.ps := restD_fresh r.ps
theorem awaits_said (r : Rcd) : awaitsD (saidC r) = [] := if_neg (by show ¬ (if r.y = true then (1 : Int) else 2) = 0; split <;> omega)
theorem yes_said (r : Rcd) : decide ((saidC r).how = 1) = r.y := by
  show decide ((if r.y = true then (1 : Int) else 2) = 1) = r.y
  cases r.y <;> rfl
set_option maxHeartbeats 8000000 in
set_option maxRecDepth 8000 in
theorem cdplay_any (b : Nat) (C : List DecC) (X : Foot) (x : RcM) (w : World) (h : CoD w b C X) (hx : RcW w x) (hf : C.length ≤ 100000) :
    Calls Try.prog 15 #[.pointer (some ⟨b, 0, none⟩), rcv x] w fun e w' => e = .returned (.int .i64 (playC C x.r).1) ∧ DidC w w' b (playC C x.r).2 X := by
  have CR0 := fun u (hu : Below w.heap.size w u) => lgood_any x u (hx.past hu)
  have HRP : playC C x.r = if goodR x.r = false ∨ x.r.kd ≠ 4 then ((3 : Int), C) else match getC C x.r.id with | some _ => (5, C) | none => (0, layC C (saidC x.r)) := rfl
  obtain ⟨⟨kd, id, s, mm, t, n, l, y, ps⟩, a, c, pa, pc⟩ := x
  obtain ⟨hwr, hrm, hfw, hps, hpr, hpf, hkd, hok⟩ := hx
  simp only at hwr hrm hfw hps hpr hpf hkd
  have hi : I64 id := ⟨hok.id0, hok.id1⟩
  obtain ⟨r, hr⟩ : ∃ r : Rcd, r = ⟨kd, id, s, mm, t, n, l, y, ps⟩ := ⟨_, rfl⟩
  obtain ⟨N, hN⟩ : ∃ N, l.length = N := ⟨_, rfl⟩
  obtain ⟨M, hM⟩ : ∃ N, ps.length = N := ⟨_, rfl⟩
  unfold rcv encR at CR0 ⊢
  simp only at CR0 HRP ⊢
  simp only [hN, hM] at CR0 hrm hfw hpr hpf ⊢
  rw [← hr] at CR0 HRP ⊢
  obtain ⟨U, hU⟩ : ∃ U, U = w.alloc (.cells #[.int .i64 kd, .int .i64 id, .int .i64 s, .int .u8 mm, .int .i64 t, .int .u8 n, .slice a N c, .bool y, .slice pa M pc] 37) := ⟨_, rfl⟩
  have HU : Hid (w.alloc (.cells #[.int .i64 kd, .int .i64 id, .int .i64 s, .int .u8 mm, .int .i64 t, .int .u8 n, .slice a N c, .bool y, .slice pa M pc] 37) = U) := hU.symm
  have HB : Hid (Below w.heap.size w U) := by rw [hU]; exact (Below.refl _ _).alloc (Nat.le_refl _) _
  have hbx : RBox U w.heap.size kd id s mm t n a N c y pa M pc := by
    rw [hU]; exact RBox.made w 37 kd id s mm t n a N c y pa M pc
  have FB : Hid (∀ u, Below U.heap.size U u → RBox u w.heap.size kd id s mm t n a N c y pa M pc) := fun u hb => hbx.past hb
  have CR : Hid (∀ u, Below U.heap.size U u → Calls Try.prog 36 #[.agg #[.int .i64 kd, .int .i64 id, .int .i64 s, .int .u8 mm, .int .i64 t, .int .u8 n, .slice a N c, .bool y, .slice pa M pc]] u fun e w' => e = .returned (.bool (goodR r)) ∧ Below u.heap.size u w') := fun u hu => CR0 u (HB.out.trans (hu.mono HB.out.size))
  have HS : Hid (∀ u, Below U.heap.size U u → DidC w u b C X) := fun u hu => DidC.stay h (HB.out.trans (hu.mono HB.out.size))
  obtain ⟨y0, y1, y2, y3, y4, y5, y6, y7, y8⟩ := FB.out U (Below.refl _ _)
  by_cases hk4 : kd = 4
  · have hb4 : (kd != 4) = false := by rw [hk4]; rfl
    cases hg : goodR r with
    | false =>
      rw [hg] at CR
      have HR : Hid (playC C r = (3, C)) := by show _ = _; rw [HRP, if_pos (.inl hg)]
      clear h hwr hrm hfw hps hpr hpf hkd hok hi hr hN hM hU hbx hk4 hg HRP CR0
      go_enter Try.func15, Try.ntmps15
      go_wp2_with (go_at_call 36; rw [HU.out]; refine (CR.out _ (Below.refl _ _)).mono ?_; rintro e u1 ⟨rfl, hb1⟩; have B1 : Hid (Below U.heap.size U u1) := hb1; clear hb1)
      go_ret
      rw [HR.out]
      exact ⟨rfl, HS.out _ B1.out⟩
    | true =>
      rw [hg] at CR
      have hps4 : partsB ps = true := by
        have := hg
        rw [hr] at this
        unfold goodR at this
        simp only [hk4, show ¬ ((4 : Int) = 1) from by omega, show ¬ ((4 : Int) = 2) from by omega, show ¬ ((4 : Int) = 3) from by omega, if_false, if_true, Bool.and_eq_true] at this
        exact this.1.1.2
      have hrk : r.kd = 4 := by rw [hr]; exact hk4
      have hrid : r.id = id := by rw [hr]
      rw [if_neg (by rintro (q | q); rw [hg] at q; cases q; exact q hk4)] at HRP
      have hlp := (parts_nodup hps4).2
      obtain ⟨pb, po, rfl⟩ : ∃ pb po, pa = some ⟨pb, po, none⟩ := by
        rcases hps.cells with e | ⟨pb, po, e, _⟩
        · rw [e] at hlp; simp at hlp
        · exact ⟨pb, po, e⟩
      obtain ⟨m, G, Y, h⟩ := h
      have FC : Hid (∀ u, Below U.heap.size U u → u.cell? ⟨b, 0, none⟩ = some (.map (some m)) ∧ (Instr.lookup 68 (.map (some m)) (.int .i64 id) false).run Try.prog u = .ok (ptrV (G id)) u) := fun u hu => ⟨((h.past HB.out).past hu).c0, ((h.past HB.out).past hu).look hi⟩
      rcases h.at_id hi with ⟨h1, h2⟩ | ⟨i, d, g, h1, h2, h3, h4, h5, h6⟩
      · rw [h1] at HRP
        have HR : Hid (playC C r = (0, layC C (saidC r))) := HRP
        have FC : Hid (∀ u, Below U.heap.size U u → u.cell? ⟨b, 0, none⟩ = some (.map (some m)) ∧ (Instr.lookup 68 (.map (some m)) (.int .i64 id) false).run Try.prog u = .ok (.pointer none) u) := fun u hu => by have := FC.out u hu; rwa [h2] at this
        have CC : Hid (∀ u, Below U.heap.size U u → Calls Try.prog 37 #[.slice (some ⟨pb, po, none⟩) M pc] u fun e w' => ∃ g cap, e = .returned (.slice (some ⟨g, 0, none⟩) M cap) ∧ M ≤ cap ∧ u.heap.size ≤ g ∧ IntsO w' g ps ∧ Below u.heap.size u w') := fun u hu => (cdclone_any pb po pc M ps u hM hpf (hps.past (HB.out.trans (hu.mono HB.out.size)))).mono fun e w' ⟨⟨a', cap, q1, q2, q3, q4⟩, q5⟩ => by
          obtain ⟨g, rfl, q6, q7⟩ := q4 (by omega)
          exact ⟨g, cap, q1, q2, q6, q7, q5⟩
        have HPM : Hid (∀ u, Below U.heap.size U u → PMapI u m C.length G) := fun u hu => ((h.past HB.out).past hu).map
        have HI : Hid (I64 id) := hi
        have HCF : Hid (C.length ≤ 1000000) := by show _ ≤ _; omega
        have HDL := DecL.said hg hrk (by rw [hr]; exact ⟨hok.n0, hok.n1⟩)
        have HEND : Hid (∀ (u w' : World) (gp cp go co : Nat), Below U.heap.size U u → IntsO u gp ps → IntsO u go ps → U.heap.size ≤ gp → gp < go → go < u.heap.size → M ≤ cp → M ≤ co → PMapI w' m (if (G id).isSome then C.length else C.length + 1) (putGI G id (some u.heap.size)) → (u.alloc (.cells #[.int .i64 0, .int .u8 0, .slice (some ⟨gp, 0, none⟩) M cp, .slice none 0 0, .slice (some ⟨go, 0, none⟩) M co, .bool y, .int .i64 t, .int .u8 n] 76)).mapTurned w' m → DidC w w' b (layC C (saidC r)) X) := fun u w' gp cp go co hb i1 i3 l1 l2 l4 r1 r3 hp ht => by
          have hb2 := HB.out.trans (hb.mono HB.out.size)
          have hsz := HB.out.size
          have ea := awaits_said r
          have eo := owes_said r
          have ey := yes_said r
          subst hr
          subst hM
          refine h.fresh (d := saidC _) HDL h1 h2 hi.2 hb2 (gp := gp) (cp := cp) (go := go) (co := co) (ac := 0) (aa := none) i1 (by rw [eo]; exact i3) (fun hn => absurd ea hn) (fun g' e => by cases e) (by omega) (by omega) (by omega) r1 (by rw [ea]; exact Nat.le_refl _) (by rw [eo]; exact r3) 76 hp ?_
          rw [ea, eo, ey]
          exact ht
        generalize layC C (saidC r) = C2 at *
        clear h hwr hrm hfw hps hpr hpf hkd hok hi hr hN hM hU hbx hk4 hg HRP CR0 h1 h2 hps4 hrk hrid hlp HDL hf
        go_enter Try.func15, Try.ntmps15
        go_wp2_with (go_at_call 36; rw [HU.out]; refine (CR.out _ (Below.refl _ _)).mono ?_; rintro e u1 ⟨rfl, hb1⟩; have B1 : Hid (Below U.heap.size U u1) := hb1; clear hb1)
        clear y0 y1 y2 y3 y4 y5 y6 y7 y8
        refine wp_region_noPanic ?_
        refine wp_region_held_drew (S := fun u => Below u1.heap.size u1 u) (by kernel_rfl) ?_ (fun hHeld => ?_)
        · exact (Below.refl _ _).drew
        refine wpAnyH_take (i := 0) (v := ?_) rfl (by kernel_rfl) (by kernel_rfl) (by kernel_rfl) (fun _ _ _ h => h) (Or.inl ⟨by rfl, ?_⟩) hHeld ?_
        rotate_left
        · intro u hSu
          (go_simp) <;> (with_reducible rfl)
        change wpAnyH _ _ _ _ _ _ _ (Act.put _ (some 13) _) _
        simp only [Act.put, List.setIfInBounds_toArray, List.set_cons_zero, List.set_cons_succ]
        refine wpAnyH_take (i := 1) (v := ?_) rfl (by kernel_rfl) (by kernel_rfl) (by kernel_rfl) (fun _ _ _ h => h) (Or.inl ⟨by rfl, ?_⟩) hHeld ?_
        rotate_left
        · intro u hSu
          (go_simp) <;> (with_reducible rfl)
        change wpAnyH _ _ _ _ _ _ _ (Act.put _ (some 14) _) _
        simp only [Act.put, List.setIfInBounds_toArray, List.set_cons_zero, List.set_cons_succ]
        refine wpAnyH_take (i := 2) (v := ?_) rfl (by kernel_rfl) (by kernel_rfl) (by kernel_rfl) (fun _ _ _ h => h) (Or.inl ⟨by rfl, ?_⟩) hHeld ?_
        rotate_left
        · intro u hSu
          (go_simp) <;> (with_reducible rfl)
        change wpAnyH _ _ _ _ _ _ _ (Act.put _ (some 15) _) _
        simp only [Act.put, List.setIfInBounds_toArray, List.set_cons_zero, List.set_cons_succ]
        refine wpAnyH_take (i := 3) (v := ?_) rfl (by kernel_rfl) (by kernel_rfl) (by kernel_rfl) (fun _ _ _ h => h) (Or.inl ⟨by rfl, ?_⟩) hHeld ?_
        rotate_left
        · intro u hSu
          obtain ⟨q0, q1⟩ := FC.out u (B1.out.trans (hSu.mono B1.out.size))
          (go_simp) <;> (with_reducible rfl)
        change wpAnyH _ _ _ _ _ _ _ (Act.put _ (some 16) _) _
        simp only [Act.put, List.setIfInBounds_toArray, List.set_cons_zero, List.set_cons_succ]
        refine wpAnyH_take (i := 4) (v := ?_) rfl (by kernel_rfl) (by kernel_rfl) (by kernel_rfl) (fun _ _ _ h => h) (Or.inl ⟨by rfl, ?_⟩) hHeld ?_
        rotate_left
        · intro u hSu
          (go_simp) <;> (with_reducible rfl)
        change wpAnyH _ _ _ _ _ _ _ (Act.put _ (some 17) _) _
        simp only [Act.put, List.setIfInBounds_toArray, List.set_cons_zero, List.set_cons_succ]
        refine wpAnyH_take (i := 5) (v := ?_) rfl (by kernel_rfl) (by kernel_rfl) (by kernel_rfl) (fun _ _ _ h => h) (Or.inl ⟨by rfl, ?_⟩) hHeld ?_
        rotate_left
        · intro u hSu
          obtain ⟨y0, y1, y2, y3, y4, y5, y6, y7, y8⟩ := FB.out u (B1.out.trans (hSu.mono B1.out.size))
          (go_simp) <;> (with_reducible rfl)
        change wpAnyH _ _ _ _ _ _ _ (Act.put _ (some 18) _) _
        simp only [Act.put, List.setIfInBounds_toArray, List.set_cons_zero, List.set_cons_succ]
        refine wpAnyH_take (i := 6) (v := ?_) rfl (by kernel_rfl) (by kernel_rfl) (by kernel_rfl) (fun _ _ _ h => h) (Or.inl ⟨by rfl, ?_⟩) hHeld ?_
        rotate_left
        · intro u hSu
          obtain ⟨q0, q1⟩ := FC.out u (B1.out.trans (hSu.mono B1.out.size))
          (go_simp) <;> (with_reducible rfl)
        change wpAnyH _ _ _ _ _ _ _ (Act.put _ (some 19) _) _
        simp only [Act.put, List.setIfInBounds_toArray, List.set_cons_zero, List.set_cons_succ]
        refine wpAnyH_take (i := 7) (v := ?_) rfl (by kernel_rfl) (by kernel_rfl) (by kernel_rfl) (fun _ _ _ h => h) (Or.inl ⟨by rfl, ?_⟩) hHeld ?_
        rotate_left
        · intro u hSu
          (go_simp) <;> (with_reducible rfl)
        change wpAnyH _ _ _ _ _ _ _ (Act.put _ (some 20) _) _
        simp only [Act.put, List.setIfInBounds_toArray, List.set_cons_zero, List.set_cons_succ]
        refine wpAnyH_done (by kernel_rfl) ?_ _
        refine NoPanic.normal ?_
        go_wp2
        obtain ⟨u2, hu2⟩ : ∃ u2, u2 = u1.drew := ⟨_, rfl⟩
        have B2 : Hid (Below U.heap.size U u2) := by show Below _ _ _; rw [hu2]; exact B1.out.drew
        rw [← hu2]
        clear hu2
        refine wp_region_noPanic ?_
        refine region_up 18 (fun u => Below u2.heap.size u2 u) (by kernel_rfl) ?_ (fun hHeld => ?_)
        · exact (Below.refl _ _).drew
        refine up_take (i := 0) (v := ?_) (by kernel_rfl) (by kernel_rfl) (by kernel_rfl) rfl (by kernel_rfl) (by kernel_rfl) (by kernel_rfl) (fun _ _ _ h => h) (Or.inl ⟨by rfl, ?_⟩) hHeld ?_
        rotate_left
        · intro u hSu
          (go_simp) <;> (with_reducible rfl)
        change wpUp _ _ _ _ _ _ _ _ (Act.put _ (some 21) _) _
        simp only [Act.put, List.setIfInBounds_toArray, List.set_cons_zero, List.set_cons_succ]
        refine up_take (i := 1) (v := ?_) (by kernel_rfl) (by kernel_rfl) (by kernel_rfl) rfl (by kernel_rfl) (by kernel_rfl) (by kernel_rfl) (fun _ _ _ h => h) (Or.inl ⟨by rfl, ?_⟩) hHeld ?_
        rotate_left
        · intro u hSu
          (go_simp) <;> (with_reducible rfl)
        change wpUp _ _ _ _ _ _ _ _ (Act.put _ (some 22) _) _
        simp only [Act.put, List.setIfInBounds_toArray, List.set_cons_zero, List.set_cons_succ]
        refine up_take (i := 2) (v := ?_) (by kernel_rfl) (by kernel_rfl) (by kernel_rfl) rfl (by kernel_rfl) (by kernel_rfl) (by kernel_rfl) (fun _ _ _ h => h) (Or.inl ⟨by rfl, ?_⟩) hHeld ?_
        rotate_left
        · intro u hSu
          (go_simp) <;> (with_reducible rfl)
        change wpUp _ _ _ _ _ _ _ _ (Act.put _ (some 23) _) _
        simp only [Act.put, List.setIfInBounds_toArray, List.set_cons_zero, List.set_cons_succ]
        refine up_take (i := 3) (v := ?_) (by kernel_rfl) (by kernel_rfl) (by kernel_rfl) rfl (by kernel_rfl) (by kernel_rfl) (by kernel_rfl) (fun _ _ _ h => h) (Or.inl ⟨by rfl, ?_⟩) hHeld ?_
        rotate_left
        · intro u hSu
          obtain ⟨q0, q1⟩ := FC.out u (B2.out.trans (hSu.mono B2.out.size))
          (go_simp) <;> (with_reducible rfl)
        change wpUp _ _ _ _ _ _ _ _ (Act.put _ (some 24) _) _
        simp only [Act.put, List.setIfInBounds_toArray, List.set_cons_zero, List.set_cons_succ]
        refine up_take (i := 4) (v := ?_) (by kernel_rfl) (by kernel_rfl) (by kernel_rfl) rfl (by kernel_rfl) (by kernel_rfl) (by kernel_rfl) (fun _ _ _ h => h) (Or.inl ⟨by rfl, ?_⟩) hHeld ?_
        rotate_left
        · intro u hSu
          (go_simp) <;> (with_reducible rfl)
        change wpUp _ _ _ _ _ _ _ _ (Act.put _ (some 25) _) _
        simp only [Act.put, List.setIfInBounds_toArray, List.set_cons_zero, List.set_cons_succ]
        refine up_take (i := 5) (v := ?_) (by kernel_rfl) (by kernel_rfl) (by kernel_rfl) rfl (by kernel_rfl) (by kernel_rfl) (by kernel_rfl) (fun _ _ _ h => h) (Or.inl ⟨by rfl, ?_⟩) hHeld ?_
        rotate_left
        · intro u hSu
          obtain ⟨y0, y1, y2, y3, y4, y5, y6, y7, y8⟩ := FB.out u (B2.out.trans (hSu.mono B2.out.size))
          (go_simp) <;> (with_reducible rfl)
        change wpUp _ _ _ _ _ _ _ _ (Act.put _ (some 26) _) _
        simp only [Act.put, List.setIfInBounds_toArray, List.set_cons_zero, List.set_cons_succ]
        refine up_take (i := 6) (v := ?_) (by kernel_rfl) (by kernel_rfl) (by kernel_rfl) rfl (by kernel_rfl) (by kernel_rfl) (by kernel_rfl) (fun _ _ _ h => h) (Or.inl ⟨by rfl, ?_⟩) hHeld ?_
        rotate_left
        · intro u hSu
          (go_simp) <;> (with_reducible rfl)
        change wpUp _ _ _ _ _ _ _ _ (Act.put _ (some 27) _) _
        simp only [Act.put, List.setIfInBounds_toArray, List.set_cons_zero, List.set_cons_succ]
        refine up_take (i := 7) (v := ?_) (by kernel_rfl) (by kernel_rfl) (by kernel_rfl) rfl (by kernel_rfl) (by kernel_rfl) (by kernel_rfl) (fun _ _ _ h => h) (Or.inl ⟨by rfl, ?_⟩) hHeld ?_
        rotate_left
        · intro u hSu
          obtain ⟨y0, y1, y2, y3, y4, y5, y6, y7, y8⟩ := FB.out u (B2.out.trans (hSu.mono B2.out.size))
          (go_simp) <;> (with_reducible rfl)
        change wpUp _ _ _ _ _ _ _ _ (Act.put _ (some 28) _) _
        simp only [Act.put, List.setIfInBounds_toArray, List.set_cons_zero, List.set_cons_succ]
        refine up_take (i := 9) (v := ?_) (by kernel_rfl) (by kernel_rfl) (by kernel_rfl) rfl (by kernel_rfl) (by kernel_rfl) (by kernel_rfl) (fun _ _ _ h => h) (Or.inl ⟨by rfl, ?_⟩) hHeld ?_
        rotate_left
        · intro u hSu
          (go_simp) <;> (with_reducible rfl)
        change wpUp _ _ _ _ _ _ _ _ (Act.put _ (some 30) _) _
        simp only [Act.put, List.setIfInBounds_toArray, List.set_cons_zero, List.set_cons_succ]
        refine up_take (i := 10) (v := ?_) (by kernel_rfl) (by kernel_rfl) (by kernel_rfl) rfl (by kernel_rfl) (by kernel_rfl) (by kernel_rfl) (fun _ _ _ h => h) (Or.inl ⟨by rfl, ?_⟩) hHeld ?_
        rotate_left
        · intro u hSu
          obtain ⟨y0, y1, y2, y3, y4, y5, y6, y7, y8⟩ := FB.out u (B2.out.trans (hSu.mono B2.out.size))
          (go_simp) <;> (with_reducible rfl)
        change wpUp _ _ _ _ _ _ _ _ (Act.put _ (some 31) _) _
        simp only [Act.put, List.setIfInBounds_toArray, List.set_cons_zero, List.set_cons_succ]
        refine up_take (i := 12) (v := ?_) (by kernel_rfl) (by kernel_rfl) (by kernel_rfl) rfl (by kernel_rfl) (by kernel_rfl) (by kernel_rfl) (fun _ _ _ h => h) (Or.inl ⟨by rfl, ?_⟩) hHeld ?_
        rotate_left
        · intro u hSu
          (go_simp) <;> (with_reducible rfl)
        change wpUp _ _ _ _ _ _ _ _ (Act.put _ (some 33) _) _
        simp only [Act.put, List.setIfInBounds_toArray, List.set_cons_zero, List.set_cons_succ]
        refine up_take (i := 13) (v := ?_) (by kernel_rfl) (by kernel_rfl) (by kernel_rfl) rfl (by kernel_rfl) (by kernel_rfl) (by kernel_rfl) (fun _ _ _ h => h) (Or.inl ⟨by rfl, ?_⟩) hHeld ?_
        rotate_left
        · intro u hSu
          obtain ⟨y0, y1, y2, y3, y4, y5, y6, y7, y8⟩ := FB.out u (B2.out.trans (hSu.mono B2.out.size))
          (go_simp) <;> (with_reducible rfl)
        change wpUp _ _ _ _ _ _ _ _ (Act.put _ (some 34) _) _
        simp only [Act.put, List.setIfInBounds_toArray, List.set_cons_zero, List.set_cons_succ]
        refine up_take (i := 14) (v := ?_) (by kernel_rfl) (by kernel_rfl) (by kernel_rfl) rfl (by kernel_rfl) (by kernel_rfl) (by kernel_rfl) (fun _ _ _ h => h) (Or.inl ⟨by rfl, ?_⟩) hHeld ?_
        rotate_left
        · intro u hSu
          (go_simp) <;> (with_reducible rfl)
        change wpUp _ _ _ _ _ _ _ _ (Act.put _ (some 35) _) _
        simp only [Act.put, List.setIfInBounds_toArray, List.set_cons_zero, List.set_cons_succ]
        refine up_take (i := 15) (v := ?_) (by kernel_rfl) (by kernel_rfl) (by kernel_rfl) rfl (by kernel_rfl) (by kernel_rfl) (by kernel_rfl) (fun _ _ _ h => h) (Or.inl ⟨by rfl, ?_⟩) hHeld ?_
        rotate_left
        · intro u hSu
          obtain ⟨y0, y1, y2, y3, y4, y5, y6, y7, y8⟩ := FB.out u (B2.out.trans (hSu.mono B2.out.size))
          (go_simp) <;> (with_reducible rfl)
        change wpUp _ _ _ _ _ _ _ _ (Act.put _ (some 36) _) _
        simp only [Act.put, List.setIfInBounds_toArray, List.set_cons_zero, List.set_cons_succ]
        refine up_ready (rs := [8]) (by kernel_rfl) (by simp) ?_
        refine AllUp.cons rfl (fun K hK => ?_) AllUp.nil
        go_simp
        go_at_call 37
        refine (CC.out _ (B2.out.trans (hHeld.mono B2.out.size))).mono ?_
        rintro e u3 ⟨gp, cp, rfl, n3, l3, i3, hb3⟩
        have B3 : Hid (Below u2.heap.size u2 u3) := hHeld.trans (hb3.mono hHeld.size); have I3 : Hid (IntsO u3 gp ps ∧ u2.heap.size ≤ gp ∧ M ≤ cp) := ⟨i3, Nat.le_trans hHeld.size l3, n3⟩; clear hb3 i3 l3 n3
        refine hK.out _ _ ?_ (fun hHeld2 => ?_)
        · exact B3.out
        clear hK K hHeld
        have hHeld := hHeld2
        clear hHeld2
        refine up_ready (rs := [11]) (by kernel_rfl) (by simp) ?_
        refine AllUp.cons rfl (fun K hK => ?_) AllUp.nil
        go_simp
        go_at_call 37
        refine (CC.out _ (B2.out.trans (hHeld.mono B2.out.size))).mono ?_
        rintro e u5 ⟨go, co, rfl, n5, l5, i5, hb5⟩
        have B5 : Hid (Below u2.heap.size u2 u5) := hHeld.trans (hb5.mono hHeld.size); have I5 : Hid (IntsO u5 gp ps ∧ IntsO u5 go ps ∧ gp < go ∧ M ≤ co) := ⟨I3.out.1.past hb5, i5, Nat.lt_of_lt_of_le I3.out.1.lt l5, n5⟩; clear hb5 i5 l5 n5
        refine hK.out _ _ ?_ (fun hHeld2 => ?_)
        · exact B5.out
        clear hK K hHeld
        have hHeld := hHeld2
        clear hHeld2
        refine up_take (i := 16) (v := ?_) (by kernel_rfl) (by kernel_rfl) (by kernel_rfl) rfl (by kernel_rfl) (by kernel_rfl) (by kernel_rfl) (fun _ _ _ h => h) (Or.inl ⟨by rfl, ?_⟩) hHeld ?_
        rotate_left
        · intro u hSu
          (go_simp) <;> (with_reducible rfl)
        change wpUp _ _ _ _ _ _ _ _ (Act.put _ (some 37) _) _
        simp only [Act.put, List.setIfInBounds_toArray, List.set_cons_zero, List.set_cons_succ]
        refine up_ready (rs := [17]) (by kernel_rfl) (by simp) ?_
        refine AllUp.cons rfl (fun K hK => ?_) AllUp.nil
        go_simp
        refine hK.out _ _ ?_ (fun hHeld2 => ?_)
        · exact hHeld.alloc hHeld.size _
        clear hK K hHeld
        have hHeld := hHeld2
        clear hHeld2
        refine up_ready (rs := [18]) (by kernel_rfl) (by simp) ?_
        refine AllUp.that rfl (fun K hK => ?_) AllUp.nil
        refine step_store_ptrI rfl _ _ _ 68 rfl 73 Try.underlying68 m C.length G rfl (HPM.out _ (B2.out.trans (hHeld.mono B2.out.size))) HCF.out id rfl HI.out u5.heap.size rfl ?_; intro w7 hp7 ht7; have H7 : Hid (DidC w w7 b C2 X) := HEND.out u5 w7 gp cp go co (B2.out.trans (B5.out.mono B2.out.size)) I5.out.1 I5.out.2.1 (Nat.le_trans B2.out.size I3.out.2.1) I5.out.2.2.1 I5.out.2.1.lt I3.out.2.2 I5.out.2.2.2 hp7 ht7; clear hp7 ht7; refine hK.out _ _ ?_; clear hK K hHeld
        refine up_done (by kernel_rfl) ?_
        refine NoPanic.normal ?_
        go_wp2
        go_ret
        rw [HR.out]
        exact ⟨rfl, H7.out⟩
      · rw [h1] at HRP
        have HR : Hid (playC C r = (5, C)) := HRP
        have FC : Hid (∀ u, Below U.heap.size U u → u.cell? ⟨b, 0, none⟩ = some (.map (some m)) ∧ (Instr.lookup 68 (.map (some m)) (.int .i64 id) false).run Try.prog u = .ok (.pointer (some ⟨g, 0, none⟩)) u) := fun u hu => by have := FC.out u hu; rwa [h5] at this
        clear h hwr hrm hfw hps hpr hpf hkd hok hi hr hN hM hU hbx hk4 hg HRP CR0 h1 h2 h3 h4 h5 h6 hps4 hrk hrid hlp
        go_enter Try.func15, Try.ntmps15
        go_wp2_with (go_at_call 36; rw [HU.out]; refine (CR.out _ (Below.refl _ _)).mono ?_; rintro e u1 ⟨rfl, hb1⟩; have B1 : Hid (Below U.heap.size U u1) := hb1; clear hb1)
        clear y0 y1 y2 y3 y4 y5 y6 y7 y8
        refine wp_region_noPanic ?_
        refine wp_region_held_drew (S := fun u => Below u1.heap.size u1 u) (by kernel_rfl) ?_ (fun hHeld => ?_)
        · exact (Below.refl _ _).drew
        refine wpAnyH_take (i := 0) (v := ?_) rfl (by kernel_rfl) (by kernel_rfl) (by kernel_rfl) (fun _ _ _ h => h) (Or.inl ⟨by rfl, ?_⟩) hHeld ?_
        rotate_left
        · intro u hSu
          (go_simp) <;> (with_reducible rfl)
        change wpAnyH _ _ _ _ _ _ _ (Act.put _ (some 13) _) _
        simp only [Act.put, List.setIfInBounds_toArray, List.set_cons_zero, List.set_cons_succ]
        refine wpAnyH_take (i := 1) (v := ?_) rfl (by kernel_rfl) (by kernel_rfl) (by kernel_rfl) (fun _ _ _ h => h) (Or.inl ⟨by rfl, ?_⟩) hHeld ?_
        rotate_left
        · intro u hSu
          (go_simp) <;> (with_reducible rfl)
        change wpAnyH _ _ _ _ _ _ _ (Act.put _ (some 14) _) _
        simp only [Act.put, List.setIfInBounds_toArray, List.set_cons_zero, List.set_cons_succ]
        refine wpAnyH_take (i := 2) (v := ?_) rfl (by kernel_rfl) (by kernel_rfl) (by kernel_rfl) (fun _ _ _ h => h) (Or.inl ⟨by rfl, ?_⟩) hHeld ?_
        rotate_left
        · intro u hSu
          (go_simp) <;> (with_reducible rfl)
        change wpAnyH _ _ _ _ _ _ _ (Act.put _ (some 15) _) _
        simp only [Act.put, List.setIfInBounds_toArray, List.set_cons_zero, List.set_cons_succ]
        refine wpAnyH_take (i := 3) (v := ?_) rfl (by kernel_rfl) (by kernel_rfl) (by kernel_rfl) (fun _ _ _ h => h) (Or.inl ⟨by rfl, ?_⟩) hHeld ?_
        rotate_left
        · intro u hSu
          obtain ⟨q0, q1⟩ := FC.out u (B1.out.trans (hSu.mono B1.out.size))
          (go_simp) <;> (with_reducible rfl)
        change wpAnyH _ _ _ _ _ _ _ (Act.put _ (some 16) _) _
        simp only [Act.put, List.setIfInBounds_toArray, List.set_cons_zero, List.set_cons_succ]
        refine wpAnyH_take (i := 4) (v := ?_) rfl (by kernel_rfl) (by kernel_rfl) (by kernel_rfl) (fun _ _ _ h => h) (Or.inl ⟨by rfl, ?_⟩) hHeld ?_
        rotate_left
        · intro u hSu
          (go_simp) <;> (with_reducible rfl)
        change wpAnyH _ _ _ _ _ _ _ (Act.put _ (some 17) _) _
        simp only [Act.put, List.setIfInBounds_toArray, List.set_cons_zero, List.set_cons_succ]
        refine wpAnyH_take (i := 5) (v := ?_) rfl (by kernel_rfl) (by kernel_rfl) (by kernel_rfl) (fun _ _ _ h => h) (Or.inl ⟨by rfl, ?_⟩) hHeld ?_
        rotate_left
        · intro u hSu
          obtain ⟨y0, y1, y2, y3, y4, y5, y6, y7, y8⟩ := FB.out u (B1.out.trans (hSu.mono B1.out.size))
          (go_simp) <;> (with_reducible rfl)
        change wpAnyH _ _ _ _ _ _ _ (Act.put _ (some 18) _) _
        simp only [Act.put, List.setIfInBounds_toArray, List.set_cons_zero, List.set_cons_succ]
        refine wpAnyH_take (i := 6) (v := ?_) rfl (by kernel_rfl) (by kernel_rfl) (by kernel_rfl) (fun _ _ _ h => h) (Or.inl ⟨by rfl, ?_⟩) hHeld ?_
        rotate_left
        · intro u hSu
          obtain ⟨q0, q1⟩ := FC.out u (B1.out.trans (hSu.mono B1.out.size))
          (go_simp) <;> (with_reducible rfl)
        change wpAnyH _ _ _ _ _ _ _ (Act.put _ (some 19) _) _
        simp only [Act.put, List.setIfInBounds_toArray, List.set_cons_zero, List.set_cons_succ]
        refine wpAnyH_take (i := 7) (v := ?_) rfl (by kernel_rfl) (by kernel_rfl) (by kernel_rfl) (fun _ _ _ h => h) (Or.inl ⟨by rfl, ?_⟩) hHeld ?_
        rotate_left
        · intro u hSu
          (go_simp) <;> (with_reducible rfl)
        change wpAnyH _ _ _ _ _ _ _ (Act.put _ (some 20) _) _
        simp only [Act.put, List.setIfInBounds_toArray, List.set_cons_zero, List.set_cons_succ]
        refine wpAnyH_done (by kernel_rfl) ?_ _
        refine NoPanic.normal ?_
        go_wp2
        go_ret
        rw [HR.out]
        exact ⟨rfl, HS.out _ B1.out.drew⟩
  · have hb4 : (kd != 4) = true := bne_iff_ne.2 hk4
    have HR : Hid (playC C r = (3, C)) := by show _ = _; rw [HRP, if_pos (.inr hk4)]
    clear h hwr hrm hfw hps hpr hpf hkd hok hi hr hN hM hU hbx hk4 HRP CR0 CR
    go_enter Try.func15, Try.ntmps15
    go_wp2
    go_ret
    rw [HR.out]
    exact ⟨rfl, by rw [HU.out]; exact HS.out _ (Below.refl _ _)⟩
end Go.Proofs.Ytcppihpehipelaa
