/-
  The document's own table of decisions: Vote.
-/
import Derived.Test.YtcppihpehipelaaRefCo3
import Derived.Test.YtcppihpehipelaaAu61
namespace Go.Proofs.Ytcppihpehipelaa
open Go.RowKit
set_option linter.unusedVariables false
set_option linter.unusedSimpArgs false

theorem CrdE.free {w u : World} {q : Nat} {M : List OneM} {F : Foot} {g c i : Nat} {x : OneM} (h : CrdE w u q M F g c i x) (j : Nat) : u.frozen? ⟨g, j, none⟩ = false := by
  obtain ⟨O, ho⟩ := h.tbl
  rcases ho.row with ⟨e, _⟩ | ⟨g', e1, e2, e3, e4, e5⟩
  · have := h.at_; rw [e] at this; simp at this
  · cases e1; exact e5.free _
theorem CrdE.there {w u : World} {q : Nat} {M : List OneM} {F : Foot} {g c i : Nat} {x : OneM} (h : CrdE w u q M F g c i x) : u.there g (i * 9 + 6) 2 := by
  have hc := h.cells.one.cells
  intro j hj
  have hj' : j = 0 ∨ j = 1 := by omega
  rcases hj' with rfl | rfl
  · exact ⟨by rw [Nat.add_zero, hc.2.2.2.2.2.2.1]; rfl, h.free _⟩
  · exact ⟨by rw [show i * 9 + 6 + 1 = i * 9 + 7 by omega, hc.2.2.2.2.2.2.2.1]; rfl, h.free _⟩
/-- What the walk of Vote reads of it, in every world above. -/
structure ReadE (v : World) (q : Nat) (N g c i gv : Nat) (x : OneM) : Prop where
  list : v.cell? ⟨q, 0, none⟩ = some (.slice (some ⟨g, 0, none⟩) N c)
  st : v.cell? ⟨g, i * 9 + 1, none⟩ = some (.int .i64 x.d.st)
  sn : v.cell? ⟨g, i * 9 + 2, none⟩ = some (.int .u8 x.d.sn)
  parts : v.cell? ⟨g, i * 9 + 3, none⟩ = some (.slice x.pa x.d.parts.length x.pc)
  votes : v.cell? ⟨g, i * 9 + 4, none⟩ = some (.slice (some ⟨gv, 0, none⟩) x.d.votes.length x.vc)
  how : v.cell? ⟨g, i * 9 + 5, none⟩ = some (.int .i64 x.d.how)
  at_ : v.cell? ⟨g, i * 9 + 6, none⟩ = some (.int .i64 x.d.at_)
  an : v.cell? ⟨g, i * 9 + 7, none⟩ = some (.int .u8 x.d.an)
  vote : ∀ (j : Nat) (z : Bool), x.d.votes[j]? = some z → v.cell? ⟨gv, j, none⟩ = some (.bool z)
  free : ∀ j, v.frozen? ⟨g, j, none⟩ = false
  vfree : ∀ j, v.frozen? ⟨gv, j, none⟩ = false
theorem CrdE.reads {w u : World} {q : Nat} {M : List OneM} {F : Foot} {g c i gv N : Nat} {x : OneM} (h : CrdE w u q M F g c i x) (hN : M.length = N) (hv : x.va = some ⟨gv, 0, none⟩) : ReadE u q N g c i gv x := by
  obtain ⟨K1, K2, K3⟩ := h.cells
  rw [hN] at K1
  obtain ⟨_, y1, y2, y3, y4, y5, y6, y7, _⟩ := K3.cells
  rw [hv] at y4
  obtain ⟨gv', a1, a2, _⟩ := h.votes
  rw [hv] at a1
  cases a1
  exact ⟨K1, y1, y2, y3, y4, y5, y6, y7, fun j z hz => a2.at_ hz, h.free, a2.free⟩
set_option maxHeartbeats 16000000 in
set_option maxRecDepth 8000 in
theorem rcvote_any {q : Nat} {M : List OneM} {F : Foot} (id p : Int) (y : Bool) (t n : Int) (w : World) (h : CrdO w q M F) (hf : M.length ≤ 1000000) (hps : ∀ x ∈ M, x.d.parts.length ≤ 1000 ∧ x.d.votes.length = x.d.parts.length) :
    Calls Try.prog 21 #[.pointer (some ⟨q, 0, none⟩), .int .i64 id, .int .i64 p, .bool y, .agg #[.int .i64 t, .int .u8 n]] w fun e w' => e = .returned (.int .i64 (voteC (decs M) id p y t n).1) ∧ DidO w w' q (voteC (decs M) id p y t n).2 F := by
  obtain ⟨W, hW⟩ : ∃ u, u = w.alloc (.cells #[.int .i64 t, .int .u8 n] 28) := ⟨_, rfl⟩
  have HW : Hid (w.alloc (.cells #[.int .i64 t, .int .u8 n] 28) = W) := hW.symm
  have HBW : Hid (Below w.heap.size w W) := by rw [hW]; exact (Below.refl _ _).alloc (Nat.le_refl _) _
  have HWL : Hid (w.heap.size < W.heap.size) := by show _ < _; rw [hW, World.size_alloc]; omega
  have FST : Hid (∀ u, Below W.heap.size W u → u.cell? ⟨w.heap.size, 0, none⟩ = some (.int .i64 t) ∧ u.cell? ⟨w.heap.size, 1, none⟩ = some (.int .u8 n)) := fun u hu => by
    have e0 : W.cell? ⟨w.heap.size, 0, none⟩ = some (.int .i64 t) := by rw [hW, World.cell?_alloc_new]; rfl
    have e1 : W.cell? ⟨w.heap.size, 1, none⟩ = some (.int .u8 n) := by rw [hW, World.cell?_alloc_new]; rfl
    exact ⟨(hu.cell (p := ⟨w.heap.size, 0, none⟩) (cell_lt e0)).trans e0, (hu.cell (p := ⟨w.heap.size, 1, none⟩) (cell_lt e1)).trans e1⟩
  have HS : Hid (∀ u, Below W.heap.size W u → DidO w u q (decs M) F) := fun u hu => DidO.stay h (HBW.out.trans (hu.mono HBW.out.size))
  obtain ⟨N, hN⟩ : ∃ n, M.length = n := ⟨_, rfl⟩
  have CA : Hid (Calls Try.prog 51 #[.pointer (some ⟨q, 0, none⟩), .int .i64 id] W fun e w' => e = .returned (.int .i64 (atC (decs M) id)) ∧ w' = W) := rcat_any id W (h.view.past HBW.out) hf
  rcases atC_ways M id with ⟨h1, h2⟩ | ⟨i, x, h1, h2, h3, h4⟩
  · have HR : Hid (voteC (decs M) id p y t n = (4, decs M)) := by show _ = _; unfold voteC; rw [h2]
    rw [h1] at CA
    clear h h1 h2 hps hW
    go_enter Try.func21, Try.ntmps21
    go_wp2_with (go_at_call 51; rw [HW.out]; refine CA.out.mono ?_; rintro e w1 ⟨rfl, hw⟩; obtain rfl := hw.symm; clear hw)
    go_ret
    rw [HR.out]
    exact ⟨rfl, HS.out _ (Below.refl _ _)⟩
  · obtain ⟨g, c, E⟩ := CrdE.start h h3
    have E := E.past HBW.out
    obtain ⟨gv, hva, _, hset⟩ := E.votes
    have hm := hps x (List.mem_of_getElem? h3)
    have hpl := hm.1
    have hvl := hm.2
    have hpt := E.cells.one.parts
    have hpr := E.cells.one.pr
    have hvr := E.cells.one.vr
    have hids := h.ids
    have hgv : gv < w.heap.size := by
      obtain ⟨g', c', E'⟩ := CrdE.start h h3
      obtain ⟨gv', b1, b2, _⟩ := E'.votes
      rw [hva] at b1
      cases b1
      exact b2.lt
    have HGW : Hid (gv < w.heap.size) := hgv
    have HGV : Hid (gv < W.heap.size) := Nat.lt_of_lt_of_le hgv HBW.out.size
    have hsame : putC (decs M) x.d = decs M := putC_same h.ids (show (decs M)[i]? = some x.d by unfold decs; rw [List.getElem?_map, h3]; rfl)
    have HR0 : voteC (decs M) id p y t n = ((voteD x.d p y t n).1, putC (decs M) (voteD x.d p y t n).2) := by unfold voteC; rw [h2]
    have HSE : Hid (∀ r, voteD x.d p y t n = (r, x.d) → Hid (voteC (decs M) id p y t n = (r, decs M))) := fun r e => by show _ = _; rw [HR0, e]; simp only [hsame]
    have hi0 : (0 : Int) ≤ (i : Int) := by omega
    have hiN : (i : Int) < (N : Int) := by omega
    have d0 : decide ((i : Int) < 0) = false := decide_eq_false (by omega)
    have CP : Hid (∀ u, Below W.heap.size W u → Calls Try.prog 53 #[.slice x.pa x.d.parts.length x.pc, .int .i64 p] u fun e w' => e = .returned (.int .i64 (placeC x.d.parts p)) ∧ w' = u) := fun u hu => rcplace_any x.pa _ x.pc x.d.parts p u rfl hpr (by omega) (hpt.past hu)
    have CG : Hid (∀ u, Calls Try.prog 49 #[.agg #[.int .i64 t, .int .u8 n]] u fun e w' => e = .returned (.bool (decide (okS t))) ∧ Below u.heap.size u w') := fun u => rgood6_any t n u
    have CC : Hid (∀ u, Calls Try.prog 34 #[.agg #[.int .i64 t, .int .u8 n], .agg #[.int .i64 x.d.st, .int .u8 x.d.sn]] u fun e w' => e = .returned (.int .i64 (cmpS t n x.d.st x.d.sn)) ∧ Below u.heap.size u w') := fun u => rcmp6_any t n x.d.st x.d.sn u
    have EE : Hid (∀ u, Below W.heap.size W u → CrdE w u q M F g c i x) := fun u hu => E.past hu
    have FC0 : Hid (∀ u, Below W.heap.size W u → ReadE u q N g c i gv x) := fun u hu => (E.past hu).reads hN hva
    obtain ⟨K1, y1, y2, y3, y4, y5, -, -, -, -, -⟩ := FC0.out W (Below.refl _ _)
    rw [h1] at CA
    by_cases hp : hasP x.d.parts p = false
    · have HR := HSE.out 4 (by unfold voteD; rw [if_pos hp])
      rw [placeC_no hp] at CP
      generalize x.d.parts.length = P at *
      clear h h1 h2 h3 h4 hps E EE FC0 hm hpl hvl hpt hpr hvr hsame HR0 HSE hp y1 y2 y4 y5 CG CC FST hset hva hids hW
      go_enter Try.func21, Try.ntmps21
      go_wp2_with (first
        | (go_at_call 51; rw [HW.out]; refine CA.out.mono ?_; rintro e w1 ⟨rfl, hw⟩; obtain rfl := hw.symm; clear hw)
        | (go_at_call 53; refine (CP.out _ (Below.refl _ _)).mono ?_; rintro e w2 ⟨rfl, hw⟩; obtain rfl := hw.symm; clear hw))
      go_ret
      rw [HR.out]
      exact ⟨rfl, HS.out _ (Below.refl _ _)⟩
    · have hp : hasP x.d.parts p = true := by simpa using hp
      obtain ⟨e1, e2⟩ := placeC_at hp
      rw [e1] at CP
      have hvd : voteD x.d p y t n = if y = true ∧ (¬ okS t ∨ cmpS t n x.d.st x.d.sn ≤ 0) then (1, x.d) else if x.d.how ≠ 0 ∨ x.d.votes.getD (spotC x.d.parts p) false = true then (0, x.d) else if y = false then (0, noD x.d) else (0, yesD x.d (spotC x.d.parts p) t n) := by
        unfold voteD; rw [if_neg (by rw [hp]; simp)]
      obtain ⟨k, hk⟩ : ∃ k, k = spotC x.d.parts p := ⟨_, rfl⟩
      rw [← hk] at CP e2 hvd
      have dk : decide ((k : Int) < 0) = false := decide_eq_false (by omega)
      have hk0 : (0 : Int) ≤ (k : Int) := by omega
      obtain ⟨z, hz⟩ : ∃ z, x.d.votes[k]? = some z := ⟨_, List.getElem?_eq_getElem (by omega)⟩
      have hgz : x.d.votes.getD k false = z := by simp [List.getD, hz]
      rw [hgz] at hvd
      have HEV : Hid (∀ u, Below W.heap.size W u → CrdE w (u.setCell ⟨gv, k, none⟩ (.bool true)) q M F g c i { x with d := { x.d with votes := x.d.votes.set k true } }) := fun u hu => by
        obtain ⟨gv', b1, _, b3⟩ := (E.past hu).votes
        rw [hva] at b1
        cases b1
        exact b3 k (by omega)
      have FC : Hid (∀ u, Below W.heap.size W u → u.cell? ⟨g, i * 9 + 1, none⟩ = some (.int .i64 x.d.st) ∧ u.cell? ⟨g, i * 9 + 2, none⟩ = some (.int .u8 x.d.sn) ∧ u.cell? ⟨g, i * 9 + 3, none⟩ = some (.slice x.pa x.d.parts.length x.pc) ∧ u.cell? ⟨g, i * 9 + 4, none⟩ = some (.slice (some ⟨gv, 0, none⟩) x.d.votes.length x.vc) ∧ u.cell? ⟨g, i * 9 + 5, none⟩ = some (.int .i64 x.d.how) ∧ u.cell? ⟨gv, k, none⟩ = some (.bool z) ∧ True) := fun u hu => by
        have r := FC0.out u hu
        exact ⟨r.st, r.sn, r.parts, r.votes, r.how, r.vote k z hz, trivial⟩
      have FF : Hid (∀ u, Below W.heap.size W u → u.frozen? ⟨g, i * 9 + 5, none⟩ = false ∧ True ∧ u.frozen? ⟨gv, k, none⟩ = false) := fun u hu => by
        have r := FC0.out u hu
        exact ⟨r.free _, trivial, r.vfree _⟩
      obtain ⟨V, hV⟩ : ∃ V, V = x.d.votes.length := ⟨_, rfl⟩
      have hkV : (k : Int) < (V : Int) := by omega
      rw [← hV] at FC
      by_cases hbad : y = true ∧ (¬ okS t ∨ cmpS t n x.d.st x.d.sn ≤ 0)
      · have HR := HSE.out 1 (by rw [hvd, if_pos hbad])
        obtain ⟨rfl, hbad⟩ := hbad
        by_cases hok : okS t
        · have CG : Hid (∀ u, Calls Try.prog 49 #[.agg #[.int .i64 t, .int .u8 n]] u fun e w' => e = .returned (.bool true) ∧ Below u.heap.size u w') := fun u => by have := CG.out u; rwa [decide_eq_true hok] at this
          have hle : cmpS t n x.d.st x.d.sn ≤ 0 := hbad.elim (fun e => absurd hok e) (fun e => e)
          obtain ⟨xc, hx⟩ : ∃ a, a = cmpS t n x.d.st x.d.sn := ⟨_, rfl⟩
          rw [← hx] at CC hle
          have dx : decide (xc ≤ 0) = true := decide_eq_true hle
          generalize x.d.parts.length = P at *
          generalize x.d.how = hw at *
          generalize x.d.st = st at *
          generalize x.d.sn = sn at *
          clear h h1 h2 h3 h4 hps E EE FC0 hm hpl hvl hpt hpr hvr hsame HR0 HSE hp y1 y2 y4 y5 hset hva hids hW e1 e2 hk hz hgz hvd hV hbad hok hle hx HEV FF
          go_enter Try.func21, Try.ntmps21
          go_wp2_with (first
            | (go_at_call 51; rw [HW.out]; refine CA.out.mono ?_; rintro e w1 ⟨rfl, hw⟩; obtain rfl := hw.symm; clear hw)
            | (go_at_call 53; refine (CP.out _ (Below.refl _ _)).mono ?_; rintro e w2 ⟨rfl, hw⟩; obtain rfl := hw.symm; clear hw))
          refine wp_region_noPanic ?_
          refine wp_region_held_drew (S := fun u => Below W.heap.size W u) (by kernel_rfl) ?_ (fun hHeld => ?_)
          · exact (Below.refl _ _).drew
          refine wpAnyH_take (i := 0) (v := ?_) rfl (by kernel_rfl) (by kernel_rfl) (by kernel_rfl) (fun _ _ _ h => h) (Or.inl ⟨by rfl, ?_⟩) hHeld ?_
          rotate_left
          · intro u hSu
            (go_simp) <;> (with_reducible rfl)
          change wpAnyH _ _ _ _ _ _ _ (Act.put _ (some 39) _) _
          simp only [Act.put, List.setIfInBounds_toArray, List.set_cons_zero, List.set_cons_succ]
          refine wpAnyH_take (i := 1) (v := ?_) rfl (by kernel_rfl) (by kernel_rfl) (by kernel_rfl) (fun _ _ _ h => h) (Or.inl ⟨by rfl, ?_⟩) hHeld ?_
          rotate_left
          · intro u hSu
            (go_simp) <;> (with_reducible rfl)
          change wpAnyH _ _ _ _ _ _ _ (Act.put _ (some 40) _) _
          simp only [Act.put, List.setIfInBounds_toArray, List.set_cons_zero, List.set_cons_succ]
          refine wpAnyH_take (i := 2) (v := ?_) rfl (by kernel_rfl) (by kernel_rfl) (by kernel_rfl) (fun _ _ _ h => h) (Or.inl ⟨by rfl, ?_⟩) hHeld ?_
          rotate_left
          · intro u hSu
            obtain ⟨s0, s1⟩ := FST.out u hSu
            (go_simp) <;> (with_reducible rfl)
          change wpAnyH _ _ _ _ _ _ _ (Act.put _ (some 41) _) _
          simp only [Act.put, List.setIfInBounds_toArray, List.set_cons_zero, List.set_cons_succ]
          refine wpAnyH_ready (rs := [3]) (by kernel_rfl) (by simp) ?_
          refine AllReadyH.cons rfl (fun K hK => ?_) AllReadyH.nil
          go_simp
          go_at_call 49
          refine (CG.out _).mono ?_
          rintro e u1 ⟨rfl, hb1⟩
          have B1 : Hid (Below W.heap.size W u1) := hHeld.trans (hb1.mono hHeld.size); clear hb1
          refine hK.out _ _ ?_ (fun hHeld2 => ?_)
          · exact B1.out
          clear hK K hHeld
          have hHeld := hHeld2
          clear hHeld2
          refine wpAnyH_take (i := 4) (v := ?_) rfl (by kernel_rfl) (by kernel_rfl) (by kernel_rfl) (fun _ _ _ h => h) (Or.inl ⟨by rfl, ?_⟩) hHeld ?_
          rotate_left
          · intro u hSu
            (go_simp) <;> (with_reducible rfl)
          change wpAnyH _ _ _ _ _ _ _ (Act.put _ (some 43) _) _
          simp only [Act.put, List.setIfInBounds_toArray, List.set_cons_zero, List.set_cons_succ]
          refine wpAnyH_take (i := 5) (v := ?_) rfl (by kernel_rfl) (by kernel_rfl) (by kernel_rfl) (fun _ _ _ h => h) (Or.inl ⟨by rfl, ?_⟩) hHeld ?_
          rotate_left
          · intro u hSu
            (go_simp) <;> (with_reducible rfl)
          change wpAnyH _ _ _ _ _ _ _ (Act.put _ (some 44) _) _
          simp only [Act.put, List.setIfInBounds_toArray, List.set_cons_zero, List.set_cons_succ]
          refine wpAnyH_take (i := 6) (v := ?_) rfl (by kernel_rfl) (by kernel_rfl) (by kernel_rfl) (fun _ _ _ h => h) (Or.inl ⟨by rfl, ?_⟩) hHeld ?_
          rotate_left
          · intro u hSu
            obtain ⟨s0, s1⟩ := FST.out u hSu
            (go_simp) <;> (with_reducible rfl)
          change wpAnyH _ _ _ _ _ _ _ (Act.put _ (some 45) _) _
          simp only [Act.put, List.setIfInBounds_toArray, List.set_cons_zero, List.set_cons_succ]
          refine wpAnyH_take (i := 7) (v := ?_) rfl (by kernel_rfl) (by kernel_rfl) (by kernel_rfl) (fun _ _ _ h => h) (Or.inl ⟨by rfl, ?_⟩) hHeld ?_
          rotate_left
          · intro u hSu
            (go_simp) <;> (with_reducible rfl)
          change wpAnyH _ _ _ _ _ _ _ (Act.put _ (some 46) _) _
          simp only [Act.put, List.setIfInBounds_toArray, List.set_cons_zero, List.set_cons_succ]
          refine wpAnyH_take (i := 8) (v := ?_) rfl (by kernel_rfl) (by kernel_rfl) (by kernel_rfl) (fun _ _ _ h => h) (Or.inl ⟨by rfl, ?_⟩) hHeld ?_
          rotate_left
          · intro u hSu
            (go_simp) <;> (with_reducible rfl)
          change wpAnyH _ _ _ _ _ _ _ (Act.put _ (some 47) _) _
          simp only [Act.put, List.setIfInBounds_toArray, List.set_cons_zero, List.set_cons_succ]
          refine wpAnyH_take (i := 9) (v := ?_) rfl (by kernel_rfl) (by kernel_rfl) (by kernel_rfl) (fun _ _ _ h => h) (Or.inl ⟨by rfl, ?_⟩) hHeld ?_
          rotate_left
          · intro u hSu
            (go_simp) <;> (with_reducible rfl)
          change wpAnyH _ _ _ _ _ _ _ (Act.put _ (some 48) _) _
          simp only [Act.put, List.setIfInBounds_toArray, List.set_cons_zero, List.set_cons_succ]
          refine wpAnyH_take (i := 10) (v := ?_) rfl (by kernel_rfl) (by kernel_rfl) (by kernel_rfl) (fun _ _ _ h => h) (Or.inl ⟨by rfl, ?_⟩) hHeld ?_
          rotate_left
          · intro u hSu
            obtain ⟨z0, z1, -⟩ := FC.out u hSu
            (go_simp) <;> (with_reducible rfl)
          change wpAnyH _ _ _ _ _ _ _ (Act.put _ (some 49) _) _
          simp only [Act.put, List.setIfInBounds_toArray, List.set_cons_zero, List.set_cons_succ]
          refine wpAnyH_ready (rs := [11]) (by kernel_rfl) (by simp) ?_
          refine AllReadyH.cons rfl (fun K hK => ?_) AllReadyH.nil
          go_simp
          go_at_call 34
          refine (CC.out _).mono ?_
          rintro e u2 ⟨rfl, hb2⟩
          have B2 : Hid (Below W.heap.size W u2) := B1.out.trans (hb2.mono B1.out.size); clear hb2
          refine hK.out _ _ ?_ (fun hHeld2 => ?_)
          · exact B2.out
          clear hK K hHeld
          have hHeld := hHeld2
          clear hHeld2
          refine wpAnyH_take (i := 12) (v := ?_) rfl (by kernel_rfl) (by kernel_rfl) (by kernel_rfl) (fun _ _ _ h => h) (Or.inl ⟨by rfl, ?_⟩) hHeld ?_
          rotate_left
          · intro u hSu
            (go_simp) <;> (with_reducible rfl)
          change wpAnyH _ _ _ _ _ _ _ (Act.put _ (some 51) _) _
          simp only [Act.put, List.setIfInBounds_toArray, List.set_cons_zero, List.set_cons_succ]
          refine wpAnyH_take (i := 13) (v := ?_) rfl (by kernel_rfl) (by kernel_rfl) (by kernel_rfl) (fun _ _ _ h => h) (Or.inl ⟨by rfl, ?_⟩) hHeld ?_
          rotate_left
          · intro u hSu
            (go_simp) <;> (with_reducible rfl)
          change wpAnyH _ _ _ _ _ _ _ (Act.put _ (some 52) _) _
          simp only [Act.put, List.setIfInBounds_toArray, List.set_cons_zero, List.set_cons_succ]
          refine wpAnyH_take (i := 14) (v := ?_) rfl (by kernel_rfl) (by kernel_rfl) (by kernel_rfl) (fun _ _ _ h => h) (Or.inl ⟨by rfl, ?_⟩) hHeld ?_
          rotate_left
          · intro u hSu
            (go_simp) <;> (with_reducible rfl)
          change wpAnyH _ _ _ _ _ _ _ (Act.put _ (some 53) _) _
          simp only [Act.put, List.setIfInBounds_toArray, List.set_cons_zero, List.set_cons_succ]
          refine wpAnyH_done (by kernel_rfl) ?_ _
          refine NoPanic.normal ?_
          go_wp2
          go_ret
          rw [HR.out]
          exact ⟨rfl, HS.out _ B2.out⟩
        · have CG : Hid (∀ u, Calls Try.prog 49 #[.agg #[.int .i64 t, .int .u8 n]] u fun e w' => e = .returned (.bool false) ∧ Below u.heap.size u w') := fun u => by have := CG.out u; rwa [decide_eq_false hok] at this
          generalize x.d.parts.length = P at *
          generalize x.d.how = hw at *
          generalize x.d.st = st at *
          generalize x.d.sn = sn at *
          clear h h1 h2 h3 h4 hps E EE FC0 hm hpl hvl hpt hpr hvr hsame HR0 HSE hp y1 y2 y4 y5 hset hva hids hW e1 e2 hk hz hgz hvd hV hbad hok HEV FF CC
          go_enter Try.func21, Try.ntmps21
          go_wp2_with (first
            | (go_at_call 51; rw [HW.out]; refine CA.out.mono ?_; rintro e w1 ⟨rfl, hw⟩; obtain rfl := hw.symm; clear hw)
            | (go_at_call 53; refine (CP.out _ (Below.refl _ _)).mono ?_; rintro e w2 ⟨rfl, hw⟩; obtain rfl := hw.symm; clear hw))
          refine wp_region_noPanic ?_
          refine wp_region_held_drew (S := fun u => Below W.heap.size W u) (by kernel_rfl) ?_ (fun hHeld => ?_)
          · exact (Below.refl _ _).drew
          refine wpAnyH_take (i := 0) (v := ?_) rfl (by kernel_rfl) (by kernel_rfl) (by kernel_rfl) (fun _ _ _ h => h) (Or.inl ⟨by rfl, ?_⟩) hHeld ?_
          rotate_left
          · intro u hSu
            (go_simp) <;> (with_reducible rfl)
          change wpAnyH _ _ _ _ _ _ _ (Act.put _ (some 39) _) _
          simp only [Act.put, List.setIfInBounds_toArray, List.set_cons_zero, List.set_cons_succ]
          refine wpAnyH_take (i := 1) (v := ?_) rfl (by kernel_rfl) (by kernel_rfl) (by kernel_rfl) (fun _ _ _ h => h) (Or.inl ⟨by rfl, ?_⟩) hHeld ?_
          rotate_left
          · intro u hSu
            (go_simp) <;> (with_reducible rfl)
          change wpAnyH _ _ _ _ _ _ _ (Act.put _ (some 40) _) _
          simp only [Act.put, List.setIfInBounds_toArray, List.set_cons_zero, List.set_cons_succ]
          refine wpAnyH_take (i := 2) (v := ?_) rfl (by kernel_rfl) (by kernel_rfl) (by kernel_rfl) (fun _ _ _ h => h) (Or.inl ⟨by rfl, ?_⟩) hHeld ?_
          rotate_left
          · intro u hSu
            obtain ⟨s0, s1⟩ := FST.out u hSu
            (go_simp) <;> (with_reducible rfl)
          change wpAnyH _ _ _ _ _ _ _ (Act.put _ (some 41) _) _
          simp only [Act.put, List.setIfInBounds_toArray, List.set_cons_zero, List.set_cons_succ]
          refine wpAnyH_ready (rs := [3]) (by kernel_rfl) (by simp) ?_
          refine AllReadyH.cons rfl (fun K hK => ?_) AllReadyH.nil
          go_simp
          go_at_call 49
          refine (CG.out _).mono ?_
          rintro e u1 ⟨rfl, hb1⟩
          have B1 : Hid (Below W.heap.size W u1) := hHeld.trans (hb1.mono hHeld.size); clear hb1
          refine hK.out _ _ ?_ (fun hHeld2 => ?_)
          · exact B1.out
          clear hK K hHeld
          have hHeld := hHeld2
          clear hHeld2
          refine wpAnyH_take (i := 4) (v := ?_) rfl (by kernel_rfl) (by kernel_rfl) (by kernel_rfl) (fun _ _ _ h => h) (Or.inl ⟨by rfl, ?_⟩) hHeld ?_
          rotate_left
          · intro u hSu
            (go_simp) <;> (with_reducible rfl)
          change wpAnyH _ _ _ _ _ _ _ (Act.put _ (some 43) _) _
          simp only [Act.put, List.setIfInBounds_toArray, List.set_cons_zero, List.set_cons_succ]
          refine wpAnyH_take (i := 5) (v := ?_) rfl (by kernel_rfl) (by kernel_rfl) (by kernel_rfl) (fun _ _ _ h => h) (Or.inl ⟨by rfl, ?_⟩) hHeld ?_
          rotate_left
          · intro u hSu
            (go_simp) <;> (with_reducible rfl)
          change wpAnyH _ _ _ _ _ _ _ (Act.put _ (some 44) _) _
          simp only [Act.put, List.setIfInBounds_toArray, List.set_cons_zero, List.set_cons_succ]
          refine wpAnyH_take (i := 6) (v := undef) rfl (by kernel_rfl) (by kernel_rfl) (by kernel_rfl) (fun _ _ _ h => h) (Or.inr ⟨by rfl, rfl⟩) hHeld ?_
          change wpAnyH _ _ _ _ _ _ _ (Act.put _ (some 45) _) _
          simp only [Act.put, List.setIfInBounds_toArray, List.set_cons_zero, List.set_cons_succ]
          refine wpAnyH_take (i := 7) (v := undef) rfl (by kernel_rfl) (by kernel_rfl) (by kernel_rfl) (fun _ _ _ h => h) (Or.inr ⟨by rfl, rfl⟩) hHeld ?_
          change wpAnyH _ _ _ _ _ _ _ (Act.put _ (some 46) _) _
          simp only [Act.put, List.setIfInBounds_toArray, List.set_cons_zero, List.set_cons_succ]
          refine wpAnyH_take (i := 8) (v := undef) rfl (by kernel_rfl) (by kernel_rfl) (by kernel_rfl) (fun _ _ _ h => h) (Or.inr ⟨by rfl, rfl⟩) hHeld ?_
          change wpAnyH _ _ _ _ _ _ _ (Act.put _ (some 47) _) _
          simp only [Act.put, List.setIfInBounds_toArray, List.set_cons_zero, List.set_cons_succ]
          refine wpAnyH_take (i := 9) (v := undef) rfl (by kernel_rfl) (by kernel_rfl) (by kernel_rfl) (fun _ _ _ h => h) (Or.inr ⟨by rfl, rfl⟩) hHeld ?_
          change wpAnyH _ _ _ _ _ _ _ (Act.put _ (some 48) _) _
          simp only [Act.put, List.setIfInBounds_toArray, List.set_cons_zero, List.set_cons_succ]
          refine wpAnyH_take (i := 10) (v := undef) rfl (by kernel_rfl) (by kernel_rfl) (by kernel_rfl) (fun _ _ _ h => h) (Or.inr ⟨by rfl, rfl⟩) hHeld ?_
          change wpAnyH _ _ _ _ _ _ _ (Act.put _ (some 49) _) _
          simp only [Act.put, List.setIfInBounds_toArray, List.set_cons_zero, List.set_cons_succ]
          refine wpAnyH_take (i := 11) (v := undef) rfl (by kernel_rfl) (by kernel_rfl) (by kernel_rfl) (fun _ _ _ h => h) (Or.inr ⟨by rfl, rfl⟩) hHeld ?_
          change wpAnyH _ _ _ _ _ _ _ (Act.put _ (some 50) _) _
          simp only [Act.put, List.setIfInBounds_toArray, List.set_cons_zero, List.set_cons_succ]
          refine wpAnyH_take (i := 12) (v := undef) rfl (by kernel_rfl) (by kernel_rfl) (by kernel_rfl) (fun _ _ _ h => h) (Or.inr ⟨by rfl, rfl⟩) hHeld ?_
          change wpAnyH _ _ _ _ _ _ _ (Act.put _ (some 51) _) _
          simp only [Act.put, List.setIfInBounds_toArray, List.set_cons_zero, List.set_cons_succ]
          refine wpAnyH_take (i := 13) (v := ?_) rfl (by kernel_rfl) (by kernel_rfl) (by kernel_rfl) (fun _ _ _ h => h) (Or.inl ⟨by rfl, ?_⟩) hHeld ?_
          rotate_left
          · intro u hSu
            (go_simp) <;> (with_reducible rfl)
          change wpAnyH _ _ _ _ _ _ _ (Act.put _ (some 52) _) _
          simp only [Act.put, List.setIfInBounds_toArray, List.set_cons_zero, List.set_cons_succ]
          refine wpAnyH_take (i := 14) (v := ?_) rfl (by kernel_rfl) (by kernel_rfl) (by kernel_rfl) (fun _ _ _ h => h) (Or.inl ⟨by rfl, ?_⟩) hHeld ?_
          rotate_left
          · intro u hSu
            (go_simp) <;> (with_reducible rfl)
          change wpAnyH _ _ _ _ _ _ _ (Act.put _ (some 53) _) _
          simp only [Act.put, List.setIfInBounds_toArray, List.set_cons_zero, List.set_cons_succ]
          refine wpAnyH_done (by kernel_rfl) ?_ _
          refine NoPanic.normal ?_
          go_wp2
          go_ret
          rw [HR.out]
          exact ⟨rfl, HS.out _ B1.out⟩
      · rw [if_neg hbad] at hvd
        have hbad2 : y = true → okS t ∧ 0 < cmpS t n x.d.st x.d.sn := fun e => by
          refine ⟨Classical.byContradiction fun q => hbad ⟨e, .inl q⟩, ?_⟩
          rcases Int.lt_or_le 0 (cmpS t n x.d.st x.d.sn) with q | q
          · exact q
          · exact absurd ⟨e, .inr q⟩ hbad
        by_cases hlate : x.d.how ≠ 0 ∨ z = true
        · have HR := HSE.out 0 (by rw [hvd, if_pos hlate])
          cases y with
          | false =>
            by_cases h0 : x.d.how = 0
            · obtain rfl : z = true := hlate.elim (fun e => absurd h0 e) (fun e => e)
              generalize x.d.parts.length = P at *
              generalize x.d.how = hw at *
              generalize x.d.st = st at *
              generalize x.d.sn = sn at *
              clear h h1 h2 h3 h4 hps E EE FC0 hm hpl hvl hpt hpr hvr hsame HR0 HSE hp y1 y2 y4 y5 hset hva hids hW e1 e2 hk hz hgz hvd hV hbad hbad2 hlate HEV FF CG CC FST
              go_enter Try.func21, Try.ntmps21
              go_wp2_with (first
                | (go_at_call 51; rw [HW.out]; refine CA.out.mono ?_; rintro e w1 ⟨rfl, hw⟩; obtain rfl := hw.symm; clear hw)
                | (go_at_call 53; refine (CP.out _ (Below.refl _ _)).mono ?_; rintro e w2 ⟨rfl, hw⟩; obtain rfl := hw.symm; clear hw))
              refine wp_region_noPanic ?_
              refine wp_region_held_drew (S := fun u => Below W.heap.size W u) (by kernel_rfl) ?_ (fun hHeld => ?_)
              · exact (Below.refl _ _).drew
              refine wpAnyH_take (i := 0) (v := ?_) rfl (by kernel_rfl) (by kernel_rfl) (by kernel_rfl) (fun _ _ _ h => h) (Or.inl ⟨by rfl, ?_⟩) hHeld ?_
              rotate_left
              · intro u hSu
                (go_simp) <;> (with_reducible rfl)
              change wpAnyH _ _ _ _ _ _ _ (Act.put _ (some 39) _) _
              simp only [Act.put, List.setIfInBounds_toArray, List.set_cons_zero, List.set_cons_succ]
              refine wpAnyH_take (i := 1) (v := ?_) rfl (by kernel_rfl) (by kernel_rfl) (by kernel_rfl) (fun _ _ _ h => h) (Or.inl ⟨by rfl, ?_⟩) hHeld ?_
              rotate_left
              · intro u hSu
                (go_simp) <;> (with_reducible rfl)
              change wpAnyH _ _ _ _ _ _ _ (Act.put _ (some 40) _) _
              simp only [Act.put, List.setIfInBounds_toArray, List.set_cons_zero, List.set_cons_succ]
              refine wpAnyH_take (i := 2) (v := undef) rfl (by kernel_rfl) (by kernel_rfl) (by kernel_rfl) (fun _ _ _ h => h) (Or.inr ⟨by rfl, rfl⟩) hHeld ?_
              change wpAnyH _ _ _ _ _ _ _ (Act.put _ (some 41) _) _
              simp only [Act.put, List.setIfInBounds_toArray, List.set_cons_zero, List.set_cons_succ]
              refine wpAnyH_take (i := 3) (v := undef) rfl (by kernel_rfl) (by kernel_rfl) (by kernel_rfl) (fun _ _ _ h => h) (Or.inr ⟨by rfl, rfl⟩) hHeld ?_
              change wpAnyH _ _ _ _ _ _ _ (Act.put _ (some 42) _) _
              simp only [Act.put, List.setIfInBounds_toArray, List.set_cons_zero, List.set_cons_succ]
              refine wpAnyH_take (i := 4) (v := undef) rfl (by kernel_rfl) (by kernel_rfl) (by kernel_rfl) (fun _ _ _ h => h) (Or.inr ⟨by rfl, rfl⟩) hHeld ?_
              change wpAnyH _ _ _ _ _ _ _ (Act.put _ (some 43) _) _
              simp only [Act.put, List.setIfInBounds_toArray, List.set_cons_zero, List.set_cons_succ]
              refine wpAnyH_take (i := 5) (v := undef) rfl (by kernel_rfl) (by kernel_rfl) (by kernel_rfl) (fun _ _ _ h => h) (Or.inr ⟨by rfl, rfl⟩) hHeld ?_
              change wpAnyH _ _ _ _ _ _ _ (Act.put _ (some 44) _) _
              simp only [Act.put, List.setIfInBounds_toArray, List.set_cons_zero, List.set_cons_succ]
              refine wpAnyH_take (i := 6) (v := undef) rfl (by kernel_rfl) (by kernel_rfl) (by kernel_rfl) (fun _ _ _ h => h) (Or.inr ⟨by rfl, rfl⟩) hHeld ?_
              change wpAnyH _ _ _ _ _ _ _ (Act.put _ (some 45) _) _
              simp only [Act.put, List.setIfInBounds_toArray, List.set_cons_zero, List.set_cons_succ]
              refine wpAnyH_take (i := 7) (v := undef) rfl (by kernel_rfl) (by kernel_rfl) (by kernel_rfl) (fun _ _ _ h => h) (Or.inr ⟨by rfl, rfl⟩) hHeld ?_
              change wpAnyH _ _ _ _ _ _ _ (Act.put _ (some 46) _) _
              simp only [Act.put, List.setIfInBounds_toArray, List.set_cons_zero, List.set_cons_succ]
              refine wpAnyH_take (i := 8) (v := undef) rfl (by kernel_rfl) (by kernel_rfl) (by kernel_rfl) (fun _ _ _ h => h) (Or.inr ⟨by rfl, rfl⟩) hHeld ?_
              change wpAnyH _ _ _ _ _ _ _ (Act.put _ (some 47) _) _
              simp only [Act.put, List.setIfInBounds_toArray, List.set_cons_zero, List.set_cons_succ]
              refine wpAnyH_take (i := 9) (v := undef) rfl (by kernel_rfl) (by kernel_rfl) (by kernel_rfl) (fun _ _ _ h => h) (Or.inr ⟨by rfl, rfl⟩) hHeld ?_
              change wpAnyH _ _ _ _ _ _ _ (Act.put _ (some 48) _) _
              simp only [Act.put, List.setIfInBounds_toArray, List.set_cons_zero, List.set_cons_succ]
              refine wpAnyH_take (i := 10) (v := undef) rfl (by kernel_rfl) (by kernel_rfl) (by kernel_rfl) (fun _ _ _ h => h) (Or.inr ⟨by rfl, rfl⟩) hHeld ?_
              change wpAnyH _ _ _ _ _ _ _ (Act.put _ (some 49) _) _
              simp only [Act.put, List.setIfInBounds_toArray, List.set_cons_zero, List.set_cons_succ]
              refine wpAnyH_take (i := 11) (v := undef) rfl (by kernel_rfl) (by kernel_rfl) (by kernel_rfl) (fun _ _ _ h => h) (Or.inr ⟨by rfl, rfl⟩) hHeld ?_
              change wpAnyH _ _ _ _ _ _ _ (Act.put _ (some 50) _) _
              simp only [Act.put, List.setIfInBounds_toArray, List.set_cons_zero, List.set_cons_succ]
              refine wpAnyH_take (i := 12) (v := undef) rfl (by kernel_rfl) (by kernel_rfl) (by kernel_rfl) (fun _ _ _ h => h) (Or.inr ⟨by rfl, rfl⟩) hHeld ?_
              change wpAnyH _ _ _ _ _ _ _ (Act.put _ (some 51) _) _
              simp only [Act.put, List.setIfInBounds_toArray, List.set_cons_zero, List.set_cons_succ]
              refine wpAnyH_take (i := 13) (v := undef) rfl (by kernel_rfl) (by kernel_rfl) (by kernel_rfl) (fun _ _ _ h => h) (Or.inr ⟨by rfl, rfl⟩) hHeld ?_
              change wpAnyH _ _ _ _ _ _ _ (Act.put _ (some 52) _) _
              simp only [Act.put, List.setIfInBounds_toArray, List.set_cons_zero, List.set_cons_succ]
              refine wpAnyH_take (i := 14) (v := ?_) rfl (by kernel_rfl) (by kernel_rfl) (by kernel_rfl) (fun _ _ _ h => h) (Or.inl ⟨by rfl, ?_⟩) hHeld ?_
              rotate_left
              · intro u hSu
                (go_simp) <;> (with_reducible rfl)
              change wpAnyH _ _ _ _ _ _ _ (Act.put _ (some 53) _) _
              simp only [Act.put, List.setIfInBounds_toArray, List.set_cons_zero, List.set_cons_succ]
              refine wpAnyH_done (by kernel_rfl) ?_ _
              refine NoPanic.normal ?_
              obtain ⟨z0, z1, z3, z4, z5, zv, -⟩ := FC.out W.drew ((Below.refl _ _).drew)
              go_wp2_with (go_at_call 53; refine (CP.out _ ((Below.refl _ _).drew)).mono ?_; rintro e w2 ⟨rfl, hw⟩; obtain rfl := hw.symm; clear hw)
              go_ret
              rw [HR.out]
              exact ⟨rfl, HS.out _ ((Below.refl _ _).drew)⟩
            · have hb : (x.d.how == 0) = false := by simpa using h0
              generalize x.d.parts.length = P at *
              generalize x.d.how = hw at *
              generalize x.d.st = st at *
              generalize x.d.sn = sn at *
              clear h h1 h2 h3 h4 hps E EE FC0 hm hpl hvl hpt hpr hvr hsame HR0 HSE hp y1 y2 y4 y5 hset hva hids hW e1 e2 hk hz hgz hvd hV hbad hbad2 hlate HEV FF CG CC FST
              go_enter Try.func21, Try.ntmps21
              go_wp2_with (first
                | (go_at_call 51; rw [HW.out]; refine CA.out.mono ?_; rintro e w1 ⟨rfl, hw⟩; obtain rfl := hw.symm; clear hw)
                | (go_at_call 53; refine (CP.out _ (Below.refl _ _)).mono ?_; rintro e w2 ⟨rfl, hw⟩; obtain rfl := hw.symm; clear hw))
              refine wp_region_noPanic ?_
              refine wp_region_held_drew (S := fun u => Below W.heap.size W u) (by kernel_rfl) ?_ (fun hHeld => ?_)
              · exact (Below.refl _ _).drew
              refine wpAnyH_take (i := 0) (v := ?_) rfl (by kernel_rfl) (by kernel_rfl) (by kernel_rfl) (fun _ _ _ h => h) (Or.inl ⟨by rfl, ?_⟩) hHeld ?_
              rotate_left
              · intro u hSu
                (go_simp) <;> (with_reducible rfl)
              change wpAnyH _ _ _ _ _ _ _ (Act.put _ (some 39) _) _
              simp only [Act.put, List.setIfInBounds_toArray, List.set_cons_zero, List.set_cons_succ]
              refine wpAnyH_take (i := 1) (v := ?_) rfl (by kernel_rfl) (by kernel_rfl) (by kernel_rfl) (fun _ _ _ h => h) (Or.inl ⟨by rfl, ?_⟩) hHeld ?_
              rotate_left
              · intro u hSu
                (go_simp) <;> (with_reducible rfl)
              change wpAnyH _ _ _ _ _ _ _ (Act.put _ (some 40) _) _
              simp only [Act.put, List.setIfInBounds_toArray, List.set_cons_zero, List.set_cons_succ]
              refine wpAnyH_take (i := 2) (v := undef) rfl (by kernel_rfl) (by kernel_rfl) (by kernel_rfl) (fun _ _ _ h => h) (Or.inr ⟨by rfl, rfl⟩) hHeld ?_
              change wpAnyH _ _ _ _ _ _ _ (Act.put _ (some 41) _) _
              simp only [Act.put, List.setIfInBounds_toArray, List.set_cons_zero, List.set_cons_succ]
              refine wpAnyH_take (i := 3) (v := undef) rfl (by kernel_rfl) (by kernel_rfl) (by kernel_rfl) (fun _ _ _ h => h) (Or.inr ⟨by rfl, rfl⟩) hHeld ?_
              change wpAnyH _ _ _ _ _ _ _ (Act.put _ (some 42) _) _
              simp only [Act.put, List.setIfInBounds_toArray, List.set_cons_zero, List.set_cons_succ]
              refine wpAnyH_take (i := 4) (v := undef) rfl (by kernel_rfl) (by kernel_rfl) (by kernel_rfl) (fun _ _ _ h => h) (Or.inr ⟨by rfl, rfl⟩) hHeld ?_
              change wpAnyH _ _ _ _ _ _ _ (Act.put _ (some 43) _) _
              simp only [Act.put, List.setIfInBounds_toArray, List.set_cons_zero, List.set_cons_succ]
              refine wpAnyH_take (i := 5) (v := undef) rfl (by kernel_rfl) (by kernel_rfl) (by kernel_rfl) (fun _ _ _ h => h) (Or.inr ⟨by rfl, rfl⟩) hHeld ?_
              change wpAnyH _ _ _ _ _ _ _ (Act.put _ (some 44) _) _
              simp only [Act.put, List.setIfInBounds_toArray, List.set_cons_zero, List.set_cons_succ]
              refine wpAnyH_take (i := 6) (v := undef) rfl (by kernel_rfl) (by kernel_rfl) (by kernel_rfl) (fun _ _ _ h => h) (Or.inr ⟨by rfl, rfl⟩) hHeld ?_
              change wpAnyH _ _ _ _ _ _ _ (Act.put _ (some 45) _) _
              simp only [Act.put, List.setIfInBounds_toArray, List.set_cons_zero, List.set_cons_succ]
              refine wpAnyH_take (i := 7) (v := undef) rfl (by kernel_rfl) (by kernel_rfl) (by kernel_rfl) (fun _ _ _ h => h) (Or.inr ⟨by rfl, rfl⟩) hHeld ?_
              change wpAnyH _ _ _ _ _ _ _ (Act.put _ (some 46) _) _
              simp only [Act.put, List.setIfInBounds_toArray, List.set_cons_zero, List.set_cons_succ]
              refine wpAnyH_take (i := 8) (v := undef) rfl (by kernel_rfl) (by kernel_rfl) (by kernel_rfl) (fun _ _ _ h => h) (Or.inr ⟨by rfl, rfl⟩) hHeld ?_
              change wpAnyH _ _ _ _ _ _ _ (Act.put _ (some 47) _) _
              simp only [Act.put, List.setIfInBounds_toArray, List.set_cons_zero, List.set_cons_succ]
              refine wpAnyH_take (i := 9) (v := undef) rfl (by kernel_rfl) (by kernel_rfl) (by kernel_rfl) (fun _ _ _ h => h) (Or.inr ⟨by rfl, rfl⟩) hHeld ?_
              change wpAnyH _ _ _ _ _ _ _ (Act.put _ (some 48) _) _
              simp only [Act.put, List.setIfInBounds_toArray, List.set_cons_zero, List.set_cons_succ]
              refine wpAnyH_take (i := 10) (v := undef) rfl (by kernel_rfl) (by kernel_rfl) (by kernel_rfl) (fun _ _ _ h => h) (Or.inr ⟨by rfl, rfl⟩) hHeld ?_
              change wpAnyH _ _ _ _ _ _ _ (Act.put _ (some 49) _) _
              simp only [Act.put, List.setIfInBounds_toArray, List.set_cons_zero, List.set_cons_succ]
              refine wpAnyH_take (i := 11) (v := undef) rfl (by kernel_rfl) (by kernel_rfl) (by kernel_rfl) (fun _ _ _ h => h) (Or.inr ⟨by rfl, rfl⟩) hHeld ?_
              change wpAnyH _ _ _ _ _ _ _ (Act.put _ (some 50) _) _
              simp only [Act.put, List.setIfInBounds_toArray, List.set_cons_zero, List.set_cons_succ]
              refine wpAnyH_take (i := 12) (v := undef) rfl (by kernel_rfl) (by kernel_rfl) (by kernel_rfl) (fun _ _ _ h => h) (Or.inr ⟨by rfl, rfl⟩) hHeld ?_
              change wpAnyH _ _ _ _ _ _ _ (Act.put _ (some 51) _) _
              simp only [Act.put, List.setIfInBounds_toArray, List.set_cons_zero, List.set_cons_succ]
              refine wpAnyH_take (i := 13) (v := undef) rfl (by kernel_rfl) (by kernel_rfl) (by kernel_rfl) (fun _ _ _ h => h) (Or.inr ⟨by rfl, rfl⟩) hHeld ?_
              change wpAnyH _ _ _ _ _ _ _ (Act.put _ (some 52) _) _
              simp only [Act.put, List.setIfInBounds_toArray, List.set_cons_zero, List.set_cons_succ]
              refine wpAnyH_take (i := 14) (v := ?_) rfl (by kernel_rfl) (by kernel_rfl) (by kernel_rfl) (fun _ _ _ h => h) (Or.inl ⟨by rfl, ?_⟩) hHeld ?_
              rotate_left
              · intro u hSu
                (go_simp) <;> (with_reducible rfl)
              change wpAnyH _ _ _ _ _ _ _ (Act.put _ (some 53) _) _
              simp only [Act.put, List.setIfInBounds_toArray, List.set_cons_zero, List.set_cons_succ]
              refine wpAnyH_done (by kernel_rfl) ?_ _
              refine NoPanic.normal ?_
              obtain ⟨z0, z1, z3, z4, z5, zv, -⟩ := FC.out W.drew ((Below.refl _ _).drew)
              go_wp2_with (go_at_call 53; refine (CP.out _ ((Below.refl _ _).drew)).mono ?_; rintro e w2 ⟨rfl, hw⟩; obtain rfl := hw.symm; clear hw)
              go_ret
              rw [HR.out]
              exact ⟨rfl, HS.out _ ((Below.refl _ _).drew)⟩
          | true =>
            obtain ⟨hok, hgt⟩ := hbad2 rfl
            have CG : Hid (∀ u, Calls Try.prog 49 #[.agg #[.int .i64 t, .int .u8 n]] u fun e w' => e = .returned (.bool true) ∧ Below u.heap.size u w') := fun u => by have := CG.out u; rwa [decide_eq_true hok] at this
            obtain ⟨xc, hx⟩ : ∃ a, a = cmpS t n x.d.st x.d.sn := ⟨_, rfl⟩
            rw [← hx] at CC hgt
            have dx : decide (xc ≤ 0) = false := decide_eq_false (by omega)
            by_cases h0 : x.d.how = 0
            · obtain rfl : z = true := hlate.elim (fun e => absurd h0 e) (fun e => e)
              generalize x.d.parts.length = P at *
              generalize x.d.how = hw at *
              generalize x.d.st = st at *
              generalize x.d.sn = sn at *
              clear h h1 h2 h3 h4 hps E EE FC0 hm hpl hvl hpt hpr hvr hsame HR0 HSE hp y1 y2 y4 y5 hset hva hids hW e1 e2 hk hz hgz hvd hV hbad hbad2 hlate HEV FF hok hgt hx
              go_enter Try.func21, Try.ntmps21
              go_wp2_with (first
                | (go_at_call 51; rw [HW.out]; refine CA.out.mono ?_; rintro e w1 ⟨rfl, hw⟩; obtain rfl := hw.symm; clear hw)
                | (go_at_call 53; refine (CP.out _ (Below.refl _ _)).mono ?_; rintro e w2 ⟨rfl, hw⟩; obtain rfl := hw.symm; clear hw))
              refine wp_region_noPanic ?_
              refine wp_region_held_drew (S := fun u => Below W.heap.size W u) (by kernel_rfl) ?_ (fun hHeld => ?_)
              · exact (Below.refl _ _).drew
              refine wpAnyH_take (i := 0) (v := ?_) rfl (by kernel_rfl) (by kernel_rfl) (by kernel_rfl) (fun _ _ _ h => h) (Or.inl ⟨by rfl, ?_⟩) hHeld ?_
              rotate_left
              · intro u hSu
                (go_simp) <;> (with_reducible rfl)
              change wpAnyH _ _ _ _ _ _ _ (Act.put _ (some 39) _) _
              simp only [Act.put, List.setIfInBounds_toArray, List.set_cons_zero, List.set_cons_succ]
              refine wpAnyH_take (i := 1) (v := ?_) rfl (by kernel_rfl) (by kernel_rfl) (by kernel_rfl) (fun _ _ _ h => h) (Or.inl ⟨by rfl, ?_⟩) hHeld ?_
              rotate_left
              · intro u hSu
                (go_simp) <;> (with_reducible rfl)
              change wpAnyH _ _ _ _ _ _ _ (Act.put _ (some 40) _) _
              simp only [Act.put, List.setIfInBounds_toArray, List.set_cons_zero, List.set_cons_succ]
              refine wpAnyH_take (i := 2) (v := ?_) rfl (by kernel_rfl) (by kernel_rfl) (by kernel_rfl) (fun _ _ _ h => h) (Or.inl ⟨by rfl, ?_⟩) hHeld ?_
              rotate_left
              · intro u hSu
                obtain ⟨s0, s1⟩ := FST.out u hSu
                (go_simp) <;> (with_reducible rfl)
              change wpAnyH _ _ _ _ _ _ _ (Act.put _ (some 41) _) _
              simp only [Act.put, List.setIfInBounds_toArray, List.set_cons_zero, List.set_cons_succ]
              refine wpAnyH_ready (rs := [3]) (by kernel_rfl) (by simp) ?_
              refine AllReadyH.cons rfl (fun K hK => ?_) AllReadyH.nil
              go_simp
              go_at_call 49
              refine (CG.out _).mono ?_
              rintro e u1 ⟨rfl, hb1⟩
              have B1 : Hid (Below W.heap.size W u1) := hHeld.trans (hb1.mono hHeld.size); clear hb1
              refine hK.out _ _ ?_ (fun hHeld2 => ?_)
              · exact B1.out
              clear hK K hHeld
              have hHeld := hHeld2
              clear hHeld2
              refine wpAnyH_take (i := 4) (v := ?_) rfl (by kernel_rfl) (by kernel_rfl) (by kernel_rfl) (fun _ _ _ h => h) (Or.inl ⟨by rfl, ?_⟩) hHeld ?_
              rotate_left
              · intro u hSu
                (go_simp) <;> (with_reducible rfl)
              change wpAnyH _ _ _ _ _ _ _ (Act.put _ (some 43) _) _
              simp only [Act.put, List.setIfInBounds_toArray, List.set_cons_zero, List.set_cons_succ]
              refine wpAnyH_take (i := 5) (v := ?_) rfl (by kernel_rfl) (by kernel_rfl) (by kernel_rfl) (fun _ _ _ h => h) (Or.inl ⟨by rfl, ?_⟩) hHeld ?_
              rotate_left
              · intro u hSu
                (go_simp) <;> (with_reducible rfl)
              change wpAnyH _ _ _ _ _ _ _ (Act.put _ (some 44) _) _
              simp only [Act.put, List.setIfInBounds_toArray, List.set_cons_zero, List.set_cons_succ]
              refine wpAnyH_take (i := 6) (v := ?_) rfl (by kernel_rfl) (by kernel_rfl) (by kernel_rfl) (fun _ _ _ h => h) (Or.inl ⟨by rfl, ?_⟩) hHeld ?_
              rotate_left
              · intro u hSu
                obtain ⟨s0, s1⟩ := FST.out u hSu
                (go_simp) <;> (with_reducible rfl)
              change wpAnyH _ _ _ _ _ _ _ (Act.put _ (some 45) _) _
              simp only [Act.put, List.setIfInBounds_toArray, List.set_cons_zero, List.set_cons_succ]
              refine wpAnyH_take (i := 7) (v := ?_) rfl (by kernel_rfl) (by kernel_rfl) (by kernel_rfl) (fun _ _ _ h => h) (Or.inl ⟨by rfl, ?_⟩) hHeld ?_
              rotate_left
              · intro u hSu
                (go_simp) <;> (with_reducible rfl)
              change wpAnyH _ _ _ _ _ _ _ (Act.put _ (some 46) _) _
              simp only [Act.put, List.setIfInBounds_toArray, List.set_cons_zero, List.set_cons_succ]
              refine wpAnyH_take (i := 8) (v := ?_) rfl (by kernel_rfl) (by kernel_rfl) (by kernel_rfl) (fun _ _ _ h => h) (Or.inl ⟨by rfl, ?_⟩) hHeld ?_
              rotate_left
              · intro u hSu
                (go_simp) <;> (with_reducible rfl)
              change wpAnyH _ _ _ _ _ _ _ (Act.put _ (some 47) _) _
              simp only [Act.put, List.setIfInBounds_toArray, List.set_cons_zero, List.set_cons_succ]
              refine wpAnyH_take (i := 9) (v := ?_) rfl (by kernel_rfl) (by kernel_rfl) (by kernel_rfl) (fun _ _ _ h => h) (Or.inl ⟨by rfl, ?_⟩) hHeld ?_
              rotate_left
              · intro u hSu
                (go_simp) <;> (with_reducible rfl)
              change wpAnyH _ _ _ _ _ _ _ (Act.put _ (some 48) _) _
              simp only [Act.put, List.setIfInBounds_toArray, List.set_cons_zero, List.set_cons_succ]
              refine wpAnyH_take (i := 10) (v := ?_) rfl (by kernel_rfl) (by kernel_rfl) (by kernel_rfl) (fun _ _ _ h => h) (Or.inl ⟨by rfl, ?_⟩) hHeld ?_
              rotate_left
              · intro u hSu
                obtain ⟨z0, z1, -⟩ := FC.out u hSu
                (go_simp) <;> (with_reducible rfl)
              change wpAnyH _ _ _ _ _ _ _ (Act.put _ (some 49) _) _
              simp only [Act.put, List.setIfInBounds_toArray, List.set_cons_zero, List.set_cons_succ]
              refine wpAnyH_ready (rs := [11]) (by kernel_rfl) (by simp) ?_
              refine AllReadyH.cons rfl (fun K hK => ?_) AllReadyH.nil
              go_simp
              go_at_call 34
              refine (CC.out _).mono ?_
              rintro e u2 ⟨rfl, hb2⟩
              have B2 : Hid (Below W.heap.size W u2) := B1.out.trans (hb2.mono B1.out.size); clear hb2
              refine hK.out _ _ ?_ (fun hHeld2 => ?_)
              · exact B2.out
              clear hK K hHeld
              have hHeld := hHeld2
              clear hHeld2
              refine wpAnyH_take (i := 12) (v := ?_) rfl (by kernel_rfl) (by kernel_rfl) (by kernel_rfl) (fun _ _ _ h => h) (Or.inl ⟨by rfl, ?_⟩) hHeld ?_
              rotate_left
              · intro u hSu
                (go_simp) <;> (with_reducible rfl)
              change wpAnyH _ _ _ _ _ _ _ (Act.put _ (some 51) _) _
              simp only [Act.put, List.setIfInBounds_toArray, List.set_cons_zero, List.set_cons_succ]
              refine wpAnyH_take (i := 13) (v := ?_) rfl (by kernel_rfl) (by kernel_rfl) (by kernel_rfl) (fun _ _ _ h => h) (Or.inl ⟨by rfl, ?_⟩) hHeld ?_
              rotate_left
              · intro u hSu
                (go_simp) <;> (with_reducible rfl)
              change wpAnyH _ _ _ _ _ _ _ (Act.put _ (some 52) _) _
              simp only [Act.put, List.setIfInBounds_toArray, List.set_cons_zero, List.set_cons_succ]
              refine wpAnyH_take (i := 14) (v := ?_) rfl (by kernel_rfl) (by kernel_rfl) (by kernel_rfl) (fun _ _ _ h => h) (Or.inl ⟨by rfl, ?_⟩) hHeld ?_
              rotate_left
              · intro u hSu
                (go_simp) <;> (with_reducible rfl)
              change wpAnyH _ _ _ _ _ _ _ (Act.put _ (some 53) _) _
              simp only [Act.put, List.setIfInBounds_toArray, List.set_cons_zero, List.set_cons_succ]
              refine wpAnyH_done (by kernel_rfl) ?_ _
              refine NoPanic.normal ?_
              obtain ⟨z0, z1, z3, z4, z5, zv, -⟩ := FC.out u2 B2.out
              go_wp2_with (go_at_call 53; refine (CP.out _ (B2.out)).mono ?_; rintro e w2 ⟨rfl, hw⟩; obtain rfl := hw.symm; clear hw)
              go_ret
              rw [HR.out]
              exact ⟨rfl, HS.out _ (B2.out)⟩
            · have hb : (x.d.how == 0) = false := by simpa using h0
              generalize x.d.parts.length = P at *
              generalize x.d.how = hw at *
              generalize x.d.st = st at *
              generalize x.d.sn = sn at *
              clear h h1 h2 h3 h4 hps E EE FC0 hm hpl hvl hpt hpr hvr hsame HR0 HSE hp y1 y2 y4 y5 hset hva hids hW e1 e2 hk hz hgz hvd hV hbad hbad2 hlate HEV FF hok hgt hx
              go_enter Try.func21, Try.ntmps21
              go_wp2_with (first
                | (go_at_call 51; rw [HW.out]; refine CA.out.mono ?_; rintro e w1 ⟨rfl, hw⟩; obtain rfl := hw.symm; clear hw)
                | (go_at_call 53; refine (CP.out _ (Below.refl _ _)).mono ?_; rintro e w2 ⟨rfl, hw⟩; obtain rfl := hw.symm; clear hw))
              refine wp_region_noPanic ?_
              refine wp_region_held_drew (S := fun u => Below W.heap.size W u) (by kernel_rfl) ?_ (fun hHeld => ?_)
              · exact (Below.refl _ _).drew
              refine wpAnyH_take (i := 0) (v := ?_) rfl (by kernel_rfl) (by kernel_rfl) (by kernel_rfl) (fun _ _ _ h => h) (Or.inl ⟨by rfl, ?_⟩) hHeld ?_
              rotate_left
              · intro u hSu
                (go_simp) <;> (with_reducible rfl)
              change wpAnyH _ _ _ _ _ _ _ (Act.put _ (some 39) _) _
              simp only [Act.put, List.setIfInBounds_toArray, List.set_cons_zero, List.set_cons_succ]
              refine wpAnyH_take (i := 1) (v := ?_) rfl (by kernel_rfl) (by kernel_rfl) (by kernel_rfl) (fun _ _ _ h => h) (Or.inl ⟨by rfl, ?_⟩) hHeld ?_
              rotate_left
              · intro u hSu
                (go_simp) <;> (with_reducible rfl)
              change wpAnyH _ _ _ _ _ _ _ (Act.put _ (some 40) _) _
              simp only [Act.put, List.setIfInBounds_toArray, List.set_cons_zero, List.set_cons_succ]
              refine wpAnyH_take (i := 2) (v := ?_) rfl (by kernel_rfl) (by kernel_rfl) (by kernel_rfl) (fun _ _ _ h => h) (Or.inl ⟨by rfl, ?_⟩) hHeld ?_
              rotate_left
              · intro u hSu
                obtain ⟨s0, s1⟩ := FST.out u hSu
                (go_simp) <;> (with_reducible rfl)
              change wpAnyH _ _ _ _ _ _ _ (Act.put _ (some 41) _) _
              simp only [Act.put, List.setIfInBounds_toArray, List.set_cons_zero, List.set_cons_succ]
              refine wpAnyH_ready (rs := [3]) (by kernel_rfl) (by simp) ?_
              refine AllReadyH.cons rfl (fun K hK => ?_) AllReadyH.nil
              go_simp
              go_at_call 49
              refine (CG.out _).mono ?_
              rintro e u1 ⟨rfl, hb1⟩
              have B1 : Hid (Below W.heap.size W u1) := hHeld.trans (hb1.mono hHeld.size); clear hb1
              refine hK.out _ _ ?_ (fun hHeld2 => ?_)
              · exact B1.out
              clear hK K hHeld
              have hHeld := hHeld2
              clear hHeld2
              refine wpAnyH_take (i := 4) (v := ?_) rfl (by kernel_rfl) (by kernel_rfl) (by kernel_rfl) (fun _ _ _ h => h) (Or.inl ⟨by rfl, ?_⟩) hHeld ?_
              rotate_left
              · intro u hSu
                (go_simp) <;> (with_reducible rfl)
              change wpAnyH _ _ _ _ _ _ _ (Act.put _ (some 43) _) _
              simp only [Act.put, List.setIfInBounds_toArray, List.set_cons_zero, List.set_cons_succ]
              refine wpAnyH_take (i := 5) (v := ?_) rfl (by kernel_rfl) (by kernel_rfl) (by kernel_rfl) (fun _ _ _ h => h) (Or.inl ⟨by rfl, ?_⟩) hHeld ?_
              rotate_left
              · intro u hSu
                (go_simp) <;> (with_reducible rfl)
              change wpAnyH _ _ _ _ _ _ _ (Act.put _ (some 44) _) _
              simp only [Act.put, List.setIfInBounds_toArray, List.set_cons_zero, List.set_cons_succ]
              refine wpAnyH_take (i := 6) (v := ?_) rfl (by kernel_rfl) (by kernel_rfl) (by kernel_rfl) (fun _ _ _ h => h) (Or.inl ⟨by rfl, ?_⟩) hHeld ?_
              rotate_left
              · intro u hSu
                obtain ⟨s0, s1⟩ := FST.out u hSu
                (go_simp) <;> (with_reducible rfl)
              change wpAnyH _ _ _ _ _ _ _ (Act.put _ (some 45) _) _
              simp only [Act.put, List.setIfInBounds_toArray, List.set_cons_zero, List.set_cons_succ]
              refine wpAnyH_take (i := 7) (v := ?_) rfl (by kernel_rfl) (by kernel_rfl) (by kernel_rfl) (fun _ _ _ h => h) (Or.inl ⟨by rfl, ?_⟩) hHeld ?_
              rotate_left
              · intro u hSu
                (go_simp) <;> (with_reducible rfl)
              change wpAnyH _ _ _ _ _ _ _ (Act.put _ (some 46) _) _
              simp only [Act.put, List.setIfInBounds_toArray, List.set_cons_zero, List.set_cons_succ]
              refine wpAnyH_take (i := 8) (v := ?_) rfl (by kernel_rfl) (by kernel_rfl) (by kernel_rfl) (fun _ _ _ h => h) (Or.inl ⟨by rfl, ?_⟩) hHeld ?_
              rotate_left
              · intro u hSu
                (go_simp) <;> (with_reducible rfl)
              change wpAnyH _ _ _ _ _ _ _ (Act.put _ (some 47) _) _
              simp only [Act.put, List.setIfInBounds_toArray, List.set_cons_zero, List.set_cons_succ]
              refine wpAnyH_take (i := 9) (v := ?_) rfl (by kernel_rfl) (by kernel_rfl) (by kernel_rfl) (fun _ _ _ h => h) (Or.inl ⟨by rfl, ?_⟩) hHeld ?_
              rotate_left
              · intro u hSu
                (go_simp) <;> (with_reducible rfl)
              change wpAnyH _ _ _ _ _ _ _ (Act.put _ (some 48) _) _
              simp only [Act.put, List.setIfInBounds_toArray, List.set_cons_zero, List.set_cons_succ]
              refine wpAnyH_take (i := 10) (v := ?_) rfl (by kernel_rfl) (by kernel_rfl) (by kernel_rfl) (fun _ _ _ h => h) (Or.inl ⟨by rfl, ?_⟩) hHeld ?_
              rotate_left
              · intro u hSu
                obtain ⟨z0, z1, -⟩ := FC.out u hSu
                (go_simp) <;> (with_reducible rfl)
              change wpAnyH _ _ _ _ _ _ _ (Act.put _ (some 49) _) _
              simp only [Act.put, List.setIfInBounds_toArray, List.set_cons_zero, List.set_cons_succ]
              refine wpAnyH_ready (rs := [11]) (by kernel_rfl) (by simp) ?_
              refine AllReadyH.cons rfl (fun K hK => ?_) AllReadyH.nil
              go_simp
              go_at_call 34
              refine (CC.out _).mono ?_
              rintro e u2 ⟨rfl, hb2⟩
              have B2 : Hid (Below W.heap.size W u2) := B1.out.trans (hb2.mono B1.out.size); clear hb2
              refine hK.out _ _ ?_ (fun hHeld2 => ?_)
              · exact B2.out
              clear hK K hHeld
              have hHeld := hHeld2
              clear hHeld2
              refine wpAnyH_take (i := 12) (v := ?_) rfl (by kernel_rfl) (by kernel_rfl) (by kernel_rfl) (fun _ _ _ h => h) (Or.inl ⟨by rfl, ?_⟩) hHeld ?_
              rotate_left
              · intro u hSu
                (go_simp) <;> (with_reducible rfl)
              change wpAnyH _ _ _ _ _ _ _ (Act.put _ (some 51) _) _
              simp only [Act.put, List.setIfInBounds_toArray, List.set_cons_zero, List.set_cons_succ]
              refine wpAnyH_take (i := 13) (v := ?_) rfl (by kernel_rfl) (by kernel_rfl) (by kernel_rfl) (fun _ _ _ h => h) (Or.inl ⟨by rfl, ?_⟩) hHeld ?_
              rotate_left
              · intro u hSu
                (go_simp) <;> (with_reducible rfl)
              change wpAnyH _ _ _ _ _ _ _ (Act.put _ (some 52) _) _
              simp only [Act.put, List.setIfInBounds_toArray, List.set_cons_zero, List.set_cons_succ]
              refine wpAnyH_take (i := 14) (v := ?_) rfl (by kernel_rfl) (by kernel_rfl) (by kernel_rfl) (fun _ _ _ h => h) (Or.inl ⟨by rfl, ?_⟩) hHeld ?_
              rotate_left
              · intro u hSu
                (go_simp) <;> (with_reducible rfl)
              change wpAnyH _ _ _ _ _ _ _ (Act.put _ (some 53) _) _
              simp only [Act.put, List.setIfInBounds_toArray, List.set_cons_zero, List.set_cons_succ]
              refine wpAnyH_done (by kernel_rfl) ?_ _
              refine NoPanic.normal ?_
              obtain ⟨z0, z1, z3, z4, z5, zv, -⟩ := FC.out u2 B2.out
              go_wp2_with (go_at_call 53; refine (CP.out _ (B2.out)).mono ?_; rintro e w2 ⟨rfl, hw⟩; obtain rfl := hw.symm; clear hw)
              go_ret
              rw [HR.out]
              exact ⟨rfl, HS.out _ (B2.out)⟩
        · rw [if_neg hlate] at hvd
          have h0 : x.d.how = 0 := Classical.byContradiction fun q => hlate (.inl q)
          obtain rfl : z = false := by
            cases z with
            | false => rfl
            | true => exact absurd (.inr rfl) hlate
          cases y with
          | false =>
            have HR : Hid (voteC (decs M) id p false t n = (0, putC (decs M) (noD x.d))) := by show _ = _; rw [HR0, hvd, if_pos rfl]
            generalize x.d.parts.length = P at *
            generalize x.d.st = st at *
            generalize x.d.sn = sn at *
            clear h h1 h2 h3 h4 hps E FC0 hm hpl hvl hpt hpr hvr hsame HR0 HSE hp y1 y2 y4 y5 hset hva hids hW e1 e2 hk hz hgz hvd hV hbad hbad2 hlate HEV CG CC FST HS
            go_enter Try.func21, Try.ntmps21
            go_wp2_with (first
              | (go_at_call 51; rw [HW.out]; refine CA.out.mono ?_; rintro e w1 ⟨rfl, hw⟩; obtain rfl := hw.symm; clear hw)
              | (go_at_call 53; refine (CP.out _ (Below.refl _ _)).mono ?_; rintro e w2 ⟨rfl, hw⟩; obtain rfl := hw.symm; clear hw))
            refine wp_region_noPanic ?_
            refine wp_region_held_drew (S := fun u => Below W.heap.size W u) (by kernel_rfl) ?_ (fun hHeld => ?_)
            · exact (Below.refl _ _).drew
            refine wpAnyH_take (i := 0) (v := ?_) rfl (by kernel_rfl) (by kernel_rfl) (by kernel_rfl) (fun _ _ _ h => h) (Or.inl ⟨by rfl, ?_⟩) hHeld ?_
            rotate_left
            · intro u hSu
              (go_simp) <;> (with_reducible rfl)
            change wpAnyH _ _ _ _ _ _ _ (Act.put _ (some 39) _) _
            simp only [Act.put, List.setIfInBounds_toArray, List.set_cons_zero, List.set_cons_succ]
            refine wpAnyH_take (i := 1) (v := ?_) rfl (by kernel_rfl) (by kernel_rfl) (by kernel_rfl) (fun _ _ _ h => h) (Or.inl ⟨by rfl, ?_⟩) hHeld ?_
            rotate_left
            · intro u hSu
              (go_simp) <;> (with_reducible rfl)
            change wpAnyH _ _ _ _ _ _ _ (Act.put _ (some 40) _) _
            simp only [Act.put, List.setIfInBounds_toArray, List.set_cons_zero, List.set_cons_succ]
            refine wpAnyH_take (i := 2) (v := undef) rfl (by kernel_rfl) (by kernel_rfl) (by kernel_rfl) (fun _ _ _ h => h) (Or.inr ⟨by rfl, rfl⟩) hHeld ?_
            change wpAnyH _ _ _ _ _ _ _ (Act.put _ (some 41) _) _
            simp only [Act.put, List.setIfInBounds_toArray, List.set_cons_zero, List.set_cons_succ]
            refine wpAnyH_take (i := 3) (v := undef) rfl (by kernel_rfl) (by kernel_rfl) (by kernel_rfl) (fun _ _ _ h => h) (Or.inr ⟨by rfl, rfl⟩) hHeld ?_
            change wpAnyH _ _ _ _ _ _ _ (Act.put _ (some 42) _) _
            simp only [Act.put, List.setIfInBounds_toArray, List.set_cons_zero, List.set_cons_succ]
            refine wpAnyH_take (i := 4) (v := undef) rfl (by kernel_rfl) (by kernel_rfl) (by kernel_rfl) (fun _ _ _ h => h) (Or.inr ⟨by rfl, rfl⟩) hHeld ?_
            change wpAnyH _ _ _ _ _ _ _ (Act.put _ (some 43) _) _
            simp only [Act.put, List.setIfInBounds_toArray, List.set_cons_zero, List.set_cons_succ]
            refine wpAnyH_take (i := 5) (v := undef) rfl (by kernel_rfl) (by kernel_rfl) (by kernel_rfl) (fun _ _ _ h => h) (Or.inr ⟨by rfl, rfl⟩) hHeld ?_
            change wpAnyH _ _ _ _ _ _ _ (Act.put _ (some 44) _) _
            simp only [Act.put, List.setIfInBounds_toArray, List.set_cons_zero, List.set_cons_succ]
            refine wpAnyH_take (i := 6) (v := undef) rfl (by kernel_rfl) (by kernel_rfl) (by kernel_rfl) (fun _ _ _ h => h) (Or.inr ⟨by rfl, rfl⟩) hHeld ?_
            change wpAnyH _ _ _ _ _ _ _ (Act.put _ (some 45) _) _
            simp only [Act.put, List.setIfInBounds_toArray, List.set_cons_zero, List.set_cons_succ]
            refine wpAnyH_take (i := 7) (v := undef) rfl (by kernel_rfl) (by kernel_rfl) (by kernel_rfl) (fun _ _ _ h => h) (Or.inr ⟨by rfl, rfl⟩) hHeld ?_
            change wpAnyH _ _ _ _ _ _ _ (Act.put _ (some 46) _) _
            simp only [Act.put, List.setIfInBounds_toArray, List.set_cons_zero, List.set_cons_succ]
            refine wpAnyH_take (i := 8) (v := undef) rfl (by kernel_rfl) (by kernel_rfl) (by kernel_rfl) (fun _ _ _ h => h) (Or.inr ⟨by rfl, rfl⟩) hHeld ?_
            change wpAnyH _ _ _ _ _ _ _ (Act.put _ (some 47) _) _
            simp only [Act.put, List.setIfInBounds_toArray, List.set_cons_zero, List.set_cons_succ]
            refine wpAnyH_take (i := 9) (v := undef) rfl (by kernel_rfl) (by kernel_rfl) (by kernel_rfl) (fun _ _ _ h => h) (Or.inr ⟨by rfl, rfl⟩) hHeld ?_
            change wpAnyH _ _ _ _ _ _ _ (Act.put _ (some 48) _) _
            simp only [Act.put, List.setIfInBounds_toArray, List.set_cons_zero, List.set_cons_succ]
            refine wpAnyH_take (i := 10) (v := undef) rfl (by kernel_rfl) (by kernel_rfl) (by kernel_rfl) (fun _ _ _ h => h) (Or.inr ⟨by rfl, rfl⟩) hHeld ?_
            change wpAnyH _ _ _ _ _ _ _ (Act.put _ (some 49) _) _
            simp only [Act.put, List.setIfInBounds_toArray, List.set_cons_zero, List.set_cons_succ]
            refine wpAnyH_take (i := 11) (v := undef) rfl (by kernel_rfl) (by kernel_rfl) (by kernel_rfl) (fun _ _ _ h => h) (Or.inr ⟨by rfl, rfl⟩) hHeld ?_
            change wpAnyH _ _ _ _ _ _ _ (Act.put _ (some 50) _) _
            simp only [Act.put, List.setIfInBounds_toArray, List.set_cons_zero, List.set_cons_succ]
            refine wpAnyH_take (i := 12) (v := undef) rfl (by kernel_rfl) (by kernel_rfl) (by kernel_rfl) (fun _ _ _ h => h) (Or.inr ⟨by rfl, rfl⟩) hHeld ?_
            change wpAnyH _ _ _ _ _ _ _ (Act.put _ (some 51) _) _
            simp only [Act.put, List.setIfInBounds_toArray, List.set_cons_zero, List.set_cons_succ]
            refine wpAnyH_take (i := 13) (v := undef) rfl (by kernel_rfl) (by kernel_rfl) (by kernel_rfl) (fun _ _ _ h => h) (Or.inr ⟨by rfl, rfl⟩) hHeld ?_
            change wpAnyH _ _ _ _ _ _ _ (Act.put _ (some 52) _) _
            simp only [Act.put, List.setIfInBounds_toArray, List.set_cons_zero, List.set_cons_succ]
            refine wpAnyH_take (i := 14) (v := ?_) rfl (by kernel_rfl) (by kernel_rfl) (by kernel_rfl) (fun _ _ _ h => h) (Or.inl ⟨by rfl, ?_⟩) hHeld ?_
            rotate_left
            · intro u hSu
              (go_simp) <;> (with_reducible rfl)
            change wpAnyH _ _ _ _ _ _ _ (Act.put _ (some 53) _) _
            simp only [Act.put, List.setIfInBounds_toArray, List.set_cons_zero, List.set_cons_succ]
            refine wpAnyH_done (by kernel_rfl) ?_ _
            refine NoPanic.normal ?_
            obtain ⟨v0, hv0⟩ : ∃ v : World, v = W.drew := ⟨_, rfl⟩
            have B0 : Hid (Below W.heap.size W v0) := by rw [hv0]; exact (Below.refl _ _).drew
            rw [← hv0]
            clear hv0
            obtain ⟨z0, z1, z3, z4, z5, zv, -⟩ := FC.out v0 B0.out
            obtain ⟨f5, -⟩ := FF.out v0 B0.out
            have E1 : Hid (CrdE w (v0.setCell ⟨g, i * 9 + 5, none⟩ (.int .i64 2)) q M F g c i { x with d := { x.d with how := 2 } }) := (EE.out v0 B0.out).how 2
            have HT := E1.out.there
            clear z0 z1
            go_wp2_with (first
              | (go_at_call 53; refine (CP.out _ (B0.out)).mono ?_; rintro e w2 ⟨rfl, hw⟩; obtain rfl := hw.symm; clear hw)
              | ((with_reducible show wpList _ _ _ (Oper.mk none (Op.store 28 _ _) _ _ _ _ :: _) _ _); refine wpList_store_mid (by rfl) 28 _ _ (by rfl) g (i * 9 + 6) #[.int .i64 0, .int .u8 0] (by rfl) (by rfl) HT (by rw [info_stC]; rfl) (all_oneCell_toArray (fun u hu => by simp at hu; rcases hu with rfl | rfl <;> rfl)) ?_))
            have D := (E1.out.stamp 0 0).done
            go_ret
            rw [HR.out]
            exact ⟨rfl, D⟩
          | true =>
            have HR : Hid (voteC (decs M) id p true t n = (0, putC (decs M) (yesD x.d k t n))) := by show _ = _; rw [HR0, hvd, if_neg (by decide)]
            obtain ⟨hok, hgt⟩ := hbad2 rfl
            have CG : Hid (∀ u, Calls Try.prog 49 #[.agg #[.int .i64 t, .int .u8 n]] u fun e w' => e = .returned (.bool true) ∧ Below u.heap.size u w') := fun u => by have := CG.out u; rwa [decide_eq_true hok] at this
            obtain ⟨xc, hx⟩ : ∃ a, a = cmpS t n x.d.st x.d.sn := ⟨_, rfl⟩
            rw [← hx] at CC hgt
            have dx : decide (xc ≤ 0) = false := decide_eq_false (by omega)
            have HVL : Hid (x.d.votes.length = V) := hV.symm
            have HVA : Hid (x.va = some ⟨gv, 0, none⟩) := hva
            have HNN : Hid (M.length = N) := hN
            have CM : Hid (∀ u, Calls Try.prog 33 #[.agg #[.int .i64 x.d.at_, .int .u8 x.d.an], .agg #[.int .i64 t, .int .u8 n]] u fun e w' => e = .returned (.agg #[.int .i64 (mxS x.d.at_ x.d.an t n).1, .int .u8 (mxS x.d.at_ x.d.an t n).2]) ∧ Below u.heap.size u w') := fun u => rmax6_any x.d.at_ x.d.an t n u
            generalize x.d.parts.length = P at *
            generalize x.d.st = st at *
            generalize x.d.sn = sn at *
            have HVR : Hid (V ≤ x.vc) := by show V ≤ _; omega
            have hV6 : V ≤ 1000 := by omega
            clear h h1 h2 h3 h4 hps E EE FC0 hm hpl hvl hpt hpr hvr hsame HR0 HSE hp y1 y2 y4 y5 hset hva hids hW e1 e2 hk hz hgz hvd hV hbad hbad2 hlate HS hok hgt hx hN hf
            go_enter Try.func21, Try.ntmps21
            go_wp2_with (first
              | (go_at_call 51; rw [HW.out]; refine CA.out.mono ?_; rintro e w1 ⟨rfl, hw⟩; obtain rfl := hw.symm; clear hw)
              | (go_at_call 53; refine (CP.out _ (Below.refl _ _)).mono ?_; rintro e w2 ⟨rfl, hw⟩; obtain rfl := hw.symm; clear hw))
            refine wp_region_noPanic ?_
            refine wp_region_held_drew (S := fun u => Below W.heap.size W u) (by kernel_rfl) ?_ (fun hHeld => ?_)
            · exact (Below.refl _ _).drew
            refine wpAnyH_take (i := 0) (v := ?_) rfl (by kernel_rfl) (by kernel_rfl) (by kernel_rfl) (fun _ _ _ h => h) (Or.inl ⟨by rfl, ?_⟩) hHeld ?_
            rotate_left
            · intro u hSu
              (go_simp) <;> (with_reducible rfl)
            change wpAnyH _ _ _ _ _ _ _ (Act.put _ (some 39) _) _
            simp only [Act.put, List.setIfInBounds_toArray, List.set_cons_zero, List.set_cons_succ]
            refine wpAnyH_take (i := 1) (v := ?_) rfl (by kernel_rfl) (by kernel_rfl) (by kernel_rfl) (fun _ _ _ h => h) (Or.inl ⟨by rfl, ?_⟩) hHeld ?_
            rotate_left
            · intro u hSu
              (go_simp) <;> (with_reducible rfl)
            change wpAnyH _ _ _ _ _ _ _ (Act.put _ (some 40) _) _
            simp only [Act.put, List.setIfInBounds_toArray, List.set_cons_zero, List.set_cons_succ]
            refine wpAnyH_take (i := 2) (v := ?_) rfl (by kernel_rfl) (by kernel_rfl) (by kernel_rfl) (fun _ _ _ h => h) (Or.inl ⟨by rfl, ?_⟩) hHeld ?_
            rotate_left
            · intro u hSu
              obtain ⟨s0, s1⟩ := FST.out u hSu
              (go_simp) <;> (with_reducible rfl)
            change wpAnyH _ _ _ _ _ _ _ (Act.put _ (some 41) _) _
            simp only [Act.put, List.setIfInBounds_toArray, List.set_cons_zero, List.set_cons_succ]
            refine wpAnyH_ready (rs := [3]) (by kernel_rfl) (by simp) ?_
            refine AllReadyH.cons rfl (fun K hK => ?_) AllReadyH.nil
            go_simp
            go_at_call 49
            refine (CG.out _).mono ?_
            rintro e u1 ⟨rfl, hb1⟩
            have B1 : Hid (Below W.heap.size W u1) := hHeld.trans (hb1.mono hHeld.size); clear hb1
            refine hK.out _ _ ?_ (fun hHeld2 => ?_)
            · exact B1.out
            clear hK K hHeld
            have hHeld := hHeld2
            clear hHeld2
            refine wpAnyH_take (i := 4) (v := ?_) rfl (by kernel_rfl) (by kernel_rfl) (by kernel_rfl) (fun _ _ _ h => h) (Or.inl ⟨by rfl, ?_⟩) hHeld ?_
            rotate_left
            · intro u hSu
              (go_simp) <;> (with_reducible rfl)
            change wpAnyH _ _ _ _ _ _ _ (Act.put _ (some 43) _) _
            simp only [Act.put, List.setIfInBounds_toArray, List.set_cons_zero, List.set_cons_succ]
            refine wpAnyH_take (i := 5) (v := ?_) rfl (by kernel_rfl) (by kernel_rfl) (by kernel_rfl) (fun _ _ _ h => h) (Or.inl ⟨by rfl, ?_⟩) hHeld ?_
            rotate_left
            · intro u hSu
              (go_simp) <;> (with_reducible rfl)
            change wpAnyH _ _ _ _ _ _ _ (Act.put _ (some 44) _) _
            simp only [Act.put, List.setIfInBounds_toArray, List.set_cons_zero, List.set_cons_succ]
            refine wpAnyH_take (i := 6) (v := ?_) rfl (by kernel_rfl) (by kernel_rfl) (by kernel_rfl) (fun _ _ _ h => h) (Or.inl ⟨by rfl, ?_⟩) hHeld ?_
            rotate_left
            · intro u hSu
              obtain ⟨s0, s1⟩ := FST.out u hSu
              (go_simp) <;> (with_reducible rfl)
            change wpAnyH _ _ _ _ _ _ _ (Act.put _ (some 45) _) _
            simp only [Act.put, List.setIfInBounds_toArray, List.set_cons_zero, List.set_cons_succ]
            refine wpAnyH_take (i := 7) (v := ?_) rfl (by kernel_rfl) (by kernel_rfl) (by kernel_rfl) (fun _ _ _ h => h) (Or.inl ⟨by rfl, ?_⟩) hHeld ?_
            rotate_left
            · intro u hSu
              (go_simp) <;> (with_reducible rfl)
            change wpAnyH _ _ _ _ _ _ _ (Act.put _ (some 46) _) _
            simp only [Act.put, List.setIfInBounds_toArray, List.set_cons_zero, List.set_cons_succ]
            refine wpAnyH_take (i := 8) (v := ?_) rfl (by kernel_rfl) (by kernel_rfl) (by kernel_rfl) (fun _ _ _ h => h) (Or.inl ⟨by rfl, ?_⟩) hHeld ?_
            rotate_left
            · intro u hSu
              (go_simp) <;> (with_reducible rfl)
            change wpAnyH _ _ _ _ _ _ _ (Act.put _ (some 47) _) _
            simp only [Act.put, List.setIfInBounds_toArray, List.set_cons_zero, List.set_cons_succ]
            refine wpAnyH_take (i := 9) (v := ?_) rfl (by kernel_rfl) (by kernel_rfl) (by kernel_rfl) (fun _ _ _ h => h) (Or.inl ⟨by rfl, ?_⟩) hHeld ?_
            rotate_left
            · intro u hSu
              (go_simp) <;> (with_reducible rfl)
            change wpAnyH _ _ _ _ _ _ _ (Act.put _ (some 48) _) _
            simp only [Act.put, List.setIfInBounds_toArray, List.set_cons_zero, List.set_cons_succ]
            refine wpAnyH_take (i := 10) (v := ?_) rfl (by kernel_rfl) (by kernel_rfl) (by kernel_rfl) (fun _ _ _ h => h) (Or.inl ⟨by rfl, ?_⟩) hHeld ?_
            rotate_left
            · intro u hSu
              obtain ⟨z0, z1, -⟩ := FC.out u hSu
              (go_simp) <;> (with_reducible rfl)
            change wpAnyH _ _ _ _ _ _ _ (Act.put _ (some 49) _) _
            simp only [Act.put, List.setIfInBounds_toArray, List.set_cons_zero, List.set_cons_succ]
            refine wpAnyH_ready (rs := [11]) (by kernel_rfl) (by simp) ?_
            refine AllReadyH.cons rfl (fun K hK => ?_) AllReadyH.nil
            go_simp
            go_at_call 34
            refine (CC.out _).mono ?_
            rintro e u2 ⟨rfl, hb2⟩
            have B2 : Hid (Below W.heap.size W u2) := B1.out.trans (hb2.mono B1.out.size); clear hb2
            refine hK.out _ _ ?_ (fun hHeld2 => ?_)
            · exact B2.out
            clear hK K hHeld
            have hHeld := hHeld2
            clear hHeld2
            refine wpAnyH_take (i := 12) (v := ?_) rfl (by kernel_rfl) (by kernel_rfl) (by kernel_rfl) (fun _ _ _ h => h) (Or.inl ⟨by rfl, ?_⟩) hHeld ?_
            rotate_left
            · intro u hSu
              (go_simp) <;> (with_reducible rfl)
            change wpAnyH _ _ _ _ _ _ _ (Act.put _ (some 51) _) _
            simp only [Act.put, List.setIfInBounds_toArray, List.set_cons_zero, List.set_cons_succ]
            refine wpAnyH_take (i := 13) (v := ?_) rfl (by kernel_rfl) (by kernel_rfl) (by kernel_rfl) (fun _ _ _ h => h) (Or.inl ⟨by rfl, ?_⟩) hHeld ?_
            rotate_left
            · intro u hSu
              (go_simp) <;> (with_reducible rfl)
            change wpAnyH _ _ _ _ _ _ _ (Act.put _ (some 52) _) _
            simp only [Act.put, List.setIfInBounds_toArray, List.set_cons_zero, List.set_cons_succ]
            refine wpAnyH_take (i := 14) (v := ?_) rfl (by kernel_rfl) (by kernel_rfl) (by kernel_rfl) (fun _ _ _ h => h) (Or.inl ⟨by rfl, ?_⟩) hHeld ?_
            rotate_left
            · intro u hSu
              (go_simp) <;> (with_reducible rfl)
            change wpAnyH _ _ _ _ _ _ _ (Act.put _ (some 53) _) _
            simp only [Act.put, List.setIfInBounds_toArray, List.set_cons_zero, List.set_cons_succ]
            refine wpAnyH_done (by kernel_rfl) ?_ _
            refine NoPanic.normal ?_
            obtain ⟨z0, z1, z3, z4, z5, zv, -⟩ := FC.out u2 B2.out
            obtain ⟨-, -, f9⟩ := FF.out u2 B2.out
            have E1 : Hid (CrdE w (u2.setCell ⟨gv, k, none⟩ (.bool true)) q M F g c i { x with d := { x.d with votes := x.d.votes.set k true } }) := HEV.out u2 B2.out
            clear z0 z1
            go_wp2_with (go_at_call 53; refine (CP.out _ (B2.out)).mono ?_; rintro e w2 ⟨rfl, hw⟩; obtain rfl := hw.symm; clear hw)
            obtain ⟨v1, hv1⟩ : ∃ v : World, v = u2.setCell ⟨gv, k, none⟩ (.bool true) := ⟨_, rfl⟩
            rw [← hv1] at E1 ⊢
            have S1 : Hid (Below W.heap.size W u2 ∧ v1.heap.size = u2.heap.size ∧ ∀ j, u2.heap.size ≤ j → v1.heap[j]? = u2.heap[j]?) := ⟨B2.out, by rw [hv1, World.size_setCell], fun j hj => by rw [hv1]; exact Below.heap_setCell _ ⟨gv, k, none⟩ _ j (by have := HGV.out; have := B2.out.size; show j ≠ gv; omega)⟩
            have HSB : Hid (v1.heap[w.heap.size]? = u2.heap[w.heap.size]?) := by show _ = _; rw [hv1]; exact Below.heap_setCell _ ⟨gv, k, none⟩ _ _ (by have := HGW.out; show w.heap.size ≠ gv; omega)
            clear hv1 z3 z4 z5 zv f9
            obtain ⟨mt, hmt⟩ : ∃ a, a = (mxS x.d.at_ x.d.an t n).1 := ⟨_, rfl⟩
            obtain ⟨mn, hmn⟩ : ∃ a, a = (mxS x.d.at_ x.d.an t n).2 := ⟨_, rfl⟩
            rw [← hmt, ← hmn] at CM
            obtain ⟨x1, hx1⟩ : ∃ x1 : OneM, x1 = { x with d := { x.d with votes := x.d.votes.set k true } } := ⟨_, rfl⟩
            have X1 : Hid (x1 = { x with d := { x.d with votes := x.d.votes.set k true } }) := hx1
            rw [← hx1] at E1
            have HV1 : Hid (x1.va = some ⟨gv, 0, none⟩) := by rw [hx1]; exact HVA.out
            have HL1 : Hid (x1.d.votes.length = V) := by rw [hx1]; show (x.d.votes.set k true).length = _; rw [List.length_set]; exact HVL.out
            have FC1 : Hid (∀ u, Below v1.heap.size v1 u → u.cell? ⟨g, i * 9 + 6, none⟩ = some (.int .i64 x.d.at_) ∧ u.cell? ⟨g, i * 9 + 7, none⟩ = some (.int .u8 x.d.an) ∧ u.cell? ⟨w.heap.size, 0, none⟩ = some (.int .i64 t) ∧ u.cell? ⟨w.heap.size, 1, none⟩ = some (.int .u8 n)) := fun u hu => by
              have r := (E1.out.past hu).reads HNN.out HV1.out
              obtain ⟨s0, s1⟩ := FST.out u2 B2.out
              have hb : u.heap[w.heap.size]? = u2.heap[w.heap.size]? := by
                have hl : w.heap.size < u2.heap.size := Nat.lt_of_lt_of_le HWL.out B2.out.size
                rw [hu.block w.heap.size (by rw [S1.out.2.1]; exact hl)]
                exact HSB.out
              refine ⟨?_, ?_, (cell_kept hb 0).trans s0, (cell_kept hb 1).trans s1⟩
              · have := r.at_; rw [X1.out] at this; exact this
              · have := r.an; rw [X1.out] at this; exact this
            refine wp_region_noPanic ?_
            refine region_up 9 (fun u => Below v1.heap.size v1 u) (by kernel_rfl) ?_ (fun hHeld => ?_)
            · exact (Below.refl _ _).drew
            refine up_take (i := 0) (v := ?_) (by kernel_rfl) (by kernel_rfl) (by kernel_rfl) rfl (by kernel_rfl) (by kernel_rfl) (by kernel_rfl) (fun _ _ _ h => h) (Or.inl ⟨by rfl, ?_⟩) hHeld ?_
            rotate_left
            · intro u hSu
              (go_simp) <;> (with_reducible rfl)
            change wpUp _ _ _ _ _ _ _ _ (Act.put _ (some 89) _) _
            simp only [Act.put, List.setIfInBounds_toArray, List.set_cons_zero, List.set_cons_succ]
            refine up_take (i := 1) (v := ?_) (by kernel_rfl) (by kernel_rfl) (by kernel_rfl) rfl (by kernel_rfl) (by kernel_rfl) (by kernel_rfl) (fun _ _ _ h => h) (Or.inl ⟨by rfl, ?_⟩) hHeld ?_
            rotate_left
            · intro u hSu
              (go_simp) <;> (with_reducible rfl)
            change wpUp _ _ _ _ _ _ _ _ (Act.put _ (some 90) _) _
            simp only [Act.put, List.setIfInBounds_toArray, List.set_cons_zero, List.set_cons_succ]
            refine up_take (i := 2) (v := ?_) (by kernel_rfl) (by kernel_rfl) (by kernel_rfl) rfl (by kernel_rfl) (by kernel_rfl) (by kernel_rfl) (fun _ _ _ h => h) (Or.inl ⟨by rfl, ?_⟩) hHeld ?_
            rotate_left
            · intro u hSu
              (go_simp) <;> (with_reducible rfl)
            change wpUp _ _ _ _ _ _ _ _ (Act.put _ (some 91) _) _
            simp only [Act.put, List.setIfInBounds_toArray, List.set_cons_zero, List.set_cons_succ]
            refine up_take (i := 3) (v := ?_) (by kernel_rfl) (by kernel_rfl) (by kernel_rfl) rfl (by kernel_rfl) (by kernel_rfl) (by kernel_rfl) (fun _ _ _ h => h) (Or.inl ⟨by rfl, ?_⟩) hHeld ?_
            rotate_left
            · intro u hSu
              (go_simp) <;> (with_reducible rfl)
            change wpUp _ _ _ _ _ _ _ _ (Act.put _ (some 92) _) _
            simp only [Act.put, List.setIfInBounds_toArray, List.set_cons_zero, List.set_cons_succ]
            refine up_take (i := 4) (v := ?_) (by kernel_rfl) (by kernel_rfl) (by kernel_rfl) rfl (by kernel_rfl) (by kernel_rfl) (by kernel_rfl) (fun _ _ _ h => h) (Or.inl ⟨by rfl, ?_⟩) hHeld ?_
            rotate_left
            · intro u hSu
              obtain ⟨a0, a1, s0, s1⟩ := FC1.out u hSu
              (go_simp) <;> (with_reducible rfl)
            change wpUp _ _ _ _ _ _ _ _ (Act.put _ (some 93) _) _
            simp only [Act.put, List.setIfInBounds_toArray, List.set_cons_zero, List.set_cons_succ]
            refine up_take (i := 5) (v := ?_) (by kernel_rfl) (by kernel_rfl) (by kernel_rfl) rfl (by kernel_rfl) (by kernel_rfl) (by kernel_rfl) (fun _ _ _ h => h) (Or.inl ⟨by rfl, ?_⟩) hHeld ?_
            rotate_left
            · intro u hSu
              obtain ⟨a0, a1, s0, s1⟩ := FC1.out u hSu
              (go_simp) <;> (with_reducible rfl)
            change wpUp _ _ _ _ _ _ _ _ (Act.put _ (some 94) _) _
            simp only [Act.put, List.setIfInBounds_toArray, List.set_cons_zero, List.set_cons_succ]
            refine up_ready (rs := [6]) (by kernel_rfl) (by simp) ?_
            refine AllUp.cons rfl (fun K hK => ?_) AllUp.nil
            go_simp
            go_at_call 33
            refine (CM.out _).mono ?_
            rintro e v2 ⟨rfl, hb2⟩
            have B3 : Hid (Below v1.heap.size v1 v2) := hHeld.trans (hb2.mono hHeld.size); clear hb2
            refine hK.out _ _ ?_ (fun hHeld2 => ?_)
            · exact B3.out
            clear hK K hHeld
            have hHeld := hHeld2
            clear hHeld2
            refine up_take (i := 7) (v := ?_) (by kernel_rfl) (by kernel_rfl) (by kernel_rfl) rfl (by kernel_rfl) (by kernel_rfl) (by kernel_rfl) (fun _ _ _ h => h) (Or.inl ⟨by rfl, ?_⟩) hHeld ?_
            rotate_left
            · intro u hSu
              (go_simp) <;> (with_reducible rfl)
            change wpUp _ _ _ _ _ _ _ _ (Act.put _ (some 96) _) _
            simp only [Act.put, List.setIfInBounds_toArray, List.set_cons_zero, List.set_cons_succ]
            refine up_take (i := 8) (v := ?_) (by kernel_rfl) (by kernel_rfl) (by kernel_rfl) rfl (by kernel_rfl) (by kernel_rfl) (by kernel_rfl) (fun _ _ _ h => h) (Or.inl ⟨by rfl, ?_⟩) hHeld ?_
            rotate_left
            · intro u hSu
              (go_simp) <;> (with_reducible rfl)
            change wpUp _ _ _ _ _ _ _ _ (Act.put _ (some 97) _) _
            simp only [Act.put, List.setIfInBounds_toArray, List.set_cons_zero, List.set_cons_succ]
            refine up_ready (rs := [9]) (by kernel_rfl) (by simp) ?_
            refine AllUp.that rfl (fun K hK => ?_) AllUp.nil
            rw [if_pos (by rfl)]; have E2 := E1.out.past B3.out; refine wp_store_mid 28 _ _ rfl g (i * 9 + 6) #[.int .i64 mt, .int .u8 mn] rfl rfl E2.there (by rw [info_stC]; rfl) (all_oneCell_toArray (fun u hu => by simp at hu; rcases hu with rfl | rfl <;> rfl)) ?_; obtain ⟨v3, hv3⟩ : ∃ v3, v3 = v2.setCells g (i * 9 + 6) [.int .i64 mt, .int .u8 mn] := ⟨_, rfl⟩; have E3 : Hid (CrdE w v3 q M F g c i { x1 with d := { x1.d with at_ := mt, an := mn } }) := (by rw [hv3]; exact E2.stamp mt mn); show K _ (World.setCells v2 g (i * 9 + 6) [.int .i64 mt, .int .u8 mn]); rw [← hv3]; clear hv3 E2 E1; refine hK.out _ _ ?_; clear hK K hHeld
            refine up_done (by kernel_rfl) ?_
            refine NoPanic.normal ?_
            obtain ⟨x2, hx2⟩ : ∃ x2 : OneM, x2 = { x1 with d := { x1.d with at_ := mt, an := mn } } := ⟨_, rfl⟩
            rw [← hx2] at E3
            have HV2 : Hid (x2.va = some ⟨gv, 0, none⟩) := by rw [hx2]; exact HV1.out
            have HL2 : Hid (x2.d.votes.length = V) := by rw [hx2]; exact HL1.out
            have HC2 : Hid (x2.vc = x.vc) := by show _ = _; rw [hx2, hx1]
            have HFN : Hid ({ x2.d with how := if x2.d.votes.all _root_.id then 1 else 0 } = yesD x.d k t n) := by rw [hx2, hx1, hmt, hmn]; rfl
            have HE : Hid (∀ u y m, CrdE w u q M F g c i y → CrdE w (u.setCell ⟨g, i * 9 + 5, none⟩ (.int .i64 m)) q M F g c i { y with d := { y.d with how := m } }) := fun u y m hy => hy.how m
            have r3 := E3.out.reads HNN.out HV2.out
            have y5 := r3.how
            have f5 := r3.free (i * 9 + 5)
            clear r3 hx2 hx1 X1 hmt hmn FC1
            go_wp2
            have E4 : Hid (CrdE w (v3.setCell ⟨g, i * 9 + 5, none⟩ (.int .i64 1)) q M F g c i { x2 with d := { x2.d with how := 1 } }) := HE.out v3 x2 1 E3.out
            generalize v3.setCell ⟨g, i * 9 + 5, none⟩ (.int .i64 1) = v4 at E4 ⊢
            clear y5 f5 E3
            go_loopw [14] (fun jv wr => ∃ j : Nat, jv = .int .i64 j ∧ j ≤ V ∧ Hid (CrdE w wr q M F g c i { x2 with d := { x2.d with how := if (x2.d.votes.take j).all _root_.id then 1 else 0 } })) (fun jv _ => V - (intOf jv).toNat)
            case atStart => exact ⟨0, rfl, Nat.zero_le _, E4⟩
            case round =>
              clear E4
              obtain ⟨j, rfl, hj, HI⟩ := hrel
              have hj0 : (0 : Int) ≤ (j : Int) := by omega
              have r := HI.out.reads HNN.out HV2.out
              have y4 : wr.cell? ⟨g, i * 9 + 4, none⟩ = some (.slice (some ⟨gv, 0, none⟩) V x.vc) := by have := r.votes; rw [← HL2.out, ← HC2.out]; exact this
              have y5 := r.how
              have f5 := r.free (i * 9 + 5)
              by_cases hlt : j < V
              · have hjV : (j : Int) < (V : Int) := by omega
                have hjc : (j : Int) < (x.vc : Int) := by have := HVR.out; omega
                obtain ⟨b, hbj⟩ : ∃ b, x2.d.votes[j]? = some b := ⟨_, List.getElem?_eq_getElem (by rw [HL2.out]; exact hlt)⟩
                have yb := r.vote j b hbj
                have HTK : Hid ((x2.d.votes.take (j + 1)).all _root_.id = ((x2.d.votes.take j).all _root_.id && b)) := by show _ = _; rw [List.take_add_one, hbj, List.all_append]; simp
                clear r hbj
                cases b with
                | true =>
                  go_wp2
                  go_roundw
                  case rel => exact ⟨j + 1, by go_num, by omega, by rw [HTK.out, Bool.and_true]; exact HI⟩
                  case measure => simp [intOf]; omega
                | false =>
                  have HN2 : Hid (CrdE w (wr.setCell ⟨g, i * 9 + 5, none⟩ (.int .i64 0)) q M F g c i { x2 with d := { x2.d with how := 0 } }) := (by have hq := HE.out wr _ 0 HI.out; exact hq)
                  go_wp2
                  go_roundw
                  case rel => exact ⟨j + 1, by go_num, by omega, by rw [HTK.out, Bool.and_false]; exact HN2⟩
                  case measure => simp [intOf]; omega
              · obtain rfl : j = V := by omega
                have hni : ¬ (j : Int) < (j : Int) := by omega
                have D := HI.out.done
                rw [List.take_of_length_le (by rw [HL2.out]; exact Nat.le_refl _)] at D
                have e : ({ x2 with d := { x2.d with how := if x2.d.votes.all _root_.id then 1 else 0 } } : OneM).d = yesD x.d k t n := HFN.out
                rw [e] at D
                clear r y5 f5 HI e
                go_wp2
                go_ret
                rw [HR.out]
                exact ⟨rfl, D⟩
end Go.Proofs.Ytcppihpehipelaa
