/-
  The document's own table of decisions: Ack, Give.
-/
import Derived.Test.YtcppihpehipelaaAu60
import Derived.Test.YtcppihpehipelaaAu57
namespace Go.Proofs.Ytcppihpehipelaa
open Go.RowKit
set_option linter.unusedVariables false
set_option linter.unusedSimpArgs false

theorem placeC_at {l : List Int} {p : Int} (h : hasP l p = true) : placeC l p = (spotC l p : Int) ∧ spotC l p < l.length := by
  have h1 := of_decide_eq_true h
  exact ⟨if_pos h1, h1⟩
theorem placeC_no {l : List Int} {p : Int} (h : hasP l p = false) : placeC l p = -1 := if_neg (of_decide_eq_false h)
set_option maxHeartbeats 8000000 in
set_option maxRecDepth 8000 in
theorem rcack_any {q : Nat} {M : List OneM} {F : Foot} (id p : Int) (w : World) (h : CrdO w q M F) (hf : M.length ≤ 1000000) (hps : ∀ x ∈ M, x.d.parts.length ≤ 1000 ∧ x.d.acks.length = x.d.parts.length) :
    Calls Try.prog 22 #[.pointer (some ⟨q, 0, none⟩), .int .i64 id, .int .i64 p] w fun e w' => e = .returned (.int .i64 (ackC (decs M) id p).1) ∧ DidO w w' q (ackC (decs M) id p).2 F := by
  obtain ⟨N, hN⟩ : ∃ n, M.length = n := ⟨_, rfl⟩
  have CA : Hid (Calls Try.prog 51 #[.pointer (some ⟨q, 0, none⟩), .int .i64 id] w fun e w' => e = .returned (.int .i64 (atC (decs M) id)) ∧ w' = w) := rcat_any id w h.view hf
  have HS : Hid (DidO w w q (decs M) F) := DidO.stay h (Below.refl _ _)
  rcases atC_ways M id with ⟨h1, h2⟩ | ⟨i, x, h1, h2, h3, h4⟩
  · have HR : Hid (ackC (decs M) id p = (4, decs M)) := by show _ = _; unfold ackC; rw [h2]
    rw [h1] at CA
    clear h h1 h2 hps
    go_enter Try.func22, Try.ntmps22
    go_wp2_with (go_at_call 51; refine CA.out.mono ?_; rintro e w1 ⟨rfl, hw⟩; obtain rfl := hw.symm; clear hw)
    go_ret
    rw [HR.out]
    exact ⟨rfl, HS.out⟩
  · obtain ⟨g, c, E⟩ := CrdE.start h h3
    obtain ⟨K1, K2, K3⟩ := E.cells
    rw [hN] at K1 K2
    obtain ⟨_, _, _, y3, _, y5, _, _, y8⟩ := K3.cells
    have hm := hps x (List.mem_of_getElem? h3)
    have hpl := hm.1
    have hal := hm.2
    have hpt := K3.parts
    have hpr := K3.pr
    have hsame : putC (decs M) x.d = decs M := putC_same h.ids (show (decs M)[i]? = some x.d by unfold decs; rw [List.getElem?_map, h3]; rfl)
    have HR0 : ackC (decs M) id p = ((ackD x.d p).1, putC (decs M) (ackD x.d p).2) := by unfold ackC; rw [h2]
    have hi0 : (0 : Int) ≤ (i : Int) := by omega
    have hiN : (i : Int) < (N : Int) := by omega
    have d0 : decide ((i : Int) < 0) = false := decide_eq_false (by omega)
    have CP : Hid (∀ u, Below w.heap.size w u → Calls Try.prog 53 #[.slice x.pa x.d.parts.length x.pc, .int .i64 p] u fun e w' => e = .returned (.int .i64 (placeC x.d.parts p)) ∧ w' = u) := fun u hu => rcplace_any x.pa _ x.pc x.d.parts p u rfl hpr (by omega) (hpt.past hu)
    rw [h1] at CA
    by_cases hp : hasP x.d.parts p = false
    · have HR : Hid (ackC (decs M) id p = (4, decs M)) := by
        show _ = _
        have e : ackD x.d p = (4, x.d) := by unfold ackD; rw [if_pos hp]
        rw [HR0, e, hsame]
      rw [placeC_no hp] at CP
      generalize x.d.parts.length = P at *
      clear h h1 h2 h3 h4 hps E K3 hm hpl hal hpt hpr hsame HR0 hp y5 y8
      go_enter Try.func22, Try.ntmps22
      go_wp2_with (first
        | (go_at_call 51; refine CA.out.mono ?_; rintro e w1 ⟨rfl, hw⟩; obtain rfl := hw.symm; clear hw)
        | (go_at_call 53; refine (CP.out _ (Below.refl _ _)).mono ?_; rintro e w2 ⟨rfl, hw⟩; obtain rfl := hw.symm; clear hw))
      go_ret
      rw [HR.out]
      exact ⟨rfl, HS.out⟩
    · have hp : hasP x.d.parts p = true := by simpa using hp
      obtain ⟨e1, e2⟩ := placeC_at hp
      rw [e1] at CP
      obtain ⟨k, hk⟩ : ∃ k, k = spotC x.d.parts p := ⟨_, rfl⟩
      rw [← hk] at CP e2
      have dk : decide ((k : Int) < 0) = false := decide_eq_false (by omega)
      by_cases h0 : x.d.how = 0
      · have hb : (x.d.how == 0) = true := by simpa using h0
        have HR : Hid (ackC (decs M) id p = (8, decs M)) := by
          show _ = _
          have e : ackD x.d p = (8, x.d) := by unfold ackD; rw [if_neg (by rw [hp]; simp), if_pos h0]
          rw [HR0, e, hsame]
        generalize x.d.parts.length = P at *
        generalize x.d.how = hw at *
        clear h h1 h2 h3 h4 hps E K3 hm hpl hal hpt hpr hsame HR0 hp y8 h0 e1 e2 hk
        go_enter Try.func22, Try.ntmps22
        go_wp2_with (first
          | (go_at_call 51; refine CA.out.mono ?_; rintro e w1 ⟨rfl, hw⟩; obtain rfl := hw.symm; clear hw)
          | (go_at_call 53; refine (CP.out _ (Below.refl _ _)).mono ?_; rintro e w2 ⟨rfl, hw⟩; obtain rfl := hw.symm; clear hw))
        go_ret
        rw [HR.out]
        exact ⟨rfl, HS.out⟩
      · have hb : (x.d.how == 0) = false := by simpa using h0
        have ea : ackD x.d p = (0, { x.d with acks := x.d.acks.set k true }) := by unfold ackD; rw [if_neg (by rw [hp]; simp), if_neg h0, hk]
        have HR : Hid (ackC (decs M) id p = (0, putC (decs M) { x.d with acks := x.d.acks.set k true })) := by show _ = _; rw [HR0, ea]
        obtain ⟨ga, a1, a2, _⟩ := E.acks
        obtain ⟨z, hz⟩ : ∃ z, x.d.acks[k]? = some z := ⟨_, List.getElem?_eq_getElem (by omega)⟩
        have HEND : Hid (∀ u, Below w.heap.size w u → DidO w (u.setCell ⟨ga, k, none⟩ (.bool true)) q (putC (decs M) { x.d with acks := x.d.acks.set k true }) F) := fun u hu => by
          obtain ⟨ga', b1, b2, b3⟩ := (E.past hu).acks
          rw [a1] at b1
          cases b1
          exact (b3 k (by omega)).done
        have FC : Hid (∀ u, Below w.heap.size w u → u.cell? ⟨q, 0, none⟩ = some (.slice (some ⟨g, 0, none⟩) N c) ∧ u.cell? ⟨g, i * 9 + 3, none⟩ = some (.slice x.pa x.d.parts.length x.pc) ∧ u.cell? ⟨g, i * 9 + 8, none⟩ = some (.slice (some ⟨ga, 0, none⟩) x.d.acks.length x.ac) ∧ u.cell? ⟨ga, k, none⟩ = some (.bool z) ∧ u.frozen? ⟨ga, k, none⟩ = false) := fun u hu => by
          rw [a1] at y8
          exact ⟨(hu.cell (p := ⟨q, 0, none⟩) (cell_lt K1)).trans K1, (hu.cell (p := ⟨g, i * 9 + 3, none⟩) (cell_lt y3)).trans y3, (hu.cell (p := ⟨g, i * 9 + 8, none⟩) (cell_lt y8)).trans y8, (a2.past hu).at_ hz, (a2.past hu).free k⟩
        have hkA : (k : Int) < (x.d.acks.length : Int) := by omega
        have hk0 : (0 : Int) ≤ (k : Int) := by omega
        rw [hal] at hkA FC
        generalize x.d.parts.length = P at *
        generalize x.d.how = hw at *
        generalize putC (decs M) { x.d with acks := x.d.acks.set k true } = C2 at *
        clear h h1 h2 h3 h4 hps E K3 hm hpl hal hpt hpr hsame HR0 hp y8 h0 e1 e2 hk ea a1 a2 hz HS
        go_enter Try.func22, Try.ntmps22
        go_wp2_with (first
          | (go_at_call 51; refine CA.out.mono ?_; rintro e w1 ⟨rfl, hw⟩; obtain rfl := hw.symm; clear hw)
          | (go_at_call 53; refine (CP.out _ (Below.refl _ _)).mono ?_; rintro e w2 ⟨rfl, hw⟩; obtain rfl := hw.symm; clear hw))
        clear K1 y3 y5
        refine wp_region_noPanic ?_
        refine region_up 19 (fun u => Below w.heap.size w u) (by kernel_rfl) ?_ (fun hHeld => ?_)
        · exact (Below.refl _ _).drew
        refine up_take (i := 0) (v := ?_) (by kernel_rfl) (by kernel_rfl) (by kernel_rfl) rfl (by kernel_rfl) (by kernel_rfl) (by kernel_rfl) (fun _ _ _ h => h) (Or.inl ⟨by rfl, ?_⟩) hHeld ?_
        rotate_left
        · intro u hSu
          (go_simp) <;> (with_reducible rfl)
        change wpUp _ _ _ _ _ _ _ _ (Act.put _ (some 35) _) _
        simp only [Act.put, List.setIfInBounds_toArray, List.set_cons_zero, List.set_cons_succ]
        refine up_take (i := 1) (v := ?_) (by kernel_rfl) (by kernel_rfl) (by kernel_rfl) rfl (by kernel_rfl) (by kernel_rfl) (by kernel_rfl) (fun _ _ _ h => h) (Or.inl ⟨by rfl, ?_⟩) hHeld ?_
        rotate_left
        · intro u hSu
          (go_simp) <;> (with_reducible rfl)
        change wpUp _ _ _ _ _ _ _ _ (Act.put _ (some 36) _) _
        simp only [Act.put, List.setIfInBounds_toArray, List.set_cons_zero, List.set_cons_succ]
        refine up_take (i := 2) (v := ?_) (by kernel_rfl) (by kernel_rfl) (by kernel_rfl) rfl (by kernel_rfl) (by kernel_rfl) (by kernel_rfl) (fun _ _ _ h => h) (Or.inl ⟨by rfl, ?_⟩) hHeld ?_
        rotate_left
        · intro u hSu
          (go_simp) <;> (with_reducible rfl)
        change wpUp _ _ _ _ _ _ _ _ (Act.put _ (some 37) _) _
        simp only [Act.put, List.setIfInBounds_toArray, List.set_cons_zero, List.set_cons_succ]
        refine up_take (i := 3) (v := ?_) (by kernel_rfl) (by kernel_rfl) (by kernel_rfl) rfl (by kernel_rfl) (by kernel_rfl) (by kernel_rfl) (fun _ _ _ h => h) (Or.inl ⟨by rfl, ?_⟩) hHeld ?_
        rotate_left
        · intro u hSu
          obtain ⟨q0, y3, y8, y9, f9⟩ := FC.out u hSu
          (go_simp) <;> (with_reducible rfl)
        change wpUp _ _ _ _ _ _ _ _ (Act.put _ (some 38) _) _
        simp only [Act.put, List.setIfInBounds_toArray, List.set_cons_zero, List.set_cons_succ]
        refine up_take (i := 4) (v := ?_) (by kernel_rfl) (by kernel_rfl) (by kernel_rfl) rfl (by kernel_rfl) (by kernel_rfl) (by kernel_rfl) (fun _ _ _ h => h) (Or.inl ⟨by rfl, ?_⟩) hHeld ?_
        rotate_left
        · intro u hSu
          (go_simp) <;> (with_reducible rfl)
        change wpUp _ _ _ _ _ _ _ _ (Act.put _ (some 39) _) _
        simp only [Act.put, List.setIfInBounds_toArray, List.set_cons_zero, List.set_cons_succ]
        refine up_take (i := 5) (v := ?_) (by kernel_rfl) (by kernel_rfl) (by kernel_rfl) rfl (by kernel_rfl) (by kernel_rfl) (by kernel_rfl) (fun _ _ _ h => h) (Or.inl ⟨by rfl, ?_⟩) hHeld ?_
        rotate_left
        · intro u hSu
          (go_simp) <;> (with_reducible rfl)
        change wpUp _ _ _ _ _ _ _ _ (Act.put _ (some 40) _) _
        simp only [Act.put, List.setIfInBounds_toArray, List.set_cons_zero, List.set_cons_succ]
        refine up_take (i := 6) (v := ?_) (by kernel_rfl) (by kernel_rfl) (by kernel_rfl) rfl (by kernel_rfl) (by kernel_rfl) (by kernel_rfl) (fun _ _ _ h => h) (Or.inl ⟨by rfl, ?_⟩) hHeld ?_
        rotate_left
        · intro u hSu
          (go_simp) <;> (with_reducible rfl)
        change wpUp _ _ _ _ _ _ _ _ (Act.put _ (some 41) _) _
        simp only [Act.put, List.setIfInBounds_toArray, List.set_cons_zero, List.set_cons_succ]
        refine up_take (i := 7) (v := ?_) (by kernel_rfl) (by kernel_rfl) (by kernel_rfl) rfl (by kernel_rfl) (by kernel_rfl) (by kernel_rfl) (fun _ _ _ h => h) (Or.inl ⟨by rfl, ?_⟩) hHeld ?_
        rotate_left
        · intro u hSu
          obtain ⟨q0, y3, y8, y9, f9⟩ := FC.out u hSu
          (go_simp) <;> (with_reducible rfl)
        change wpUp _ _ _ _ _ _ _ _ (Act.put _ (some 42) _) _
        simp only [Act.put, List.setIfInBounds_toArray, List.set_cons_zero, List.set_cons_succ]
        refine up_take (i := 8) (v := ?_) (by kernel_rfl) (by kernel_rfl) (by kernel_rfl) rfl (by kernel_rfl) (by kernel_rfl) (by kernel_rfl) (fun _ _ _ h => h) (Or.inl ⟨by rfl, ?_⟩) hHeld ?_
        rotate_left
        · intro u hSu
          (go_simp) <;> (with_reducible rfl)
        change wpUp _ _ _ _ _ _ _ _ (Act.put _ (some 43) _) _
        simp only [Act.put, List.setIfInBounds_toArray, List.set_cons_zero, List.set_cons_succ]
        refine up_take (i := 9) (v := ?_) (by kernel_rfl) (by kernel_rfl) (by kernel_rfl) rfl (by kernel_rfl) (by kernel_rfl) (by kernel_rfl) (fun _ _ _ h => h) (Or.inl ⟨by rfl, ?_⟩) hHeld ?_
        rotate_left
        · intro u hSu
          (go_simp) <;> (with_reducible rfl)
        change wpUp _ _ _ _ _ _ _ _ (Act.put _ (some 44) _) _
        simp only [Act.put, List.setIfInBounds_toArray, List.set_cons_zero, List.set_cons_succ]
        refine up_take (i := 10) (v := ?_) (by kernel_rfl) (by kernel_rfl) (by kernel_rfl) rfl (by kernel_rfl) (by kernel_rfl) (by kernel_rfl) (fun _ _ _ h => h) (Or.inl ⟨by rfl, ?_⟩) hHeld ?_
        rotate_left
        · intro u hSu
          (go_simp) <;> (with_reducible rfl)
        change wpUp _ _ _ _ _ _ _ _ (Act.put _ (some 45) _) _
        simp only [Act.put, List.setIfInBounds_toArray, List.set_cons_zero, List.set_cons_succ]
        refine up_take (i := 11) (v := ?_) (by kernel_rfl) (by kernel_rfl) (by kernel_rfl) rfl (by kernel_rfl) (by kernel_rfl) (by kernel_rfl) (fun _ _ _ h => h) (Or.inl ⟨by rfl, ?_⟩) hHeld ?_
        rotate_left
        · intro u hSu
          obtain ⟨q0, y3, y8, y9, f9⟩ := FC.out u hSu
          (go_simp) <;> (with_reducible rfl)
        change wpUp _ _ _ _ _ _ _ _ (Act.put _ (some 46) _) _
        simp only [Act.put, List.setIfInBounds_toArray, List.set_cons_zero, List.set_cons_succ]
        refine up_take (i := 12) (v := ?_) (by kernel_rfl) (by kernel_rfl) (by kernel_rfl) rfl (by kernel_rfl) (by kernel_rfl) (by kernel_rfl) (fun _ _ _ h => h) (Or.inl ⟨by rfl, ?_⟩) hHeld ?_
        rotate_left
        · intro u hSu
          (go_simp) <;> (with_reducible rfl)
        change wpUp _ _ _ _ _ _ _ _ (Act.put _ (some 47) _) _
        simp only [Act.put, List.setIfInBounds_toArray, List.set_cons_zero, List.set_cons_succ]
        refine up_take (i := 13) (v := ?_) (by kernel_rfl) (by kernel_rfl) (by kernel_rfl) rfl (by kernel_rfl) (by kernel_rfl) (by kernel_rfl) (fun _ _ _ h => h) (Or.inl ⟨by rfl, ?_⟩) hHeld ?_
        rotate_left
        · intro u hSu
          (go_simp) <;> (with_reducible rfl)
        change wpUp _ _ _ _ _ _ _ _ (Act.put _ (some 48) _) _
        simp only [Act.put, List.setIfInBounds_toArray, List.set_cons_zero, List.set_cons_succ]
        refine up_take (i := 14) (v := ?_) (by kernel_rfl) (by kernel_rfl) (by kernel_rfl) rfl (by kernel_rfl) (by kernel_rfl) (by kernel_rfl) (fun _ _ _ h => h) (Or.inl ⟨by rfl, ?_⟩) hHeld ?_
        rotate_left
        · intro u hSu
          (go_simp) <;> (with_reducible rfl)
        change wpUp _ _ _ _ _ _ _ _ (Act.put _ (some 49) _) _
        simp only [Act.put, List.setIfInBounds_toArray, List.set_cons_zero, List.set_cons_succ]
        refine up_take (i := 15) (v := ?_) (by kernel_rfl) (by kernel_rfl) (by kernel_rfl) rfl (by kernel_rfl) (by kernel_rfl) (by kernel_rfl) (fun _ _ _ h => h) (Or.inl ⟨by rfl, ?_⟩) hHeld ?_
        rotate_left
        · intro u hSu
          obtain ⟨q0, y3, y8, y9, f9⟩ := FC.out u hSu
          (go_simp) <;> (with_reducible rfl)
        change wpUp _ _ _ _ _ _ _ _ (Act.put _ (some 50) _) _
        simp only [Act.put, List.setIfInBounds_toArray, List.set_cons_zero, List.set_cons_succ]
        refine up_take (i := 16) (v := ?_) (by kernel_rfl) (by kernel_rfl) (by kernel_rfl) rfl (by kernel_rfl) (by kernel_rfl) (by kernel_rfl) (fun _ _ _ h => h) (Or.inl ⟨by rfl, ?_⟩) hHeld ?_
        rotate_left
        · intro u hSu
          (go_simp) <;> (with_reducible rfl)
        change wpUp _ _ _ _ _ _ _ _ (Act.put _ (some 51) _) _
        simp only [Act.put, List.setIfInBounds_toArray, List.set_cons_zero, List.set_cons_succ]
        refine up_ready (rs := [17]) (by kernel_rfl) (by simp) ?_
        refine AllUp.cons rfl (fun K hK => ?_) AllUp.nil
        go_simp
        go_at_call 53
        refine (CP.out _ hHeld).mono ?_
        rintro e u1 ⟨rfl, hw1⟩
        obtain rfl := hw1.symm; clear hw1
        refine hK.out _ _ ?_ (fun hHeld2 => ?_)
        · exact hHeld
        clear hK K hHeld
        have hHeld := hHeld2
        clear hHeld2
        refine up_take (i := 18) (v := ?_) (by kernel_rfl) (by kernel_rfl) (by kernel_rfl) rfl (by kernel_rfl) (by kernel_rfl) (by kernel_rfl) (fun _ _ _ h => h) (Or.inl ⟨by rfl, ?_⟩) hHeld ?_
        rotate_left
        · intro u hSu
          (go_simp) <;> (with_reducible rfl)
        change wpUp _ _ _ _ _ _ _ _ (Act.put _ (some 53) _) _
        simp only [Act.put, List.setIfInBounds_toArray, List.set_cons_zero, List.set_cons_succ]
        refine up_ready (rs := [19]) (by kernel_rfl) (by simp) ?_
        refine AllUp.that rfl (fun K hK => ?_) AllUp.nil
        obtain ⟨q0, y3, y8, y9, f9⟩ := FC.out w.drew hHeld; go_simp; refine hK.out _ _ ?_; clear hK K
        refine up_done (by kernel_rfl) ?_
        refine NoPanic.normal ?_
        clear q0 y3 y8 y9 f9
        go_wp2
        go_ret
        rw [HR.out]
        exact ⟨rfl, HEND.out _ hHeld⟩
set_option maxHeartbeats 8000000 in
set_option maxRecDepth 8000 in
theorem rcgive_any {q : Nat} {M : List OneM} {F : Foot} (id : Int) (w : World) (h : CrdO w q M F) (hf : M.length ≤ 1000000) :
    Calls Try.prog 23 #[.pointer (some ⟨q, 0, none⟩), .int .i64 id] w fun e w' => e = .returned (.tuple #[.bool (giveC (decs M) id).1.1, .int .i64 (giveC (decs M) id).1.2]) ∧ DidO w w' q (giveC (decs M) id).2 F := by
  obtain ⟨N, hN⟩ : ∃ n, M.length = n := ⟨_, rfl⟩
  have CA : Hid (Calls Try.prog 51 #[.pointer (some ⟨q, 0, none⟩), .int .i64 id] w fun e w' => e = .returned (.int .i64 (atC (decs M) id)) ∧ w' = w) := rcat_any id w h.view hf
  have HS : Hid (DidO w w q (decs M) F) := DidO.stay h (Below.refl _ _)
  rcases atC_ways M id with ⟨h1, h2⟩ | ⟨i, x, h1, h2, h3, h4⟩
  · have HR : Hid (giveC (decs M) id = ((false, 4), decs M)) := by show _ = _; unfold giveC; rw [h2]
    rw [h1] at CA
    clear h h1 h2
    go_enter Try.func23, Try.ntmps23
    go_wp2_with (go_at_call 51; refine CA.out.mono ?_; rintro e w1 ⟨rfl, hw⟩; obtain rfl := hw.symm; clear hw)
    go_returns
    rw [HR.out]
    exact ⟨rfl, HS.out⟩
  · obtain ⟨g, c, E⟩ := CrdE.start h h3
    obtain ⟨K1, K2, K3⟩ := E.cells
    rw [hN] at K1 K2
    obtain ⟨_, _, _, _, _, y5, _, _, _⟩ := K3.cells
    have hsame : putC (decs M) x.d = decs M := putC_same h.ids (show (decs M)[i]? = some x.d by unfold decs; rw [List.getElem?_map, h3]; rfl)
    have HR0 : giveC (decs M) id = ((decide ((giveD x.d).how = 1), 0), putC (decs M) (giveD x.d)) := by unfold giveC; rw [h2]
    have hi0 : (0 : Int) ≤ (i : Int) := by omega
    have hiN : (i : Int) < (N : Int) := by omega
    have d0 : decide ((i : Int) < 0) = false := decide_eq_false (by omega)
    rw [h1] at CA
    by_cases h0 : x.d.how = 0
    · have hb : (x.d.how == 0) = true := by simpa using h0
      have eg : giveD x.d = noD x.d := by unfold giveD; rw [if_pos h0]
      have HR : Hid (giveC (decs M) id = ((false, 0), putC (decs M) (noD x.d))) := by show _ = _; rw [HR0, eg]; rfl
      obtain ⟨hgq, hgl, hql⟩ : g ≠ q ∧ g < w.heap.size ∧ q < w.heap.size := by
        obtain ⟨O, ho⟩ := E.tbl
        refine ⟨?_, cell_lt y5, cell_lt K1⟩
        rcases ho.row with ⟨e, _⟩ | ⟨g', e1, e2, e3, _⟩
        · have := E.at_; rw [e] at this; simp at this
        · cases e1; exact e3
      have HSU : Hid (∀ u, Chg w u (fun k => k = g) → u.cell? ⟨q, 0, none⟩ = some (.slice (some ⟨g, 0, none⟩) N c)) := fun u hu => (cell_kept (hu.block q hql hgq.symm) 0).trans K1
      have H5 : Hid (∀ u, Below w.heap.size w u → u.cell? ⟨g, i * 9 + 5, none⟩ = some (.int .i64 x.d.how) ∧ u.frozen? ⟨g, i * 9 + 5, none⟩ = false) := fun u hu => by
        obtain ⟨O, ho⟩ := (E.past hu).tbl
        refine ⟨(hu.cell (p := ⟨g, i * 9 + 5, none⟩) (cell_lt y5)).trans y5, ?_⟩
        rcases ho.row with ⟨e, _⟩ | ⟨g', e1, e2, e3, e4, e5⟩
        · have := E.at_; rw [e] at this; simp at this
        · cases e1; exact e5.free _
      have HE1 : Hid (∀ u, Below w.heap.size w u → CrdE w (u.setCell ⟨g, i * 9 + 5, none⟩ (.int .i64 2)) q M F g c i { x with d := { x.d with how := 2 } }) := fun u hu => (E.past hu).how 2
      have HFZ : Hid (∀ (u : World) (y : OneM), CrdE w u q M F g c i y → u.there g (i * 9 + 6) 2) := fun u y hy => by
        obtain ⟨O, ho⟩ := hy.tbl
        have hc := hy.cells.one.cells
        have hfz : ∀ j, u.frozen? ⟨g, j, none⟩ = false := by
          rcases ho.row with ⟨e, _⟩ | ⟨g', e1, e2, e3, e4, e5⟩
          · have := hy.at_; rw [e] at this; simp at this
          · cases e1; exact e5.free
        intro j hj
        have hj' : j = 0 ∨ j = 1 := by omega
        rcases hj' with rfl | rfl
        · exact ⟨by rw [Nat.add_zero, hc.2.2.2.2.2.2.1]; rfl, hfz _⟩
        · exact ⟨by rw [show i * 9 + 6 + 1 = i * 9 + 7 by omega, hc.2.2.2.2.2.2.2.1]; rfl, hfz _⟩
      have HEND : Hid (∀ u, CrdE w u q M F g c i { x with d := { x.d with how := 2 } } → CrdE w ((u.setCell ⟨g, i * 9 + 6, none⟩ (.int .i64 0)).setCell ⟨g, i * 9 + 7, none⟩ (.int .u8 0)) q M F g c i { x with d := noD x.d }) := fun u hu => hu.stamp 0 0
      have HEN : Hid (∀ u, CrdE w u q M F g c i { x with d := noD x.d } → DidO w u q (putC (decs M) (noD x.d)) F ∧ u.cell? ⟨g, i * 9 + 5, none⟩ = some (.int .i64 2) ∧ u.cell? ⟨q, 0, none⟩ = some (.slice (some ⟨g, 0, none⟩) N c)) := fun u hu => ⟨hu.done, hu.cells.one.cells.2.2.2.2.2.1, by have := hu.cells.list; rwa [hN] at this⟩
      clear h h1 h2 h3 h4 E K3 hsame HR0 h0 eg HS
      generalize x.d.how = hw at *
      go_enter Try.func23, Try.ntmps23
      go_wp2_with (go_at_call 51; refine CA.out.mono ?_; rintro e w1 ⟨rfl, hw⟩; obtain rfl := hw.symm; clear hw)
      clear K1 y5
      have hS0 : Chg w w.drew (fun k => k = g) := (Chg.refl _ _).drew
      refine wp_region_noPanic ?_
      refine region_up 16 (fun u => Chg w u (fun k => k = g)) (by kernel_rfl) ?_ (fun hHeld => ?_)
      · exact hS0
      refine up_take (i := 0) (v := ?_) (by kernel_rfl) (by kernel_rfl) (by kernel_rfl) rfl (by kernel_rfl) (by kernel_rfl) (by kernel_rfl) (fun _ _ _ h => h) (Or.inl ⟨by rfl, ?_⟩) hHeld ?_
      rotate_left
      · intro u hSu
        (go_simp) <;> (with_reducible rfl)
      change wpUp _ _ _ _ _ _ _ _ (Act.put _ (some 21) _) _
      simp only [Act.put, List.setIfInBounds_toArray, List.set_cons_zero, List.set_cons_succ]
      refine up_take (i := 1) (v := ?_) (by kernel_rfl) (by kernel_rfl) (by kernel_rfl) rfl (by kernel_rfl) (by kernel_rfl) (by kernel_rfl) (fun _ _ _ h => h) (Or.inl ⟨by rfl, ?_⟩) hHeld ?_
      rotate_left
      · intro u hSu
        (go_simp) <;> (with_reducible rfl)
      change wpUp _ _ _ _ _ _ _ _ (Act.put _ (some 22) _) _
      simp only [Act.put, List.setIfInBounds_toArray, List.set_cons_zero, List.set_cons_succ]
      refine up_take (i := 2) (v := ?_) (by kernel_rfl) (by kernel_rfl) (by kernel_rfl) rfl (by kernel_rfl) (by kernel_rfl) (by kernel_rfl) (fun _ _ _ h => h) (Or.inl ⟨by rfl, ?_⟩) hHeld ?_
      rotate_left
      · intro u hSu
        (go_simp) <;> (with_reducible rfl)
      change wpUp _ _ _ _ _ _ _ _ (Act.put _ (some 23) _) _
      simp only [Act.put, List.setIfInBounds_toArray, List.set_cons_zero, List.set_cons_succ]
      refine up_take (i := 3) (v := ?_) (by kernel_rfl) (by kernel_rfl) (by kernel_rfl) rfl (by kernel_rfl) (by kernel_rfl) (by kernel_rfl) (fun _ _ _ h => h) (Or.inl ⟨by rfl, ?_⟩) hHeld ?_
      rotate_left
      · intro u hSu
        have q0 := HSU.out u hSu
        (go_simp) <;> (with_reducible rfl)
      change wpUp _ _ _ _ _ _ _ _ (Act.put _ (some 24) _) _
      simp only [Act.put, List.setIfInBounds_toArray, List.set_cons_zero, List.set_cons_succ]
      refine up_take (i := 4) (v := ?_) (by kernel_rfl) (by kernel_rfl) (by kernel_rfl) rfl (by kernel_rfl) (by kernel_rfl) (by kernel_rfl) (fun _ _ _ h => h) (Or.inl ⟨by rfl, ?_⟩) hHeld ?_
      rotate_left
      · intro u hSu
        (go_simp) <;> (with_reducible rfl)
      change wpUp _ _ _ _ _ _ _ _ (Act.put _ (some 25) _) _
      simp only [Act.put, List.setIfInBounds_toArray, List.set_cons_zero, List.set_cons_succ]
      refine up_take (i := 5) (v := ?_) (by kernel_rfl) (by kernel_rfl) (by kernel_rfl) rfl (by kernel_rfl) (by kernel_rfl) (by kernel_rfl) (fun _ _ _ h => h) (Or.inl ⟨by rfl, ?_⟩) hHeld ?_
      rotate_left
      · intro u hSu
        (go_simp) <;> (with_reducible rfl)
      change wpUp _ _ _ _ _ _ _ _ (Act.put _ (some 26) _) _
      simp only [Act.put, List.setIfInBounds_toArray, List.set_cons_zero, List.set_cons_succ]
      refine up_take (i := 6) (v := ?_) (by kernel_rfl) (by kernel_rfl) (by kernel_rfl) rfl (by kernel_rfl) (by kernel_rfl) (by kernel_rfl) (fun _ _ _ h => h) (Or.inl ⟨by rfl, ?_⟩) hHeld ?_
      rotate_left
      · intro u hSu
        (go_simp) <;> (with_reducible rfl)
      change wpUp _ _ _ _ _ _ _ _ (Act.put _ (some 27) _) _
      simp only [Act.put, List.setIfInBounds_toArray, List.set_cons_zero, List.set_cons_succ]
      refine up_take (i := 7) (v := ?_) (by kernel_rfl) (by kernel_rfl) (by kernel_rfl) rfl (by kernel_rfl) (by kernel_rfl) (by kernel_rfl) (fun _ _ _ h => h) (Or.inl ⟨by rfl, ?_⟩) hHeld ?_
      rotate_left
      · intro u hSu
        (go_simp) <;> (with_reducible rfl)
      change wpUp _ _ _ _ _ _ _ _ (Act.put _ (some 28) _) _
      simp only [Act.put, List.setIfInBounds_toArray, List.set_cons_zero, List.set_cons_succ]
      refine up_take (i := 8) (v := ?_) (by kernel_rfl) (by kernel_rfl) (by kernel_rfl) rfl (by kernel_rfl) (by kernel_rfl) (by kernel_rfl) (fun _ _ _ h => h) (Or.inl ⟨by rfl, ?_⟩) hHeld ?_
      rotate_left
      · intro u hSu
        have q0 := HSU.out u hSu
        (go_simp) <;> (with_reducible rfl)
      change wpUp _ _ _ _ _ _ _ _ (Act.put _ (some 29) _) _
      simp only [Act.put, List.setIfInBounds_toArray, List.set_cons_zero, List.set_cons_succ]
      refine up_take (i := 9) (v := ?_) (by kernel_rfl) (by kernel_rfl) (by kernel_rfl) rfl (by kernel_rfl) (by kernel_rfl) (by kernel_rfl) (fun _ _ _ h => h) (Or.inl ⟨by rfl, ?_⟩) hHeld ?_
      rotate_left
      · intro u hSu
        (go_simp) <;> (with_reducible rfl)
      change wpUp _ _ _ _ _ _ _ _ (Act.put _ (some 30) _) _
      simp only [Act.put, List.setIfInBounds_toArray, List.set_cons_zero, List.set_cons_succ]
      refine up_take (i := 10) (v := ?_) (by kernel_rfl) (by kernel_rfl) (by kernel_rfl) rfl (by kernel_rfl) (by kernel_rfl) (by kernel_rfl) (fun _ _ _ h => h) (Or.inl ⟨by rfl, ?_⟩) hHeld ?_
      rotate_left
      · intro u hSu
        (go_simp) <;> (with_reducible rfl)
      change wpUp _ _ _ _ _ _ _ _ (Act.put _ (some 31) _) _
      simp only [Act.put, List.setIfInBounds_toArray, List.set_cons_zero, List.set_cons_succ]
      refine up_take (i := 11) (v := ?_) (by kernel_rfl) (by kernel_rfl) (by kernel_rfl) rfl (by kernel_rfl) (by kernel_rfl) (by kernel_rfl) (fun _ _ _ h => h) (Or.inl ⟨by rfl, ?_⟩) hHeld ?_
      rotate_left
      · intro u hSu
        (go_simp) <;> (with_reducible rfl)
      change wpUp _ _ _ _ _ _ _ _ (Act.put _ (some 32) _) _
      simp only [Act.put, List.setIfInBounds_toArray, List.set_cons_zero, List.set_cons_succ]
      refine up_take (i := 12) (v := ?_) (by kernel_rfl) (by kernel_rfl) (by kernel_rfl) rfl (by kernel_rfl) (by kernel_rfl) (by kernel_rfl) (fun _ _ _ h => h) (Or.inl ⟨by rfl, ?_⟩) hHeld ?_
      rotate_left
      · intro u hSu
        (go_simp) <;> (with_reducible rfl)
      change wpUp _ _ _ _ _ _ _ _ (Act.put _ (some 33) _) _
      simp only [Act.put, List.setIfInBounds_toArray, List.set_cons_zero, List.set_cons_succ]
      refine up_ready (rs := [13]) (by kernel_rfl) (by simp) ?_
      refine AllUp.cons rfl (fun K hK => ?_) AllUp.nil
      obtain ⟨z5, f5⟩ := H5.out w.drew (Below.refl _ _).drew; have E1 := HE1.out w.drew (Below.refl _ _).drew; have E1 : Hid _ := E1; go_simp
      refine hK.out _ _ ?_ (fun hHeld2 => ?_)
      · exact hHeld.trans (Chg.set _ _ _ (X := fun k => k = g) rfl) (fun _ _ y => y)
      clear hK K hHeld
      have hHeld := hHeld2
      clear hHeld2
      refine up_take (i := 14) (v := ?_) (by kernel_rfl) (by kernel_rfl) (by kernel_rfl) rfl (by kernel_rfl) (by kernel_rfl) (by kernel_rfl) (fun _ _ _ h => h) (Or.inl ⟨by rfl, ?_⟩) hHeld ?_
      rotate_left
      · intro u hSu
        (go_simp) <;> (with_reducible rfl)
      change wpUp _ _ _ _ _ _ _ _ (Act.put _ (some 34) _) _
      simp only [Act.put, List.setIfInBounds_toArray, List.set_cons_zero, List.set_cons_succ]
      refine up_take (i := 15) (v := ?_) (by kernel_rfl) (by kernel_rfl) (by kernel_rfl) rfl (by kernel_rfl) (by kernel_rfl) (by kernel_rfl) (fun _ _ _ h => h) (Or.inl ⟨by rfl, ?_⟩) hHeld ?_
      rotate_left
      · intro u hSu
        (go_simp) <;> (with_reducible rfl)
      change wpUp _ _ _ _ _ _ _ _ (Act.put _ (some 35) _) _
      simp only [Act.put, List.setIfInBounds_toArray, List.set_cons_zero, List.set_cons_succ]
      refine up_ready (rs := [16]) (by kernel_rfl) (by simp) ?_
      refine AllUp.that rfl (fun K hK => ?_) AllUp.nil
      rw [if_pos (by rfl)]; refine wp_store_mid 28 _ _ rfl g (i * 9 + 6) #[.int .i64 0, .int .u8 0] rfl rfl (HFZ.out _ _ E1.out) (by rw [info_stC]; rfl) (all_oneCell_toArray (fun u hu => by simp at hu; rcases hu with rfl | rfl <;> rfl)) ?_; obtain ⟨u2, hu2⟩ : ∃ u2, u2 = (w.drew.setCell ⟨g, i * 9 + 5, none⟩ (.int .i64 2)).setCells g (i * 9 + 6) [.int .i64 0, .int .u8 0] := ⟨_, rfl⟩; have E2 : Hid (CrdE w u2 q M F g c i { x with d := noD x.d }) := (by rw [hu2]; exact HEND.out _ E1.out); show K _ (World.setCells (World.setCell w.drew ⟨g, i * 9 + 5, none⟩ (.int .i64 2)) g (i * 9 + 6) [.int .i64 0, .int .u8 0]); rw [← hu2]; clear hu2 E1; refine hK.out _ _ ?_; clear hK K hHeld
      refine up_done (by kernel_rfl) ?_
      refine NoPanic.normal ?_
      obtain ⟨D2, z5', q0'⟩ := HEN.out _ E2.out
      go_wp2
      go_returns
      rw [HR.out]
      exact ⟨rfl, D2⟩
    · have hb : (x.d.how == 0) = false := by simpa using h0
      have eg : giveD x.d = x.d := by unfold giveD; rw [if_neg h0]
      have HR : Hid (giveC (decs M) id = ((x.d.how == 1, 0), decs M)) := by
        show _ = _
        rw [HR0, eg, hsame, show decide (x.d.how = 1) = (x.d.how == 1) by rw [Bool.eq_iff_iff]; simp]
      generalize x.d.how = hw at *
      clear h h1 h2 h3 h4 E K3 hsame HR0 h0 eg
      go_enter Try.func23, Try.ntmps23
      go_wp2_with (go_at_call 51; refine CA.out.mono ?_; rintro e w1 ⟨rfl, hw⟩; obtain rfl := hw.symm; clear hw)
      go_returns
      rw [HR.out]
      exact ⟨rfl, HS.out⟩
end Go.Proofs.Ytcppihpehipelaa
