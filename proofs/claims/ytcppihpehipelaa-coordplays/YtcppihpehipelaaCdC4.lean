/-
  The landed coord: Decision, Ack, Owes.
-/
import Derived.Test.YtcppihpehipelaaCdC3
namespace Go.Proofs.Ytcppihpehipelaa
open Go.RowKit
set_option linter.unusedVariables false
set_option linter.unusedSimpArgs false

set_option maxHeartbeats 2000000 in
set_option maxRecDepth 8000 in
theorem cddecision_any (b : Nat) (C : List DecC) (X : Foot) (id : Int) (w : World) (h : CoD w b C X) (hi : I64 id) :
    Calls Try.prog 13 #[.pointer (some ⟨b, 0, none⟩), .int .i64 id] w fun e w' => e = .returned (.tuple #[.bool (decC C id).1, .bool (decC C id).2.1, .agg #[.int .i64 (decC C id).2.2.1, .int .u8 (decC C id).2.2.2]]) ∧ Below w.heap.size w w' := by
  obtain ⟨W0, hW0⟩ : ∃ u, u = w.alloc (.cells #[.int .i64 0, .int .u8 0] 28) := ⟨_, rfl⟩
  have HW0 : Hid (w.alloc (.cells #[.int .i64 0, .int .u8 0] 28) = W0) := hW0.symm
  have HB : Hid (Below w.heap.size w W0) := by rw [hW0]; exact (Below.refl _ _).alloc (Nat.le_refl _) _
  have HS : Hid (∀ u, Below W0.heap.size W0 u → u.cell? ⟨w.heap.size, 0, none⟩ = some (.int .i64 0) ∧ u.cell? ⟨w.heap.size, 1, none⟩ = some (.int .u8 0) ∧ u.frozen? ⟨w.heap.size, 0, none⟩ = false ∧ u.frozen? ⟨w.heap.size, 1, none⟩ = false) := fun u hu => by
    have hl : w.heap.size < W0.heap.size := by rw [hW0, World.size_alloc]; omega
    rw [hu.cell (p := ⟨w.heap.size, 0, none⟩) hl, hu.cell (p := ⟨w.heap.size, 1, none⟩) hl, hu.frozen (p := ⟨w.heap.size, 0, none⟩) hl, hu.frozen (p := ⟨w.heap.size, 1, none⟩) hl, hW0, World.cell?_alloc_new, World.cell?_alloc_new]
    exact ⟨rfl, rfl, World.frozen?_alloc_new _ _ _ _, World.frozen?_alloc_new _ _ _ _⟩
  obtain ⟨R, hR⟩ : ∃ r, r = decC C id := ⟨_, rfl⟩
  rw [← hR]
  have HBX : Hid (∀ (v : World) (t n : Int), v = W0 ∨ v = W0.drew → Below w.heap.size w ((v.setCell ⟨w.heap.size, 0, none⟩ (.int .i64 t)).setCell ⟨w.heap.size, 1, none⟩ (.int .u8 n))) := fun v t n hv => by
    have hbv : Below w.heap.size w v := by
      rcases hv with rfl | rfl
      · exact HB.out
      · exact HB.out.drew
    exact (hbv.setCell (p := ⟨w.heap.size, 0, none⟩) (Nat.le_refl _) _).setCell (p := ⟨w.heap.size, 1, none⟩) (Nat.le_refl _) _
  obtain ⟨m, G, Y, h⟩ := h
  have h' := h.past HB.out
  have no : (∀ d, getC C id = some d → d.how = 0) → Hid (R = (false, false, 0, 0)) := fun hn => by
    show _ = _
    rw [hR]
    unfold decC
    cases hg : getC C id with
    | none => rfl
    | some d => exact if_pos (hn d hg)
  by_cases hn : ∀ d, getC C id = some d → d.how = 0
  · have HR := no hn
    have CA : Hid (Calls Try.prog 44 #[.pointer (some ⟨b, 0, none⟩), .int .i64 id] W0 fun e w' => e = .returned (.pointer none) ∧ w' = W0) := cddecided_no b C X id W0 ⟨m, G, Y, h'⟩ hi hn
    obtain ⟨s0, s1, s2, s3⟩ := HS.out W0 (Below.refl _ _)
    clear h h' hR hW0 HS hn no hi
    go_enter Try.func13, Try.ntmps13
    go_wp2_with (go_at_call 44; rw [HW0.out]; refine CA.out.mono ?_; rintro e w1 ⟨rfl, hw⟩; obtain rfl := hw.symm; clear hw)
    obtain ⟨e0, e1⟩ := box_setC 0 0 s0 s1
    exact bodyPost_ret (results_3sC rfl _ _ w.heap.size 0 0 rfl e0 e1) rfl ⟨by rw [HR.out]; rfl, HBX.out _ 0 0 (.inl rfl)⟩
  · rcases h'.at_id hi with ⟨h1, h2⟩ | ⟨i, d, g, h1, h2, h3, h4, h5, h6⟩
    · exact absurd (fun d hd => by rw [h1] at hd; cases hd) hn
    have h0 : d.how ≠ 0 := fun e => hn (fun d' hd' => by rw [h1] at hd'; injection hd' with hd'; rw [← hd']; exact e)
    have CA : Hid (Calls Try.prog 44 #[.pointer (some ⟨b, 0, none⟩), .int .i64 id] W0 fun e w' => e = .returned (.pointer (some ⟨g, 0, none⟩)) ∧ w' = W0) := cddecided_yes b m C X G Y id d g W0 h' hi (h'.tbl.each d h4) h6 h5 h0
    have HR : Hid (R = (true, decide (d.how = 1), d.at_, d.an)) := by show _ = _; rw [hR]; unfold decC; rw [h1]; exact if_neg h0
    obtain ⟨⟨gp, cp, aa, ac, go, co, k1, k2⟩, k3⟩ := h6
    have box0 := k1.box
    have FC : Hid (∀ u, Below W0.heap.size W0 u → u.cell? ⟨g, 5, none⟩ = some (.bool (decide (d.how = 1))) ∧ u.cell? ⟨g, 6, none⟩ = some (.int .i64 d.at_) ∧ u.cell? ⟨g, 7, none⟩ = some (.int .u8 d.an)) := fun u hu => ⟨(box0.past hu).c5, (box0.past hu).c6, (box0.past hu).c7⟩
    clear h h' hR hW0 hn no hi h1 h2 h3 h4 h5 k1 k2 k3 box0 h0
    generalize decide (d.how = 1) = yb at *
    generalize d.at_ = t at *
    generalize d.an = n at *
    go_enter Try.func13, Try.ntmps13
    go_wp2_with (go_at_call 44; rw [HW0.out]; refine CA.out.mono ?_; rintro e w1 ⟨rfl, hw⟩; obtain rfl := hw.symm; clear hw)
    refine wp_region_noPanic ?_
    refine region_up 10 (fun u => Below W0.heap.size W0 u) (by kernel_rfl) ?_ (fun hHeld => ?_)
    · exact (Below.refl _ _).drew
    refine up_take (i := 0) (v := ?_) (by kernel_rfl) (by kernel_rfl) (by kernel_rfl) rfl (by kernel_rfl) (by kernel_rfl) (by kernel_rfl) (fun _ _ _ h => h) (Or.inl ⟨by rfl, ?_⟩) hHeld ?_
    rotate_left
    · intro u hSu
      (go_simp) <;> (with_reducible rfl)
    change wpUp _ _ _ _ _ _ _ _ (Act.put _ (some 14) _) _
    simp only [Act.put, List.setIfInBounds_toArray, List.set_cons_zero, List.set_cons_succ]
    refine up_take (i := 1) (v := ?_) (by kernel_rfl) (by kernel_rfl) (by kernel_rfl) rfl (by kernel_rfl) (by kernel_rfl) (by kernel_rfl) (fun _ _ _ h => h) (Or.inl ⟨by rfl, ?_⟩) hHeld ?_
    rotate_left
    · intro u hSu
      (go_simp) <;> (with_reducible rfl)
    change wpUp _ _ _ _ _ _ _ _ (Act.put _ (some 15) _) _
    simp only [Act.put, List.setIfInBounds_toArray, List.set_cons_zero, List.set_cons_succ]
    refine up_take (i := 2) (v := ?_) (by kernel_rfl) (by kernel_rfl) (by kernel_rfl) rfl (by kernel_rfl) (by kernel_rfl) (by kernel_rfl) (fun _ _ _ h => h) (Or.inl ⟨by rfl, ?_⟩) hHeld ?_
    rotate_left
    · intro u hSu
      (go_simp) <;> (with_reducible rfl)
    change wpUp _ _ _ _ _ _ _ _ (Act.put _ (some 16) _) _
    simp only [Act.put, List.setIfInBounds_toArray, List.set_cons_zero, List.set_cons_succ]
    refine up_take (i := 3) (v := ?_) (by kernel_rfl) (by kernel_rfl) (by kernel_rfl) rfl (by kernel_rfl) (by kernel_rfl) (by kernel_rfl) (fun _ _ _ h => h) (Or.inl ⟨by rfl, ?_⟩) hHeld ?_
    rotate_left
    · intro u hSu
      obtain ⟨y5, y6, y7⟩ := FC.out u hSu
      (go_simp) <;> (with_reducible rfl)
    change wpUp _ _ _ _ _ _ _ _ (Act.put _ (some 17) _) _
    simp only [Act.put, List.setIfInBounds_toArray, List.set_cons_zero, List.set_cons_succ]
    refine up_take (i := 4) (v := ?_) (by kernel_rfl) (by kernel_rfl) (by kernel_rfl) rfl (by kernel_rfl) (by kernel_rfl) (by kernel_rfl) (fun _ _ _ h => h) (Or.inl ⟨by rfl, ?_⟩) hHeld ?_
    rotate_left
    · intro u hSu
      (go_simp) <;> (with_reducible rfl)
    change wpUp _ _ _ _ _ _ _ _ (Act.put _ (some 18) _) _
    simp only [Act.put, List.setIfInBounds_toArray, List.set_cons_zero, List.set_cons_succ]
    refine up_take (i := 5) (v := ?_) (by kernel_rfl) (by kernel_rfl) (by kernel_rfl) rfl (by kernel_rfl) (by kernel_rfl) (by kernel_rfl) (fun _ _ _ h => h) (Or.inl ⟨by rfl, ?_⟩) hHeld ?_
    rotate_left
    · intro u hSu
      (go_simp) <;> (with_reducible rfl)
    change wpUp _ _ _ _ _ _ _ _ (Act.put _ (some 19) _) _
    simp only [Act.put, List.setIfInBounds_toArray, List.set_cons_zero, List.set_cons_succ]
    refine up_take (i := 6) (v := ?_) (by kernel_rfl) (by kernel_rfl) (by kernel_rfl) rfl (by kernel_rfl) (by kernel_rfl) (by kernel_rfl) (fun _ _ _ h => h) (Or.inl ⟨by rfl, ?_⟩) hHeld ?_
    rotate_left
    · intro u hSu
      (go_simp) <;> (with_reducible rfl)
    change wpUp _ _ _ _ _ _ _ _ (Act.put _ (some 20) _) _
    simp only [Act.put, List.setIfInBounds_toArray, List.set_cons_zero, List.set_cons_succ]
    refine up_take (i := 7) (v := ?_) (by kernel_rfl) (by kernel_rfl) (by kernel_rfl) rfl (by kernel_rfl) (by kernel_rfl) (by kernel_rfl) (fun _ _ _ h => h) (Or.inl ⟨by rfl, ?_⟩) hHeld ?_
    rotate_left
    · intro u hSu
      obtain ⟨y5, y6, y7⟩ := FC.out u hSu
      (go_simp) <;> (with_reducible rfl)
    change wpUp _ _ _ _ _ _ _ _ (Act.put _ (some 21) _) _
    simp only [Act.put, List.setIfInBounds_toArray, List.set_cons_zero, List.set_cons_succ]
    refine up_take (i := 8) (v := ?_) (by kernel_rfl) (by kernel_rfl) (by kernel_rfl) rfl (by kernel_rfl) (by kernel_rfl) (by kernel_rfl) (fun _ _ _ h => h) (Or.inl ⟨by rfl, ?_⟩) hHeld ?_
    rotate_left
    · intro u hSu
      (go_simp) <;> (with_reducible rfl)
    change wpUp _ _ _ _ _ _ _ _ (Act.put _ (some 4) _) _
    simp only [Act.put, List.setIfInBounds_toArray, List.set_cons_zero, List.set_cons_succ]
    refine up_take (i := 9) (v := ?_) (by kernel_rfl) (by kernel_rfl) (by kernel_rfl) rfl (by kernel_rfl) (by kernel_rfl) (by kernel_rfl) (fun _ _ _ h => h) (Or.inl ⟨by rfl, ?_⟩) hHeld ?_
    rotate_left
    · intro u hSu
      (go_simp) <;> (with_reducible rfl)
    change wpUp _ _ _ _ _ _ _ _ (Act.put _ (some 5) _) _
    simp only [Act.put, List.setIfInBounds_toArray, List.set_cons_zero, List.set_cons_succ]
    refine up_ready (rs := [10]) (by kernel_rfl) (by simp) ?_
    refine AllUp.that rfl (fun K hK => ?_) AllUp.nil
    (obtain ⟨s0, s1, s2, s3⟩ := HS.out W0.drew (Below.refl _ _).drew); rw [if_pos (by rfl)]; refine wp_store_mid 28 _ _ rfl w.heap.size 0 #[.int .i64 t, .int .u8 n] rfl rfl (there2C s0 s1 s2 s3) (by rw [info_stC]; rfl) (all_oneCell_toArray (fun u hu => by simp at hu; rcases hu with rfl | rfl <;> rfl)) ?_; refine hK.out _ _ ?_; clear hK K hHeld
    refine up_done (by kernel_rfl) ?_
    refine NoPanic.normal ?_
    go_wp2
    obtain ⟨e0, e1⟩ := box_setC t n s0 s1
    exact bodyPost_ret (results_3sC rfl _ _ w.heap.size t n rfl e0 e1) rfl ⟨by rw [HR.out]; rfl, HBX.out _ t n (.inr rfl)⟩
/-- One has done it: what lies there behind it. -/
theorem MatI.acked {w u3 : World} {g gp cp : Nat} {aa : Option Addr} {ac go co : Nat} {d : DecC} {p : Int} (h : MatI w g gp cp aa ac go co d) (hd : DecL d) (h0 : d.how ≠ 0) (hp : hasP d.parts p = true)
    (hc : Chg w u3 (fun k => k = g ∨ k = go)) (hx : gp < w.heap.size) (hi : IntsO u3 go ((owesD d).filter (fun x => !decide (x = p))))
    (hb : MBox u3 g d.st d.sn (.slice (some ⟨gp, 0, none⟩) d.parts.length cp) (.slice aa (awaitsD d).length ac) (.slice (some ⟨go, 0, none⟩) ((owesD d).filter (fun x => !decide (x = p))).length co) (decide (d.how = 1)) d.at_ d.an) :
    MatI u3 g gp cp aa ac go co (ackD d p).2 := by
  have ea : (ackD d p).2 = { d with acks := d.acks.set (spotC d.parts p) true } := by
    unfold ackD
    rw [if_neg (by rw [hp]; simp), if_neg h0]
  have eo : owesD { d with acks := d.acks.set (spotC d.parts p) true } = (owesD d).filter (fun x => !decide (x = p)) := (owes_ack hd hp).symm
  have ew : awaitsD d = [] := if_neg h0
  rw [ea]
  refine ⟨hb.c0, hb.c1, hb.c2, hb.c3, by rw [eo]; exact hb.c4, hb.c5, hb.c6, hb.c7, hb.free, h.parts.kept (hc.block gp hx (fun e => e.elim h.ne.1 h.ne.2.2)), h.pr, fun hn => absurd ew hn, h.ar, by rw [eo]; exact hi, ?_, h.ne⟩
  rw [eo]
  exact Nat.le_trans (List.length_filter_le _ _) h.orr
set_option maxHeartbeats 2000000 in
theorem cdack_any (b : Nat) (C : List DecC) (X : Foot) (id p : Int) (w : World) (h : CoD w b C X) (hi : I64 id) :
    Calls Try.prog 12 #[.pointer (some ⟨b, 0, none⟩), .int .i64 id, .int .i64 p] w fun e w' => e = .returned (.int .i64 (ackC C id p).1) ∧ DidC w w' b (ackC C id p).2 X := by
  have HS : Hid (DidC w w b C X) := DidC.stay h (Below.refl _ _)
  by_cases hn : ∀ d, getC C id = some d → hasP d.parts p = false
  · have CA : Hid (Calls Try.prog 38 #[.pointer (some ⟨b, 0, none⟩), .int .i64 id, .int .i64 p] w fun e w' => e = .returned (.pointer none) ∧ w' = w) := cdamong_no b C X id p w h hi hn
    have HR : Hid (ackC C id p = (4, C)) := by
      show _ = _
      unfold ackC
      cases hg : getC C id with
      | none => rfl
      | some d =>
        have e : ackD d p = (4, d) := by unfold ackD; rw [if_pos (hn d hg)]
        obtain ⟨i, h1, _⟩ := getC_at hg
        simp only [e]
        rw [putC_same h.tbl.sorted h1]
    clear h hi hn
    go_enter Try.func12, Try.ntmps12
    go_wp2_with (go_at_call 38; refine CA.out.mono ?_; rintro e w1 ⟨rfl, hw⟩; obtain rfl := hw.symm; clear hw)
    go_ret
    rw [HR.out]
    exact ⟨rfl, HS.out⟩
  · obtain ⟨m, G, Y, h⟩ := h
    rcases h.at_id hi with ⟨h1, h2⟩ | ⟨i, d, g, h1, h2, h3, h4, h5, h6⟩
    · exact absurd (fun d hd => by rw [h1] at hd; cases hd) hn
    have hp : hasP d.parts p = true := by
      cases e : hasP d.parts p with
      | true => rfl
      | false => exact absurd (fun d' hd' => by rw [h1] at hd'; injection hd' with hd'; rw [← hd']; exact e) hn
    have hd := h.tbl.each d h4
    have CA : Hid (Calls Try.prog 38 #[.pointer (some ⟨b, 0, none⟩), .int .i64 id, .int .i64 p] w fun e w' => e = .returned (.pointer (some ⟨g, 0, none⟩)) ∧ w' = w) := cdamong_yes b m C X G Y id p d g w h hi h1 h5 hp
    have CK0 := cdknown_any g d _ w h6 hd
    by_cases h0 : d.how = 0
    · have CK : Hid (Calls Try.prog 42 #[.pointer (some ⟨g, 0, none⟩)] w fun e w' => e = .returned (.bool false) ∧ w' = w) := by rw [show decide (d.how ≠ 0) = false from decide_eq_false (fun e => e h0)] at CK0; exact CK0
      have HR : Hid (ackC C id p = (8, C)) := by
        show _ = _
        unfold ackC
        rw [h1]
        have e : ackD d p = (8, d) := by unfold ackD; rw [if_neg (by rw [hp]; simp), if_pos h0]
        simp only [e]
        rw [putC_same h.tbl.sorted h2]
      clear h h1 h2 h3 h4 h5 h6 hd hi hn hp CK0 h0
      go_enter Try.func12, Try.ntmps12
      go_wp2_with (first
        | (go_at_call 38; refine CA.out.mono ?_; rintro e w1 ⟨rfl, hw⟩; obtain rfl := hw.symm; clear hw)
        | (go_at_call 42; refine CK.out.mono ?_; rintro e w2 ⟨rfl, hw⟩; obtain rfl := hw.symm; clear hw))
      go_ret
      rw [HR.out]
      exact ⟨rfl, HS.out⟩
    · have CK : Hid (Calls Try.prog 42 #[.pointer (some ⟨g, 0, none⟩)] w fun e w' => e = .returned (.bool true) ∧ w' = w) := by rw [show decide (d.how ≠ 0) = true from decide_eq_true h0] at CK0; exact CK0
      have e1 : (ackD d p).1 = 0 := by unfold ackD; rw [if_neg (by rw [hp]; simp), if_neg h0]
      have HR : Hid (ackC C id p = (0, putC C (ackD d p).2)) := by show _ = _; unfold ackC; rw [h1]; simp only [e1]
      have ht : ∀ u3, MatD u3 g (ackD d p).2 (Y id) → Chg w u3 (Y id) → DidC w u3 b (putC C (ackD d p).2) X := fun u3 k1 k2 => ⟨h.turn (d' := (ackD d p).2) h2 (ackD_id d p) (by rw [h3]; exact h5) (hd.ackD p) (by rw [h3]; exact k2) k1 (fun k hk => .inl (by rw [h3]; exact hk))⟩
      obtain ⟨⟨gp, cp, aa, ac, go, co, k1, k2⟩, k3⟩ := h6
      have box0 := k1.box
      have c4 := k1.c4
      have hgo := k2 go (.inr (.inr (.inl rfl)))
      have hg := k2 g (.inl rfl)
      have HNE : Hid (go ≠ g ∧ g < w.heap.size) := ⟨k1.ne.2.1, k3 g hg⟩
      have HF : Hid (∀ u3, Chg w u3 (fun k => k = g ∨ k = go) → IntsO u3 go ((owesD d).filter (fun x => !decide (x = p))) → MBox u3 g d.st d.sn (.slice (some ⟨gp, 0, none⟩) d.parts.length cp) (.slice aa (awaitsD d).length ac) (.slice (some ⟨go, 0, none⟩) ((owesD d).filter (fun x => !decide (x = p))).length co) (decide (d.how = 1)) d.at_ d.an → DidC w u3 b (putC C (ackD d p).2) X) := fun u3 q1 q2 q3 => by
        refine ht u3 ⟨⟨gp, cp, aa, ac, go, co, k1.acked hd h0 hp q1 (k3 gp (k2 gp (.inr (.inl rfl)))) q2 q3, k2⟩, fun k hk => Nat.lt_of_lt_of_le (k3 k hk) q1.size⟩ (q1.mono (fun k _ e => ?_))
        rcases e with e | e
        · rw [e]; exact hg
        · rw [e]; exact hgo
      have CW0 := cdwo_any go _ co (owesD d) p w rfl (by have := owes_len hd; omega) k1.orr k1.ow (owes_bounds hd)
      obtain ⟨L, hL⟩ : ∃ L, L = (owesD d).filter (fun x => !decide (x = p)) := ⟨_, rfl⟩
      rw [← hL] at HF
      have CW : Hid (Calls Try.prog 43 #[.slice (some ⟨go, 0, none⟩) (owesD d).length co, .int .i64 p] w fun e w' => e = .returned (.slice (some ⟨go, 0, none⟩) L.length co) ∧ IntsO w' go L ∧ Chg w w' (fun k => k = go)) := CW0.mono fun e w' ⟨q1, q2, q3⟩ => by
        rw [← hL] at q1 q2
        exact ⟨q1, q2, q3⟩
      have B0 : Hid (MBox w g d.st d.sn (.slice (some ⟨gp, 0, none⟩) d.parts.length cp) (.slice aa (awaitsD d).length ac) (.slice (some ⟨go, 0, none⟩) (owesD d).length co) (decide (d.how = 1)) d.at_ d.an) := box0
      clear CW0
      generalize (owesD d).length = O0 at *
      generalize (awaitsD d).length = A0 at *
      generalize d.parts.length = P0 at *
      generalize decide (d.how = 1) = yb at *
      generalize d.st = st at *
      generalize d.sn = sn at *
      generalize d.at_ = t at *
      generalize d.an = n at *
      generalize putC C (ackD d p).2 = C2 at *
      generalize L.length = N1 at *
      clear h h1 h2 h3 h4 h5 hd hi hn hp CK0 h0 e1 ht k1 k2 k3 box0 hgo hg hL HS
      go_enter Try.func12, Try.ntmps12
      go_wp2_with (first
        | (go_at_call 38; refine CA.out.mono ?_; rintro e w1 ⟨rfl, hw⟩; obtain rfl := hw.symm; clear hw)
        | (go_at_call 42; refine CK.out.mono ?_; rintro e w2 ⟨rfl, hw⟩; obtain rfl := hw.symm; clear hw)
        | (go_at_call 43; refine CW.out.mono ?_; rintro e u4 ⟨rfl, i4, g4⟩
           have b4 := B0.out.kept (g4.block g HNE.out.2 (fun e => HNE.out.1 e.symm))
           have d4 := b4.c4
           have f4 := b4.free 4
           have H5 : Hid (DidC w (u4.setCell ⟨g, 4, none⟩ (Value.slice (some ⟨go, 0, none⟩) N1 co)) b C2 X) := HF.out _ ((g4.mono (fun _ _ e => .inr e)).trans (Chg.set u4 ⟨g, 4, none⟩ _ (X := fun k => k = g ∨ k = go) (.inl rfl)) (fun _ _ y => y)) (i4.kept (Below.heap_setCell _ ⟨g, 4, none⟩ _ go HNE.out.1)) (b4.set4 _)
           clear b4 i4 g4))
      go_ret
      rw [HR.out]
      exact ⟨rfl, H5.out⟩
/-- Who owes. -/
structure OwesC (C : List DecC) (id : Int) (e : Ending) (w' : World) : Prop where
  out : ∃ a n c, e = .returned (.slice a n c) ∧ (owesC C id).length = n ∧ n ≤ c ∧ IntsAt w' a (owesC C id)
set_option maxHeartbeats 1000000 in
theorem cdowes_any (b : Nat) (C : List DecC) (X : Foot) (id : Int) (w : World) (h : CoD w b C X) (hi : I64 id) :
    Calls Try.prog 30 #[.pointer (some ⟨b, 0, none⟩), .int .i64 id] w fun e w' => OwesC C id e w' ∧ Below w.heap.size w w' := by
  obtain ⟨m, G, Y, h⟩ := h
  have c0 := h.c0
  have HL := h.look hi
  rcases h.at_id hi with ⟨h1, h2⟩ | ⟨i, d, g, h1, h2, h3, h4, h5, h6⟩
  · rw [h2] at HL
    replace HL : (Instr.lookup 68 (.map (some m)) (.int .i64 id) false).run Try.prog w = .ok (.pointer none) w := HL
    have HR : Hid (owesC C id = []) := by show _ = _; unfold owesC; rw [h1]
    clear h h1 h2 hi
    go_enter Try.func30, Try.ntmps30
    go_wp2
    go_ret
    exact ⟨⟨none, 0, 0, rfl, by rw [HR.out]; rfl, Nat.le_refl _, by rw [HR.out]; exact ⟨.inl rfl, fun z hz => by simp at hz⟩⟩, Below.refl _ _⟩
  · rw [h5] at HL
    replace HL : (Instr.lookup 68 (.map (some m)) (.int .i64 id) false).run Try.prog w = .ok (.pointer (some ⟨g, 0, none⟩)) w := HL
    have hd := h.tbl.each d h4
    obtain ⟨⟨gp, cp, aa, ac, go, co, k1, k2⟩, k3⟩ := h6
    have c4 := k1.c4
    have CC : Hid (Calls Try.prog 37 #[.slice (some ⟨go, 0, none⟩) (owesD d).length co] w fun e w' => ClonedC w w' e (owesD d).length (owesD d)) := cdclone_any go 0 co _ (owesD d) w rfl (by have := owes_len hd; omega) (k1.ow.ints (owes_bounds hd))
    have HR : Hid (owesC C id = owesD d) := by show _ = _; unfold owesC; rw [h1]
    obtain ⟨O, hO⟩ : ∃ O, O = (owesD d).length := ⟨_, rfl⟩
    have HO : Hid (O = (owesD d).length) := hO
    rw [← hO] at CC c4
    clear h h1 h2 h3 h4 h5 hd hi k1 k2 k3 hO
    go_enter Try.func30, Try.ntmps30
    go_wp2_with (go_at_call 37; refine CC.out.mono ?_; rintro e w1 ⟨⟨a', cap, rfl, q1, q2, -⟩, q3⟩; have Q : Hid (O ≤ cap ∧ IntsAt w1 a' (owesD d) ∧ Below w.heap.size w w1) := ⟨q1, q2, q3⟩; clear q1 q2 q3)
    go_ret
    exact ⟨⟨a', O, cap, rfl, by rw [HR.out, HO.out], Q.out.1, by rw [HR.out]; exact Q.out.2.1⟩, Q.out.2.2⟩
end Go.Proofs.Ytcppihpehipelaa
