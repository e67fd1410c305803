/-
  The document's own table of decisions: Decision, Owes.
-/
import Derived.Test.YtcppihpehipelaaAu41
import Derived.Test.YtcppihpehipelaaAu57
import Derived.Deep.MidRow
namespace Go.Proofs.Ytcppihpehipelaa
open Go.RowKit
set_option linter.unusedVariables false
set_option linter.unusedSimpArgs false

theorem info_stC : (Try.prog.info? 28).map (·.size) = some 2 := by kernel_rfl
theorem results_3sC {fn : Func} {a b c : Tmp} (h : fn.results = #[.tmp a, .tmp b, .cell c 28]) (tmps : Array Value) (w : World) (g : Nat) (t n : Int) (hp : tmps.getD c undef = .pointer (some ⟨g, 0, none⟩)) (c0 : w.cell? ⟨g, 0, none⟩ = some (.int .i64 t)) (c1 : w.cell? ⟨g, 1, none⟩ = some (.int .u8 n)) :
    (results fn tmps).run Try.prog w = .ok (.tuple #[tmps.getD a undef, tmps.getD b undef, .agg #[.int .i64 t, .int .u8 n]]) w := by
  have hl := run_loadVar_mid (P := Try.prog) w g 0 28 [.int .i64 t, .int .u8 n] _ (fun j v hv => by
    have hj : j = 0 ∨ j = 1 := by
      have := (List.getElem?_eq_some_iff.1 hv).1
      simp at this; omega
    rw [Nat.zero_add]
    rcases hj with rfl | rfl <;> (injection hv with hv; rw [← hv]; assumption)) Try.underlying28 rfl (by rw [info_stC]; rfl)
  unfold results
  rw [h]
  simp only [List.mapM_toArray, List.mapM_cons, List.mapM_nil, hp]
  simp [asAddr, hl]
/-- A stamp's box under a store of both its cells. -/
theorem box_setC {W : World} {g : Nat} {t0 n0 : Int} (t n : Int) (c0 : W.cell? ⟨g, 0, none⟩ = some (.int .i64 t0)) (c1 : W.cell? ⟨g, 1, none⟩ = some (.int .u8 n0)) : ((W.setCell ⟨g, 0, none⟩ (.int .i64 t)).setCell ⟨g, 1, none⟩ (.int .u8 n)).cell? ⟨g, 0, none⟩ = some (.int .i64 t) ∧ ((W.setCell ⟨g, 0, none⟩ (.int .i64 t)).setCell ⟨g, 1, none⟩ (.int .u8 n)).cell? ⟨g, 1, none⟩ = some (.int .u8 n) := by
  constructor
  · rw [World.cell?_setCell_other _ _ _ _ (by intro h; injection h with _ h2; omega)]
    exact World.cell?_setCell_same _ _ _ c0
  · refine World.cell?_setCell_same (u := .int .u8 n0) _ _ _ ?_
    rw [World.cell?_setCell_other _ _ _ _ (by intro h; injection h with _ h2; omega)]
    exact c1
theorem there2C {W : World} {g : Nat} {t0 n0 : Int} (c0 : W.cell? ⟨g, 0, none⟩ = some (.int .i64 t0)) (c1 : W.cell? ⟨g, 1, none⟩ = some (.int .u8 n0)) (f0 : W.frozen? ⟨g, 0, none⟩ = false) (f1 : W.frozen? ⟨g, 1, none⟩ = false) : W.there g 0 2 := fun j hj => by
  have h : j = 0 ∨ j = 1 := by omega
  rcases h with rfl | rfl
  · exact ⟨by rw [c0]; rfl, f0⟩
  · exact ⟨by rw [c1]; rfl, f1⟩
/-- What is found at an id. -/
theorem atC_some {M : List OneM} {id : Int} {x : OneM} (h : findC (decs M) id < (decs M).length) (hx : M[findC (decs M) id]? = some x) : atC (decs M) id = (findC (decs M) id : Int) ∧ getC (decs M) id = some x.d := by
  refine ⟨if_pos h, ?_⟩
  unfold getC
  rw [show (decs M)[findC (decs M) id]? = (M[findC (decs M) id]?).map (fun x => x.d) by unfold decs; rw [List.getElem?_map], hx]
  rfl
theorem atC_ways (M : List OneM) (id : Int) : (atC (decs M) id = -1 ∧ getC (decs M) id = none) ∨ ∃ (i : Nat) (x : OneM), atC (decs M) id = (i : Int) ∧ getC (decs M) id = some x.d ∧ M[i]? = some x ∧ i < M.length := by
  by_cases h : findC (decs M) id < (decs M).length
  · have hM : findC (decs M) id < M.length := by unfold decs at h ⊢; rw [List.length_map] at h; exact h
    obtain ⟨x, hx⟩ : ∃ x, M[findC (decs M) id]? = some x := ⟨_, List.getElem?_eq_getElem hM⟩
    exact .inr ⟨_, x, (atC_some h hx).1, (atC_some h hx).2, hx, hM⟩
  · exact .inl ⟨if_neg h, by unfold getC; exact List.getElem?_eq_none (by omega)⟩
set_option maxHeartbeats 4000000 in
set_option maxRecDepth 4000 in
theorem rcdec_any {q : Nat} {M : List OneM} (id : Int) (w : World) (h : CrdV w q M) (hf : M.length ≤ 1000000) :
    Calls Try.prog 26 #[.pointer (some ⟨q, 0, none⟩), .int .i64 id] w fun e w' => e = .returned (.tuple #[.bool (decC (decs M) id).1, .bool (decC (decs M) id).2.1, .agg #[.int .i64 (decC (decs M) id).2.2.1, .int .u8 (decC (decs M) id).2.2.2]]) ∧ Below w.heap.size w w' := by
  obtain ⟨N, hN⟩ : ∃ n, M.length = n := ⟨_, rfl⟩
  obtain ⟨W0, hW0⟩ : ∃ u, u = w.alloc (.cells #[.int .i64 0, .int .u8 0] 28) := ⟨_, rfl⟩
  have HW0 : Hid (w.alloc (.cells #[.int .i64 0, .int .u8 0] 28) = W0) := hW0.symm
  have HB : Hid (Below w.heap.size w W0) := by rw [hW0]; exact (Below.refl _ _).alloc (Nat.le_refl _) _
  obtain ⟨a, c, hc, hcell, hone⟩ := h.open hN
  have HS : Hid (∀ u, Below W0.heap.size W0 u → u.cell? ⟨w.heap.size, 0, none⟩ = some (.int .i64 0) ∧ u.cell? ⟨w.heap.size, 1, none⟩ = some (.int .u8 0) ∧ u.frozen? ⟨w.heap.size, 0, none⟩ = false ∧ u.frozen? ⟨w.heap.size, 1, none⟩ = false) := fun u hu => by
    have hl : w.heap.size < W0.heap.size := by rw [hW0, World.size_alloc]; omega
    rw [hu.cell (p := ⟨w.heap.size, 0, none⟩) hl, hu.cell (p := ⟨w.heap.size, 1, none⟩) hl, hu.frozen (p := ⟨w.heap.size, 0, none⟩) hl, hu.frozen (p := ⟨w.heap.size, 1, none⟩) hl, hW0, World.cell?_alloc_new, World.cell?_alloc_new]
    exact ⟨rfl, rfl, World.frozen?_alloc_new _ _ _ _, World.frozen?_alloc_new _ _ _ _⟩
  have CA : Hid (Calls Try.prog 51 #[.pointer (some ⟨q, 0, none⟩), .int .i64 id] W0 fun e w' => e = .returned (.int .i64 (atC (decs M) id)) ∧ w' = W0) := rcat_any id W0 (h.past (by rw [hW0]; exact (Below.refl _ _).alloc (Nat.le_refl _) _)) hf
  obtain ⟨R, hR⟩ : ∃ r, r = decC (decs M) id := ⟨_, rfl⟩
  rw [← hR]
  rcases atC_ways M id with ⟨h1, h2⟩ | ⟨i, x, h1, h2, h3, h4⟩
  · have HR : Hid (R = (false, false, 0, 0)) := by show _ = _; rw [hR]; unfold decC; rw [h2]
    rw [h1] at CA
    obtain ⟨s0, s1, s2, s3⟩ := HS.out W0 (Below.refl _ _)
    clear h hcell hone hR h1 h2 hW0 HS
    go_enter Try.func26, Try.ntmps26
    go_wp2_with (go_at_call 51; rw [HW0.out]; refine CA.out.mono ?_; rintro e w1 ⟨rfl, hw⟩; obtain rfl := hw.symm; clear hw)
    obtain ⟨e0, e1⟩ := box_setC 0 0 s0 s1
    refine bodyPost_ret (results_3sC rfl _ _ w.heap.size 0 0 rfl e0 e1) rfl ⟨by rw [HR.out]; rfl, ?_⟩
    exact (HB.out.setCell (p := ⟨w.heap.size, 0, none⟩) (Nat.le_refl _) _).setCell (p := ⟨w.heap.size, 1, none⟩) (Nat.le_refl _) _
  · obtain ⟨g, hag, ho⟩ := hone i x h3
    subst hag
    have HR0 : Hid (R = if x.d.how = 0 then (false, false, 0, 0) else (true, decide (x.d.how = 1), x.d.at_, x.d.an)) := by show _ = _; rw [hR]; unfold decC; rw [h2]
    rw [h1] at CA
    have FC : Hid (∀ u, Below W0.heap.size W0 u → u.cell? ⟨q, 0, none⟩ = some (.slice (some ⟨g, 0, none⟩) N c) ∧ u.cell? ⟨g, i * 9 + 5, none⟩ = some (.int .i64 x.d.how) ∧ u.cell? ⟨g, i * 9 + 6, none⟩ = some (.int .i64 x.d.at_) ∧ u.cell? ⟨g, i * 9 + 7, none⟩ = some (.int .u8 x.d.an)) := fun u hu => by
      have hb := HB.out.trans (hu.mono HB.out.size)
      obtain ⟨_, _, _, _, _, y5, y6, y7, _⟩ := (ho u hb).cells
      exact ⟨hcell u hb, y5, y6, y7⟩
    have hi0 : (0 : Int) ≤ (i : Int) := by omega
    have hiN : (i : Int) < (N : Int) := by omega
    have d0 : decide ((i : Int) < 0) = false := decide_eq_false (by omega)
    obtain ⟨hw, hhw⟩ : ∃ z, z = x.d.how := ⟨_, rfl⟩
    obtain ⟨t, ht⟩ : ∃ z, z = x.d.at_ := ⟨_, rfl⟩
    obtain ⟨n, hn⟩ : ∃ z, z = x.d.an := ⟨_, rfl⟩
    rw [← hhw, ← ht, ← hn] at FC HR0
    have HBX : Hid (∀ (v : World) (t n : Int), v = W0 ∨ v = W0.drew → Below w.heap.size w ((v.setCell ⟨w.heap.size, 0, none⟩ (.int .i64 t)).setCell ⟨w.heap.size, 1, none⟩ (.int .u8 n))) := fun v t n hv => by
      have hbv : Below w.heap.size w v := by
        rcases hv with rfl | rfl
        · exact HB.out
        · exact HB.out.drew
      exact (hbv.setCell (p := ⟨w.heap.size, 0, none⟩) (Nat.le_refl _) _).setCell (p := ⟨w.heap.size, 1, none⟩) (Nat.le_refl _) _
    clear h hcell hone hR h1 h2 hW0 h3 h4 ho hhw ht hn
    by_cases hz : hw = 0
    · have hb : (hw == 0) = true := by simpa using hz
      have HR : Hid (R = (false, false, 0, 0)) := by show _ = _; rw [HR0.out, if_pos hz]
      obtain ⟨s0, s1, s2, s3⟩ := HS.out W0 (Below.refl _ _)
      obtain ⟨q0, y5, -, -⟩ := FC.out W0 (Below.refl _ _)
      clear hz HR0
      go_enter Try.func26, Try.ntmps26
      go_wp2_with (go_at_call 51; rw [HW0.out]; refine CA.out.mono ?_; rintro e w1 ⟨rfl, hw1⟩; obtain rfl := hw1.symm; clear hw1)
      obtain ⟨e0, e1⟩ := box_setC 0 0 s0 s1
      exact bodyPost_ret (results_3sC rfl _ _ w.heap.size 0 0 rfl e0 e1) rfl ⟨by rw [HR.out]; rfl, HBX.out _ 0 0 (.inl rfl)⟩
    · have hb : (hw == 0) = false := by simpa using hz
      obtain ⟨b1, hb1⟩ : ∃ b, b = decide (hw = 1) := ⟨_, rfl⟩
      have hb2 : (hw == 1) = b1 := by rw [hb1, Bool.eq_iff_iff]; simp
      have HR : Hid (R = (true, b1, t, n)) := by show _ = _; rw [HR0.out, if_neg hz, hb1]
      obtain ⟨q0, y5, -, -⟩ := FC.out W0 (Below.refl _ _)
      clear hz HR0 hb1
      go_enter Try.func26, Try.ntmps26
      go_wp2_with (go_at_call 51; rw [HW0.out]; refine CA.out.mono ?_; rintro e w1 ⟨rfl, hw1⟩; obtain rfl := hw1.symm; clear hw1)
      clear q0 y5
      refine wp_region_noPanic ?_
      refine region_up 19 (fun u => Below W0.heap.size W0 u) (by kernel_rfl) ?_ (fun hHeld => ?_)
      · exact (Below.refl _ _).drew
      refine up_take (i := 0) (v := ?_) (by kernel_rfl) (by kernel_rfl) (by kernel_rfl) rfl (by kernel_rfl) (by kernel_rfl) (by kernel_rfl) (fun _ _ _ h => h) (Or.inl ⟨by rfl, ?_⟩) hHeld ?_
      rotate_left
      · intro u hSu
        (go_simp) <;> (with_reducible rfl)
      change wpUp _ _ _ _ _ _ _ _ (Act.put _ (some 25) _) _
      simp only [Act.put, List.setIfInBounds_toArray, List.set_cons_zero, List.set_cons_succ]
      refine up_take (i := 1) (v := ?_) (by kernel_rfl) (by kernel_rfl) (by kernel_rfl) rfl (by kernel_rfl) (by kernel_rfl) (by kernel_rfl) (fun _ _ _ h => h) (Or.inl ⟨by rfl, ?_⟩) hHeld ?_
      rotate_left
      · intro u hSu
        (go_simp) <;> (with_reducible rfl)
      change wpUp _ _ _ _ _ _ _ _ (Act.put _ (some 26) _) _
      simp only [Act.put, List.setIfInBounds_toArray, List.set_cons_zero, List.set_cons_succ]
      refine up_take (i := 2) (v := ?_) (by kernel_rfl) (by kernel_rfl) (by kernel_rfl) rfl (by kernel_rfl) (by kernel_rfl) (by kernel_rfl) (fun _ _ _ h => h) (Or.inl ⟨by rfl, ?_⟩) hHeld ?_
      rotate_left
      · intro u hSu
        (go_simp) <;> (with_reducible rfl)
      change wpUp _ _ _ _ _ _ _ _ (Act.put _ (some 27) _) _
      simp only [Act.put, List.setIfInBounds_toArray, List.set_cons_zero, List.set_cons_succ]
      refine up_take (i := 3) (v := ?_) (by kernel_rfl) (by kernel_rfl) (by kernel_rfl) rfl (by kernel_rfl) (by kernel_rfl) (by kernel_rfl) (fun _ _ _ h => h) (Or.inl ⟨by rfl, ?_⟩) hHeld ?_
      rotate_left
      · intro u hSu
        obtain ⟨q0, y5, y6, y7⟩ := FC.out u hSu
        (go_simp) <;> (with_reducible rfl)
      change wpUp _ _ _ _ _ _ _ _ (Act.put _ (some 28) _) _
      simp only [Act.put, List.setIfInBounds_toArray, List.set_cons_zero, List.set_cons_succ]
      refine up_take (i := 4) (v := ?_) (by kernel_rfl) (by kernel_rfl) (by kernel_rfl) rfl (by kernel_rfl) (by kernel_rfl) (by kernel_rfl) (fun _ _ _ h => h) (Or.inl ⟨by rfl, ?_⟩) hHeld ?_
      rotate_left
      · intro u hSu
        (go_simp) <;> (with_reducible rfl)
      change wpUp _ _ _ _ _ _ _ _ (Act.put _ (some 29) _) _
      simp only [Act.put, List.setIfInBounds_toArray, List.set_cons_zero, List.set_cons_succ]
      refine up_take (i := 5) (v := ?_) (by kernel_rfl) (by kernel_rfl) (by kernel_rfl) rfl (by kernel_rfl) (by kernel_rfl) (by kernel_rfl) (fun _ _ _ h => h) (Or.inl ⟨by rfl, ?_⟩) hHeld ?_
      rotate_left
      · intro u hSu
        (go_simp) <;> (with_reducible rfl)
      change wpUp _ _ _ _ _ _ _ _ (Act.put _ (some 30) _) _
      simp only [Act.put, List.setIfInBounds_toArray, List.set_cons_zero, List.set_cons_succ]
      refine up_take (i := 6) (v := ?_) (by kernel_rfl) (by kernel_rfl) (by kernel_rfl) rfl (by kernel_rfl) (by kernel_rfl) (by kernel_rfl) (fun _ _ _ h => h) (Or.inl ⟨by rfl, ?_⟩) hHeld ?_
      rotate_left
      · intro u hSu
        (go_simp) <;> (with_reducible rfl)
      change wpUp _ _ _ _ _ _ _ _ (Act.put _ (some 31) _) _
      simp only [Act.put, List.setIfInBounds_toArray, List.set_cons_zero, List.set_cons_succ]
      refine up_take (i := 7) (v := ?_) (by kernel_rfl) (by kernel_rfl) (by kernel_rfl) rfl (by kernel_rfl) (by kernel_rfl) (by kernel_rfl) (fun _ _ _ h => h) (Or.inl ⟨by rfl, ?_⟩) hHeld ?_
      rotate_left
      · intro u hSu
        obtain ⟨q0, y5, y6, y7⟩ := FC.out u hSu
        (go_simp) <;> (with_reducible rfl)
      change wpUp _ _ _ _ _ _ _ _ (Act.put _ (some 32) _) _
      simp only [Act.put, List.setIfInBounds_toArray, List.set_cons_zero, List.set_cons_succ]
      refine up_take (i := 8) (v := ?_) (by kernel_rfl) (by kernel_rfl) (by kernel_rfl) rfl (by kernel_rfl) (by kernel_rfl) (by kernel_rfl) (fun _ _ _ h => h) (Or.inl ⟨by rfl, ?_⟩) hHeld ?_
      rotate_left
      · intro u hSu
        (go_simp) <;> (with_reducible rfl)
      change wpUp _ _ _ _ _ _ _ _ (Act.put _ (some 33) _) _
      simp only [Act.put, List.setIfInBounds_toArray, List.set_cons_zero, List.set_cons_succ]
      refine up_take (i := 9) (v := ?_) (by kernel_rfl) (by kernel_rfl) (by kernel_rfl) rfl (by kernel_rfl) (by kernel_rfl) (by kernel_rfl) (fun _ _ _ h => h) (Or.inl ⟨by rfl, ?_⟩) hHeld ?_
      rotate_left
      · intro u hSu
        (go_simp) <;> (with_reducible rfl)
      change wpUp _ _ _ _ _ _ _ _ (Act.put _ (some 34) _) _
      simp only [Act.put, List.setIfInBounds_toArray, List.set_cons_zero, List.set_cons_succ]
      refine up_take (i := 10) (v := ?_) (by kernel_rfl) (by kernel_rfl) (by kernel_rfl) rfl (by kernel_rfl) (by kernel_rfl) (by kernel_rfl) (fun _ _ _ h => h) (Or.inl ⟨by rfl, ?_⟩) hHeld ?_
      rotate_left
      · intro u hSu
        (go_simp) <;> (with_reducible rfl)
      change wpUp _ _ _ _ _ _ _ _ (Act.put _ (some 35) _) _
      simp only [Act.put, List.setIfInBounds_toArray, List.set_cons_zero, List.set_cons_succ]
      refine up_take (i := 11) (v := ?_) (by kernel_rfl) (by kernel_rfl) (by kernel_rfl) rfl (by kernel_rfl) (by kernel_rfl) (by kernel_rfl) (fun _ _ _ h => h) (Or.inl ⟨by rfl, ?_⟩) hHeld ?_
      rotate_left
      · intro u hSu
        (go_simp) <;> (with_reducible rfl)
      change wpUp _ _ _ _ _ _ _ _ (Act.put _ (some 36) _) _
      simp only [Act.put, List.setIfInBounds_toArray, List.set_cons_zero, List.set_cons_succ]
      refine up_take (i := 12) (v := ?_) (by kernel_rfl) (by kernel_rfl) (by kernel_rfl) rfl (by kernel_rfl) (by kernel_rfl) (by kernel_rfl) (fun _ _ _ h => h) (Or.inl ⟨by rfl, ?_⟩) hHeld ?_
      rotate_left
      · intro u hSu
        obtain ⟨q0, y5, y6, y7⟩ := FC.out u hSu
        (go_simp) <;> (with_reducible rfl)
      change wpUp _ _ _ _ _ _ _ _ (Act.put _ (some 37) _) _
      simp only [Act.put, List.setIfInBounds_toArray, List.set_cons_zero, List.set_cons_succ]
      refine up_take (i := 13) (v := ?_) (by kernel_rfl) (by kernel_rfl) (by kernel_rfl) rfl (by kernel_rfl) (by kernel_rfl) (by kernel_rfl) (fun _ _ _ h => h) (Or.inl ⟨by rfl, ?_⟩) hHeld ?_
      rotate_left
      · intro u hSu
        (go_simp) <;> (with_reducible rfl)
      change wpUp _ _ _ _ _ _ _ _ (Act.put _ (some 38) _) _
      simp only [Act.put, List.setIfInBounds_toArray, List.set_cons_zero, List.set_cons_succ]
      refine up_take (i := 14) (v := ?_) (by kernel_rfl) (by kernel_rfl) (by kernel_rfl) rfl (by kernel_rfl) (by kernel_rfl) (by kernel_rfl) (fun _ _ _ h => h) (Or.inl ⟨by rfl, ?_⟩) hHeld ?_
      rotate_left
      · intro u hSu
        (go_simp) <;> (with_reducible rfl)
      change wpUp _ _ _ _ _ _ _ _ (Act.put _ (some 39) _) _
      simp only [Act.put, List.setIfInBounds_toArray, List.set_cons_zero, List.set_cons_succ]
      refine up_take (i := 15) (v := ?_) (by kernel_rfl) (by kernel_rfl) (by kernel_rfl) rfl (by kernel_rfl) (by kernel_rfl) (by kernel_rfl) (fun _ _ _ h => h) (Or.inl ⟨by rfl, ?_⟩) hHeld ?_
      rotate_left
      · intro u hSu
        (go_simp) <;> (with_reducible rfl)
      change wpUp _ _ _ _ _ _ _ _ (Act.put _ (some 40) _) _
      simp only [Act.put, List.setIfInBounds_toArray, List.set_cons_zero, List.set_cons_succ]
      refine up_take (i := 16) (v := ?_) (by kernel_rfl) (by kernel_rfl) (by kernel_rfl) rfl (by kernel_rfl) (by kernel_rfl) (by kernel_rfl) (fun _ _ _ h => h) (Or.inl ⟨by rfl, ?_⟩) hHeld ?_
      rotate_left
      · intro u hSu
        obtain ⟨q0, y5, y6, y7⟩ := FC.out u hSu
        (go_simp) <;> (with_reducible rfl)
      change wpUp _ _ _ _ _ _ _ _ (Act.put _ (some 41) _) _
      simp only [Act.put, List.setIfInBounds_toArray, List.set_cons_zero, List.set_cons_succ]
      refine up_take (i := 17) (v := ?_) (by kernel_rfl) (by kernel_rfl) (by kernel_rfl) rfl (by kernel_rfl) (by kernel_rfl) (by kernel_rfl) (fun _ _ _ h => h) (Or.inl ⟨by rfl, ?_⟩) hHeld ?_
      rotate_left
      · intro u hSu
        (go_simp) <;> (with_reducible rfl)
      change wpUp _ _ _ _ _ _ _ _ (Act.put _ (some 4) _) _
      simp only [Act.put, List.setIfInBounds_toArray, List.set_cons_zero, List.set_cons_succ]
      refine up_take (i := 18) (v := ?_) (by kernel_rfl) (by kernel_rfl) (by kernel_rfl) rfl (by kernel_rfl) (by kernel_rfl) (by kernel_rfl) (fun _ _ _ h => h) (Or.inl ⟨by rfl, ?_⟩) hHeld ?_
      rotate_left
      · intro u hSu
        (go_simp) <;> (with_reducible rfl)
      change wpUp _ _ _ _ _ _ _ _ (Act.put _ (some 5) _) _
      simp only [Act.put, List.setIfInBounds_toArray, List.set_cons_zero, List.set_cons_succ]
      refine up_ready (rs := [19]) (by kernel_rfl) (by simp) ?_
      refine AllUp.that rfl (fun K hK => ?_) AllUp.nil
      (obtain ⟨s0, s1, s2, s3⟩ := HS.out W0.drew (Below.refl _ _).drew); rw [if_pos (by rfl)]; refine wp_store_mid 28 _ _ rfl w.heap.size 0 #[.int .i64 t, .int .u8 n] rfl rfl (there2C s0 s1 s2 s3) (by rw [info_stC]; rfl) (all_oneCell_toArray (fun u hu => by simp at hu; rcases hu with rfl | rfl <;> rfl)) ?_; refine hK.out _ _ ?_; clear hK K hHeld
      refine up_done (by kernel_rfl) ?_
      refine NoPanic.normal ?_
      go_wp2
      obtain ⟨e0, e1⟩ := box_setC t n s0 s1
      exact bodyPost_ret (results_3sC rfl _ _ w.heap.size t n rfl e0 e1) rfl ⟨by rw [HR.out]; rfl, HBX.out _ t n (.inr rfl)⟩
end Go.Proofs.Ytcppihpehipelaa
