/-
  The document's own table of decisions: Record.
-/
import Derived.Test.YtcppihpehipelaaAu60
import Derived.Test.YtcppihpehipelaaCdC8
namespace Go.Proofs.Ytcppihpehipelaa
open Go.RowKit
set_option linter.unusedVariables false
set_option linter.unusedSimpArgs false

theorem info_rrcdC : (Try.prog.info? 56).map (·.size) = some 9 := by kernel_rfl
/-- A record's nine cells. -/
def rcdC (kd id t n : Int) (y : Bool) (pa : Option Addr) (P pc : Nat) : List Value := [.int .i64 kd, .int .i64 id, .int .i64 0, .int .u8 0, .int .i64 t, .int .u8 n, .slice none 0 0, .bool y, .slice pa P pc]
theorem rcdC_one (kd id t n : Int) (y : Bool) (pa : Option Addr) (P pc : Nat) : ∀ u ∈ rcdC kd id t n y pa P pc, u.oneCell' = true := fun u hu => by
  simp [rcdC] at hu
  rcases hu with rfl | rfl | rfl | rfl | rfl | rfl | rfl | rfl | rfl <;> rfl
/-- What Record answers: the record, its parts where they lie, whether there is one. -/
structure RecdC (C : List DecC) (id : Int) (e : Ending) (w' : World) : Prop where
  no : recC C id = none → e = .returned (.tuple #[.agg (rcdC 0 0 0 0 false none 0 0).toArray, .bool false])
  yes : ∀ r, recC C id = some r → ∃ pa pc, e = .returned (.tuple #[.agg (rcdC 4 id r.t r.n r.y pa r.ps.length pc).toArray, .bool true]) ∧ r.ps.length ≤ pc ∧ NumsD w' pa r.ps
set_option maxHeartbeats 8000000 in
set_option maxRecDepth 8000 in
theorem rcrec_any {q : Nat} {M : List OneM} (id : Int) (w : World) (h : CrdV w q M) (hf : M.length ≤ 1000000) :
    Calls Try.prog 27 #[.pointer (some ⟨q, 0, none⟩), .int .i64 id] w fun e w' => RecdC (decs M) id e w' ∧ Below w.heap.size w w' := by
  obtain ⟨N, hN⟩ : ∃ n, M.length = n := ⟨_, rfl⟩
  obtain ⟨W0, hW0⟩ : ∃ u, u = w.alloc (.cells (rcdC 0 0 0 0 false none 0 0).toArray 56) := ⟨_, rfl⟩
  have HW0 : Hid (w.alloc (.cells #[.int .i64 0, .int .i64 0, .int .i64 0, .int .u8 0, .int .i64 0, .int .u8 0, .slice none 0 0, .bool false, .slice none 0 0] 56) = W0) := hW0.symm
  have HB : Hid (Below w.heap.size w W0) := by rw [hW0]; exact (Below.refl _ _).alloc (Nat.le_refl _) _
  have HTH : Hid (∀ u, Below W0.heap.size W0 u → u.there w.heap.size 0 9) := fun u hu => by rw [hW0] at hu; exact there9U w u 56 (rcdC 0 0 0 0 false none 0 0) rfl hu
  have HCB : Hid (∀ u v, Below W0.heap.size W0 u → Chg u v (fun k => k = w.heap.size) → Below w.heap.size w v) := fun u v hu hv => (HB.out.trans (hu.mono HB.out.size)).trans (hv.below (Nat.le_trans HB.out.size hu.size) (fun k e => by omega))
  obtain ⟨a, c, hc, hcell, hone⟩ := h.open hN
  have CA : Hid (Calls Try.prog 51 #[.pointer (some ⟨q, 0, none⟩), .int .i64 id] W0 fun e w' => e = .returned (.int .i64 (atC (decs M) id)) ∧ w' = W0) := rcat_any id W0 (h.past HB.out) hf
  rcases atC_ways M id with ⟨h1, h2⟩ | ⟨i, x, h1, h2, h3, h4⟩
  · have HR : Hid (recC (decs M) id = none) := by show _ = _; unfold recC; rw [h2]
    rw [h1] at CA
    clear h hcell hone h1 h2 hW0
    go_enter Try.func27, Try.ntmps27
    go_wp2_with (first
      | ((with_reducible show wpList _ _ _ (Oper.mk none (Op.store _ _ _) _ _ _ _ :: _) _ _); refine wpList_store_rowU (by rfl) _ _ (by rfl) w.heap.size (rcdC 0 0 0 0 false none 0 0) (by rfl) (by rfl) info_rrcdC (rcdC_one _ _ _ _ _ _ _ _) (HTH.out _ (Below.refl _ _)) ?_; intro u2 hr2 hc2; have R2 : Hid (u2.rangeAt w.heap.size 0 (rcdC 0 0 0 0 false none 0 0)) := hr2; have B2 : Hid (Below w.heap.size w u2) := HCB.out _ _ (Below.refl _ _) hc2; clear hr2 hc2)
      | (go_at_call 51; rw [HW0.out]; refine CA.out.mono ?_; rintro e w1 ⟨rfl, hw⟩; obtain rfl := hw.symm; clear hw))
    refine bodyPost_ret (results_rowU rfl _ _ w.heap.size (rcdC 0 0 0 0 false none 0 0) _ rfl R2.out Try.underlying56 rfl info_rrcdC) rfl ?_
    exact ⟨⟨fun _ => rfl, fun r hr => by rw [HR.out] at hr; cases hr⟩, B2.out⟩
  · obtain ⟨g, hag, ho⟩ := hone i x h3
    subst hag
    rw [h1] at CA
    have FC : Hid (∀ u, Below W0.heap.size W0 u → u.cell? ⟨q, 0, none⟩ = some (.slice (some ⟨g, 0, none⟩) N c) ∧ u.cell? ⟨g, i * 9 + 3, none⟩ = some (.slice x.pa x.d.parts.length x.pc) ∧ u.cell? ⟨g, i * 9 + 5, none⟩ = some (.int .i64 x.d.how) ∧ u.cell? ⟨g, i * 9 + 6, none⟩ = some (.int .i64 x.d.at_) ∧ u.cell? ⟨g, i * 9 + 7, none⟩ = some (.int .u8 x.d.an)) := fun u hu => by
      have hb := HB.out.trans (hu.mono HB.out.size)
      obtain ⟨_, _, _, y3, _, y5, y6, y7, _⟩ := (ho u hb).cells
      exact ⟨hcell u hb, y3, y5, y6, y7⟩
    have FP : Hid (∀ u, Below w.heap.size w u → NumsD u x.pa x.d.parts) := fun u hu => (ho u hu).parts
    have HPC : Hid (x.d.parts.length ≤ x.pc) := (ho w (Below.refl _ _)).pr
    have HR0 : Hid (recC (decs M) id = if x.d.how = 0 then none else some ⟨4, id, 0, 0, x.d.at_, x.d.an, [], decide (x.d.how = 1), x.d.parts⟩) := by show _ = _; unfold recC; rw [h2]
    have hi0 : (0 : Int) ≤ (i : Int) := by omega
    have hiN : (i : Int) < (N : Int) := by omega
    have d0 : decide ((i : Int) < 0) = false := decide_eq_false (by omega)
    clear h hcell hone h1 h2 h3 h4 ho hW0
    generalize x.d.how = hw at *
    generalize x.d.at_ = t at *
    generalize x.d.an = n at *
    generalize x.pa = pa at *
    generalize x.pc = pc at *
    generalize x.d.parts = ps at *
    obtain ⟨P, hP⟩ : ∃ p, p = ps.length := ⟨_, rfl⟩
    have HP : Hid (P = ps.length) := hP
    rw [← hP] at FC
    clear hP
    by_cases hz : hw = 0
    · have hb : (hw == 0) = true := by simpa using hz
      have HR : Hid (recC (decs M) id = none) := by show _ = _; rw [HR0.out, if_pos hz]
      obtain ⟨q0, y3, y5, -, -⟩ := FC.out W0 (Below.refl _ _)
      clear hz HR0
      go_enter Try.func27, Try.ntmps27
      go_wp2_with (first
        | ((with_reducible show wpList _ _ _ (Oper.mk none (Op.store _ _ _) _ _ _ _ :: _) _ _); refine wpList_store_rowU (by rfl) _ _ (by rfl) w.heap.size (rcdC 0 0 0 0 false none 0 0) (by rfl) (by rfl) info_rrcdC (rcdC_one _ _ _ _ _ _ _ _) (HTH.out _ (Below.refl _ _)) ?_; intro u2 hr2 hc2; have R2 : Hid (u2.rangeAt w.heap.size 0 (rcdC 0 0 0 0 false none 0 0)) := hr2; have B2 : Hid (Below w.heap.size w u2) := HCB.out _ _ (Below.refl _ _) hc2; clear hr2 hc2)
        | (go_at_call 51; rw [HW0.out]; refine CA.out.mono ?_; rintro e w1 ⟨rfl, hw1⟩; obtain rfl := hw1.symm; clear hw1))
      refine bodyPost_ret (results_rowU rfl _ _ w.heap.size (rcdC 0 0 0 0 false none 0 0) _ rfl R2.out Try.underlying56 rfl info_rrcdC) rfl ?_
      exact ⟨⟨fun _ => rfl, fun r hr => by rw [HR.out] at hr; cases hr⟩, B2.out⟩
    · have hb : (hw == 0) = false := by simpa using hz
      obtain ⟨b1, hb1⟩ : ∃ b, b = decide (hw = 1) := ⟨_, rfl⟩
      have hb2 : (hw == 1) = b1 := by rw [hb1, Bool.eq_iff_iff]; simp
      have HR : Hid (recC (decs M) id = some ⟨4, id, 0, 0, t, n, [], b1, ps⟩) := by show _ = _; rw [HR0.out, if_neg hz, hb1]
      obtain ⟨q0, y3, y5, -, -⟩ := FC.out W0 (Below.refl _ _)
      clear hz HR0 hb1
      go_enter Try.func27, Try.ntmps27
      go_wp2_with (go_at_call 51; rw [HW0.out]; refine CA.out.mono ?_; rintro e w1 ⟨rfl, hw1⟩; obtain rfl := hw1.symm; clear hw1)
      clear q0 y3 y5
      refine wp_region_noPanic ?_
      refine region_up 27 (fun u => Below W0.heap.size W0 u) (by kernel_rfl) ?_ (fun hHeld => ?_)
      · exact (Below.refl _ _).drew
      refine up_take (i := 0) (v := ?_) (by kernel_rfl) (by kernel_rfl) (by kernel_rfl) rfl (by kernel_rfl) (by kernel_rfl) (by kernel_rfl) (fun _ _ _ h => h) (Or.inl ⟨by rfl, ?_⟩) hHeld ?_
      rotate_left
      · intro u hSu
        (go_simp) <;> (with_reducible rfl)
      change wpUp _ _ _ _ _ _ _ _ (Act.put _ (some 24) _) _
      simp only [Act.put, List.setIfInBounds_toArray, List.set_cons_zero, List.set_cons_succ]
      refine up_take (i := 1) (v := ?_) (by kernel_rfl) (by kernel_rfl) (by kernel_rfl) rfl (by kernel_rfl) (by kernel_rfl) (by kernel_rfl) (fun _ _ _ h => h) (Or.inl ⟨by rfl, ?_⟩) hHeld ?_
      rotate_left
      · intro u hSu
        (go_simp) <;> (with_reducible rfl)
      change wpUp _ _ _ _ _ _ _ _ (Act.put _ (some 25) _) _
      simp only [Act.put, List.setIfInBounds_toArray, List.set_cons_zero, List.set_cons_succ]
      refine up_take (i := 2) (v := ?_) (by kernel_rfl) (by kernel_rfl) (by kernel_rfl) rfl (by kernel_rfl) (by kernel_rfl) (by kernel_rfl) (fun _ _ _ h => h) (Or.inl ⟨by rfl, ?_⟩) hHeld ?_
      rotate_left
      · intro u hSu
        (go_simp) <;> (with_reducible rfl)
      change wpUp _ _ _ _ _ _ _ _ (Act.put _ (some 26) _) _
      simp only [Act.put, List.setIfInBounds_toArray, List.set_cons_zero, List.set_cons_succ]
      refine up_take (i := 3) (v := ?_) (by kernel_rfl) (by kernel_rfl) (by kernel_rfl) rfl (by kernel_rfl) (by kernel_rfl) (by kernel_rfl) (fun _ _ _ h => h) (Or.inl ⟨by rfl, ?_⟩) hHeld ?_
      rotate_left
      · intro u hSu
        (go_simp) <;> (with_reducible rfl)
      change wpUp _ _ _ _ _ _ _ _ (Act.put _ (some 27) _) _
      simp only [Act.put, List.setIfInBounds_toArray, List.set_cons_zero, List.set_cons_succ]
      refine up_take (i := 4) (v := ?_) (by kernel_rfl) (by kernel_rfl) (by kernel_rfl) rfl (by kernel_rfl) (by kernel_rfl) (by kernel_rfl) (fun _ _ _ h => h) (Or.inl ⟨by rfl, ?_⟩) hHeld ?_
      rotate_left
      · intro u hSu
        obtain ⟨q0, y3, y5, y6, y7⟩ := FC.out u hSu
        (go_simp) <;> (with_reducible rfl)
      change wpUp _ _ _ _ _ _ _ _ (Act.put _ (some 28) _) _
      simp only [Act.put, List.setIfInBounds_toArray, List.set_cons_zero, List.set_cons_succ]
      refine up_take (i := 5) (v := ?_) (by kernel_rfl) (by kernel_rfl) (by kernel_rfl) rfl (by kernel_rfl) (by kernel_rfl) (by kernel_rfl) (fun _ _ _ h => h) (Or.inl ⟨by rfl, ?_⟩) hHeld ?_
      rotate_left
      · intro u hSu
        (go_simp) <;> (with_reducible rfl)
      change wpUp _ _ _ _ _ _ _ _ (Act.put _ (some 29) _) _
      simp only [Act.put, List.setIfInBounds_toArray, List.set_cons_zero, List.set_cons_succ]
      refine up_take (i := 6) (v := ?_) (by kernel_rfl) (by kernel_rfl) (by kernel_rfl) rfl (by kernel_rfl) (by kernel_rfl) (by kernel_rfl) (fun _ _ _ h => h) (Or.inl ⟨by rfl, ?_⟩) hHeld ?_
      rotate_left
      · intro u hSu
        (go_simp) <;> (with_reducible rfl)
      change wpUp _ _ _ _ _ _ _ _ (Act.put _ (some 30) _) _
      simp only [Act.put, List.setIfInBounds_toArray, List.set_cons_zero, List.set_cons_succ]
      refine up_take (i := 7) (v := ?_) (by kernel_rfl) (by kernel_rfl) (by kernel_rfl) rfl (by kernel_rfl) (by kernel_rfl) (by kernel_rfl) (fun _ _ _ h => h) (Or.inl ⟨by rfl, ?_⟩) hHeld ?_
      rotate_left
      · intro u hSu
        (go_simp) <;> (with_reducible rfl)
      change wpUp _ _ _ _ _ _ _ _ (Act.put _ (some 31) _) _
      simp only [Act.put, List.setIfInBounds_toArray, List.set_cons_zero, List.set_cons_succ]
      refine up_take (i := 8) (v := ?_) (by kernel_rfl) (by kernel_rfl) (by kernel_rfl) rfl (by kernel_rfl) (by kernel_rfl) (by kernel_rfl) (fun _ _ _ h => h) (Or.inl ⟨by rfl, ?_⟩) hHeld ?_
      rotate_left
      · intro u hSu
        obtain ⟨q0, y3, y5, y6, y7⟩ := FC.out u hSu
        (go_simp) <;> (with_reducible rfl)
      change wpUp _ _ _ _ _ _ _ _ (Act.put _ (some 32) _) _
      simp only [Act.put, List.setIfInBounds_toArray, List.set_cons_zero, List.set_cons_succ]
      refine up_take (i := 9) (v := ?_) (by kernel_rfl) (by kernel_rfl) (by kernel_rfl) rfl (by kernel_rfl) (by kernel_rfl) (by kernel_rfl) (fun _ _ _ h => h) (Or.inl ⟨by rfl, ?_⟩) hHeld ?_
      rotate_left
      · intro u hSu
        (go_simp) <;> (with_reducible rfl)
      change wpUp _ _ _ _ _ _ _ _ (Act.put _ (some 33) _) _
      simp only [Act.put, List.setIfInBounds_toArray, List.set_cons_zero, List.set_cons_succ]
      refine up_take (i := 10) (v := ?_) (by kernel_rfl) (by kernel_rfl) (by kernel_rfl) rfl (by kernel_rfl) (by kernel_rfl) (by kernel_rfl) (fun _ _ _ h => h) (Or.inl ⟨by rfl, ?_⟩) hHeld ?_
      rotate_left
      · intro u hSu
        (go_simp) <;> (with_reducible rfl)
      change wpUp _ _ _ _ _ _ _ _ (Act.put _ (some 34) _) _
      simp only [Act.put, List.setIfInBounds_toArray, List.set_cons_zero, List.set_cons_succ]
      refine up_take (i := 11) (v := ?_) (by kernel_rfl) (by kernel_rfl) (by kernel_rfl) rfl (by kernel_rfl) (by kernel_rfl) (by kernel_rfl) (fun _ _ _ h => h) (Or.inl ⟨by rfl, ?_⟩) hHeld ?_
      rotate_left
      · intro u hSu
        (go_simp) <;> (with_reducible rfl)
      change wpUp _ _ _ _ _ _ _ _ (Act.put _ (some 35) _) _
      simp only [Act.put, List.setIfInBounds_toArray, List.set_cons_zero, List.set_cons_succ]
      refine up_take (i := 12) (v := ?_) (by kernel_rfl) (by kernel_rfl) (by kernel_rfl) rfl (by kernel_rfl) (by kernel_rfl) (by kernel_rfl) (fun _ _ _ h => h) (Or.inl ⟨by rfl, ?_⟩) hHeld ?_
      rotate_left
      · intro u hSu
        obtain ⟨q0, y3, y5, y6, y7⟩ := FC.out u hSu
        (go_simp) <;> (with_reducible rfl)
      change wpUp _ _ _ _ _ _ _ _ (Act.put _ (some 36) _) _
      simp only [Act.put, List.setIfInBounds_toArray, List.set_cons_zero, List.set_cons_succ]
      refine up_take (i := 13) (v := ?_) (by kernel_rfl) (by kernel_rfl) (by kernel_rfl) rfl (by kernel_rfl) (by kernel_rfl) (by kernel_rfl) (fun _ _ _ h => h) (Or.inl ⟨by rfl, ?_⟩) hHeld ?_
      rotate_left
      · intro u hSu
        (go_simp) <;> (with_reducible rfl)
      change wpUp _ _ _ _ _ _ _ _ (Act.put _ (some 37) _) _
      simp only [Act.put, List.setIfInBounds_toArray, List.set_cons_zero, List.set_cons_succ]
      refine up_take (i := 14) (v := ?_) (by kernel_rfl) (by kernel_rfl) (by kernel_rfl) rfl (by kernel_rfl) (by kernel_rfl) (by kernel_rfl) (fun _ _ _ h => h) (Or.inl ⟨by rfl, ?_⟩) hHeld ?_
      rotate_left
      · intro u hSu
        (go_simp) <;> (with_reducible rfl)
      change wpUp _ _ _ _ _ _ _ _ (Act.put _ (some 38) _) _
      simp only [Act.put, List.setIfInBounds_toArray, List.set_cons_zero, List.set_cons_succ]
      refine up_take (i := 15) (v := ?_) (by kernel_rfl) (by kernel_rfl) (by kernel_rfl) rfl (by kernel_rfl) (by kernel_rfl) (by kernel_rfl) (fun _ _ _ h => h) (Or.inl ⟨by rfl, ?_⟩) hHeld ?_
      rotate_left
      · intro u hSu
        (go_simp) <;> (with_reducible rfl)
      change wpUp _ _ _ _ _ _ _ _ (Act.put _ (some 39) _) _
      simp only [Act.put, List.setIfInBounds_toArray, List.set_cons_zero, List.set_cons_succ]
      refine up_take (i := 16) (v := ?_) (by kernel_rfl) (by kernel_rfl) (by kernel_rfl) rfl (by kernel_rfl) (by kernel_rfl) (by kernel_rfl) (fun _ _ _ h => h) (Or.inl ⟨by rfl, ?_⟩) hHeld ?_
      rotate_left
      · intro u hSu
        obtain ⟨q0, y3, y5, y6, y7⟩ := FC.out u hSu
        (go_simp) <;> (with_reducible rfl)
      change wpUp _ _ _ _ _ _ _ _ (Act.put _ (some 40) _) _
      simp only [Act.put, List.setIfInBounds_toArray, List.set_cons_zero, List.set_cons_succ]
      refine up_take (i := 17) (v := ?_) (by kernel_rfl) (by kernel_rfl) (by kernel_rfl) rfl (by kernel_rfl) (by kernel_rfl) (by kernel_rfl) (fun _ _ _ h => h) (Or.inl ⟨by rfl, ?_⟩) hHeld ?_
      rotate_left
      · intro u hSu
        (go_simp) <;> (with_reducible rfl)
      change wpUp _ _ _ _ _ _ _ _ (Act.put _ (some 41) _) _
      simp only [Act.put, List.setIfInBounds_toArray, List.set_cons_zero, List.set_cons_succ]
      refine up_take (i := 18) (v := ?_) (by kernel_rfl) (by kernel_rfl) (by kernel_rfl) rfl (by kernel_rfl) (by kernel_rfl) (by kernel_rfl) (fun _ _ _ h => h) (Or.inl ⟨by rfl, ?_⟩) hHeld ?_
      rotate_left
      · intro u hSu
        (go_simp) <;> (with_reducible rfl)
      change wpUp _ _ _ _ _ _ _ _ (Act.put _ (some 42) _) _
      simp only [Act.put, List.setIfInBounds_toArray, List.set_cons_zero, List.set_cons_succ]
      refine up_take (i := 19) (v := ?_) (by kernel_rfl) (by kernel_rfl) (by kernel_rfl) rfl (by kernel_rfl) (by kernel_rfl) (by kernel_rfl) (fun _ _ _ h => h) (Or.inl ⟨by rfl, ?_⟩) hHeld ?_
      rotate_left
      · intro u hSu
        (go_simp) <;> (with_reducible rfl)
      change wpUp _ _ _ _ _ _ _ _ (Act.put _ (some 43) _) _
      simp only [Act.put, List.setIfInBounds_toArray, List.set_cons_zero, List.set_cons_succ]
      refine up_take (i := 20) (v := ?_) (by kernel_rfl) (by kernel_rfl) (by kernel_rfl) rfl (by kernel_rfl) (by kernel_rfl) (by kernel_rfl) (fun _ _ _ h => h) (Or.inl ⟨by rfl, ?_⟩) hHeld ?_
      rotate_left
      · intro u hSu
        (go_simp) <;> (with_reducible rfl)
      change wpUp _ _ _ _ _ _ _ _ (Act.put _ (some 44) _) _
      simp only [Act.put, List.setIfInBounds_toArray, List.set_cons_zero, List.set_cons_succ]
      refine up_take (i := 21) (v := ?_) (by kernel_rfl) (by kernel_rfl) (by kernel_rfl) rfl (by kernel_rfl) (by kernel_rfl) (by kernel_rfl) (fun _ _ _ h => h) (Or.inl ⟨by rfl, ?_⟩) hHeld ?_
      rotate_left
      · intro u hSu
        obtain ⟨q0, y3, y5, y6, y7⟩ := FC.out u hSu
        (go_simp) <;> (with_reducible rfl)
      change wpUp _ _ _ _ _ _ _ _ (Act.put _ (some 45) _) _
      simp only [Act.put, List.setIfInBounds_toArray, List.set_cons_zero, List.set_cons_succ]
      refine up_take (i := 22) (v := ?_) (by kernel_rfl) (by kernel_rfl) (by kernel_rfl) rfl (by kernel_rfl) (by kernel_rfl) (by kernel_rfl) (fun _ _ _ h => h) (Or.inl ⟨by rfl, ?_⟩) hHeld ?_
      rotate_left
      · intro u hSu
        (go_simp) <;> (with_reducible rfl)
      change wpUp _ _ _ _ _ _ _ _ (Act.put _ (some 46) _) _
      simp only [Act.put, List.setIfInBounds_toArray, List.set_cons_zero, List.set_cons_succ]
      refine up_take (i := 23) (v := ?_) (by kernel_rfl) (by kernel_rfl) (by kernel_rfl) rfl (by kernel_rfl) (by kernel_rfl) (by kernel_rfl) (fun _ _ _ h => h) (Or.inl ⟨by rfl, ?_⟩) hHeld ?_
      rotate_left
      · intro u hSu
        (go_simp) <;> (with_reducible rfl)
      change wpUp _ _ _ _ _ _ _ _ (Act.put _ (some 47) _) _
      simp only [Act.put, List.setIfInBounds_toArray, List.set_cons_zero, List.set_cons_succ]
      refine up_take (i := 24) (v := ?_) (by kernel_rfl) (by kernel_rfl) (by kernel_rfl) rfl (by kernel_rfl) (by kernel_rfl) (by kernel_rfl) (fun _ _ _ h => h) (Or.inl ⟨by rfl, ?_⟩) hHeld ?_
      rotate_left
      · intro u hSu
        (go_simp) <;> (with_reducible rfl)
      change wpUp _ _ _ _ _ _ _ _ (Act.put _ (some 48) _) _
      simp only [Act.put, List.setIfInBounds_toArray, List.set_cons_zero, List.set_cons_succ]
      refine up_take (i := 25) (v := ?_) (by kernel_rfl) (by kernel_rfl) (by kernel_rfl) rfl (by kernel_rfl) (by kernel_rfl) (by kernel_rfl) (fun _ _ _ h => h) (Or.inl ⟨by rfl, ?_⟩) hHeld ?_
      rotate_left
      · intro u hSu
        obtain ⟨q0, y3, y5, y6, y7⟩ := FC.out u hSu
        (go_simp) <;> (with_reducible rfl)
      change wpUp _ _ _ _ _ _ _ _ (Act.put _ (some 49) _) _
      simp only [Act.put, List.setIfInBounds_toArray, List.set_cons_zero, List.set_cons_succ]
      refine up_take (i := 26) (v := ?_) (by kernel_rfl) (by kernel_rfl) (by kernel_rfl) rfl (by kernel_rfl) (by kernel_rfl) (by kernel_rfl) (fun _ _ _ h => h) (Or.inl ⟨by rfl, ?_⟩) hHeld ?_
      rotate_left
      · intro u hSu
        (go_simp) <;> (with_reducible rfl)
      change wpUp _ _ _ _ _ _ _ _ (Act.put _ (some 50) _) _
      simp only [Act.put, List.setIfInBounds_toArray, List.set_cons_zero, List.set_cons_succ]
      refine up_ready (rs := [27]) (by kernel_rfl) (by simp) ?_
      refine AllUp.that rfl (fun K hK => ?_) AllUp.nil
      refine step_store_rowU rfl _ _ rfl w.heap.size (rcdC 4 id t n b1 pa P pc) rfl rfl info_rrcdC (rcdC_one _ _ _ _ _ _ _ _) (HTH.out _ (Below.refl _ _).drew) ?_; intro u2 hr2 hc2; have R2 : Hid (u2.rangeAt w.heap.size 0 (rcdC 4 id t n b1 pa P pc)) := hr2; have B2 : Hid (Below w.heap.size w u2) := HCB.out _ _ (Below.refl _ _).drew hc2; clear hr2 hc2; refine hK.out _ _ ?_; clear hK K hHeld
      refine up_after (i := 28) (v := ?_) (by kernel_rfl) (by kernel_rfl) rfl (Or.inl ⟨by rfl, ?_⟩) ?_
      rotate_left
      · intro u hSu
        (go_simp) <;> (with_reducible rfl)
      change wpUp _ _ _ _ _ _ _ _ (Act.put _ (some 5) _) _
      simp only [Act.put, List.setIfInBounds_toArray, List.set_cons_zero, List.set_cons_succ]
      refine up_done (by kernel_rfl) ?_
      refine NoPanic.normal ?_
      go_wp2
      refine bodyPost_ret (results_rowU rfl _ _ w.heap.size (rcdC 4 id t n b1 pa P pc) _ rfl R2.out Try.underlying56 rfl info_rrcdC) rfl ?_
      refine ⟨⟨fun hr => (by rw [HR.out] at hr; cases hr), fun r hr => ?_⟩, B2.out⟩
      rw [HR.out] at hr
      injection hr with hr
      subst hr
      exact ⟨pa, pc, by rw [HP.out]; rfl, HPC.out, FP.out _ B2.out⟩
end Go.Proofs.Ytcppihpehipelaa
