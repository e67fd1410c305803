/-
  What package store looks at ahead of its writes: anyWritten, anyFull, countNew.
-/
import Derived.Test.YtileidbdmpeciaaGreatStoC2
import Derived.Test.YtileidbdmpeciaaGreatAu102
namespace Go.Proofs.YtileidbdmpeciaaGreat
open Go.RowKit
set_option linter.unusedVariables false

theorem eq_stm (u : World) (t n t' n' : Int) : (Op.equalIn 10000 28 (.agg #[.int .i64 t, .int .u8 n]) (.agg #[.int .i64 t', .int .u8 n'])).run Tryz.prog u = .ok (decide (t = t' ∧ n = n')) u := by
  go_simp
  by_cases h1 : t = t' <;> by_cases h2 : n = n' <;> simp [h1, h2]
/-- A version at a stamp is there just if what is seen then has that stamp. -/
theorem clash_at {L : List Ver} {V : Ver} (h : One L) (hu : Ups L) (hV : V.k = zeroK) : clashV L V = match atV L zeroK V.t V.n with | none => false | some X => decide (X.t = V.t ∧ X.n = V.n) := by
  rw [Bool.eq_iff_iff, clash_iff h hu hV]
  cases hat : atV L zeroK V.t V.n with
  | none =>
    refine ⟨fun ⟨X, hX, e⟩ => ?_, fun e => by cases e⟩
    have := (at_none_iff h).1 hat X hX
    rw [e.1, e.2] at this
    exact absurd this (ltS_irr _ _)
  | some Y =>
    obtain ⟨f1, f2, f3⟩ := at_some_facts h hu hat
    simp only [decide_eq_true_eq]
    refine ⟨fun ⟨X, hX, e⟩ => ?_, fun e => ⟨Y, f1, e⟩⟩
    rcases f3 X hX (by rw [e.1, e.2]; exact ltS_irr _ _) with e2 | e2
    · rw [← e2]; exact e
    · exfalso
      have e3 : ltS X.t X.n Y.t Y.n := e2
      rw [e.1, e.2] at e3
      exact f2 e3
theorem clash_code (L : List Ver) (hL : OrdK L) (t n : Int) (W : Wrt) : (atV (oneV L W.k) zeroK t n = none → clashV L (verW t n W) = false) ∧ ∀ X, atV (oneV L W.k) zeroK t n = some X → clashV L (verW t n W) = decide (X.t = t ∧ X.n = n) := by
  rw [← one_clash2, clash_at (L := oneV L (verW t n W).k) (V := bare (verW t n W)) (one_bare _) (ups_chain hL _) rfl]
  exact ⟨fun e => by
    have e' : atV (oneV L (verW t n W).k) zeroK (bare (verW t n W)).t (bare (verW t n W)).n = none := e
    rw [e'], fun X e => by
    have e' : atV (oneV L (verW t n W).k) zeroK (bare (verW t n W)).t (bare (verW t n W)).n = some X := e
    rw [e']; rfl⟩
set_option maxHeartbeats 4000000 in
set_option maxRecDepth 4000 in
theorem sclw_any (p : Nat) (L : List Ver) (X : Foot) (W : Wrt) (hW : WrtOk W) (t n : Int) (bs bt : Nat) (w : World) (h : StD w p L X) (hs : w.cell? ⟨bs, 0, none⟩ = some (.pointer (some ⟨p, 0, none⟩))) (ht0 : w.cell? ⟨bt, 0, none⟩ = some (.int .i64 t)) (ht1 : w.cell? ⟨bt, 1, none⟩ = some (.int .u8 n)) :
    Calls Tryz.prog 135 #[wv W, .pointer (some ⟨bs, 0, none⟩), .pointer (some ⟨bt, 0, none⟩)] w fun e w' => e = .returned (.bool (clashV L (verW t n W))) ∧ Below w.heap.size w w' := by
  obtain ⟨hg, m, G, Y, hi, hne⟩ := h
  have hk := hW.key
  obtain ⟨C, hC⟩ : ∃ C, C = encW W := ⟨_, rfl⟩
  obtain ⟨w1, hw1⟩ : ∃ u, u = w.alloc (.cells C.toArray 80) := ⟨_, rfl⟩
  have hmine : WrtMine w1 w.heap.size 0 W := by rw [hw1, hC]; exact WrtMine.made w 80 W hk
  have HB1 : Hid (Below w.heap.size w w1) := by rw [hw1]; exact (Below.refl _ _).alloc (Nat.le_refl _) _
  have KY : Hid (Ky W.k) := hk
  have FK : Hid (∀ u, Below w1.heap.size w1 u → KeyAt u w.heap.size 0 W.k) := fun u hb => (hmine.at_.past hb).key hk
  have FPS : Hid (∀ u, Below w1.heap.size w1 u → u.cell? ⟨bs, 0, none⟩ = some (.pointer (some ⟨p, 0, none⟩))) := fun u hb => ((HB1.out.trans (hb.mono HB1.out.size)).cell (p := ⟨bs, 0, none⟩) (cell_lt hs)).trans hs
  have FT : Hid (∀ u, Below w.heap.size w u → u.cell? ⟨bt, 0, none⟩ = some (.int .i64 t) ∧ u.cell? ⟨bt, 1, none⟩ = some (.int .u8 n)) := fun u hb => ⟨(hb.cell (p := ⟨bt, 0, none⟩) (cell_lt ht0)).trans ht0, (hb.cell (p := ⟨bt, 1, none⟩) (cell_lt ht0)).trans ht1⟩
  have FC : Hid (∀ u, Below w1.heap.size w1 u → u.cell? ⟨p, 0, none⟩ = some (.map (some m))) := fun u hb => (hi.past (HB1.out.trans (hb.mono HB1.out.size))).c0
  have LK : Hid (∀ u, Below w1.heap.size w1 u → (Instr.lookup 137 (.map (some m)) (kv W.k) true).run Tryz.prog u = .ok (.tuple #[ptrV (G W.k), .bool (G W.k).isSome]) u) := fun u hb => (hi.past (HB1.out.trans (hb.mono HB1.out.size))).look hk
  have HW1 : Hid (w.alloc (.cells C.toArray 80) = w1) := hw1.symm
  have hcode := clash_code L hg.sto.ord t n W
  obtain ⟨R, hR⟩ : ∃ R, R = clashV L (verW t n W) := ⟨_, rfl⟩
  show Calls Tryz.prog 135 #[.agg (encW W).toArray, .pointer (some ⟨bs, 0, none⟩), .pointer (some ⟨bt, 0, none⟩)] w _
  rw [← hC]
  rw [← hR] at hcode ⊢
  generalize hkk : W.k = k at *
  cases hgk : G k with
  | none =>
    have HR : Hid (R = false) := hcode.1 (by rw [hi.empty k hk hgk, empty_at])
    have LK : Hid (∀ u, Below w1.heap.size w1 u → (Instr.lookup 137 (.map (some m)) (kv k) true).run Tryz.prog u = .ok (.tuple #[.pointer none, .bool false]) u) := by rw [hgk] at LK; exact LK
    clear hcode hR hgk hi hne hg hw1 hk hmine hC hW hs ht0 ht1 hkk
    go_enter Tryz.func135, Tryz.ntmps135
    go_wp2
    rw [HW1.out]
    refine wp_region_noPanic ?_
    refine wp_region_held_drew (S := fun u => Below w1.heap.size w1 u) (by kernel_rfl) ?_ (fun hHeld => ?_)
    · exact (Below.refl _ _).drew
    refine wpAnyH_take (i := 0) (v := ?_) rfl (by kernel_rfl) (by kernel_rfl) (by kernel_rfl) (fun _ _ _ h => h) (Or.inl ⟨by rfl, ?_⟩) hHeld ?_
    rotate_left
    · intro u hSu
      have q0 := FPS.out u hSu
      (go_simp) <;> (with_reducible rfl)
    change wpAnyH _ _ _ _ _ _ _ (Act.put _ (some 10) _) _
    simp only [Act.put, List.setIfInBounds_toArray, List.set_cons_zero, List.set_cons_succ]
    refine wpAnyH_take (i := 1) (v := ?_) rfl (by kernel_rfl) (by kernel_rfl) (by kernel_rfl) (fun _ _ _ h => h) (Or.inl ⟨by rfl, ?_⟩) hHeld ?_
    rotate_left
    · intro u hSu
      (go_simp) <;> (with_reducible rfl)
    change wpAnyH _ _ _ _ _ _ _ (Act.put _ (some 11) _) _
    simp only [Act.put, List.setIfInBounds_toArray, List.set_cons_zero, List.set_cons_succ]
    refine wpAnyH_take (i := 2) (v := ?_) rfl (by kernel_rfl) (by kernel_rfl) (by kernel_rfl) (fun _ _ _ h => h) (Or.inl ⟨by rfl, ?_⟩) hHeld ?_
    rotate_left
    · intro u hSu
      (go_simp) <;> (with_reducible rfl)
    change wpAnyH _ _ _ _ _ _ _ (Act.put _ (some 12) _) _
    simp only [Act.put, List.setIfInBounds_toArray, List.set_cons_zero, List.set_cons_succ]
    refine wpAnyH_take (i := 3) (v := ?_) rfl (by kernel_rfl) (by kernel_rfl) (by kernel_rfl) (fun _ _ _ h => h) (Or.inl ⟨by rfl, ?_⟩) hHeld ?_
    rotate_left
    · intro u hSu
      have q0 := FC.out u hSu
      (go_simp) <;> (with_reducible rfl)
    change wpAnyH _ _ _ _ _ _ _ (Act.put _ (some 13) _) _
    simp only [Act.put, List.setIfInBounds_toArray, List.set_cons_zero, List.set_cons_succ]
    refine wpAnyH_take (i := 4) (v := ?_) rfl (by kernel_rfl) (by kernel_rfl) (by kernel_rfl) (fun _ _ _ h => h) (Or.inl ⟨by rfl, ?_⟩) hHeld ?_
    rotate_left
    · intro u hSu
      (go_simp) <;> (with_reducible rfl)
    change wpAnyH _ _ _ _ _ _ _ (Act.put _ (some 14) _) _
    simp only [Act.put, List.setIfInBounds_toArray, List.set_cons_zero, List.set_cons_succ]
    refine wpAnyH_take (i := 5) (v := kv k) rfl (by kernel_rfl) (by kernel_rfl) (by kernel_rfl) (fun _ _ _ h => h) (yieldsIf_load_mid (by rfl) _ _ rfl _ _ rfl (k.map (Value.int .u8)) _ (fun u hu => (FK.out u hu).range KY.out) Tryz.underlying38 rfl (info_keyl k KY.out)) hHeld ?_
    change wpAnyH _ _ _ _ _ _ _ (Act.put _ (some 15) _) _
    simp only [Act.put, List.setIfInBounds_toArray, List.set_cons_zero, List.set_cons_succ]
    refine wpAnyH_take (i := 6) (v := ?_) rfl (by kernel_rfl) (by kernel_rfl) (by kernel_rfl) (fun _ _ _ h => h) (Or.inl ⟨by rfl, ?_⟩) hHeld ?_
    rotate_left
    · intro u hSu
      have q1 := LK.out u hSu
      (go_simp) <;> (with_reducible rfl)
    change wpAnyH _ _ _ _ _ _ _ (Act.put _ (some 16) _) _
    simp only [Act.put, List.setIfInBounds_toArray, List.set_cons_zero, List.set_cons_succ]
    refine wpAnyH_take (i := 7) (v := ?_) rfl (by kernel_rfl) (by kernel_rfl) (by kernel_rfl) (fun _ _ _ h => h) (Or.inl ⟨by rfl, ?_⟩) hHeld ?_
    rotate_left
    · intro u hSu
      (go_simp) <;> (with_reducible rfl)
    change wpAnyH _ _ _ _ _ _ _ (Act.put _ (some 9) _) _
    simp only [Act.put, List.setIfInBounds_toArray, List.set_cons_zero, List.set_cons_succ]
    refine wpAnyH_take (i := 8) (v := ?_) rfl (by kernel_rfl) (by kernel_rfl) (by kernel_rfl) (fun _ _ _ h => h) (Or.inl ⟨by rfl, ?_⟩) hHeld ?_
    rotate_left
    · intro u hSu
      (go_simp) <;> (with_reducible rfl)
    change wpAnyH _ _ _ _ _ _ _ (Act.put _ (some 17) _) _
    simp only [Act.put, List.setIfInBounds_toArray, List.set_cons_zero, List.set_cons_succ]
    refine wpAnyH_take (i := 9) (v := ?_) rfl (by kernel_rfl) (by kernel_rfl) (by kernel_rfl) (fun _ _ _ h => h) (Or.inl ⟨by rfl, ?_⟩) hHeld ?_
    rotate_left
    · intro u hSu
      (go_simp) <;> (with_reducible rfl)
    change wpAnyH _ _ _ _ _ _ _ (Act.put _ (some 18) _) _
    simp only [Act.put, List.setIfInBounds_toArray, List.set_cons_zero, List.set_cons_succ]
    refine wpAnyH_take (i := 10) (v := ?_) rfl (by kernel_rfl) (by kernel_rfl) (by kernel_rfl) (fun _ _ _ h => h) (Or.inl ⟨by rfl, ?_⟩) hHeld ?_
    rotate_left
    · intro u hSu
      (go_simp) <;> (with_reducible rfl)
    change wpAnyH _ _ _ _ _ _ _ (Act.put _ (some 5) _) _
    simp only [Act.put, List.setIfInBounds_toArray, List.set_cons_zero, List.set_cons_succ]
    refine wpAnyH_take (i := 11) (v := ?_) rfl (by kernel_rfl) (by kernel_rfl) (by kernel_rfl) (fun _ _ _ h => h) (Or.inl ⟨by rfl, ?_⟩) hHeld ?_
    rotate_left
    · intro u hSu
      (go_simp) <;> (with_reducible rfl)
    change wpAnyH _ _ _ _ _ _ _ (Act.put _ (some 6) _) _
    simp only [Act.put, List.setIfInBounds_toArray, List.set_cons_zero, List.set_cons_succ]
    refine wpAnyH_done (by kernel_rfl) ?_ _
    refine NoPanic.normal ?_
    go_wp2
    go_ret
    exact ⟨by rw [HR.out]; rfl, HB1.out.drew⟩
  | some g =>
    have LK : Hid (∀ u, Below w1.heap.size w1 u → (Instr.lookup 137 (.map (some m)) (kv k) true).run Tryz.prog u = .ok (.tuple #[.pointer (some ⟨g, 0, none⟩), .bool true]) u) := by rw [hgk] at LK; exact LK
    have hch := hi.file k g hk hgk
    have CA0 : ∀ u, Below w.heap.size w u → Calls Tryz.prog 103 #[.pointer (some ⟨g, 0, none⟩), .agg #[.int .i64 t, .int .u8 n]] u fun e w' => e = .returned (.tuple #[cvv (orZero (atV (oneV L k) zeroK t n)), .bool (atV (oneV L k) zeroK t n).isSome]) ∧ Below u.heap.size u w' := fun u hb => cat_any g (oneV L k) (Y k) t n u (hch.past hb)
    obtain ⟨y0, y1⟩ := FT.out w1 HB1.out
    cases hat : atV (oneV L k) zeroK t n with
    | none =>
      have HR : Hid (R = false) := hcode.1 hat
      rw [hat] at CA0
      have CA : Hid (∀ u, Below w.heap.size w u → Calls Tryz.prog 103 #[.pointer (some ⟨g, 0, none⟩), .agg #[.int .i64 t, .int .u8 n]] u fun e w' => e = .returned (.tuple #[.agg #[.int .i64 0, .int .u8 0, .string ⟨#[]⟩, .bool false], .bool false]) ∧ Below u.heap.size u w') := CA0
      clear hcode hR hgk hi hne hg hw1 hk hmine hC hW hs ht0 ht1 hkk hat CA0 hch
      go_enter Tryz.func135, Tryz.ntmps135
      go_wp2
      rw [HW1.out]
      refine wp_region_noPanic ?_
      refine wp_region_held_drew (S := fun u => Below w1.heap.size w1 u) (by kernel_rfl) ?_ (fun hHeld => ?_)
      · exact (Below.refl _ _).drew
      refine wpAnyH_take (i := 0) (v := ?_) rfl (by kernel_rfl) (by kernel_rfl) (by kernel_rfl) (fun _ _ _ h => h) (Or.inl ⟨by rfl, ?_⟩) hHeld ?_
      rotate_left
      · intro u hSu
        have q0 := FPS.out u hSu
        (go_simp) <;> (with_reducible rfl)
      change wpAnyH _ _ _ _ _ _ _ (Act.put _ (some 10) _) _
      simp only [Act.put, List.setIfInBounds_toArray, List.set_cons_zero, List.set_cons_succ]
      refine wpAnyH_take (i := 1) (v := ?_) rfl (by kernel_rfl) (by kernel_rfl) (by kernel_rfl) (fun _ _ _ h => h) (Or.inl ⟨by rfl, ?_⟩) hHeld ?_
      rotate_left
      · intro u hSu
        (go_simp) <;> (with_reducible rfl)
      change wpAnyH _ _ _ _ _ _ _ (Act.put _ (some 11) _) _
      simp only [Act.put, List.setIfInBounds_toArray, List.set_cons_zero, List.set_cons_succ]
      refine wpAnyH_take (i := 2) (v := ?_) rfl (by kernel_rfl) (by kernel_rfl) (by kernel_rfl) (fun _ _ _ h => h) (Or.inl ⟨by rfl, ?_⟩) hHeld ?_
      rotate_left
      · intro u hSu
        (go_simp) <;> (with_reducible rfl)
      change wpAnyH _ _ _ _ _ _ _ (Act.put _ (some 12) _) _
      simp only [Act.put, List.setIfInBounds_toArray, List.set_cons_zero, List.set_cons_succ]
      refine wpAnyH_take (i := 3) (v := ?_) rfl (by kernel_rfl) (by kernel_rfl) (by kernel_rfl) (fun _ _ _ h => h) (Or.inl ⟨by rfl, ?_⟩) hHeld ?_
      rotate_left
      · intro u hSu
        have q0 := FC.out u hSu
        (go_simp) <;> (with_reducible rfl)
      change wpAnyH _ _ _ _ _ _ _ (Act.put _ (some 13) _) _
      simp only [Act.put, List.setIfInBounds_toArray, List.set_cons_zero, List.set_cons_succ]
      refine wpAnyH_take (i := 4) (v := ?_) rfl (by kernel_rfl) (by kernel_rfl) (by kernel_rfl) (fun _ _ _ h => h) (Or.inl ⟨by rfl, ?_⟩) hHeld ?_
      rotate_left
      · intro u hSu
        (go_simp) <;> (with_reducible rfl)
      change wpAnyH _ _ _ _ _ _ _ (Act.put _ (some 14) _) _
      simp only [Act.put, List.setIfInBounds_toArray, List.set_cons_zero, List.set_cons_succ]
      refine wpAnyH_take (i := 5) (v := kv k) rfl (by kernel_rfl) (by kernel_rfl) (by kernel_rfl) (fun _ _ _ h => h) (yieldsIf_load_mid (by rfl) _ _ rfl _ _ rfl (k.map (Value.int .u8)) _ (fun u hu => (FK.out u hu).range KY.out) Tryz.underlying38 rfl (info_keyl k KY.out)) hHeld ?_
      change wpAnyH _ _ _ _ _ _ _ (Act.put _ (some 15) _) _
      simp only [Act.put, List.setIfInBounds_toArray, List.set_cons_zero, List.set_cons_succ]
      refine wpAnyH_take (i := 6) (v := ?_) rfl (by kernel_rfl) (by kernel_rfl) (by kernel_rfl) (fun _ _ _ h => h) (Or.inl ⟨by rfl, ?_⟩) hHeld ?_
      rotate_left
      · intro u hSu
        have q1 := LK.out u hSu
        (go_simp) <;> (with_reducible rfl)
      change wpAnyH _ _ _ _ _ _ _ (Act.put _ (some 16) _) _
      simp only [Act.put, List.setIfInBounds_toArray, List.set_cons_zero, List.set_cons_succ]
      refine wpAnyH_take (i := 7) (v := ?_) rfl (by kernel_rfl) (by kernel_rfl) (by kernel_rfl) (fun _ _ _ h => h) (Or.inl ⟨by rfl, ?_⟩) hHeld ?_
      rotate_left
      · intro u hSu
        (go_simp) <;> (with_reducible rfl)
      change wpAnyH _ _ _ _ _ _ _ (Act.put _ (some 9) _) _
      simp only [Act.put, List.setIfInBounds_toArray, List.set_cons_zero, List.set_cons_succ]
      refine wpAnyH_take (i := 8) (v := ?_) rfl (by kernel_rfl) (by kernel_rfl) (by kernel_rfl) (fun _ _ _ h => h) (Or.inl ⟨by rfl, ?_⟩) hHeld ?_
      rotate_left
      · intro u hSu
        (go_simp) <;> (with_reducible rfl)
      change wpAnyH _ _ _ _ _ _ _ (Act.put _ (some 17) _) _
      simp only [Act.put, List.setIfInBounds_toArray, List.set_cons_zero, List.set_cons_succ]
      refine wpAnyH_take (i := 9) (v := ?_) rfl (by kernel_rfl) (by kernel_rfl) (by kernel_rfl) (fun _ _ _ h => h) (Or.inl ⟨by rfl, ?_⟩) hHeld ?_
      rotate_left
      · intro u hSu
        (go_simp) <;> (with_reducible rfl)
      change wpAnyH _ _ _ _ _ _ _ (Act.put _ (some 18) _) _
      simp only [Act.put, List.setIfInBounds_toArray, List.set_cons_zero, List.set_cons_succ]
      refine wpAnyH_take (i := 10) (v := ?_) rfl (by kernel_rfl) (by kernel_rfl) (by kernel_rfl) (fun _ _ _ h => h) (Or.inl ⟨by rfl, ?_⟩) hHeld ?_
      rotate_left
      · intro u hSu
        (go_simp) <;> (with_reducible rfl)
      change wpAnyH _ _ _ _ _ _ _ (Act.put _ (some 5) _) _
      simp only [Act.put, List.setIfInBounds_toArray, List.set_cons_zero, List.set_cons_succ]
      refine wpAnyH_take (i := 11) (v := ?_) rfl (by kernel_rfl) (by kernel_rfl) (by kernel_rfl) (fun _ _ _ h => h) (Or.inl ⟨by rfl, ?_⟩) hHeld ?_
      rotate_left
      · intro u hSu
        (go_simp) <;> (with_reducible rfl)
      change wpAnyH _ _ _ _ _ _ _ (Act.put _ (some 6) _) _
      simp only [Act.put, List.setIfInBounds_toArray, List.set_cons_zero, List.set_cons_succ]
      refine wpAnyH_done (by kernel_rfl) ?_ _
      refine NoPanic.normal ?_
      go_wp2_with (go_at_call 103; refine (CA.out _ HB1.out.drew).mono ?_; rintro e w2 ⟨rfl, hb2⟩; have HB2 : Hid (Below w.heap.size w w2) := HB1.out.drew.trans (hb2.mono HB1.out.size); clear hb2)
      go_ret
      exact ⟨by rw [HR.out]; rfl, HB2.out.alloc HB2.out.size _⟩
    | some V =>
      have HR : Hid (R = decide (V.t = t ∧ V.n = n)) := hcode.2 V hat
      rw [hat] at CA0
      have CA1 : ∀ u, Below w.heap.size w u → Calls Tryz.prog 103 #[.pointer (some ⟨g, 0, none⟩), .agg #[.int .i64 t, .int .u8 n]] u fun e w' => e = .returned (.tuple #[.agg #[.int .i64 V.t, .int .u8 V.n, .string (strOfNums V.v), .bool V.g], .bool true]) ∧ Below u.heap.size u w' := CA0
      have CA : Hid (∀ u, Below w.heap.size w u → Calls Tryz.prog 103 #[.pointer (some ⟨g, 0, none⟩), .agg #[.int .i64 t, .int .u8 n]] u fun e w' => e = .returned (.tuple #[.agg #[.int .i64 V.t, .int .u8 V.n, .string (strOfNums V.v), .bool V.g], .bool true]) ∧ Below u.heap.size u w') := CA1
      have HQ : Hid (∀ u, (Op.equalIn 10000 28 (.agg #[.int .i64 V.t, .int .u8 V.n]) (.agg #[.int .i64 t, .int .u8 n])).run Tryz.prog u = .ok R u) := fun u => by rw [HR.out]; exact eq_stm u _ _ _ _
      clear HR CA1
      generalize V.t = T1 at *
      generalize V.n = N1 at *
      generalize strOfNums V.v = S1 at *
      generalize V.g = G1 at *
      have hq := HQ.out
      clear hcode hR hgk hi hne hg hw1 hk hmine hC hW hs ht0 ht1 hkk hat CA0 hch HQ
      go_enter Tryz.func135, Tryz.ntmps135
      go_wp2
      rw [HW1.out]
      refine wp_region_noPanic ?_
      refine wp_region_held_drew (S := fun u => Below w1.heap.size w1 u) (by kernel_rfl) ?_ (fun hHeld => ?_)
      · exact (Below.refl _ _).drew
      refine wpAnyH_take (i := 0) (v := ?_) rfl (by kernel_rfl) (by kernel_rfl) (by kernel_rfl) (fun _ _ _ h => h) (Or.inl ⟨by rfl, ?_⟩) hHeld ?_
      rotate_left
      · intro u hSu
        have q0 := FPS.out u hSu
        (go_simp) <;> (with_reducible rfl)
      change wpAnyH _ _ _ _ _ _ _ (Act.put _ (some 10) _) _
      simp only [Act.put, List.setIfInBounds_toArray, List.set_cons_zero, List.set_cons_succ]
      refine wpAnyH_take (i := 1) (v := ?_) rfl (by kernel_rfl) (by kernel_rfl) (by kernel_rfl) (fun _ _ _ h => h) (Or.inl ⟨by rfl, ?_⟩) hHeld ?_
      rotate_left
      · intro u hSu
        (go_simp) <;> (with_reducible rfl)
      change wpAnyH _ _ _ _ _ _ _ (Act.put _ (some 11) _) _
      simp only [Act.put, List.setIfInBounds_toArray, List.set_cons_zero, List.set_cons_succ]
      refine wpAnyH_take (i := 2) (v := ?_) rfl (by kernel_rfl) (by kernel_rfl) (by kernel_rfl) (fun _ _ _ h => h) (Or.inl ⟨by rfl, ?_⟩) hHeld ?_
      rotate_left
      · intro u hSu
        (go_simp) <;> (with_reducible rfl)
      change wpAnyH _ _ _ _ _ _ _ (Act.put _ (some 12) _) _
      simp only [Act.put, List.setIfInBounds_toArray, List.set_cons_zero, List.set_cons_succ]
      refine wpAnyH_take (i := 3) (v := ?_) rfl (by kernel_rfl) (by kernel_rfl) (by kernel_rfl) (fun _ _ _ h => h) (Or.inl ⟨by rfl, ?_⟩) hHeld ?_
      rotate_left
      · intro u hSu
        have q0 := FC.out u hSu
        (go_simp) <;> (with_reducible rfl)
      change wpAnyH _ _ _ _ _ _ _ (Act.put _ (some 13) _) _
      simp only [Act.put, List.setIfInBounds_toArray, List.set_cons_zero, List.set_cons_succ]
      refine wpAnyH_take (i := 4) (v := ?_) rfl (by kernel_rfl) (by kernel_rfl) (by kernel_rfl) (fun _ _ _ h => h) (Or.inl ⟨by rfl, ?_⟩) hHeld ?_
      rotate_left
      · intro u hSu
        (go_simp) <;> (with_reducible rfl)
      change wpAnyH _ _ _ _ _ _ _ (Act.put _ (some 14) _) _
      simp only [Act.put, List.setIfInBounds_toArray, List.set_cons_zero, List.set_cons_succ]
      refine wpAnyH_take (i := 5) (v := kv k) rfl (by kernel_rfl) (by kernel_rfl) (by kernel_rfl) (fun _ _ _ h => h) (yieldsIf_load_mid (by rfl) _ _ rfl _ _ rfl (k.map (Value.int .u8)) _ (fun u hu => (FK.out u hu).range KY.out) Tryz.underlying38 rfl (info_keyl k KY.out)) hHeld ?_
      change wpAnyH _ _ _ _ _ _ _ (Act.put _ (some 15) _) _
      simp only [Act.put, List.setIfInBounds_toArray, List.set_cons_zero, List.set_cons_succ]
      refine wpAnyH_take (i := 6) (v := ?_) rfl (by kernel_rfl) (by kernel_rfl) (by kernel_rfl) (fun _ _ _ h => h) (Or.inl ⟨by rfl, ?_⟩) hHeld ?_
      rotate_left
      · intro u hSu
        have q1 := LK.out u hSu
        (go_simp) <;> (with_reducible rfl)
      change wpAnyH _ _ _ _ _ _ _ (Act.put _ (some 16) _) _
      simp only [Act.put, List.setIfInBounds_toArray, List.set_cons_zero, List.set_cons_succ]
      refine wpAnyH_take (i := 7) (v := ?_) rfl (by kernel_rfl) (by kernel_rfl) (by kernel_rfl) (fun _ _ _ h => h) (Or.inl ⟨by rfl, ?_⟩) hHeld ?_
      rotate_left
      · intro u hSu
        (go_simp) <;> (with_reducible rfl)
      change wpAnyH _ _ _ _ _ _ _ (Act.put _ (some 9) _) _
      simp only [Act.put, List.setIfInBounds_toArray, List.set_cons_zero, List.set_cons_succ]
      refine wpAnyH_take (i := 8) (v := ?_) rfl (by kernel_rfl) (by kernel_rfl) (by kernel_rfl) (fun _ _ _ h => h) (Or.inl ⟨by rfl, ?_⟩) hHeld ?_
      rotate_left
      · intro u hSu
        (go_simp) <;> (with_reducible rfl)
      change wpAnyH _ _ _ _ _ _ _ (Act.put _ (some 17) _) _
      simp only [Act.put, List.setIfInBounds_toArray, List.set_cons_zero, List.set_cons_succ]
      refine wpAnyH_take (i := 9) (v := ?_) rfl (by kernel_rfl) (by kernel_rfl) (by kernel_rfl) (fun _ _ _ h => h) (Or.inl ⟨by rfl, ?_⟩) hHeld ?_
      rotate_left
      · intro u hSu
        (go_simp) <;> (with_reducible rfl)
      change wpAnyH _ _ _ _ _ _ _ (Act.put _ (some 18) _) _
      simp only [Act.put, List.setIfInBounds_toArray, List.set_cons_zero, List.set_cons_succ]
      refine wpAnyH_take (i := 10) (v := ?_) rfl (by kernel_rfl) (by kernel_rfl) (by kernel_rfl) (fun _ _ _ h => h) (Or.inl ⟨by rfl, ?_⟩) hHeld ?_
      rotate_left
      · intro u hSu
        (go_simp) <;> (with_reducible rfl)
      change wpAnyH _ _ _ _ _ _ _ (Act.put _ (some 5) _) _
      simp only [Act.put, List.setIfInBounds_toArray, List.set_cons_zero, List.set_cons_succ]
      refine wpAnyH_take (i := 11) (v := ?_) rfl (by kernel_rfl) (by kernel_rfl) (by kernel_rfl) (fun _ _ _ h => h) (Or.inl ⟨by rfl, ?_⟩) hHeld ?_
      rotate_left
      · intro u hSu
        (go_simp) <;> (with_reducible rfl)
      change wpAnyH _ _ _ _ _ _ _ (Act.put _ (some 6) _) _
      simp only [Act.put, List.setIfInBounds_toArray, List.set_cons_zero, List.set_cons_succ]
      refine wpAnyH_done (by kernel_rfl) ?_ _
      refine NoPanic.normal ?_
      go_wp2_with (go_at_call 103; refine (CA.out _ HB1.out.drew).mono ?_; rintro e w2 ⟨rfl, hb2⟩; have HB2 : Hid (Below w.heap.size w w2) := HB1.out.drew.trans (hb2.mono HB1.out.size); have HB3 : Hid (Below w.heap.size w (w2.alloc (.cells #[.int .i64 T1, .int .u8 N1, .string S1, .bool G1] 136))) := HB2.out.alloc HB2.out.size _; obtain ⟨x0, x1⟩ := FT.out _ HB3.out; clear hb2)
      go_ret
      exact ⟨rfl, HB3.out⟩
set_option maxHeartbeats 4000000 in
set_option maxRecDepth 4000 in
theorem sclf_any (p : Nat) (L : List Ver) (X : Foot) (W : Wrt) (hW : WrtOk W) (bs : Nat) (w : World) (h : StD w p L X) (hs : w.cell? ⟨bs, 0, none⟩ = some (.pointer (some ⟨p, 0, none⟩))) :
    Calls Tryz.prog 136 #[wv W, .pointer (some ⟨bs, 0, none⟩)] w fun e w' => e = .returned (.bool (decide (50 ≤ kMany L W.k))) ∧ Below w.heap.size w w' := by
  obtain ⟨hg, m, G, Y, hi, hne⟩ := h
  have hk := hW.key
  obtain ⟨C, hC⟩ : ∃ C, C = encW W := ⟨_, rfl⟩
  obtain ⟨w1, hw1⟩ : ∃ u, u = w.alloc (.cells C.toArray 80) := ⟨_, rfl⟩
  have hmine : WrtMine w1 w.heap.size 0 W := by rw [hw1, hC]; exact WrtMine.made w 80 W hk
  have HB1 : Hid (Below w.heap.size w w1) := by rw [hw1]; exact (Below.refl _ _).alloc (Nat.le_refl _) _
  have KY : Hid (Ky W.k) := hk
  have FK : Hid (∀ u, Below w1.heap.size w1 u → KeyAt u w.heap.size 0 W.k) := fun u hb => (hmine.at_.past hb).key hk
  have FPS : Hid (∀ u, Below w1.heap.size w1 u → u.cell? ⟨bs, 0, none⟩ = some (.pointer (some ⟨p, 0, none⟩))) := fun u hb => ((HB1.out.trans (hb.mono HB1.out.size)).cell (p := ⟨bs, 0, none⟩) (cell_lt hs)).trans hs
  have FC : Hid (∀ u, Below w1.heap.size w1 u → u.cell? ⟨p, 0, none⟩ = some (.map (some m))) := fun u hb => (hi.past (HB1.out.trans (hb.mono HB1.out.size))).c0
  have LK : Hid (∀ u, Below w1.heap.size w1 u → (Instr.lookup 137 (.map (some m)) (kv W.k) true).run Tryz.prog u = .ok (.tuple #[ptrV (G W.k), .bool (G W.k).isSome]) u) := fun u hb => (hi.past (HB1.out.trans (hb.mono HB1.out.size))).look hk
  have HW1 : Hid (w.alloc (.cells C.toArray 80) = w1) := hw1.symm
  show Calls Tryz.prog 136 #[.agg (encW W).toArray, .pointer (some ⟨bs, 0, none⟩)] w _
  rw [← hC, ← one_len]
  have hfew := hg.sto.few W.k
  rw [← one_len] at hfew
  generalize hkk : W.k = k at *
  obtain ⟨N, hN⟩ : ∃ N, N = (oneV L k).length := ⟨_, rfl⟩
  rw [← hN] at hfew ⊢
  cases hgk : G k with
  | none =>
    have HR : Hid (N = 0) := by show N = 0; rw [hN, hi.empty k hk hgk]; rfl
    have LK : Hid (∀ u, Below w1.heap.size w1 u → (Instr.lookup 137 (.map (some m)) (kv k) true).run Tryz.prog u = .ok (.tuple #[.pointer none, .bool false]) u) := by rw [hgk] at LK; exact LK
    clear hN hgk hi hne hg hw1 hk hmine hC hW hs hkk
    go_enter Tryz.func136, Tryz.ntmps136
    go_wp2
    rw [HW1.out]
    refine wp_region_noPanic ?_
    refine wp_region_held_drew (S := fun u => Below w1.heap.size w1 u) (by kernel_rfl) ?_ (fun hHeld => ?_)
    · exact (Below.refl _ _).drew
    refine wpAnyH_take (i := 0) (v := ?_) rfl (by kernel_rfl) (by kernel_rfl) (by kernel_rfl) (fun _ _ _ h => h) (Or.inl ⟨by rfl, ?_⟩) hHeld ?_
    rotate_left
    · intro u hSu
      have q0 := FPS.out u hSu
      (go_simp) <;> (with_reducible rfl)
    change wpAnyH _ _ _ _ _ _ _ (Act.put _ (some 7) _) _
    simp only [Act.put, List.setIfInBounds_toArray, List.set_cons_zero, List.set_cons_succ]
    refine wpAnyH_take (i := 1) (v := ?_) rfl (by kernel_rfl) (by kernel_rfl) (by kernel_rfl) (fun _ _ _ h => h) (Or.inl ⟨by rfl, ?_⟩) hHeld ?_
    rotate_left
    · intro u hSu
      (go_simp) <;> (with_reducible rfl)
    change wpAnyH _ _ _ _ _ _ _ (Act.put _ (some 8) _) _
    simp only [Act.put, List.setIfInBounds_toArray, List.set_cons_zero, List.set_cons_succ]
    refine wpAnyH_take (i := 2) (v := ?_) rfl (by kernel_rfl) (by kernel_rfl) (by kernel_rfl) (fun _ _ _ h => h) (Or.inl ⟨by rfl, ?_⟩) hHeld ?_
    rotate_left
    · intro u hSu
      (go_simp) <;> (with_reducible rfl)
    change wpAnyH _ _ _ _ _ _ _ (Act.put _ (some 9) _) _
    simp only [Act.put, List.setIfInBounds_toArray, List.set_cons_zero, List.set_cons_succ]
    refine wpAnyH_take (i := 3) (v := ?_) rfl (by kernel_rfl) (by kernel_rfl) (by kernel_rfl) (fun _ _ _ h => h) (Or.inl ⟨by rfl, ?_⟩) hHeld ?_
    rotate_left
    · intro u hSu
      have q0 := FC.out u hSu
      (go_simp) <;> (with_reducible rfl)
    change wpAnyH _ _ _ _ _ _ _ (Act.put _ (some 10) _) _
    simp only [Act.put, List.setIfInBounds_toArray, List.set_cons_zero, List.set_cons_succ]
    refine wpAnyH_take (i := 4) (v := ?_) rfl (by kernel_rfl) (by kernel_rfl) (by kernel_rfl) (fun _ _ _ h => h) (Or.inl ⟨by rfl, ?_⟩) hHeld ?_
    rotate_left
    · intro u hSu
      (go_simp) <;> (with_reducible rfl)
    change wpAnyH _ _ _ _ _ _ _ (Act.put _ (some 11) _) _
    simp only [Act.put, List.setIfInBounds_toArray, List.set_cons_zero, List.set_cons_succ]
    refine wpAnyH_take (i := 5) (v := kv k) rfl (by kernel_rfl) (by kernel_rfl) (by kernel_rfl) (fun _ _ _ h => h) (yieldsIf_load_mid (by rfl) _ _ rfl _ _ rfl (k.map (Value.int .u8)) _ (fun u hu => (FK.out u hu).range KY.out) Tryz.underlying38 rfl (info_keyl k KY.out)) hHeld ?_
    change wpAnyH _ _ _ _ _ _ _ (Act.put _ (some 12) _) _
    simp only [Act.put, List.setIfInBounds_toArray, List.set_cons_zero, List.set_cons_succ]
    refine wpAnyH_take (i := 6) (v := ?_) rfl (by kernel_rfl) (by kernel_rfl) (by kernel_rfl) (fun _ _ _ h => h) (Or.inl ⟨by rfl, ?_⟩) hHeld ?_
    rotate_left
    · intro u hSu
      have q1 := LK.out u hSu
      (go_simp) <;> (with_reducible rfl)
    change wpAnyH _ _ _ _ _ _ _ (Act.put _ (some 13) _) _
    simp only [Act.put, List.setIfInBounds_toArray, List.set_cons_zero, List.set_cons_succ]
    refine wpAnyH_take (i := 7) (v := ?_) rfl (by kernel_rfl) (by kernel_rfl) (by kernel_rfl) (fun _ _ _ h => h) (Or.inl ⟨by rfl, ?_⟩) hHeld ?_
    rotate_left
    · intro u hSu
      (go_simp) <;> (with_reducible rfl)
    change wpAnyH _ _ _ _ _ _ _ (Act.put _ (some 6) _) _
    simp only [Act.put, List.setIfInBounds_toArray, List.set_cons_zero, List.set_cons_succ]
    refine wpAnyH_take (i := 8) (v := ?_) rfl (by kernel_rfl) (by kernel_rfl) (by kernel_rfl) (fun _ _ _ h => h) (Or.inl ⟨by rfl, ?_⟩) hHeld ?_
    rotate_left
    · intro u hSu
      (go_simp) <;> (with_reducible rfl)
    change wpAnyH _ _ _ _ _ _ _ (Act.put _ (some 14) _) _
    simp only [Act.put, List.setIfInBounds_toArray, List.set_cons_zero, List.set_cons_succ]
    refine wpAnyH_take (i := 9) (v := ?_) rfl (by kernel_rfl) (by kernel_rfl) (by kernel_rfl) (fun _ _ _ h => h) (Or.inl ⟨by rfl, ?_⟩) hHeld ?_
    rotate_left
    · intro u hSu
      (go_simp) <;> (with_reducible rfl)
    change wpAnyH _ _ _ _ _ _ _ (Act.put _ (some 15) _) _
    simp only [Act.put, List.setIfInBounds_toArray, List.set_cons_zero, List.set_cons_succ]
    refine wpAnyH_take (i := 10) (v := ?_) rfl (by kernel_rfl) (by kernel_rfl) (by kernel_rfl) (fun _ _ _ h => h) (Or.inl ⟨by rfl, ?_⟩) hHeld ?_
    rotate_left
    · intro u hSu
      (go_simp) <;> (with_reducible rfl)
    change wpAnyH _ _ _ _ _ _ _ (Act.put _ (some 4) _) _
    simp only [Act.put, List.setIfInBounds_toArray, List.set_cons_zero, List.set_cons_succ]
    refine wpAnyH_take (i := 11) (v := ?_) rfl (by kernel_rfl) (by kernel_rfl) (by kernel_rfl) (fun _ _ _ h => h) (Or.inl ⟨by rfl, ?_⟩) hHeld ?_
    rotate_left
    · intro u hSu
      (go_simp) <;> (with_reducible rfl)
    change wpAnyH _ _ _ _ _ _ _ (Act.put _ (some 5) _) _
    simp only [Act.put, List.setIfInBounds_toArray, List.set_cons_zero, List.set_cons_succ]
    refine wpAnyH_done (by kernel_rfl) ?_ _
    refine NoPanic.normal ?_
    go_wp2
    go_ret
    exact ⟨by rw [HR.out]; rfl, HB1.out.drew⟩
  | some g =>
    have LK : Hid (∀ u, Below w1.heap.size w1 u → (Instr.lookup 137 (.map (some m)) (kv k) true).run Tryz.prog u = .ok (.tuple #[.pointer (some ⟨g, 0, none⟩), .bool true]) u) := by rw [hgk] at LK; exact LK
    have hch := hi.file k g hk hgk
    have CL : Hid (∀ u, Below w.heap.size w u → Calls Tryz.prog 118 #[.pointer (some ⟨g, 0, none⟩)] u fun e w' => e = .returned (.int .i64 (N : Nat)) ∧ Below u.heap.size u w') := fun u hb => by rw [hN]; exact clen_any g (oneV L k) (Y k) u (hch.past hb)
    have HR : Hid (decide ((50 : Int) ≤ (N : Int)) = decide (50 ≤ N)) := by
      show _ = _
      by_cases e : 50 ≤ N
      · rw [decide_eq_true e, decide_eq_true (show (50 : Int) ≤ (N : Int) by omega)]
      · rw [decide_eq_false e, decide_eq_false (show ¬ (50 : Int) ≤ (N : Int) by omega)]
    clear hN hgk hi hne hg hw1 hk hmine hC hW hs hkk hch
    go_enter Tryz.func136, Tryz.ntmps136
    go_wp2
    rw [HW1.out]
    refine wp_region_noPanic ?_
    refine wp_region_held_drew (S := fun u => Below w1.heap.size w1 u) (by kernel_rfl) ?_ (fun hHeld => ?_)
    · exact (Below.refl _ _).drew
    refine wpAnyH_take (i := 0) (v := ?_) rfl (by kernel_rfl) (by kernel_rfl) (by kernel_rfl) (fun _ _ _ h => h) (Or.inl ⟨by rfl, ?_⟩) hHeld ?_
    rotate_left
    · intro u hSu
      have q0 := FPS.out u hSu
      (go_simp) <;> (with_reducible rfl)
    change wpAnyH _ _ _ _ _ _ _ (Act.put _ (some 7) _) _
    simp only [Act.put, List.setIfInBounds_toArray, List.set_cons_zero, List.set_cons_succ]
    refine wpAnyH_take (i := 1) (v := ?_) rfl (by kernel_rfl) (by kernel_rfl) (by kernel_rfl) (fun _ _ _ h => h) (Or.inl ⟨by rfl, ?_⟩) hHeld ?_
    rotate_left
    · intro u hSu
      (go_simp) <;> (with_reducible rfl)
    change wpAnyH _ _ _ _ _ _ _ (Act.put _ (some 8) _) _
    simp only [Act.put, List.setIfInBounds_toArray, List.set_cons_zero, List.set_cons_succ]
    refine wpAnyH_take (i := 2) (v := ?_) rfl (by kernel_rfl) (by kernel_rfl) (by kernel_rfl) (fun _ _ _ h => h) (Or.inl ⟨by rfl, ?_⟩) hHeld ?_
    rotate_left
    · intro u hSu
      (go_simp) <;> (with_reducible rfl)
    change wpAnyH _ _ _ _ _ _ _ (Act.put _ (some 9) _) _
    simp only [Act.put, List.setIfInBounds_toArray, List.set_cons_zero, List.set_cons_succ]
    refine wpAnyH_take (i := 3) (v := ?_) rfl (by kernel_rfl) (by kernel_rfl) (by kernel_rfl) (fun _ _ _ h => h) (Or.inl ⟨by rfl, ?_⟩) hHeld ?_
    rotate_left
    · intro u hSu
      have q0 := FC.out u hSu
      (go_simp) <;> (with_reducible rfl)
    change wpAnyH _ _ _ _ _ _ _ (Act.put _ (some 10) _) _
    simp only [Act.put, List.setIfInBounds_toArray, List.set_cons_zero, List.set_cons_succ]
    refine wpAnyH_take (i := 4) (v := ?_) rfl (by kernel_rfl) (by kernel_rfl) (by kernel_rfl) (fun _ _ _ h => h) (Or.inl ⟨by rfl, ?_⟩) hHeld ?_
    rotate_left
    · intro u hSu
      (go_simp) <;> (with_reducible rfl)
    change wpAnyH _ _ _ _ _ _ _ (Act.put _ (some 11) _) _
    simp only [Act.put, List.setIfInBounds_toArray, List.set_cons_zero, List.set_cons_succ]
    refine wpAnyH_take (i := 5) (v := kv k) rfl (by kernel_rfl) (by kernel_rfl) (by kernel_rfl) (fun _ _ _ h => h) (yieldsIf_load_mid (by rfl) _ _ rfl _ _ rfl (k.map (Value.int .u8)) _ (fun u hu => (FK.out u hu).range KY.out) Tryz.underlying38 rfl (info_keyl k KY.out)) hHeld ?_
    change wpAnyH _ _ _ _ _ _ _ (Act.put _ (some 12) _) _
    simp only [Act.put, List.setIfInBounds_toArray, List.set_cons_zero, List.set_cons_succ]
    refine wpAnyH_take (i := 6) (v := ?_) rfl (by kernel_rfl) (by kernel_rfl) (by kernel_rfl) (fun _ _ _ h => h) (Or.inl ⟨by rfl, ?_⟩) hHeld ?_
    rotate_left
    · intro u hSu
      have q1 := LK.out u hSu
      (go_simp) <;> (with_reducible rfl)
    change wpAnyH _ _ _ _ _ _ _ (Act.put _ (some 13) _) _
    simp only [Act.put, List.setIfInBounds_toArray, List.set_cons_zero, List.set_cons_succ]
    refine wpAnyH_take (i := 7) (v := ?_) rfl (by kernel_rfl) (by kernel_rfl) (by kernel_rfl) (fun _ _ _ h => h) (Or.inl ⟨by rfl, ?_⟩) hHeld ?_
    rotate_left
    · intro u hSu
      (go_simp) <;> (with_reducible rfl)
    change wpAnyH _ _ _ _ _ _ _ (Act.put _ (some 6) _) _
    simp only [Act.put, List.setIfInBounds_toArray, List.set_cons_zero, List.set_cons_succ]
    refine wpAnyH_take (i := 8) (v := ?_) rfl (by kernel_rfl) (by kernel_rfl) (by kernel_rfl) (fun _ _ _ h => h) (Or.inl ⟨by rfl, ?_⟩) hHeld ?_
    rotate_left
    · intro u hSu
      (go_simp) <;> (with_reducible rfl)
    change wpAnyH _ _ _ _ _ _ _ (Act.put _ (some 14) _) _
    simp only [Act.put, List.setIfInBounds_toArray, List.set_cons_zero, List.set_cons_succ]
    refine wpAnyH_take (i := 9) (v := ?_) rfl (by kernel_rfl) (by kernel_rfl) (by kernel_rfl) (fun _ _ _ h => h) (Or.inl ⟨by rfl, ?_⟩) hHeld ?_
    rotate_left
    · intro u hSu
      (go_simp) <;> (with_reducible rfl)
    change wpAnyH _ _ _ _ _ _ _ (Act.put _ (some 15) _) _
    simp only [Act.put, List.setIfInBounds_toArray, List.set_cons_zero, List.set_cons_succ]
    refine wpAnyH_take (i := 10) (v := ?_) rfl (by kernel_rfl) (by kernel_rfl) (by kernel_rfl) (fun _ _ _ h => h) (Or.inl ⟨by rfl, ?_⟩) hHeld ?_
    rotate_left
    · intro u hSu
      (go_simp) <;> (with_reducible rfl)
    change wpAnyH _ _ _ _ _ _ _ (Act.put _ (some 4) _) _
    simp only [Act.put, List.setIfInBounds_toArray, List.set_cons_zero, List.set_cons_succ]
    refine wpAnyH_take (i := 11) (v := ?_) rfl (by kernel_rfl) (by kernel_rfl) (by kernel_rfl) (fun _ _ _ h => h) (Or.inl ⟨by rfl, ?_⟩) hHeld ?_
    rotate_left
    · intro u hSu
      (go_simp) <;> (with_reducible rfl)
    change wpAnyH _ _ _ _ _ _ _ (Act.put _ (some 5) _) _
    simp only [Act.put, List.setIfInBounds_toArray, List.set_cons_zero, List.set_cons_succ]
    refine wpAnyH_done (by kernel_rfl) ?_ _
    refine NoPanic.normal ?_
    go_wp2_with (go_at_call 118; refine (CL.out _ HB1.out.drew).mono ?_; rintro e w2 ⟨rfl, hb2⟩; have HB2 : Hid (Below w.heap.size w w2) := HB1.out.drew.trans (hb2.mono HB1.out.size); clear hb2)
    go_ret
    exact ⟨by rw [← HR.out]; rfl, HB2.out⟩
/-- What the rounds of IndexFunc hold. -/
structure IdxRw (w u : World) (P : Wrt → Bool) (l : List Wrt) (n : Nat) : Prop where
  below : Below w.heap.size w u
  none : ∀ W ∈ l.take n, P W = false
set_option maxHeartbeats 2000000 in
theorem sindexw_any (a : Option Addr) (N cap : Nat) (l : List Wrt) (P : Wrt → Bool) (bs bt : Nat) (w : World) (hl : l.length = N) (hc : N ≤ cap) (hN : N ≤ 1000000) (hat : WrtsAt w a l)
    (hcc : ∀ W ∈ l, ∀ u, Below w.heap.size w u → Calls Tryz.prog 135 #[wv W, .pointer (some ⟨bs, 0, none⟩), .pointer (some ⟨bt, 0, none⟩)] u fun e w' => e = .returned (.bool (P W)) ∧ Below u.heap.size u w') :
    Calls Tryz.prog 124 #[.slice a N cap, .func (.func 135) #[] #[.pointer (some ⟨bs, 0, none⟩), .pointer (some ⟨bt, 0, none⟩)]] w fun e w' => (∃ i : Int, e = .returned (.int .i64 i) ∧ -1 ≤ i ∧ i ≤ 1000000 ∧ (0 ≤ i ↔ l.any P = true)) ∧ Below w.heap.size w w' := by
  have HL : Hid (l.length = N) := hl
  have HA : Hid (WrtsAt w a l) := hat
  have HC : Hid (∀ W ∈ l, ∀ u, Below w.heap.size w u → Calls Tryz.prog 135 #[wv W, .pointer (some ⟨bs, 0, none⟩), .pointer (some ⟨bt, 0, none⟩)] u fun e w' => e = .returned (.bool (P W)) ∧ Below u.heap.size u w') := hcc
  clear hl hat hcc
  go_enter Tryz.func124, Tryz.ntmps124
  go_wp2
  go_loopw [8] (fun i wr => ∃ n : Nat, n ≤ N ∧ i = .int .i64 n ∧ Hid (IdxRw w wr P l n)) (fun i _ => N - (intOf i).toNat)
  case atStart => exact ⟨0, Nat.zero_le _, rfl, ⟨Below.refl _ _, fun W hW => by simp at hW⟩⟩
  case round =>
    obtain ⟨n, hn, rfl, HS⟩ := hrel
    have hn0 : (0 : Int) ≤ (n : Int) := by omega
    by_cases hlt : n < N
    · have h1 : (n : Int) < (N : Int) := by omega
      obtain ⟨W, hW⟩ : ∃ W, l[n]? = some W := ⟨_, List.getElem?_eq_getElem (by rw [HL.out]; exact hlt)⟩
      obtain ⟨b, o, rfl, hwa, hwo⟩ := (HA.out.past (w' := wr) HS.out.below).wrt hW
      have HWA : Hid (WrtAt wr b (o + n * 18) W) := hwa
      have HT : Hid (l.take (n + 1) = l.take n ++ [W]) := by show _ = _; rw [List.take_add_one, hW]; rfl
      have HWM : Hid (W ∈ l) := List.mem_of_getElem? hW
      have KW : Hid (Ky W.k) := hwo.key
      have CG0 := HC.out W HWM.out wr HS.out.below
      obtain ⟨pw, hpw⟩ : ∃ x, x = P W := ⟨_, rfl⟩
      have HPW : Hid (pw = P W) := hpw
      rw [← hpw] at CG0
      have CG : Hid (Calls Tryz.prog 135 #[wv W, .pointer (some ⟨bs, 0, none⟩), .pointer (some ⟨bt, 0, none⟩)] wr fun e w' => e = .returned (.bool pw) ∧ Below wr.heap.size wr w') := CG0
      clear hwa hwo hW CG0 hpw
      cases pw with
      | true =>
        go_wp2_with (first | (have hgo := HWA.out; clear hgo; refine wpList_load_wrt 15 (by rfl) (by rfl) _ (by rfl) b (o + n * 18) (by rfl) W KW.out HWA.out ?_) | (go_at_call 135; refine CG.out.mono ?_; rintro e w3 ⟨rfl, hb3⟩; have H3 : Hid (Below w.heap.size w w3) := HS.out.below.trans (hb3.mono HS.out.below.size); clear hb3))
        go_ret
        refine ⟨⟨(n : Int), rfl, by omega, by omega, ?_⟩, H3.out⟩
        exact ⟨fun _ => List.any_eq_true.2 ⟨W, HWM.out, HPW.out.symm⟩, fun _ => hn0⟩
      | false =>
        go_wp2_with (first | (have hgo := HWA.out; clear hgo; refine wpList_load_wrt 15 (by rfl) (by rfl) _ (by rfl) b (o + n * 18) (by rfl) W KW.out HWA.out ?_) | (go_at_call 135; refine CG.out.mono ?_; rintro e w3 ⟨rfl, hb3⟩; have H3 : Hid (IdxRw w w3 P l (n + 1)) := ⟨HS.out.below.trans (hb3.mono HS.out.below.size), fun V hV => by rw [HT.out] at hV; rcases List.mem_append.1 hV with e | e; exact HS.out.none V e; simp at e; rw [e]; exact HPW.out.symm⟩; clear hb3))
        go_roundw
        case rel => exact ⟨n + 1, by omega, by go_num, H3⟩
        case measure => simp [intOf]; omega
    · obtain rfl : n = N := by omega
      have HT : Hid (l.take n = l) := List.take_of_length_le (by rw [HL.out]; exact Nat.le_refl _)
      go_wp2
      go_ret
      refine ⟨⟨-1, rfl, by omega, by omega, fun e => by omega, fun e => ?_⟩, HS.out.below⟩
      obtain ⟨W, hW, e2⟩ := List.any_eq_true.1 e
      rw [HS.out.none W (by rw [HT.out]; exact hW)] at e2
      cases e2
theorem scontw_any (a : Option Addr) (N cap : Nat) (l : List Wrt) (P : Wrt → Bool) (bs bt : Nat) (w : World) (hl : l.length = N) (hc : N ≤ cap) (hN : N ≤ 1000000) (hat : WrtsAt w a l)
    (hcc : ∀ W ∈ l, ∀ u, Below w.heap.size w u → Calls Tryz.prog 135 #[wv W, .pointer (some ⟨bs, 0, none⟩), .pointer (some ⟨bt, 0, none⟩)] u fun e w' => e = .returned (.bool (P W)) ∧ Below u.heap.size u w') :
    Calls Tryz.prog 83 #[.slice a N cap, .func (.func 135) #[] #[.pointer (some ⟨bs, 0, none⟩), .pointer (some ⟨bt, 0, none⟩)]] w fun e w' => e = .returned (.bool (l.any P)) ∧ Below w.heap.size w w' := by
  have CI : Hid (Calls Tryz.prog 124 #[.slice a N cap, .func (.func 135) #[] #[.pointer (some ⟨bs, 0, none⟩), .pointer (some ⟨bt, 0, none⟩)]] w fun e w' => (∃ i : Int, e = .returned (.int .i64 i) ∧ -1 ≤ i ∧ i ≤ 1000000 ∧ (0 ≤ i ↔ l.any P = true)) ∧ Below w.heap.size w w') := sindexw_any a N cap l P bs bt w hl hc hN hat hcc
  obtain ⟨R, hR⟩ : ∃ R, R = l.any P := ⟨_, rfl⟩
  rw [← hR] at CI ⊢
  clear hl hat hcc hR
  go_enter Tryz.func83, Tryz.ntmps83
  go_wp2_with (go_at_call 124; refine CI.out.mono ?_; rintro e w1 ⟨⟨i, rfl, hi1, hi2, hi3⟩, hb1⟩; have HI : Hid (0 ≤ i ↔ R = true) := hi3; have HB : Hid (Below w.heap.size w w1) := hb1; clear hi3 hb1)
  go_ret
  refine ⟨?_, HB.out⟩
  by_cases h : 0 ≤ i
  · rw [HI.out.1 h]; simp [h]
  · have : R = false := by
      cases hR : R with
      | false => rfl
      | true => exact absurd (HI.out.2 hR) h
    rw [this]; simp [h]
/-- What the rounds of IndexFunc hold. -/
structure IdxRf (w u : World) (P : Wrt → Bool) (l : List Wrt) (n : Nat) : Prop where
  below : Below w.heap.size w u
  none : ∀ W ∈ l.take n, P W = false
set_option maxHeartbeats 2000000 in
theorem sindexf_any (a : Option Addr) (N cap : Nat) (l : List Wrt) (P : Wrt → Bool) (bs : Nat) (w : World) (hl : l.length = N) (hc : N ≤ cap) (hN : N ≤ 1000000) (hat : WrtsAt w a l)
    (hcc : ∀ W ∈ l, ∀ u, Below w.heap.size w u → Calls Tryz.prog 136 #[wv W, .pointer (some ⟨bs, 0, none⟩)] u fun e w' => e = .returned (.bool (P W)) ∧ Below u.heap.size u w') :
    Calls Tryz.prog 124 #[.slice a N cap, .func (.func 136) #[] #[.pointer (some ⟨bs, 0, none⟩)]] w fun e w' => (∃ i : Int, e = .returned (.int .i64 i) ∧ -1 ≤ i ∧ i ≤ 1000000 ∧ (0 ≤ i ↔ l.any P = true)) ∧ Below w.heap.size w w' := by
  have HL : Hid (l.length = N) := hl
  have HA : Hid (WrtsAt w a l) := hat
  have HC : Hid (∀ W ∈ l, ∀ u, Below w.heap.size w u → Calls Tryz.prog 136 #[wv W, .pointer (some ⟨bs, 0, none⟩)] u fun e w' => e = .returned (.bool (P W)) ∧ Below u.heap.size u w') := hcc
  clear hl hat hcc
  go_enter Tryz.func124, Tryz.ntmps124
  go_wp2
  go_loopw [8] (fun i wr => ∃ n : Nat, n ≤ N ∧ i = .int .i64 n ∧ Hid (IdxRf w wr P l n)) (fun i _ => N - (intOf i).toNat)
  case atStart => exact ⟨0, Nat.zero_le _, rfl, ⟨Below.refl _ _, fun W hW => by simp at hW⟩⟩
  case round =>
    obtain ⟨n, hn, rfl, HS⟩ := hrel
    have hn0 : (0 : Int) ≤ (n : Int) := by omega
    by_cases hlt : n < N
    · have h1 : (n : Int) < (N : Int) := by omega
      obtain ⟨W, hW⟩ : ∃ W, l[n]? = some W := ⟨_, List.getElem?_eq_getElem (by rw [HL.out]; exact hlt)⟩
      obtain ⟨b, o, rfl, hwa, hwo⟩ := (HA.out.past (w' := wr) HS.out.below).wrt hW
      have HWA : Hid (WrtAt wr b (o + n * 18) W) := hwa
      have HT : Hid (l.take (n + 1) = l.take n ++ [W]) := by show _ = _; rw [List.take_add_one, hW]; rfl
      have HWM : Hid (W ∈ l) := List.mem_of_getElem? hW
      have KW : Hid (Ky W.k) := hwo.key
      have CG0 := HC.out W HWM.out wr HS.out.below
      obtain ⟨pw, hpw⟩ : ∃ x, x = P W := ⟨_, rfl⟩
      have HPW : Hid (pw = P W) := hpw
      rw [← hpw] at CG0
      have CG : Hid (Calls Tryz.prog 136 #[wv W, .pointer (some ⟨bs, 0, none⟩)] wr fun e w' => e = .returned (.bool pw) ∧ Below wr.heap.size wr w') := CG0
      clear hwa hwo hW CG0 hpw
      cases pw with
      | true =>
        go_wp2_with (first | (have hgo := HWA.out; clear hgo; refine wpList_load_wrt 15 (by rfl) (by rfl) _ (by rfl) b (o + n * 18) (by rfl) W KW.out HWA.out ?_) | (go_at_call 136; refine CG.out.mono ?_; rintro e w3 ⟨rfl, hb3⟩; have H3 : Hid (Below w.heap.size w w3) := HS.out.below.trans (hb3.mono HS.out.below.size); clear hb3))
        go_ret
        refine ⟨⟨(n : Int), rfl, by omega, by omega, ?_⟩, H3.out⟩
        exact ⟨fun _ => List.any_eq_true.2 ⟨W, HWM.out, HPW.out.symm⟩, fun _ => hn0⟩
      | false =>
        go_wp2_with (first | (have hgo := HWA.out; clear hgo; refine wpList_load_wrt 15 (by rfl) (by rfl) _ (by rfl) b (o + n * 18) (by rfl) W KW.out HWA.out ?_) | (go_at_call 136; refine CG.out.mono ?_; rintro e w3 ⟨rfl, hb3⟩; have H3 : Hid (IdxRf w w3 P l (n + 1)) := ⟨HS.out.below.trans (hb3.mono HS.out.below.size), fun V hV => by rw [HT.out] at hV; rcases List.mem_append.1 hV with e | e; exact HS.out.none V e; simp at e; rw [e]; exact HPW.out.symm⟩; clear hb3))
        go_roundw
        case rel => exact ⟨n + 1, by omega, by go_num, H3⟩
        case measure => simp [intOf]; omega
    · obtain rfl : n = N := by omega
      have HT : Hid (l.take n = l) := List.take_of_length_le (by rw [HL.out]; exact Nat.le_refl _)
      go_wp2
      go_ret
      refine ⟨⟨-1, rfl, by omega, by omega, fun e => by omega, fun e => ?_⟩, HS.out.below⟩
      obtain ⟨W, hW, e2⟩ := List.any_eq_true.1 e
      rw [HS.out.none W (by rw [HT.out]; exact hW)] at e2
      cases e2
theorem scontf_any (a : Option Addr) (N cap : Nat) (l : List Wrt) (P : Wrt → Bool) (bs : Nat) (w : World) (hl : l.length = N) (hc : N ≤ cap) (hN : N ≤ 1000000) (hat : WrtsAt w a l)
    (hcc : ∀ W ∈ l, ∀ u, Below w.heap.size w u → Calls Tryz.prog 136 #[wv W, .pointer (some ⟨bs, 0, none⟩)] u fun e w' => e = .returned (.bool (P W)) ∧ Below u.heap.size u w') :
    Calls Tryz.prog 83 #[.slice a N cap, .func (.func 136) #[] #[.pointer (some ⟨bs, 0, none⟩)]] w fun e w' => e = .returned (.bool (l.any P)) ∧ Below w.heap.size w w' := by
  have CI : Hid (Calls Tryz.prog 124 #[.slice a N cap, .func (.func 136) #[] #[.pointer (some ⟨bs, 0, none⟩)]] w fun e w' => (∃ i : Int, e = .returned (.int .i64 i) ∧ -1 ≤ i ∧ i ≤ 1000000 ∧ (0 ≤ i ↔ l.any P = true)) ∧ Below w.heap.size w w') := sindexf_any a N cap l P bs w hl hc hN hat hcc
  obtain ⟨R, hR⟩ : ∃ R, R = l.any P := ⟨_, rfl⟩
  rw [← hR] at CI ⊢
  clear hl hat hcc hR
  go_enter Tryz.func83, Tryz.ntmps83
  go_wp2_with (go_at_call 124; refine CI.out.mono ?_; rintro e w1 ⟨⟨i, rfl, hi1, hi2, hi3⟩, hb1⟩; have HI : Hid (0 ≤ i ↔ R = true) := hi3; have HB : Hid (Below w.heap.size w w1) := hb1; clear hi3 hb1)
  go_ret
  refine ⟨?_, HB.out⟩
  by_cases h : 0 ≤ i
  · rw [HI.out.1 h]; simp [h]
  · have : R = false := by
      cases hR : R with
      | false => rfl
      | true => exact absurd (HI.out.2 hR) h
    rw [this]; simp [h]
/-- A store's pointer, and a stamp, in variables of the call's own. -/
theorem box_cell (w : World) (v : Value) (T : TypeId) : (w.alloc (.cells #[v] T)).cell? ⟨w.heap.size, 0, none⟩ = some v := by rw [World.cell?_alloc_new]; rfl
theorem swritten_any (p : Nat) (L : List Ver) (X : Foot) (t n : Int) (a : Option Addr) (N cap : Nat) (l : List Wrt) (w : World) (h : StD w p L X) (hl : l.length = N) (hc : N ≤ cap) (hN : N ≤ 1000000) (hat : WrtsAt w a l) :
    Calls Tryz.prog 96 #[.pointer (some ⟨p, 0, none⟩), .agg #[.int .i64 t, .int .u8 n], .slice a N cap] w fun e w' => e = .returned (.bool (anyWr L t n l)) ∧ Below w.heap.size w w' := by
  obtain ⟨w1, hw1⟩ : ∃ u, u = (w.alloc (.cells #[.pointer (some ⟨p, 0, none⟩)] 76)).alloc (.cells #[.int .i64 t, .int .u8 n] 28) := ⟨_, rfl⟩
  have HB : Hid (Below w.heap.size w w1) := by rw [hw1]; exact ((Below.refl _ _).alloc (Nat.le_refl _) _).alloc (by simp) _
  have k0 : w1.cell? ⟨w.heap.size, 0, none⟩ = some (.pointer (some ⟨p, 0, none⟩)) := by
    rw [hw1, ((Below.refl _ _).alloc (Nat.le_refl _) _).cell (p := ⟨w.heap.size, 0, none⟩) (by simp)]; exact box_cell w _ _
  have kt : ∀ o, w1.cell? ⟨w.heap.size + 1, o, none⟩ = (#[.int .i64 t, .int .u8 n] : Array Value)[o]? := fun o => by
    have := World.cell?_alloc_new (w.alloc (.cells #[.pointer (some ⟨p, 0, none⟩)] 76)) #[.int .i64 t, .int .u8 n] 28 o
    rw [World.size_alloc] at this
    rw [hw1, this]
  have hs1 : w1.heap.size = w.heap.size + 2 := by rw [hw1]; simp
  have CC : Hid (Calls Tryz.prog 83 #[.slice a N cap, .func (.func 135) #[] #[.pointer (some ⟨w.heap.size, 0, none⟩), .pointer (some ⟨w.heap.size + 1, 0, none⟩)]] w1 fun e w' => e = .returned (.bool (anyWr L t n l)) ∧ Below w1.heap.size w1 w') := by
    refine scontw_any a N cap l (fun W => clashV L (verW t n W)) w.heap.size (w.heap.size + 1) w1 hl hc hN (hat.past HB.out) (fun W hW u hb => ?_)
    exact sclw_any p L X W (hat.oks W hW) t n _ _ u ((h.past HB.out).past hb) ((hb.cell (p := ⟨w.heap.size, 0, none⟩) (by show w.heap.size < _; omega)).trans k0) ((hb.cell (p := ⟨w.heap.size + 1, 0, none⟩) (by show w.heap.size + 1 < _; omega)).trans (kt 0)) ((hb.cell (p := ⟨w.heap.size + 1, 1, none⟩) (by show w.heap.size + 1 < _; omega)).trans (kt 1))
  generalize anyWr L t n l = R at *
  rw [hw1] at CC HB
  clear h hat hl k0 kt hs1 hw1
  go_enter Tryz.func96, Tryz.ntmps96
  go_wp2_with (go_at_call 83; refine CC.out.mono ?_; rintro e w2 ⟨rfl, hb2⟩; have HB2 : Hid (Below w.heap.size w w2) := HB.out.trans (hb2.mono HB.out.size); clear hb2)
  go_ret
  exact ⟨rfl, HB2.out⟩
theorem sfull_any (p : Nat) (L : List Ver) (X : Foot) (a : Option Addr) (N cap : Nat) (l : List Wrt) (w : World) (h : StD w p L X) (hl : l.length = N) (hc : N ≤ cap) (hN : N ≤ 1000000) (hat : WrtsAt w a l) :
    Calls Tryz.prog 97 #[.pointer (some ⟨p, 0, none⟩), .slice a N cap] w fun e w' => e = .returned (.bool (anyFu L l)) ∧ Below w.heap.size w w' := by
  have HB : Hid (Below w.heap.size w (w.alloc (.cells #[.pointer (some ⟨p, 0, none⟩)] 76))) := (Below.refl _ _).alloc (Nat.le_refl _) _
  have k0 := box_cell w (.pointer (some ⟨p, 0, none⟩)) 76
  have CC : Hid (Calls Tryz.prog 83 #[.slice a N cap, .func (.func 136) #[] #[.pointer (some ⟨w.heap.size, 0, none⟩)]] (w.alloc (.cells #[.pointer (some ⟨p, 0, none⟩)] 76)) fun e w' => e = .returned (.bool (anyFu L l)) ∧ Below (w.alloc (.cells #[.pointer (some ⟨p, 0, none⟩)] 76)).heap.size (w.alloc (.cells #[.pointer (some ⟨p, 0, none⟩)] 76)) w') := by
    refine scontf_any a N cap l (fun W => decide (50 ≤ kMany L W.k)) w.heap.size _ hl hc hN (hat.past HB.out) (fun W hW u hb => ?_)
    exact sclf_any p L X W (hat.oks W hW) _ u ((h.past HB.out).past hb) ((hb.cell (p := ⟨w.heap.size, 0, none⟩) (by simp)).trans k0)
  generalize anyFu L l = R at *
  clear h hat hl k0
  go_enter Tryz.func97, Tryz.ntmps97
  go_wp2_with (go_at_call 83; refine CC.out.mono ?_; rintro e w2 ⟨rfl, hb2⟩; have HB2 : Hid (Below w.heap.size w w2) := HB.out.trans (hb2.mono HB.out.size); clear hb2)
  go_ret
  exact ⟨rfl, HB2.out⟩
theorem new_snoc (L : List Ver) (l : List Wrt) (W : Wrt) : newW L (l ++ [W]) = newW L l + (if W.k ∈ keysV L then 0 else 1) := by
  unfold newW
  rw [List.filter_append, List.length_append]
  by_cases h : W.k ∈ keysV L
  · simp [h]
  · simp [h]
theorem new_le (L : List Ver) (l : List Wrt) : newW L l ≤ l.length := List.length_filter_le _ _
set_option maxHeartbeats 4000000 in
set_option maxRecDepth 4000 in
theorem scount_any (p : Nat) (L : List Ver) (X : Foot) (a : Option Addr) (N cap : Nat) (l : List Wrt) (w : World) (h : StD w p L X) (hl : l.length = N) (hc : N ≤ cap) (hN : N ≤ 1000000) (hat : WrtsAt w a l) :
    Calls Tryz.prog 98 #[.pointer (some ⟨p, 0, none⟩), .slice a N cap] w fun e w' => e = .returned (.int .i64 (newW L l : Nat)) ∧ Below w.heap.size w w' := by
  obtain ⟨hg, m, G, Y, hi, hne⟩ := h
  have HKL : Hid (KeyL G (keysV L)) := sti_keys hg.sto.ord hg.kys hi hne
  have HST : Hid (StI w p (oneV L) X m G Y) := hi
  have HL : Hid (l.length = N) := hl
  have HA : Hid (WrtsAt w a l) := hat
  have FC : Hid (∀ u, Below w.heap.size w u → u.cell? ⟨p, 0, none⟩ = some (.map (some m))) := fun u hb => (hi.past hb).c0
  clear hi hne hg hl hat
  go_enter Tryz.func98, Tryz.ntmps98
  go_wp2
  go_loopw [5, 12] (fun cv i wr => ∃ n c : Nat, n ≤ N ∧ i = .int .i64 n ∧ cv = .int .i64 c ∧ c ≤ n ∧ Hid (c = newW L (l.take n)) ∧ Hid (Below w.heap.size w wr)) (fun _ i _ => N - (intOf i).toNat)
  case atStart => exact ⟨0, 0, Nat.zero_le _, rfl, rfl, Nat.le_refl _, rfl, Below.refl _ _⟩
  case round =>
    obtain ⟨n, c, hn, rfl, rfl, hcn, HC, HB⟩ := hrel
    have hn0 : (0 : Int) ≤ (n : Int) := by omega
    by_cases hlt : n < N
    · have h1 : (n : Int) < (N : Int) := by omega
      obtain ⟨W, hW⟩ : ∃ W, l[n]? = some W := ⟨_, List.getElem?_eq_getElem (by rw [HL.out]; exact hlt)⟩
      obtain ⟨b, o, rfl, hwa, hwo⟩ := (HA.out.past (w' := wr) HB.out).wrt hW
      have HWA : Hid (WrtAt wr b (o + n * 18) W) := hwa
      have HT : Hid (l.take (n + 1) = l.take n ++ [W]) := by show _ = _; rw [List.take_add_one, hW]; rfl
      have KW : Hid (Ky W.k) := hwo.key
      have hmine := WrtMine.made wr 80 zeroW zeroW_ky
      obtain ⟨hk1, hb1, hz1⟩ := laid_wrt wr 80 (W := W) hwo.key
      rw [zeroW_cells] at hmine hk1 hb1 hz1
      have HMI : Hid _ := hmine
      have HK1 : Hid _ := hk1
      have HB1 : Hid _ := hb1
      clear hmine hk1 hb1 hz1 hwa hwo hW
      obtain ⟨k, hk⟩ : ∃ k, k = W.k := ⟨_, rfl⟩
      have KY : Hid (Ky k) := by rw [hk]; exact KW.out
      have HKK : Hid (W.k = k) := hk.symm
      have HIN := HKL.out.iff k KY.out
      clear hk
      cases hgk : G k with
      | none =>
        have hnot : k ∉ keysV L := fun e => by rw [← HIN, hgk] at e; cases e
        have HC2 : Hid (c + 1 = newW L (l.take (n + 1))) := by show _ = _; rw [HT.out, new_snoc, HKK.out, if_neg hnot, ← HC.out]
        go_wp2_with (first | (have hgo := HWA.out; clear hgo; refine wpList_load_wrt 15 (by rfl) (by rfl) _ (by rfl) b (o + n * 18) (by rfl) W KW.out HWA.out ?_) | (have hgo := HMI.out; clear hgo; refine wpList_store_wrt (.tmp 7) (by rfl) _ (by rfl) wr.heap.size 0 zeroW W (by rfl) (by rfl) KW.out HMI.out ?_; intro u2 hu; rw [← hu] at HK1 HB1; clear hu HMI HWA))
        have HB2 : Hid (Below w.heap.size w u2) := HB.out.trans (HB1.out.mono HB.out.size)
        have FK : Hid (∀ u, Below u2.heap.size u2 u → KeyAt u wr.heap.size 0 k) := fun u hb => by rw [← HKK.out]; exact (HK1.out.past hb).at_.key KW.out
        have LK : Hid (∀ u, Below u2.heap.size u2 u → (Instr.lookup 137 (.map (some m)) (kv k) true).run Tryz.prog u = .ok (.tuple #[.pointer none, .bool false]) u) := fun u hb => by
          have := (HST.out.past (HB2.out.trans (hb.mono HB2.out.size))).look KY.out
          rw [hgk] at this
          exact this
        have FC2 : Hid (∀ u, Below u2.heap.size u2 u → u.cell? ⟨p, 0, none⟩ = some (.map (some m))) := fun u hb => FC.out u (HB2.out.trans (hb.mono HB2.out.size))
        clear hgk hnot HIN
        refine wp_region_noPanic ?_
        refine wp_region_held_drew (S := fun u => Below u2.heap.size u2 u) (by kernel_rfl) ?_ (fun hHeld => ?_)
        · exact (Below.refl _ _).drew
        refine wpAnyH_take (i := 0) (v := ?_) rfl (by kernel_rfl) (by kernel_rfl) (by kernel_rfl) (fun _ _ _ h => h) (Or.inl ⟨by rfl, ?_⟩) hHeld ?_
        rotate_left
        · intro u hSu
          (go_simp) <;> (with_reducible rfl)
        change wpAnyH _ _ _ _ _ _ _ (Act.put _ (some 17) _) _
        simp only [Act.put, List.setIfInBounds_toArray, List.set_cons_zero, List.set_cons_succ]
        refine wpAnyH_take (i := 1) (v := ?_) rfl (by kernel_rfl) (by kernel_rfl) (by kernel_rfl) (fun _ _ _ h => h) (Or.inl ⟨by rfl, ?_⟩) hHeld ?_
        rotate_left
        · intro u hSu
          (go_simp) <;> (with_reducible rfl)
        change wpAnyH _ _ _ _ _ _ _ (Act.put _ (some 18) _) _
        simp only [Act.put, List.setIfInBounds_toArray, List.set_cons_zero, List.set_cons_succ]
        refine wpAnyH_take (i := 2) (v := ?_) rfl (by kernel_rfl) (by kernel_rfl) (by kernel_rfl) (fun _ _ _ h => h) (Or.inl ⟨by rfl, ?_⟩) hHeld ?_
        rotate_left
        · intro u hSu
          (go_simp) <;> (with_reducible rfl)
        change wpAnyH _ _ _ _ _ _ _ (Act.put _ (some 19) _) _
        simp only [Act.put, List.setIfInBounds_toArray, List.set_cons_zero, List.set_cons_succ]
        refine wpAnyH_take (i := 3) (v := ?_) rfl (by kernel_rfl) (by kernel_rfl) (by kernel_rfl) (fun _ _ _ h => h) (Or.inl ⟨by rfl, ?_⟩) hHeld ?_
        rotate_left
        · intro u hSu
          have q0 := FC2.out u hSu
          (go_simp) <;> (with_reducible rfl)
        change wpAnyH _ _ _ _ _ _ _ (Act.put _ (some 20) _) _
        simp only [Act.put, List.setIfInBounds_toArray, List.set_cons_zero, List.set_cons_succ]
        refine wpAnyH_take (i := 4) (v := ?_) rfl (by kernel_rfl) (by kernel_rfl) (by kernel_rfl) (fun _ _ _ h => h) (Or.inl ⟨by rfl, ?_⟩) hHeld ?_
        rotate_left
        · intro u hSu
          (go_simp) <;> (with_reducible rfl)
        change wpAnyH _ _ _ _ _ _ _ (Act.put _ (some 21) _) _
        simp only [Act.put, List.setIfInBounds_toArray, List.set_cons_zero, List.set_cons_succ]
        refine wpAnyH_take (i := 5) (v := kv k) rfl (by kernel_rfl) (by kernel_rfl) (by kernel_rfl) (fun _ _ _ h => h) (yieldsIf_load_mid (by rfl) _ _ rfl _ _ rfl (k.map (Value.int .u8)) _ (fun u hu => (FK.out u hu).range KY.out) Tryz.underlying38 rfl (info_keyl k KY.out)) hHeld ?_
        change wpAnyH _ _ _ _ _ _ _ (Act.put _ (some 22) _) _
        simp only [Act.put, List.setIfInBounds_toArray, List.set_cons_zero, List.set_cons_succ]
        refine wpAnyH_take (i := 6) (v := ?_) rfl (by kernel_rfl) (by kernel_rfl) (by kernel_rfl) (fun _ _ _ h => h) (Or.inl ⟨by rfl, ?_⟩) hHeld ?_
        rotate_left
        · intro u hSu
          have q1 := LK.out u hSu
          (go_simp) <;> (with_reducible rfl)
        change wpAnyH _ _ _ _ _ _ _ (Act.put _ (some 23) _) _
        simp only [Act.put, List.setIfInBounds_toArray, List.set_cons_zero, List.set_cons_succ]
        refine wpAnyH_take (i := 7) (v := ?_) rfl (by kernel_rfl) (by kernel_rfl) (by kernel_rfl) (fun _ _ _ h => h) (Or.inl ⟨by rfl, ?_⟩) hHeld ?_
        rotate_left
        · intro u hSu
          (go_simp) <;> (with_reducible rfl)
        change wpAnyH _ _ _ _ _ _ _ (Act.put _ (some 16) _) _
        simp only [Act.put, List.setIfInBounds_toArray, List.set_cons_zero, List.set_cons_succ]
        refine wpAnyH_take (i := 8) (v := ?_) rfl (by kernel_rfl) (by kernel_rfl) (by kernel_rfl) (fun _ _ _ h => h) (Or.inl ⟨by rfl, ?_⟩) hHeld ?_
        rotate_left
        · intro u hSu
          (go_simp) <;> (with_reducible rfl)
        change wpAnyH _ _ _ _ _ _ _ (Act.put _ (some 24) _) _
        simp only [Act.put, List.setIfInBounds_toArray, List.set_cons_zero, List.set_cons_succ]
        refine wpAnyH_take (i := 9) (v := ?_) rfl (by kernel_rfl) (by kernel_rfl) (by kernel_rfl) (fun _ _ _ h => h) (Or.inl ⟨by rfl, ?_⟩) hHeld ?_
        rotate_left
        · intro u hSu
          (go_simp) <;> (with_reducible rfl)
        change wpAnyH _ _ _ _ _ _ _ (Act.put _ (some 25) _) _
        simp only [Act.put, List.setIfInBounds_toArray, List.set_cons_zero, List.set_cons_succ]
        refine wpAnyH_take (i := 10) (v := ?_) rfl (by kernel_rfl) (by kernel_rfl) (by kernel_rfl) (fun _ _ _ h => h) (Or.inl ⟨by rfl, ?_⟩) hHeld ?_
        rotate_left
        · intro u hSu
          (go_simp) <;> (with_reducible rfl)
        change wpAnyH _ _ _ _ _ _ _ (Act.put _ (some 8) _) _
        simp only [Act.put, List.setIfInBounds_toArray, List.set_cons_zero, List.set_cons_succ]
        refine wpAnyH_take (i := 11) (v := ?_) rfl (by kernel_rfl) (by kernel_rfl) (by kernel_rfl) (fun _ _ _ h => h) (Or.inl ⟨by rfl, ?_⟩) hHeld ?_
        rotate_left
        · intro u hSu
          (go_simp) <;> (with_reducible rfl)
        change wpAnyH _ _ _ _ _ _ _ (Act.put _ (some 9) _) _
        simp only [Act.put, List.setIfInBounds_toArray, List.set_cons_zero, List.set_cons_succ]
        refine wpAnyH_done (by kernel_rfl) ?_ _
        refine NoPanic.normal ?_
        go_wp2
        go_roundw
        case rel => exact ⟨n + 1, c + 1, by omega, by go_num, by go_num, by omega, HC2, HB2.out.drew⟩
        case measure => simp [intOf]; omega
      | some g =>
        have hin : k ∈ keysV L := by rw [← HIN, hgk]; rfl
        have HC2 : Hid (c = newW L (l.take (n + 1))) := by show _ = _; rw [HT.out, new_snoc, HKK.out, if_pos hin, ← HC.out]; rfl
        go_wp2_with (first | (have hgo := HWA.out; clear hgo; refine wpList_load_wrt 15 (by rfl) (by rfl) _ (by rfl) b (o + n * 18) (by rfl) W KW.out HWA.out ?_) | (have hgo := HMI.out; clear hgo; refine wpList_store_wrt (.tmp 7) (by rfl) _ (by rfl) wr.heap.size 0 zeroW W (by rfl) (by rfl) KW.out HMI.out ?_; intro u2 hu; rw [← hu] at HK1 HB1; clear hu HMI HWA))
        have HB2 : Hid (Below w.heap.size w u2) := HB.out.trans (HB1.out.mono HB.out.size)
        have FK : Hid (∀ u, Below u2.heap.size u2 u → KeyAt u wr.heap.size 0 k) := fun u hb => by rw [← HKK.out]; exact (HK1.out.past hb).at_.key KW.out
        have LK : Hid (∀ u, Below u2.heap.size u2 u → (Instr.lookup 137 (.map (some m)) (kv k) true).run Tryz.prog u = .ok (.tuple #[.pointer (some ⟨g, 0, none⟩), .bool true]) u) := fun u hb => by
          have := (HST.out.past (HB2.out.trans (hb.mono HB2.out.size))).look KY.out
          rw [hgk] at this
          exact this
        have FC2 : Hid (∀ u, Below u2.heap.size u2 u → u.cell? ⟨p, 0, none⟩ = some (.map (some m))) := fun u hb => FC.out u (HB2.out.trans (hb.mono HB2.out.size))
        clear hgk hin HIN
        refine wp_region_noPanic ?_
        refine wp_region_held_drew (S := fun u => Below u2.heap.size u2 u) (by kernel_rfl) ?_ (fun hHeld => ?_)
        · exact (Below.refl _ _).drew
        refine wpAnyH_take (i := 0) (v := ?_) rfl (by kernel_rfl) (by kernel_rfl) (by kernel_rfl) (fun _ _ _ h => h) (Or.inl ⟨by rfl, ?_⟩) hHeld ?_
        rotate_left
        · intro u hSu
          (go_simp) <;> (with_reducible rfl)
        change wpAnyH _ _ _ _ _ _ _ (Act.put _ (some 17) _) _
        simp only [Act.put, List.setIfInBounds_toArray, List.set_cons_zero, List.set_cons_succ]
        refine wpAnyH_take (i := 1) (v := ?_) rfl (by kernel_rfl) (by kernel_rfl) (by kernel_rfl) (fun _ _ _ h => h) (Or.inl ⟨by rfl, ?_⟩) hHeld ?_
        rotate_left
        · intro u hSu
          (go_simp) <;> (with_reducible rfl)
        change wpAnyH _ _ _ _ _ _ _ (Act.put _ (some 18) _) _
        simp only [Act.put, List.setIfInBounds_toArray, List.set_cons_zero, List.set_cons_succ]
        refine wpAnyH_take (i := 2) (v := ?_) rfl (by kernel_rfl) (by kernel_rfl) (by kernel_rfl) (fun _ _ _ h => h) (Or.inl ⟨by rfl, ?_⟩) hHeld ?_
        rotate_left
        · intro u hSu
          (go_simp) <;> (with_reducible rfl)
        change wpAnyH _ _ _ _ _ _ _ (Act.put _ (some 19) _) _
        simp only [Act.put, List.setIfInBounds_toArray, List.set_cons_zero, List.set_cons_succ]
        refine wpAnyH_take (i := 3) (v := ?_) rfl (by kernel_rfl) (by kernel_rfl) (by kernel_rfl) (fun _ _ _ h => h) (Or.inl ⟨by rfl, ?_⟩) hHeld ?_
        rotate_left
        · intro u hSu
          have q0 := FC2.out u hSu
          (go_simp) <;> (with_reducible rfl)
        change wpAnyH _ _ _ _ _ _ _ (Act.put _ (some 20) _) _
        simp only [Act.put, List.setIfInBounds_toArray, List.set_cons_zero, List.set_cons_succ]
        refine wpAnyH_take (i := 4) (v := ?_) rfl (by kernel_rfl) (by kernel_rfl) (by kernel_rfl) (fun _ _ _ h => h) (Or.inl ⟨by rfl, ?_⟩) hHeld ?_
        rotate_left
        · intro u hSu
          (go_simp) <;> (with_reducible rfl)
        change wpAnyH _ _ _ _ _ _ _ (Act.put _ (some 21) _) _
        simp only [Act.put, List.setIfInBounds_toArray, List.set_cons_zero, List.set_cons_succ]
        refine wpAnyH_take (i := 5) (v := kv k) rfl (by kernel_rfl) (by kernel_rfl) (by kernel_rfl) (fun _ _ _ h => h) (yieldsIf_load_mid (by rfl) _ _ rfl _ _ rfl (k.map (Value.int .u8)) _ (fun u hu => (FK.out u hu).range KY.out) Tryz.underlying38 rfl (info_keyl k KY.out)) hHeld ?_
        change wpAnyH _ _ _ _ _ _ _ (Act.put _ (some 22) _) _
        simp only [Act.put, List.setIfInBounds_toArray, List.set_cons_zero, List.set_cons_succ]
        refine wpAnyH_take (i := 6) (v := ?_) rfl (by kernel_rfl) (by kernel_rfl) (by kernel_rfl) (fun _ _ _ h => h) (Or.inl ⟨by rfl, ?_⟩) hHeld ?_
        rotate_left
        · intro u hSu
          have q1 := LK.out u hSu
          (go_simp) <;> (with_reducible rfl)
        change wpAnyH _ _ _ _ _ _ _ (Act.put _ (some 23) _) _
        simp only [Act.put, List.setIfInBounds_toArray, List.set_cons_zero, List.set_cons_succ]
        refine wpAnyH_take (i := 7) (v := ?_) rfl (by kernel_rfl) (by kernel_rfl) (by kernel_rfl) (fun _ _ _ h => h) (Or.inl ⟨by rfl, ?_⟩) hHeld ?_
        rotate_left
        · intro u hSu
          (go_simp) <;> (with_reducible rfl)
        change wpAnyH _ _ _ _ _ _ _ (Act.put _ (some 16) _) _
        simp only [Act.put, List.setIfInBounds_toArray, List.set_cons_zero, List.set_cons_succ]
        refine wpAnyH_take (i := 8) (v := ?_) rfl (by kernel_rfl) (by kernel_rfl) (by kernel_rfl) (fun _ _ _ h => h) (Or.inl ⟨by rfl, ?_⟩) hHeld ?_
        rotate_left
        · intro u hSu
          (go_simp) <;> (with_reducible rfl)
        change wpAnyH _ _ _ _ _ _ _ (Act.put _ (some 24) _) _
        simp only [Act.put, List.setIfInBounds_toArray, List.set_cons_zero, List.set_cons_succ]
        refine wpAnyH_take (i := 9) (v := ?_) rfl (by kernel_rfl) (by kernel_rfl) (by kernel_rfl) (fun _ _ _ h => h) (Or.inl ⟨by rfl, ?_⟩) hHeld ?_
        rotate_left
        · intro u hSu
          (go_simp) <;> (with_reducible rfl)
        change wpAnyH _ _ _ _ _ _ _ (Act.put _ (some 25) _) _
        simp only [Act.put, List.setIfInBounds_toArray, List.set_cons_zero, List.set_cons_succ]
        refine wpAnyH_take (i := 10) (v := ?_) rfl (by kernel_rfl) (by kernel_rfl) (by kernel_rfl) (fun _ _ _ h => h) (Or.inl ⟨by rfl, ?_⟩) hHeld ?_
        rotate_left
        · intro u hSu
          (go_simp) <;> (with_reducible rfl)
        change wpAnyH _ _ _ _ _ _ _ (Act.put _ (some 8) _) _
        simp only [Act.put, List.setIfInBounds_toArray, List.set_cons_zero, List.set_cons_succ]
        refine wpAnyH_take (i := 11) (v := ?_) rfl (by kernel_rfl) (by kernel_rfl) (by kernel_rfl) (fun _ _ _ h => h) (Or.inl ⟨by rfl, ?_⟩) hHeld ?_
        rotate_left
        · intro u hSu
          (go_simp) <;> (with_reducible rfl)
        change wpAnyH _ _ _ _ _ _ _ (Act.put _ (some 9) _) _
        simp only [Act.put, List.setIfInBounds_toArray, List.set_cons_zero, List.set_cons_succ]
        refine wpAnyH_done (by kernel_rfl) ?_ _
        refine NoPanic.normal ?_
        go_wp2
        go_roundw
        case rel => exact ⟨n + 1, c, by omega, by go_num, rfl, by omega, HC2, HB2.out.drew⟩
        case measure => simp [intOf]; omega
    · obtain rfl : n = N := by omega
      have HT : Hid (l.take n = l) := List.take_of_length_le (by rw [HL.out]; exact Nat.le_refl _)
      go_wp2
      go_ret
      exact ⟨by rw [HC.out, HT.out]; rfl, HB.out⟩
end Go.Proofs.YtileidbdmpeciaaGreat
