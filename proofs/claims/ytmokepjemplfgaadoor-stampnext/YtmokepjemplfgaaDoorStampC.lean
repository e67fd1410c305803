/-
  What the landed stamps (stamp: Good, Cmp, Pack, Unpack, Next, Max, Text) answer, where the library's table of powers of ten holds what its text lays.
-/
import Derived.Test.YtmokepjemplfgaaDoorRefStamp
import Derived.Test.YtmokepjemplfgaaDoorLibReady
import Derived.Laws.BitsLemmas
import Derived.Deep.RegionHeld3
namespace Go.Proofs.YtmokepjemplfgaaDoor
open Go.RowKit
set_option linter.unusedVariables false

theorem wraps_u64 : ∀ n : Int, 0 ≤ n → n < 2 ^ 64 → IntKind.u64.wrap n = n := fun n h0 h1 => by rw [IntKind.wrap_u64]; omega
theorem or_low (t n : Int) (h0 : 0 ≤ t) (h1 : t ≤ 36028797018963967) (hn : 0 ≤ n ∧ n ≤ 255) : bits .or .u64 (t * 256) n = t * 256 + n :=
  bits_join .u64 64 (by decide) wraps_u64 8 (t * 256) n (by omega) (by omega) (by omega) hn.1 (by omega) (by omega)
theorem sgood_any (t n : Int) (w : World) :
    Calls Tryd.prog 21 #[.agg #[.int .i64 t, .int .u8 n]] w fun e w' => e = .returned (.bool (decide (okS t))) ∧ Below w.heap.size w w' := by
  have HB : Hid (Below w.heap.size w (w.alloc (.cells #[.int .i64 t, .int .u8 n] 24))) := (Below.refl _ _).alloc (Nat.le_refl _) _
  by_cases h0 : 0 ≤ t
  · have b0 : decide (0 ≤ t) = true := decide_eq_true h0
    by_cases h1 : t ≤ 36028797018963967
    · have b1 : decide (t ≤ 36028797018963967) = true := decide_eq_true h1
      rw [decide_eq_true (show okS t from ⟨h0, h1⟩)]
      go_enter Tryd.func21, Tryd.ntmps21
      go_wp2
      go_ret
      exact ⟨rfl, HB.out⟩
    · have b1 : decide (t ≤ 36028797018963967) = false := decide_eq_false h1
      rw [decide_eq_false (show ¬ okS t from fun h => h1 h.2)]
      go_enter Tryd.func21, Tryd.ntmps21
      go_wp2
      go_ret
      exact ⟨rfl, HB.out⟩
  · have b0 : decide (0 ≤ t) = false := decide_eq_false h0
    rw [decide_eq_false (show ¬ okS t from fun h => h0 h.1)]
    go_enter Tryd.func21, Tryd.ntmps21
    go_wp2
    go_ret
    exact ⟨rfl, HB.out⟩
theorem spack_any (t n : Int) (w : World) (hn : 0 ≤ n ∧ n ≤ 255) :
    Calls Tryd.prog 9 #[.agg #[.int .i64 t, .int .u8 n]] w fun e w' => e = .returned (.tuple #[.int .u64 (if okS t then t * 256 + n else 0), .int .i64 (if okS t then 0 else 1)]) ∧ Below w.heap.size w w' := by
  have CG : Hid (∀ w, Calls Tryd.prog 21 #[.agg #[.int .i64 t, .int .u8 n]] w fun e w' => e = .returned (.bool (decide (okS t))) ∧ Below w.heap.size w w') := fun w => sgood_any t n w
  have HB : Hid (Below w.heap.size w (w.alloc (.cells #[.int .i64 t, .int .u8 n] 24))) := (Below.refl _ _).alloc (Nat.le_refl _) _
  have q0 : (w.alloc (.cells #[.int .i64 t, .int .u8 n] 24)).cell? ⟨w.heap.size, 0, none⟩ = some (.int .i64 t) := by rw [World.cell?_alloc_new]; rfl
  have q1 : (w.alloc (.cells #[.int .i64 t, .int .u8 n] 24)).cell? ⟨w.heap.size, 1, none⟩ = some (.int .u8 n) := by rw [World.cell?_alloc_new]; rfl
  have HQ : Hid (∀ u, Below (w.heap.size + 1) (w.alloc (.cells #[.int .i64 t, .int .u8 n] 24)) u → u.cell? ⟨w.heap.size, 0, none⟩ = some (.int .i64 t) ∧ u.cell? ⟨w.heap.size, 1, none⟩ = some (.int .u8 n)) := fun u hb => ⟨by rw [hb.cell (p := ⟨w.heap.size, 0, none⟩) (by simp)]; exact q0, by rw [hb.cell (p := ⟨w.heap.size, 1, none⟩) (by simp)]; exact q1⟩
  clear q0 q1
  by_cases h : okS t
  · rw [decide_eq_true h] at CG
    rw [if_pos h, if_pos h]
    obtain ⟨h0, h1⟩ := h
    go_enter Tryd.func9, Tryd.ntmps9
    go_wp2_with (go_at_call 21; refine (CG.out _).mono ?_; rintro e w1 ⟨rfl, hb1⟩; have B1 : Hid (Below w.heap.size w w1) := HB.out.trans (hb1.mono HB.out.size); have c0 := (HQ.out w1 (hb1.mono (by simp))).1; have c1 := (HQ.out w1 (hb1.mono (by simp))).2; clear hb1)
    have hor := or_low t n h0 h1 hn
    go_ret2
    exact ⟨by rw [← hor]; rfl, B1.out⟩
  · rw [decide_eq_false h] at CG
    rw [if_neg h, if_neg h]
    clear h
    go_enter Tryd.func9, Tryd.ntmps9
    go_wp2_with (go_at_call 21; refine (CG.out _).mono ?_; rintro e w1 ⟨rfl, hb1⟩; have B1 : Hid (Below w.heap.size w w1) := HB.out.trans (hb1.mono HB.out.size); clear hb1)
    go_ret2
    exact ⟨rfl, B1.out⟩
theorem sunpack_any (v : Int) (w : World) (hv : 0 ≤ v ∧ v ≤ 18446744073709551615) :
    Calls Tryd.prog 10 #[.int .u64 v] w fun e w' => e = .returned (.tuple #[.agg #[.int .i64 (if v < 9223372036854775808 then v / 256 else 0), .int .u8 (if v < 9223372036854775808 then v % 256 else 0)], .int .i64 (if v < 9223372036854775808 then 0 else 1)]) ∧ Below w.heap.size w w' := by
  by_cases h : v < 9223372036854775808
  · rw [if_pos h, if_pos h, if_pos h]
    have hb : (v / 9223372036854775808 != 0) = false := by simp; omega
    go_enter Tryd.func10, Tryd.ntmps10
    go_wp2
    go_returns
    exact ⟨rfl, (Below.refl _ _).alloc (Nat.le_refl _) _⟩
  · rw [if_neg h, if_neg h, if_neg h]
    have hb : (v / 9223372036854775808 != 0) = true := by simp; omega
    go_enter Tryd.func10, Tryd.ntmps10
    go_wp2
    go_returns
    exact ⟨rfl, (Below.refl _ _).alloc (Nat.le_refl _) _⟩
theorem scmp_any (t n t' n' : Int) (w : World) :
    Calls Tryd.prog 16 #[.agg #[.int .i64 t, .int .u8 n], .agg #[.int .i64 t', .int .u8 n']] w fun e w' => e = .returned (.int .i64 (cmpS t n t' n')) ∧ Below w.heap.size w w' := by
  have HB : Hid (Below w.heap.size w ((w.alloc (.cells #[.int .i64 t, .int .u8 n] 24)).alloc (.cells #[.int .i64 t', .int .u8 n'] 24))) := ((Below.refl _ _).alloc (Nat.le_refl _) _).alloc (by simp) _
  by_cases h1 : t < t'
  · have b1 : decide (t < t') = true := decide_eq_true h1
    rw [cmp_lt (.inl h1)]
    go_enter Tryd.func16, Tryd.ntmps16
    go_wp2
    go_ret
    exact ⟨rfl, HB.out⟩
  · have b1 : decide (t < t') = false := decide_eq_false h1
    by_cases h2 : t' < t
    · have b2 : decide (t' < t) = true := decide_eq_true h2
      rw [cmp_gt (.inl h2)]
      go_enter Tryd.func16, Tryd.ntmps16
      go_wp2
      go_ret
      exact ⟨rfl, HB.out⟩
    · have b2 : decide (t' < t) = false := decide_eq_false h2
      have e : t = t' := by omega
      subst e
      by_cases h3 : n < n'
      · have b3 : decide (n < n') = true := decide_eq_true h3
        rw [cmp_lt (.inr ⟨rfl, h3⟩)]
        go_enter Tryd.func16, Tryd.ntmps16
        go_wp2
        go_ret
        exact ⟨rfl, HB.out⟩
      · have b3 : decide (n < n') = false := decide_eq_false h3
        by_cases h4 : n' < n
        · have b4 : decide (n' < n) = true := decide_eq_true h4
          rw [cmp_gt (.inr ⟨rfl, h4⟩)]
          go_enter Tryd.func16, Tryd.ntmps16
          go_wp2
          go_ret
          exact ⟨rfl, HB.out⟩
        · have b4 : decide (n' < n) = false := decide_eq_false h4
          have e : n = n' := by omega
          subst e
          rw [cmp_eq]
          go_enter Tryd.func16, Tryd.ntmps16
          go_wp2
          go_ret
          exact ⟨rfl, HB.out⟩
theorem smax_any (t n t' n' : Int) (w : World) :
    Calls Tryd.prog 18 #[.agg #[.int .i64 t, .int .u8 n], .agg #[.int .i64 t', .int .u8 n']] w fun e w' => e = .returned (.agg #[.int .i64 (mxS t n t' n').1, .int .u8 (mxS t n t' n').2]) ∧ Below w.heap.size w w' := by
  have H0 : Hid (Three w (((w.alloc (.cells #[.int .i64 t, .int .u8 n] 24)).alloc (.cells #[.int .i64 t', .int .u8 n'] 24)).alloc (.cells #[.int .i64 0, .int .u8 0] 24)) t n t' n') := Three.made w 24 t n t' n'
  by_cases h : ltS t n t' n'
  · have CC : Hid (∀ w, Calls Tryd.prog 16 #[.agg #[.int .i64 t, .int .u8 n], .agg #[.int .i64 t', .int .u8 n']] w fun e w' => e = .returned (.int .i64 (-1)) ∧ Below w.heap.size w w') := fun w => by
      have c := scmp_any t n t' n' w
      rw [cmp_lt h] at c
      exact c
    have e : mxS t n t' n' = (t', n') := if_pos h
    rw [e]
    clear e h
    go_enter Tryd.func18, Tryd.ntmps18
    go_wp2_with (go_at_call 16; refine (CC.out _).mono ?_; rintro e w1 ⟨rfl, hb1⟩; have H1 : Hid (Three w w1 t n t' n') := H0.out.step hb1; have q0 := H1.out.b0; have q1 := H1.out.b1; have z0 := H1.out.c0; have z1 := H1.out.c1; have f0 := H1.out.free 0; have f1 := H1.out.free 1; clear hb1)
    obtain ⟨r1, r2⟩ := set_two z0 z1
    (try simp only [Exit.inBlock, Exit.then])
    refine bodyPost_ret (v := .agg #[.int .i64 t', .int .u8 n']) (by simp [results, Tryd.results18, go_sem, r1, r2]) rfl ?_
    exact ⟨rfl, (H1.out.below.setCell (by show w.heap.size ≤ w.heap.size + 2; omega) _).setCell (by show w.heap.size ≤ w.heap.size + 2; omega) _⟩
  · have CC : Hid (∀ w, Calls Tryd.prog 16 #[.agg #[.int .i64 t, .int .u8 n], .agg #[.int .i64 t', .int .u8 n']] w fun e w' => (∃ k : Int, e = .returned (.int .i64 k) ∧ 0 ≤ k) ∧ Below w.heap.size w w') := fun w => by
      refine (scmp_any t n t' n' w).mono ?_
      rintro e w' ⟨rfl, hb⟩
      refine ⟨⟨_, rfl, ?_⟩, hb⟩
      unfold cmpS
      rw [if_neg h]
      split <;> omega
    have e : mxS t n t' n' = (t, n) := if_neg h
    rw [e]
    clear e h
    go_enter Tryd.func18, Tryd.ntmps18
    go_wp2_with (go_at_call 16; refine (CC.out _).mono ?_; rintro e w1 ⟨⟨k, rfl, hk⟩, hb1⟩; have H1 : Hid (Three w w1 t n t' n') := H0.out.step hb1; have q0 := H1.out.a0; have q1 := H1.out.a1; have z0 := H1.out.c0; have z1 := H1.out.c1; have f0 := H1.out.free 0; have f1 := H1.out.free 1; clear hb1)
    obtain ⟨r1, r2⟩ := set_two z0 z1
    (try simp only [Exit.inBlock, Exit.then])
    refine bodyPost_ret (v := .agg #[.int .i64 t, .int .u8 n]) (by simp [results, Tryd.results18, go_sem, r1, r2]) rfl ?_
    exact ⟨rfl, (H1.out.below.setCell (by show w.heap.size ≤ w.heap.size + 2; omega) _).setCell (by show w.heap.size ≤ w.heap.size + 2; omega) _⟩
/-- A stamp that came in and one that is to go out, each in a block of its own. -/
structure InOut (w u : World) (t n : Int) : Prop where
  a0 : u.cell? ⟨w.heap.size, 0, none⟩ = some (.int .i64 t)
  a1 : u.cell? ⟨w.heap.size, 1, none⟩ = some (.int .u8 n)
  c0 : u.cell? ⟨w.heap.size + 1, 0, none⟩ = some (.int .i64 0)
  c1 : u.cell? ⟨w.heap.size + 1, 1, none⟩ = some (.int .u8 0)
  free : ∀ j, u.frozen? ⟨w.heap.size + 1, j, none⟩ = false
  below : Below w.heap.size w u
  lt : w.heap.size + 1 < u.heap.size
theorem InOut.made (w : World) (T : TypeId) (t n : Int) : InOut w ((w.alloc (.cells #[.int .i64 t, .int .u8 n] T)).alloc (.cells #[.int .i64 0, .int .u8 0] T)) t n := by
  obtain ⟨u1, h1⟩ : ∃ u, u = w.alloc (.cells #[.int .i64 t, .int .u8 n] T) := ⟨_, rfl⟩
  have s1 : u1.heap.size = w.heap.size + 1 := by rw [h1]; simp
  have a0 : u1.cell? ⟨w.heap.size, 0, none⟩ = some (.int .i64 t) := by rw [h1, World.cell?_alloc_new]; rfl
  have a1 : u1.cell? ⟨w.heap.size, 1, none⟩ = some (.int .u8 n) := by rw [h1, World.cell?_alloc_new]; rfl
  rw [← h1]
  refine ⟨?_, ?_, ?_, ?_, fun j => ?_, ?_, by simp [s1]⟩
  · rw [World.cell?_alloc_lt _ _ _ (by show w.heap.size < _; omega)]; exact a0
  · rw [World.cell?_alloc_lt _ _ _ (by show w.heap.size < _; omega)]; exact a1
  · rw [← s1, World.cell?_alloc_new]; rfl
  · rw [← s1, World.cell?_alloc_new]; rfl
  · rw [← s1]; exact World.frozen?_alloc_new _ _ _ _
  · rw [h1]; exact ((Below.refl _ _).alloc (Nat.le_refl _) _).alloc (by simp) _
theorem InOut.step {w u u' : World} {t n : Int} (h : InOut w u t n) (hb : Below u.heap.size u u') : InOut w u' t n := by
  have l := h.lt
  refine ⟨?_, ?_, ?_, ?_, fun j => (hb.frozen (p := ⟨w.heap.size + 1, j, none⟩) (by show w.heap.size + 1 < _; omega)).trans (h.free j), h.below.trans (hb.mono h.below.size), Nat.lt_of_lt_of_le h.lt hb.size⟩
  · rw [hb.cell (p := ⟨w.heap.size, 0, none⟩) (by show w.heap.size < _; omega)]; exact h.a0
  · rw [hb.cell (p := ⟨w.heap.size, 1, none⟩) (by show w.heap.size < _; omega)]; exact h.a1
  · rw [hb.cell (p := ⟨w.heap.size + 1, 0, none⟩) (by show w.heap.size + 1 < _; omega)]; exact h.c0
  · rw [hb.cell (p := ⟨w.heap.size + 1, 1, none⟩) (by show w.heap.size + 1 < _; omega)]; exact h.c1
theorem snext_any (t n : Int) (w : World) :
    Calls Tryd.prog 11 #[.agg #[.int .i64 t, .int .u8 n]] w fun e w' => e = .returned (.tuple #[.agg #[.int .i64 (if okS t ∧ t ≠ 36028797018963967 then t + 1 else 0), .int .u8 (if okS t ∧ t ≠ 36028797018963967 then n else 0)], .int .i64 (if okS t then if t = 36028797018963967 then 12 else 0 else 1)]) ∧ Below w.heap.size w w' := by
  have CG : Hid (∀ w, Calls Tryd.prog 21 #[.agg #[.int .i64 t, .int .u8 n]] w fun e w' => e = .returned (.bool (decide (okS t))) ∧ Below w.heap.size w w') := fun w => sgood_any t n w
  have H0 : Hid (InOut w ((w.alloc (.cells #[.int .i64 t, .int .u8 n] 24)).alloc (.cells #[.int .i64 0, .int .u8 0] 24)) t n) := InOut.made w 24 t n
  by_cases h : okS t
  · rw [decide_eq_true h] at CG
    by_cases hm : t = 36028797018963967
    · rw [if_neg (fun h' => h'.2 hm), if_neg (fun h' => h'.2 hm), if_pos h, if_pos hm]
      have hb : (t == 36028797018963967) = true := by simpa using hm
      clear h hm
      go_enter Tryd.func11, Tryd.ntmps11
      go_wp2_with (go_at_call 21; refine (CG.out _).mono ?_; rintro e w1 ⟨rfl, hb1⟩; have H1 : Hid (InOut w w1 t n) := H0.out.step hb1; have q0 := H1.out.a0; have q1 := H1.out.a1; have z0 := H1.out.c0; have z1 := H1.out.c1; have f0 := H1.out.free 0; have f1 := H1.out.free 1; clear hb1)
      obtain ⟨r1, r2⟩ := set_two z0 z1
      (try simp only [Exit.inBlock, Exit.then])
      refine bodyPost_ret (v := .tuple #[.agg #[.int .i64 0, .int .u8 0], .int .i64 12]) (by simp [results, Tryd.results11, go_sem, r1, r2]) rfl ?_
      exact ⟨rfl, (H1.out.below.setCell (by show w.heap.size ≤ w.heap.size + 1; omega) _).setCell (by show w.heap.size ≤ w.heap.size + 1; omega) _⟩
    · rw [if_pos ⟨h, hm⟩, if_pos ⟨h, hm⟩, if_pos h, if_neg hm]
      have hb : (t == 36028797018963967) = false := by simpa using hm
      obtain ⟨h0, h1⟩ := h
      go_enter Tryd.func11, Tryd.ntmps11
      go_wp2_with (go_at_call 21; refine (CG.out _).mono ?_; rintro e w1 ⟨rfl, hb1⟩; have H1 : Hid (InOut w w1 t n) := H0.out.step hb1; have q0 := H1.out.a0; have q1 := H1.out.a1; have z0 := H1.out.c0; have z1 := H1.out.c1; have f0 := H1.out.free 0; have f1 := H1.out.free 1; clear hb1)
      obtain ⟨r1, r2⟩ := set_two z0 z1
      (try simp only [Exit.inBlock, Exit.then])
      refine bodyPost_ret (v := .tuple #[.agg #[.int .i64 (t + 1), .int .u8 n], .int .i64 0]) (by simp [results, Tryd.results11, go_sem, r1, r2]) rfl ?_
      exact ⟨rfl, (H1.out.below.setCell (by show w.heap.size ≤ w.heap.size + 1; omega) _).setCell (by show w.heap.size ≤ w.heap.size + 1; omega) _⟩
  · rw [decide_eq_false h] at CG
    rw [if_neg (fun h' => h h'.1), if_neg (fun h' => h h'.1), if_neg h]
    clear h
    go_enter Tryd.func11, Tryd.ntmps11
    go_wp2_with (go_at_call 21; refine (CG.out _).mono ?_; rintro e w1 ⟨rfl, hb1⟩; have H1 : Hid (InOut w w1 t n) := H0.out.step hb1; have q0 := H1.out.a0; have q1 := H1.out.a1; have z0 := H1.out.c0; have z1 := H1.out.c1; have f0 := H1.out.free 0; have f1 := H1.out.free 1; clear hb1)
    obtain ⟨r1, r2⟩ := set_two z0 z1
    (try simp only [Exit.inBlock, Exit.then])
    refine bodyPost_ret (v := .tuple #[.agg #[.int .i64 0, .int .u8 0], .int .i64 1]) (by simp [results, Tryd.results11, go_sem, r1, r2]) rfl ?_
    exact ⟨rfl, (H1.out.below.setCell (by show w.heap.size ≤ w.heap.size + 1; omega) _).setCell (by show w.heap.size ≤ w.heap.size + 1; omega) _⟩
set_option maxHeartbeats 1000000 in
theorem stext_any (t n : Int) (w : World) (hR : Ready w) (h1 : -9223372036854775808 ≤ t) (h2 : t ≤ 9223372036854775807) (hn : 0 ≤ n ∧ n ≤ 255) :
    Calls Tryd.prog 12 #[.agg #[.int .i64 t, .int .u8 n]] w fun e w' => e = .returned (.string (tx6 t n)) ∧ Below w.heap.size w w' := by
  obtain ⟨X, hX⟩ : ∃ X : ByteArray, X = ⟨(Lib.itoa t).toArray⟩ := ⟨_, rfl⟩
  obtain ⟨Y, hY⟩ : ∃ X : ByteArray, X = ⟨(Lib.itoa n).toArray⟩ := ⟨_, rfl⟩
  have sX : X.size ≤ 21 := by rw [hX]; exact itoa_size t h1 h2
  have sY : Y.size ≤ 21 := by rw [hY]; exact itoa_size n (by omega) (by omega)
  have z1 : ¬ 9223372036854775807 < X.size + 1 := by omega
  have z2 : ¬ 9223372036854775807 < X.size + 1 + Y.size := by omega
  obtain ⟨R, hR2⟩ : ∃ R, R = tx6 t n := ⟨_, rfl⟩
  have HR : Hid (X ++ ⟨#[46]⟩ ++ Y = R) := by rw [hX, hY, hR2]; exact tx6_sum t n
  rw [← hR2]
  obtain ⟨V, hV⟩ : ∃ V, V = w.alloc (.cells #[.int .i64 t, .int .u8 n] 24) := ⟨_, rfl⟩
  have HVW : Hid (Below w.heap.size w V) := by rw [hV]; exact (Below.refl _ _).alloc (Nat.le_refl _) _
  have q0 : V.cell? ⟨w.heap.size, 0, none⟩ = some (.int .i64 t) := by rw [hV, World.cell?_alloc_new]; rfl
  have q1 : V.cell? ⟨w.heap.size, 1, none⟩ = some (.int .u8 n) := by rw [hV, World.cell?_alloc_new]; rfl
  have hVs : w.heap.size < V.heap.size := by rw [hV]; simp
  have KS : Hid (∀ u, Below V.heap.size V u → u.cell? ⟨w.heap.size, 0, none⟩ = some (.int .i64 t) ∧ u.cell? ⟨w.heap.size, 1, none⟩ = some (.int .u8 n)) := fun u hb => ⟨by rw [hb.cell (p := ⟨w.heap.size, 0, none⟩) hVs]; exact q0, by rw [hb.cell (p := ⟨w.heap.size, 1, none⟩) hVs]; exact q1⟩
  have QR : Hid (∀ u, Below V.heap.size V u → Ready u) := fun u hb => hR.on (HVW.out.trans (hb.mono HVW.out.size))
  have QX : Hid (∀ u, Below V.heap.size V u → Calls Tryd.prog 22 #[.int .i64 t, .int .i64 10] u fun e u' => e = .returned (.string X) ∧ Below V.heap.size V u') := fun u hb => by
    rw [hX]
    exact (Tryd.strconv_FormatInt_10 t h1 h2 u (QR.out u hb)).mono (by rintro e u' ⟨rfl, k, os, rfl⟩; exact ⟨rfl, hb.trans ((Lib.below_grow _ u (Nat.le_refl _) k os).mono hb.size)⟩)
  have QY : Hid (∀ u, Below V.heap.size V u → Calls Tryd.prog 23 #[.int .i64 n] u fun e u' => e = .returned (.string Y) ∧ Below V.heap.size V u') := fun u hb => by
    rw [hY]
    exact (Tryd.strconv_Itoa n (by omega) (by omega) u (QR.out u hb)).mono (by rintro e u' ⟨rfl, k, os, rfl⟩; exact ⟨rfl, hb.trans ((Lib.below_grow _ u (Nat.le_refl _) k os).mono hb.size)⟩)
  have hwn : IntKind.i64.wrap n = n := by rw [IntKind.wrap_i64]; omega
  clear hX hY hR2 sX sY q0 q1 hVs h1 h2 hR
  go_enter Tryd.func12, Tryd.ntmps12
  go_wp2
  rw [← hV]
  clear hV
  go_region_held3 (fun u => u.cell? ⟨w.heap.size, 0, none⟩ = some (.int .i64 t) ∧ u.cell? ⟨w.heap.size, 1, none⟩ = some (.int .u8 n)) (first | exact KS.out _ (by assumption) | exact KS.out _ (Below.refl _ _).drew) (first | (go_at_call 22; refine (QX.out _ (by first | assumption | exact (Below.refl _ _).drew)).mono ?_; rintro e w5 ⟨rfl, hb5⟩) | (go_at_call 23; refine (QY.out _ (by first | assumption | exact (Below.refl _ _).drew)).mono ?_; rintro e w6 ⟨rfl, hb6⟩))
  go_wp2
  go_ret
  exact ⟨by rw [← HR.out]; rfl, HVW.out.trans (hb6.mono HVW.out.size)⟩
end Go.Proofs.YtmokepjemplfgaaDoor
