/-
  What the document's own Parse (hourglassref4) answers.
-/
import Derived.Test.YtglommaegcaodaaDoorRefCivil4
import Derived.Deep.DeepCutAuto
import Derived.Deep.RegionHeld3
namespace Go.Proofs.YtglommaegcaodaaDoor
open Go.RowKit
set_option linter.unusedVariables false

theorem rdigits_v (xs : List Int) (w : World) (hb : ∀ z ∈ xs, 0 ≤ z ∧ z ≤ 255) (hl : xs.length ≤ 9) :
    Calls Tryd.prog 33 #[.string (strOfNums xs)] w fun e w' => e = .returned (.int .i64 (dgv xs)) ∧ w' = w := by
  refine (rdigits_any xs w hb hl).mono ?_
  rintro e w' ⟨⟨h1, h2⟩, rfl⟩
  refine ⟨?_, rfl⟩
  unfold dgv
  split
  · rename_i h; exact h1 h
  · rename_i h; exact h2 h
set_option maxHeartbeats 2000000 in
theorem rparse_any (xs : List Int) (w : World) (hb : ∀ z ∈ xs, 0 ≤ z ∧ z ≤ 255) (hl : xs.length ≤ 3000) :
    Calls Tryd.prog 24 #[.string (strOfNums xs)] w fun e w' => ((∀ y m d, parseN xs = some (y, m, d) → e = .returned (.tuple #[.agg #[.int .i64 y, .int .i64 m, .int .i64 d], .bool true])) ∧ (parseN xs = none → e = .returned (.tuple #[.agg #[.int .i64 0, .int .i64 0, .int .i64 0], .bool false]))) ∧ Below w.heap.size w w' := by
  have hsz := strOfNums_size xs
  have HX : Hid (∀ k (h : k < (strOfNums xs).size), (((strOfNums xs)[k]'h).toNat : Int) = xs[k]?.getD 0) := nums_at xs hb
  obtain ⟨len, hlen⟩ : ∃ len, len = xs.length := ⟨_, rfl⟩
  rw [← hlen] at hsz hl
  have HB : Hid (∀ z ∈ xs, 0 ≤ z ∧ z ≤ 255) := hb
  have HL : Hid (len = xs.length) := hlen
  obtain ⟨S, hS⟩ : ∃ S, S = strOfNums xs := ⟨_, rfl⟩
  have HS : Hid (S = strOfNums xs) := hS
  rw [← hS] at hsz HX ⊢
  clear hS hlen hb
  go_enter Tryd.func24, Tryd.ntmps24
  by_cases hng : 0 < len ∧ xs[0]?.getD 0 = 45
  · have hne : ((S[0]'(by omega)).toNat : Int) = 45 := by rw [HX.out, hng.2]
    have hne' : (((S[0]'(by omega)).toNat : Int) == 45) = true := by rw [hne]; rfl
    have HRS : Hid (rest xs = xs.drop 1 ∧ sgn xs = -1) := by
      have h0 : xs.head? = some 45 := by
        have hl0 : 0 < xs.length := by rw [← HL.out]; exact hng.1
        have h2 := hng.2
        cases hxs : xs with
        | nil => rw [hxs] at hl0; simp at hl0
        | cons z r => rw [hxs] at h2; simp at h2; simp [h2]
      unfold rest sgn
      rw [if_pos h0, if_pos h0]
      exact ⟨by simp, rfl⟩
    obtain ⟨ts, hts⟩ : ∃ ts, ts = rest xs := ⟨_, rfl⟩
    have HTS : Hid (ts = rest xs) := hts
    have HTL : Hid (ts.length = len - 1) := by show _ = _; rw [hts, HRS.out.1, List.length_drop, HL.out]
    obtain ⟨TS, hTS⟩ : ∃ TS, TS = S.extract 1 len := ⟨_, rfl⟩
    have HTE : Hid (TS = strOfNums ts) := by
      show _ = _
      rw [hTS, HS.out, nums_cut, hts, HRS.out.1, List.take_of_length_le (by rw [List.length_drop, HL.out]; omega)]
    have hext : S.extract 1 len = TS := hTS.symm
    have hTsz : TS.size = len - 1 := by rw [HTE.out, strOfNums_size, HTL.out]
    have HTB : Hid (∀ z ∈ ts, 0 ≤ z ∧ z ≤ 255) := by rw [hts, HRS.out.1]; exact fun z hz => HB.out z (List.mem_of_mem_drop hz)
    clear hts hTS
    by_cases c1 : len - 1 = 10
    · have c1' : ((len - 1 : Nat) : Int) = 10 := by omega
      have h4s : 4 < TS.size := by omega
      have h7s : 7 < TS.size := by omega
      have X4 : Hid (((TS[4]'h4s).toNat : Int) = ts[4]?.getD 0) := by
        have := nums_at ts HTB.out 4 (by rw [← HTE.out]; exact h4s)
        simp only [← HTE.out] at this
        exact this
      have X7 : Hid (((TS[7]'h7s).toNat : Int) = ts[7]?.getD 0) := by
        have := nums_at ts HTB.out 7 (by rw [← HTE.out]; exact h7s)
        simp only [← HTE.out] at this
        exact this
      by_cases c2 : ts[4]?.getD 0 = 45
      · by_cases c3 : ts[7]?.getD 0 = 45
        · have x4 := X4.out
          have x7 := X7.out
          rw [c2] at x4
          rw [c3] at x7
          obtain ⟨A1, hA1⟩ : ∃ A, A = TS.extract 0 4 := ⟨_, rfl⟩
          obtain ⟨A2, hA2⟩ : ∃ A, A = TS.extract 5 7 := ⟨_, rfl⟩
          obtain ⟨A3, hA3⟩ : ∃ A, A = TS.extract 8 10 := ⟨_, rfl⟩
          have HA1 : Hid (A1 = strOfNums (ts.take 4)) := by show _ = _; rw [hA1, HTE.out, nums_cut]; rfl
          have HA2 : Hid (A2 = strOfNums ((ts.drop 5).take 2)) := by show _ = _; rw [hA2, HTE.out, nums_cut]
          have HA3 : Hid (A3 = strOfNums (ts.drop 8)) := by show _ = _; rw [hA3, HTE.out, nums_cut, List.take_of_length_le (by rw [List.length_drop, HTL.out]; omega)]
          have e1 := hA1.symm
          have e2 := hA2.symm
          have e3 := hA3.symm
          clear hA1 hA2 hA3
          obtain ⟨D1, hD1⟩ : ∃ D, D = dgv (ts.take 4) := ⟨_, rfl⟩
          obtain ⟨D2, hD2⟩ : ∃ D, D = dgv ((ts.drop 5).take 2) := ⟨_, rfl⟩
          obtain ⟨D3, hD3⟩ : ∃ D, D = dgv (ts.drop 8) := ⟨_, rfl⟩
          have b1 : -1 ≤ D1 ∧ D1 ≤ 999999999 := by rw [hD1]; exact dgv_range _ (by simp; omega)
          have b2 : -1 ≤ D2 ∧ D2 ≤ 999999999 := by rw [hD2]; exact dgv_range _ (by simp; omega)
          have b3 : -1 ≤ D3 ∧ D3 ≤ 999999999 := by rw [hD3]; exact dgv_range _ (by rw [List.length_drop, HTL.out]; omega)
          have G1 : Hid (∀ v, Calls Tryd.prog 33 #[.string A1] v fun e w' => e = .returned (.int .i64 D1) ∧ w' = v) := fun v => by rw [HA1.out, hD1]; exact rdigits_v _ v (fun z hz => HTB.out z (List.mem_of_mem_take hz)) (by simp; omega)
          have G2 : Hid (∀ v, Calls Tryd.prog 33 #[.string A2] v fun e w' => e = .returned (.int .i64 D2) ∧ w' = v) := fun v => by rw [HA2.out, hD2]; exact rdigits_v _ v (fun z hz => HTB.out z (List.mem_of_mem_drop (List.mem_of_mem_take hz))) (by simp; omega)
          have G3 : Hid (∀ v, Calls Tryd.prog 33 #[.string A3] v fun e w' => e = .returned (.int .i64 D3) ∧ w' = v) := fun v => by rw [HA3.out, hD3]; exact rdigits_v _ v (fun z hz => HTB.out z (List.mem_of_mem_drop hz)) (by rw [List.length_drop, HTL.out]; omega)
          have HD1 : Hid (D1 = dgv ((rest xs).take 4)) := by rw [← HTS.out]; exact hD1
          have HD2 : Hid (D2 = dgv (((rest xs).drop 5).take 2)) := by rw [← HTS.out]; exact hD2
          have HD3 : Hid (D3 = dgv ((rest xs).drop 8)) := by rw [← HTS.out]; exact hD3
          clear hD1 hD2 hD3 c2 c3 X4 X7
          have hwr : IntKind.i64.wrap (-D1) = -D1 := by rw [IntKind.wrap_i64]; omega
          have RT : Hid (∀ v, Calls Tryd.prog 23 #[.agg #[.int .i64 (-D1), .int .i64 D2, .int .i64 D3]] v fun e w' => e = .returned (.string (strOfNums (if Gd (-D1) D2 D3 then txt (-D1) D2 D3 else []))) ∧ Below v.heap.size v w') := fun v => rtext_any (-D1) D2 D3 v (by omega) (by omega) (by omega) (by omega)
          obtain ⟨R, hR⟩ : ∃ R, R = strOfNums (if Gd (-D1) D2 D3 then txt (-D1) D2 D3 else []) := ⟨_, rfl⟩
          rw [← hR] at RT
          have HC : Hid (∀ y m d, parseN xs = some (y, m, d) → 0 ≤ D1 ∧ -D1 = y ∧ D2 = m ∧ D3 = d) := fun y m d h => by
            have := parse_cand xs (-D1) D2 D3 (by rw [HRS.out.2, HD1.out]; omega) HD2.out HD3.out h
            rw [← HD1.out] at this
            exact this.2
          have HR : Hid (R = strOfNums (if Gd (-D1) D2 D3 then txt (-D1) D2 D3 else [])) := hR
          clear hR
          go_wp2
          go_cut [6] (fun p wr => p = .pointer (some ⟨w.heap.size + 1, 0, none⟩) ∧ Hid (TwoMade w wr (-D1) D2 D3))
          case first =>
            go_region_held3 (fun w' => True) (exact True.intro) (first | (go_at_call_of 33 A1; refine (G1.out _).mono ?_; rintro e w2 ⟨rfl, hw⟩; obtain rfl := hw.symm; clear hw) | (go_at_call_of 33 A2; refine (G2.out _).mono ?_; rintro e w3 ⟨rfl, hw⟩; obtain rfl := hw.symm; clear hw) | (go_at_call_of 33 A3; refine (G3.out _).mono ?_; rintro e w4 ⟨rfl, hw⟩; obtain rfl := hw.symm; clear hw))
            all_goals
              go_wp2_with fail
              go_meet
              case rel => exact ⟨rfl, two_made w 37 (-D1) D2 D3⟩
          case rest =>
            obtain ⟨rfl, TM⟩ := hcut
            obtain ⟨v, rfl⟩ : ∃ v : World, v = wc := ⟨wc, rfl⟩
            have hq0 := TM.out.date.c0
            have hq1 := TM.out.date.c1
            have hq2 := TM.out.date.c2
            by_cases hneg1 : D1 < 0
            · have NO : Hid (∀ y m d, ¬ parseN xs = some (y, m, d)) := fun y m d h => by have := (HC.out y m d h).1; omega
              have z0 := TM.out.zero.c0
              have z1 := TM.out.zero.c1
              have z2 := TM.out.zero.c2
              have f0 := TM.out.free 0
              have f1 := TM.out.free 1
              have f2 := TM.out.free 2
              go_wp2_with (first | (go_at_call 33; refine (G1.out _).mono ?_; rintro e w2 ⟨rfl, hw⟩; obtain rfl := hw.symm; clear hw))
              obtain ⟨r0, r1, r2⟩ := set_same3 TM.out.zero
              (try simp only [Exit.inBlock, Exit.then])
              refine bodyPost_ret (v := .tuple #[.agg #[.int .i64 0, .int .i64 0, .int .i64 0], .bool false]) (by simp [results, Tryd.results24, go_sem, r0, r1, r2]) rfl ?_
              exact ⟨⟨fun y m d h => absurd h (NO.out y m d), fun _ => rfl⟩, ((TM.out.below.setCell (Nat.le_refl _) _).setCell (Nat.le_refl _) _).setCell (Nat.le_refl _) _⟩
            · by_cases hok : Gd (-D1) D2 D3 ∧ txt (-D1) D2 D3 = xs
              · have HPS : Hid (parseN xs = some ((-D1), D2, D3)) := by rw [← hok.2]; exact parse_txt hok.1
                have heq : (R.toList == S.toList) = true := by
                  rw [HR.out, HS.out, if_pos hok.1, hok.2]; simp
                clear hok
                go_wp2_with (first | (go_at_call 33; refine (G1.out _).mono ?_; rintro e w2 ⟨rfl, hw⟩; obtain rfl := hw.symm; clear hw) | (go_at_call 23; refine (RT.out _).mono ?_; rintro e w5 ⟨rfl, hb5⟩; have HB5 : Hid (Below w.heap.size w w5) := TM.out.below.trans (hb5.mono TM.out.below.size); have z0 := (TM.out.zero.below hb5 (by rw [TM.out.size]; omega)).c0; have z1 := (TM.out.zero.below hb5 (by rw [TM.out.size]; omega)).c1; have z2 := (TM.out.zero.below hb5 (by rw [TM.out.size]; omega)).c2; have p0 := (TM.out.date.below hb5 (by rw [TM.out.size]; omega)).c0; have p1 := (TM.out.date.below hb5 (by rw [TM.out.size]; omega)).c1; have p2 := (TM.out.date.below hb5 (by rw [TM.out.size]; omega)).c2; have f0 := (hb5.frozen (p := ⟨w.heap.size, 0, none⟩) (by show w.heap.size < _; rw [TM.out.size]; omega)).trans (TM.out.free 0); have f1 := (hb5.frozen (p := ⟨w.heap.size, 1, none⟩) (by show w.heap.size < _; rw [TM.out.size]; omega)).trans (TM.out.free 1); have f2 := (hb5.frozen (p := ⟨w.heap.size, 2, none⟩) (by show w.heap.size < _; rw [TM.out.size]; omega)).trans (TM.out.free 2); clear hb5))
                obtain ⟨r0, r1, r2⟩ := set_same3 (DateAt.mk z0 z1 z2)
                (try simp only [Exit.inBlock, Exit.then])
                refine bodyPost_ret (v := .tuple #[.agg #[.int .i64 (-D1), .int .i64 D2, .int .i64 D3], .bool true]) (by simp [results, Tryd.results24, go_sem, r0, r1, r2]) rfl ?_
                refine ⟨⟨fun y m d h => ?_, fun h => absurd h (by rw [HPS.out]; simp)⟩, ((HB5.out.setCell (Nat.le_refl _) _).setCell (Nat.le_refl _) _).setCell (Nat.le_refl _) _⟩
                rw [HPS.out] at h
                cases h
                rfl
              · have NO : Hid (∀ y m d, ¬ parseN xs = some (y, m, d)) := fun y m d h => by
                  obtain ⟨_, e1, e2, e3⟩ := HC.out y m d h
                  apply hok
                  have := parse_some h
                  rw [e1, e2, e3]; exact this
                have heq : (R.toList == S.toList) = false := by
                  rw [HR.out, HS.out]
                  simp only [beq_eq_false_iff_ne, ne_eq]
                  intro he
                  by_cases hg : Gd (-D1) D2 D3
                  · rw [if_pos hg] at he
                    exact hok ⟨hg, str_inj (txt_by hg) HB.out he⟩
                  · rw [if_neg hg] at he
                    have := str_inj (fun z hz => by simp at hz) HB.out he
                    have hl' := HL.out
                    rw [← this] at hl'
                    simp at hl'
                    omega
                clear hok
                go_wp2_with (first | (go_at_call 33; refine (G1.out _).mono ?_; rintro e w2 ⟨rfl, hw⟩; obtain rfl := hw.symm; clear hw) | (go_at_call 23; refine (RT.out _).mono ?_; rintro e w5 ⟨rfl, hb5⟩; have HB5 : Hid (Below w.heap.size w w5) := TM.out.below.trans (hb5.mono TM.out.below.size); have z0 := (TM.out.zero.below hb5 (by rw [TM.out.size]; omega)).c0; have z1 := (TM.out.zero.below hb5 (by rw [TM.out.size]; omega)).c1; have z2 := (TM.out.zero.below hb5 (by rw [TM.out.size]; omega)).c2; have f0 := (hb5.frozen (p := ⟨w.heap.size, 0, none⟩) (by show w.heap.size < _; rw [TM.out.size]; omega)).trans (TM.out.free 0); have f1 := (hb5.frozen (p := ⟨w.heap.size, 1, none⟩) (by show w.heap.size < _; rw [TM.out.size]; omega)).trans (TM.out.free 1); have f2 := (hb5.frozen (p := ⟨w.heap.size, 2, none⟩) (by show w.heap.size < _; rw [TM.out.size]; omega)).trans (TM.out.free 2); clear hb5))
                obtain ⟨r0, r1, r2⟩ := set_same3 (DateAt.mk z0 z1 z2)
                (try simp only [Exit.inBlock, Exit.then])
                refine bodyPost_ret (v := .tuple #[.agg #[.int .i64 0, .int .i64 0, .int .i64 0], .bool false]) (by simp [results, Tryd.results24, go_sem, r0, r1, r2]) rfl ?_
                exact ⟨⟨fun y m d h => absurd h (NO.out y m d), fun _ => rfl⟩, ((HB5.out.setCell (Nat.le_refl _) _).setCell (Nat.le_refl _) _).setCell (Nat.le_refl _) _⟩
        · have NO : Hid (∀ y m d, ¬ parseN xs = some (y, m, d)) := fun y m d h => by
            have := (parse_cand xs _ _ _ rfl rfl rfl h).1.2.2
            rw [← HTS.out] at this
            exact c3 this
          have x4 := X4.out
          have x7 : ¬ ((TS[7]'h7s).toNat : Int) = 45 := by rw [X7.out]; exact c3
          rw [c2] at x4
          clear c2 c3
          go_wp2
          go_returns
          exact ⟨⟨fun y m d h => absurd h (NO.out y m d), fun _ => rfl⟩, (Below.refl _ _).alloc (Nat.le_refl _) _⟩
      · have NO : Hid (∀ y m d, ¬ parseN xs = some (y, m, d)) := fun y m d h => by
          have := (parse_cand xs _ _ _ rfl rfl rfl h).1.2.1
          rw [← HTS.out] at this
          exact c2 this
        have x4 : ¬ ((TS[4]'h4s).toNat : Int) = 45 := by rw [X4.out]; exact c2
        clear c2
        go_wp2
        go_returns
        exact ⟨⟨fun y m d h => absurd h (NO.out y m d), fun _ => rfl⟩, (Below.refl _ _).alloc (Nat.le_refl _) _⟩
    · have NO : Hid (∀ y m d, ¬ parseN xs = some (y, m, d)) := fun y m d h => by
        have := (parse_cand xs _ _ _ rfl rfl rfl h).1.1
        rw [← HTS.out, HTL.out] at this
        omega
      have c1' : ¬ ((len - 1 : Nat) : Int) = 10 := by omega
      go_wp2
      all_goals go_returns
      all_goals exact ⟨⟨fun y m d h => absurd h (NO.out y m d), fun _ => rfl⟩, (Below.refl _ _).alloc (Nat.le_refl _) _⟩
  · have HRS : Hid (rest xs = xs ∧ sgn xs = 1) := by
      have h0 : ¬ xs.head? = some 45 := by
        intro h
        apply hng
        have hl := HL.out
        cases hxs : xs with
        | nil => rw [hxs] at h; simp at h
        | cons z r => rw [hxs] at h hl; simp at h; simp [h]; simp at hl; omega
      unfold rest sgn
      rw [if_neg h0, if_neg h0]
      exact ⟨rfl, rfl⟩
    obtain ⟨ts, hts⟩ : ∃ ts, ts = rest xs := ⟨_, rfl⟩
    have HTS : Hid (ts = rest xs) := hts
    have HTL : Hid (ts.length = len) := by show _ = _; rw [hts, HRS.out.1, HL.out]
    have HTE : Hid (S = strOfNums ts) := by show _ = _; rw [HS.out, hts, HRS.out.1]
    have hne : ∀ h : 0 < S.size, (((S[0]'h).toNat : Int) == 45) = false := fun h => by
      rw [HX.out]
      simp
      intro h'
      exact hng ⟨by omega, by simpa using h'⟩
    have HTB : Hid (∀ z ∈ ts, 0 ≤ z ∧ z ≤ 255) := by rw [hts, HRS.out.1]; exact HB.out
    clear hts
    by_cases c1 : len = 10
    · have c1' : ((len : Nat) : Int) = 10 := by omega
      have h4s : 4 < S.size := by omega
      have h7s : 7 < S.size := by omega
      have X4 : Hid (((S[4]'h4s).toNat : Int) = ts[4]?.getD 0) := by
        have := nums_at ts HTB.out 4 (by rw [← HTE.out]; exact h4s)
        simp only [← HTE.out] at this
        exact this
      have X7 : Hid (((S[7]'h7s).toNat : Int) = ts[7]?.getD 0) := by
        have := nums_at ts HTB.out 7 (by rw [← HTE.out]; exact h7s)
        simp only [← HTE.out] at this
        exact this
      by_cases c2 : ts[4]?.getD 0 = 45
      · by_cases c3 : ts[7]?.getD 0 = 45
        · have x4 := X4.out
          have x7 := X7.out
          rw [c2] at x4
          rw [c3] at x7
          obtain ⟨A1, hA1⟩ : ∃ A, A = S.extract 0 4 := ⟨_, rfl⟩
          obtain ⟨A2, hA2⟩ : ∃ A, A = S.extract 5 7 := ⟨_, rfl⟩
          obtain ⟨A3, hA3⟩ : ∃ A, A = S.extract 8 10 := ⟨_, rfl⟩
          have HA1 : Hid (A1 = strOfNums (ts.take 4)) := by show _ = _; rw [hA1, HTE.out, nums_cut]; rfl
          have HA2 : Hid (A2 = strOfNums ((ts.drop 5).take 2)) := by show _ = _; rw [hA2, HTE.out, nums_cut]
          have HA3 : Hid (A3 = strOfNums (ts.drop 8)) := by show _ = _; rw [hA3, HTE.out, nums_cut, List.take_of_length_le (by rw [List.length_drop, HTL.out]; omega)]
          have e1 := hA1.symm
          have e2 := hA2.symm
          have e3 := hA3.symm
          clear hA1 hA2 hA3
          obtain ⟨D1, hD1⟩ : ∃ D, D = dgv (ts.take 4) := ⟨_, rfl⟩
          obtain ⟨D2, hD2⟩ : ∃ D, D = dgv ((ts.drop 5).take 2) := ⟨_, rfl⟩
          obtain ⟨D3, hD3⟩ : ∃ D, D = dgv (ts.drop 8) := ⟨_, rfl⟩
          have b1 : -1 ≤ D1 ∧ D1 ≤ 999999999 := by rw [hD1]; exact dgv_range _ (by simp; omega)
          have b2 : -1 ≤ D2 ∧ D2 ≤ 999999999 := by rw [hD2]; exact dgv_range _ (by simp; omega)
          have b3 : -1 ≤ D3 ∧ D3 ≤ 999999999 := by rw [hD3]; exact dgv_range _ (by rw [List.length_drop, HTL.out]; omega)
          have G1 : Hid (∀ v, Calls Tryd.prog 33 #[.string A1] v fun e w' => e = .returned (.int .i64 D1) ∧ w' = v) := fun v => by rw [HA1.out, hD1]; exact rdigits_v _ v (fun z hz => HTB.out z (List.mem_of_mem_take hz)) (by simp; omega)
          have G2 : Hid (∀ v, Calls Tryd.prog 33 #[.string A2] v fun e w' => e = .returned (.int .i64 D2) ∧ w' = v) := fun v => by rw [HA2.out, hD2]; exact rdigits_v _ v (fun z hz => HTB.out z (List.mem_of_mem_drop (List.mem_of_mem_take hz))) (by simp; omega)
          have G3 : Hid (∀ v, Calls Tryd.prog 33 #[.string A3] v fun e w' => e = .returned (.int .i64 D3) ∧ w' = v) := fun v => by rw [HA3.out, hD3]; exact rdigits_v _ v (fun z hz => HTB.out z (List.mem_of_mem_drop hz)) (by rw [List.length_drop, HTL.out]; omega)
          have HD1 : Hid (D1 = dgv ((rest xs).take 4)) := by rw [← HTS.out]; exact hD1
          have HD2 : Hid (D2 = dgv (((rest xs).drop 5).take 2)) := by rw [← HTS.out]; exact hD2
          have HD3 : Hid (D3 = dgv ((rest xs).drop 8)) := by rw [← HTS.out]; exact hD3
          clear hD1 hD2 hD3 c2 c3 X4 X7
          have hwr : IntKind.i64.wrap D1 = D1 := by rw [IntKind.wrap_i64]; omega
          have RT : Hid (∀ v, Calls Tryd.prog 23 #[.agg #[.int .i64 D1, .int .i64 D2, .int .i64 D3]] v fun e w' => e = .returned (.string (strOfNums (if Gd D1 D2 D3 then txt D1 D2 D3 else []))) ∧ Below v.heap.size v w') := fun v => rtext_any D1 D2 D3 v (by omega) (by omega) (by omega) (by omega)
          obtain ⟨R, hR⟩ : ∃ R, R = strOfNums (if Gd D1 D2 D3 then txt D1 D2 D3 else []) := ⟨_, rfl⟩
          rw [← hR] at RT
          have HC : Hid (∀ y m d, parseN xs = some (y, m, d) → 0 ≤ D1 ∧ D1 = y ∧ D2 = m ∧ D3 = d) := fun y m d h => by
            have := parse_cand xs D1 D2 D3 (by rw [HRS.out.2, HD1.out]; omega) HD2.out HD3.out h
            rw [← HD1.out] at this
            exact this.2
          have HR : Hid (R = strOfNums (if Gd D1 D2 D3 then txt D1 D2 D3 else [])) := hR
          clear hR
          go_wp2
          go_cut [6] (fun p wr => p = .pointer (some ⟨w.heap.size + 1, 0, none⟩) ∧ Hid (TwoMade w wr D1 D2 D3))
          case first =>
            go_region_held3 (fun w' => True) (exact True.intro) (first | (go_at_call_of 33 A1; refine (G1.out _).mono ?_; rintro e w2 ⟨rfl, hw⟩; obtain rfl := hw.symm; clear hw) | (go_at_call_of 33 A2; refine (G2.out _).mono ?_; rintro e w3 ⟨rfl, hw⟩; obtain rfl := hw.symm; clear hw) | (go_at_call_of 33 A3; refine (G3.out _).mono ?_; rintro e w4 ⟨rfl, hw⟩; obtain rfl := hw.symm; clear hw))
            all_goals
              go_wp2_with fail
              go_meet
              case rel => exact ⟨rfl, two_made w 37 D1 D2 D3⟩
          case rest =>
            obtain ⟨rfl, TM⟩ := hcut
            obtain ⟨v, rfl⟩ : ∃ v : World, v = wc := ⟨wc, rfl⟩
            have hq0 := TM.out.date.c0
            have hq1 := TM.out.date.c1
            have hq2 := TM.out.date.c2
            by_cases hneg1 : D1 < 0
            · have NO : Hid (∀ y m d, ¬ parseN xs = some (y, m, d)) := fun y m d h => by have := (HC.out y m d h).1; omega
              have z0 := TM.out.zero.c0
              have z1 := TM.out.zero.c1
              have z2 := TM.out.zero.c2
              have f0 := TM.out.free 0
              have f1 := TM.out.free 1
              have f2 := TM.out.free 2
              go_wp2_with (first | (go_at_call 33; refine (G1.out _).mono ?_; rintro e w2 ⟨rfl, hw⟩; obtain rfl := hw.symm; clear hw))
              obtain ⟨r0, r1, r2⟩ := set_same3 TM.out.zero
              (try simp only [Exit.inBlock, Exit.then])
              refine bodyPost_ret (v := .tuple #[.agg #[.int .i64 0, .int .i64 0, .int .i64 0], .bool false]) (by simp [results, Tryd.results24, go_sem, r0, r1, r2]) rfl ?_
              exact ⟨⟨fun y m d h => absurd h (NO.out y m d), fun _ => rfl⟩, ((TM.out.below.setCell (Nat.le_refl _) _).setCell (Nat.le_refl _) _).setCell (Nat.le_refl _) _⟩
            · by_cases hok : Gd D1 D2 D3 ∧ txt D1 D2 D3 = xs
              · have HPS : Hid (parseN xs = some (D1, D2, D3)) := by rw [← hok.2]; exact parse_txt hok.1
                have heq : (R.toList == S.toList) = true := by
                  rw [HR.out, HS.out, if_pos hok.1, hok.2]; simp
                clear hok
                go_wp2_with (first | (go_at_call 33; refine (G1.out _).mono ?_; rintro e w2 ⟨rfl, hw⟩; obtain rfl := hw.symm; clear hw) | (go_at_call 23; refine (RT.out _).mono ?_; rintro e w5 ⟨rfl, hb5⟩; have HB5 : Hid (Below w.heap.size w w5) := TM.out.below.trans (hb5.mono TM.out.below.size); have z0 := (TM.out.zero.below hb5 (by rw [TM.out.size]; omega)).c0; have z1 := (TM.out.zero.below hb5 (by rw [TM.out.size]; omega)).c1; have z2 := (TM.out.zero.below hb5 (by rw [TM.out.size]; omega)).c2; have p0 := (TM.out.date.below hb5 (by rw [TM.out.size]; omega)).c0; have p1 := (TM.out.date.below hb5 (by rw [TM.out.size]; omega)).c1; have p2 := (TM.out.date.below hb5 (by rw [TM.out.size]; omega)).c2; have f0 := (hb5.frozen (p := ⟨w.heap.size, 0, none⟩) (by show w.heap.size < _; rw [TM.out.size]; omega)).trans (TM.out.free 0); have f1 := (hb5.frozen (p := ⟨w.heap.size, 1, none⟩) (by show w.heap.size < _; rw [TM.out.size]; omega)).trans (TM.out.free 1); have f2 := (hb5.frozen (p := ⟨w.heap.size, 2, none⟩) (by show w.heap.size < _; rw [TM.out.size]; omega)).trans (TM.out.free 2); clear hb5))
                obtain ⟨r0, r1, r2⟩ := set_same3 (DateAt.mk z0 z1 z2)
                (try simp only [Exit.inBlock, Exit.then])
                refine bodyPost_ret (v := .tuple #[.agg #[.int .i64 D1, .int .i64 D2, .int .i64 D3], .bool true]) (by simp [results, Tryd.results24, go_sem, r0, r1, r2]) rfl ?_
                refine ⟨⟨fun y m d h => ?_, fun h => absurd h (by rw [HPS.out]; simp)⟩, ((HB5.out.setCell (Nat.le_refl _) _).setCell (Nat.le_refl _) _).setCell (Nat.le_refl _) _⟩
                rw [HPS.out] at h
                cases h
                rfl
              · have NO : Hid (∀ y m d, ¬ parseN xs = some (y, m, d)) := fun y m d h => by
                  obtain ⟨_, e1, e2, e3⟩ := HC.out y m d h
                  apply hok
                  have := parse_some h
                  rw [e1, e2, e3]; exact this
                have heq : (R.toList == S.toList) = false := by
                  rw [HR.out, HS.out]
                  simp only [beq_eq_false_iff_ne, ne_eq]
                  intro he
                  by_cases hg : Gd D1 D2 D3
                  · rw [if_pos hg] at he
                    exact hok ⟨hg, str_inj (txt_by hg) HB.out he⟩
                  · rw [if_neg hg] at he
                    have := str_inj (fun z hz => by simp at hz) HB.out he
                    have hl' := HL.out
                    rw [← this] at hl'
                    simp at hl'
                    omega
                clear hok
                go_wp2_with (first | (go_at_call 33; refine (G1.out _).mono ?_; rintro e w2 ⟨rfl, hw⟩; obtain rfl := hw.symm; clear hw) | (go_at_call 23; refine (RT.out _).mono ?_; rintro e w5 ⟨rfl, hb5⟩; have HB5 : Hid (Below w.heap.size w w5) := TM.out.below.trans (hb5.mono TM.out.below.size); have z0 := (TM.out.zero.below hb5 (by rw [TM.out.size]; omega)).c0; have z1 := (TM.out.zero.below hb5 (by rw [TM.out.size]; omega)).c1; have z2 := (TM.out.zero.below hb5 (by rw [TM.out.size]; omega)).c2; have f0 := (hb5.frozen (p := ⟨w.heap.size, 0, none⟩) (by show w.heap.size < _; rw [TM.out.size]; omega)).trans (TM.out.free 0); have f1 := (hb5.frozen (p := ⟨w.heap.size, 1, none⟩) (by show w.heap.size < _; rw [TM.out.size]; omega)).trans (TM.out.free 1); have f2 := (hb5.frozen (p := ⟨w.heap.size, 2, none⟩) (by show w.heap.size < _; rw [TM.out.size]; omega)).trans (TM.out.free 2); clear hb5))
                obtain ⟨r0, r1, r2⟩ := set_same3 (DateAt.mk z0 z1 z2)
                (try simp only [Exit.inBlock, Exit.then])
                refine bodyPost_ret (v := .tuple #[.agg #[.int .i64 0, .int .i64 0, .int .i64 0], .bool false]) (by simp [results, Tryd.results24, go_sem, r0, r1, r2]) rfl ?_
                exact ⟨⟨fun y m d h => absurd h (NO.out y m d), fun _ => rfl⟩, ((HB5.out.setCell (Nat.le_refl _) _).setCell (Nat.le_refl _) _).setCell (Nat.le_refl _) _⟩
        · have NO : Hid (∀ y m d, ¬ parseN xs = some (y, m, d)) := fun y m d h => by
            have := (parse_cand xs _ _ _ rfl rfl rfl h).1.2.2
            rw [← HTS.out] at this
            exact c3 this
          have x4 := X4.out
          have x7 : ¬ ((S[7]'h7s).toNat : Int) = 45 := by rw [X7.out]; exact c3
          rw [c2] at x4
          clear c2 c3
          go_wp2
          go_returns
          exact ⟨⟨fun y m d h => absurd h (NO.out y m d), fun _ => rfl⟩, (Below.refl _ _).alloc (Nat.le_refl _) _⟩
      · have NO : Hid (∀ y m d, ¬ parseN xs = some (y, m, d)) := fun y m d h => by
          have := (parse_cand xs _ _ _ rfl rfl rfl h).1.2.1
          rw [← HTS.out] at this
          exact c2 this
        have x4 : ¬ ((S[4]'h4s).toNat : Int) = 45 := by rw [X4.out]; exact c2
        clear c2
        go_wp2
        go_returns
        exact ⟨⟨fun y m d h => absurd h (NO.out y m d), fun _ => rfl⟩, (Below.refl _ _).alloc (Nat.le_refl _) _⟩
    · have NO : Hid (∀ y m d, ¬ parseN xs = some (y, m, d)) := fun y m d h => by
        have := (parse_cand xs _ _ _ rfl rfl rfl h).1.1
        rw [← HTS.out, HTL.out] at this
        omega
      have c1' : ¬ ((len : Nat) : Int) = 10 := by omega
      go_wp2
      all_goals go_returns
      all_goals exact ⟨⟨fun y m d h => absurd h (NO.out y m d), fun _ => rfl⟩, (Below.refl _ _).alloc (Nat.le_refl _) _⟩
end Go.Proofs.YtglommaegcaodaaDoor
