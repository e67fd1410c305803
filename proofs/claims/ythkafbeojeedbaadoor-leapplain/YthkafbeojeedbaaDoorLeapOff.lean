/-
  What the landed offsets and lengths of days, counts of seconds and days of counts (leap: Offset, Length, TAI, UTC) answer.
-/
import Derived.Test.YthkafbeojeedbaaDoorLeapTB
import Derived.Test.YthkafbeojeedbaaDoorCivilD
namespace Go.Proofs.YthkafbeojeedbaaDoor
open Go.RowKit
set_option linter.unusedVariables false

theorem off_next {tb : Tb} {day N : Int} {k : Nat} {p : Int × Int} (h : tb[k]? = some p) : lastOff (tb.drop k) day N = if p.1 ≤ day then lastOff (tb.drop (k + 1)) day p.2 else N := by
  have hk : k < tb.length := (List.getElem?_eq_some_iff.1 h).1
  have hp : tb[k] = p := (List.getElem?_eq_some_iff.1 h).2
  rw [List.drop_eq_getElem_cons hk, hp]
  rfl
/-- Has a line been passed? -/
def er (k : Nat) : Int := if k = 0 then 4 else 0
set_option maxHeartbeats 1000000 in
theorem loff_any (p : Addr) (tb : Tb) (xs : List Int) (day : Int) (w : World) (h : TB w p tb xs) (hg : GoodT tb) (h1 : -9223372036854775808 ≤ day) (h2 : day ≤ 9223372036854775807) :
    Calls Tryd.prog 14 #[.pointer (some p), .int .i64 day] w fun e w' => e = .returned (.tuple #[.int .i64 (if Known tb day then offT tb day else 0), .int .i64 (if Known tb day then 0 else 4)]) ∧ Below w.heap.size w w' := by
  obtain ⟨⟨B, b, v, rfl, hT⟩, _⟩ := h
  have HTB : Hid (LTab w B b v tb) := hT
  by_cases hr : day < -4371587 ∨ 2932896 < day
  · have hk : ¬ Known tb day := fun h => by have a := h.1; have b := h.2.1; omega
    rw [if_neg hk, if_neg hk]
    have CO : Hid (∀ w, Calls Tryd.prog 16 #[.int .i64 day] w fun e w' => e = .returned (.tuple #[.agg #[.int .i64 0, .int .i64 0, .int .i64 0], .int .i64 1]) ∧ Below w.heap.size w w') := fun w => of_out day w hr h1 h2
    clear hk hr hT
    go_enter Tryd.func14, Tryd.ntmps14
    go_wp2_with (go_at_call 16; refine (CO.out _).mono ?_; rintro e w1 ⟨rfl, hb1⟩; have HB1 : Hid (Below w.heap.size w w1) := hb1; clear hb1)
    go_ret2
    exact ⟨rfl, HB1.out.alloc HB1.out.size _⟩
  · have CO : Hid (∀ w, Calls Tryd.prog 16 #[.int .i64 day] w fun e w' => (∃ y m d, e = .returned (.tuple #[.agg #[.int .i64 y, .int .i64 m, .int .i64 d], .int .i64 0])) ∧ Below w.heap.size w w') := fun w => (of_in day w (by omega) (by omega)).mono (by rintro e w' ⟨y, m, d, rfl, _, _, hb⟩; exact ⟨⟨y, m, d, rfl⟩, hb⟩)
    obtain ⟨len, hlen⟩ : ∃ len, len = tb.length := ⟨_, rfl⟩
    have hl1 : 1 ≤ len := by rw [hlen]; exact List.length_pos_iff.2 hg.ne
    have hfew := hg.few
    have HLN : Hid (len = tb.length) := hlen
    rw [← hlen] at hfew
    obtain ⟨gv, cv, hv, hcv, hgv, _⟩ := hT.shape hg.ne
    rw [← hlen] at hv hcv
    have HCE : Hid (∀ u, LTab u B b v tb → ∀ (k : Nat) (p : Int × Int), tb[k]? = some p → u.cell? ⟨gv, k * 2, none⟩ = some (.int .i64 p.1) ∧ u.cell? ⟨gv, k * 2 + 1, none⟩ = some (.int .i64 p.2)) := fun u h k p hk => by
      obtain ⟨gv', cv', hv', _, _, hc⟩ := h.shape hg.ne
      rw [hv] at hv'
      injection hv' with h1 _ _
      injection h1 with h2
      injection h2 with h3
      rw [← h3] at hc
      exact hc k p hk
    have HKN : Hid (Known tb day ↔ ∃ p, tb[0]? = some p ∧ p.1 ≤ day) := by
      show _ ↔ _
      obtain ⟨p0, r0, htb⟩ : ∃ p r, tb = p :: r := by
        cases tb with
        | nil => exact absurd rfl hg.ne
        | cons p r => exact ⟨p, r, rfl⟩
      have hd0 : d0 tb = p0.1 := by rw [htb]; rfl
      constructor
      · intro h; exact ⟨p0, by rw [htb]; rfl, by rw [← hd0]; exact h.2.2⟩
      · rintro ⟨p, hp, hle⟩
        rw [htb] at hp
        simp at hp
        subst hp
        exact ⟨by omega, by omega, by rw [hd0]; exact hle⟩
    subst hv
    obtain ⟨ro, hro⟩ : ∃ r, r = (if Known tb day then offT tb day else 0) := ⟨_, rfl⟩
    obtain ⟨re, hre⟩ : ∃ r : Int, r = (if Known tb day then 0 else 4) := ⟨_, rfl⟩
    have HRO : Hid (ro = (if Known tb day then offT tb day else 0)) := hro
    have HRE : Hid (re = (if Known tb day then 0 else 4)) := hre
    rw [← hro, ← hre]
    clear hlen hgv hro hre hT hg hr
    go_enter Tryd.func14, Tryd.ntmps14
    go_wp2_with (go_at_call 16; refine (CO.out _).mono ?_; rintro e w1 ⟨⟨y, m, d, rfl⟩, hb1⟩; have HB1 : Hid (Below w.heap.size w w1) := hb1; have HT1 : Hid (LTab (w1.alloc (.cells #[.int .i64 y, .int .i64 m, .int .i64 d] 38)) B b (.slice (some ⟨gv, 0, none⟩) len cv) tb) := (HTB.out.step hb1 (Nat.le_refl _)).past _; have t1 := HT1.out.c0; clear hb1)
    go_loopw [8, 9, 24] (fun ov ev iv wr => ∃ (N : Int) (k : Nat), ov = .int .i64 N ∧ ev = .int .i64 (er k) ∧ iv = .int .i64 k ∧ k ≤ len ∧ Hid (LTab wr B b (.slice (some ⟨gv, 0, none⟩) len cv) tb) ∧ Hid (Below w.heap.size w wr) ∧ Hid (offT tb day = lastOff (tb.drop k) day N) ∧ Hid (k = 0 → N = 0) ∧ Hid (0 < k → Known tb day)) (fun _ _ iv _ => len - (intOf iv).toNat)
    case atStart => exact ⟨0, 0, rfl, rfl, rfl, by omega, HT1, HB1.out.alloc HB1.out.size _, rfl, fun _ => rfl, fun h => absurd h (by omega)⟩
    case round =>
      obtain ⟨N, k, rfl, rfl, rfl, hk, HT, HB, HO, HZ, HK⟩ := hrel
      by_cases hlt : k < len
      · obtain ⟨p, hp⟩ : ∃ p, tb[k]? = some p := ⟨tb[k]'(by rw [← HLN.out]; exact hlt), by simp [show k < tb.length by rw [← HLN.out]; exact hlt]⟩
        have c0 := (HCE.out _ HT.out k p hp).1
        have c1 := (HCE.out _ HT.out k p hp).2
        have HON := HO.out
        rw [off_next hp] at HON
        obtain ⟨pd', po⟩ := p
        simp only at c0 c1 HON
        by_cases hle : pd' ≤ day
        · rw [if_pos hle] at HON
          have HON' : Hid (offT tb day = lastOff (tb.drop (k + 1)) day po) := HON
          have HKN' : Hid (Known tb day) := by
            cases k with
            | zero => exact HKN.out.2 ⟨_, hp, hle⟩
            | succ k => exact HK.out (by omega)
          clear HON hp
          go_wp2
          go_roundw
          case rel => exact ⟨po, k + 1, rfl, by simp [er], by go_num, by omega, HT.out.past _, HB.out.alloc HB.out.size _, HON', fun h => absurd h (by omega), fun _ => HKN'.out⟩
          case measure => simp [intOf]; omega
        · rw [if_neg hle] at HON
          have HON' : Hid (offT tb day = N) := HON
          have HF : Hid (ro = N ∧ re = er k) := by
            show _ ∧ _
            rw [HRO.out, HRE.out]
            cases k with
            | zero =>
              have hn : ¬ Known tb day := fun h => by
                obtain ⟨q, h1, h2⟩ := HKN.out.1 h
                rw [hp] at h1
                cases h1
                exact hle h2
              rw [if_neg hn, if_neg hn]
              exact ⟨(HZ.out rfl).symm, rfl⟩
            | succ k =>
              have hn := HK.out (by omega)
              rw [if_pos hn, if_pos hn]
              exact ⟨HON, by simp [er]⟩
          clear HON hp
          go_wp2
          go_ret2
          exact ⟨by rw [HF.out.1, HF.out.2]; rfl, HB.out.alloc HB.out.size _⟩
      · have hkl : k = len := by omega
        have HF : Hid (ro = N ∧ re = er k) := by
          show _ ∧ _
          have hn := HK.out (by omega)
          rw [HRO.out, HRE.out, if_pos hn, if_pos hn, HO.out, List.drop_of_length_le (by rw [← HLN.out]; omega)]
          exact ⟨rfl, by simp [er]; omega⟩
        subst hkl
        go_wp2
        go_ret2
        exact ⟨by rw [HF.out.1, HF.out.2]; rfl, HB.out⟩
theorem llen_any (p : Addr) (tb : Tb) (xs : List Int) (day : Int) (w : World) (h : TB w p tb xs) (hg : GoodT tb) (h1 : -9223372036854775808 ≤ day) (h2 : day ≤ 9223372036854775807) :
    Calls Tryd.prog 11 #[.pointer (some p), .int .i64 day] w fun e w' => e = .returned (.tuple #[.int .i64 (if Known tb day then lenT tb day else 0), .int .i64 (if Known tb day then 0 else 4)]) ∧ Below w.heap.size w w' := by
  have HTB : Hid (TB w p tb xs) := h
  by_cases hk : Known tb day
  · have ho := offT_range hg day
    have ho2 := offT_range hg (day + 1)
    have hkk := hk
    obtain ⟨k1, k2, _⟩ := hkk
    obtain ⟨A, hA⟩ : ∃ A, A = offT tb day := ⟨_, rfl⟩
    obtain ⟨C, hC⟩ : ∃ C, C = offT tb (day + 1) := ⟨_, rfl⟩
    have C1 : Hid (∀ u, TB u p tb xs → Calls Tryd.prog 14 #[.pointer (some p), .int .i64 day] u fun e w' => e = .returned (.tuple #[.int .i64 A, .int .i64 0]) ∧ Below u.heap.size u w') := fun u hu => by
      have h := loff_any p tb xs day u hu hg h1 h2
      rw [if_pos hk, if_pos hk, ← hA] at h
      exact h
    rw [if_pos hk, if_pos hk]
    rw [← hA] at ho
    rw [← hC] at ho2
    by_cases hn : day + 1 ≤ 2932896
    · have hk2 : Known tb (day + 1) := hk.on (by omega) hn
      have C2 : Hid (∀ u, TB u p tb xs → Calls Tryd.prog 14 #[.pointer (some p), .int .i64 (day + 1)] u fun e w' => e = .returned (.tuple #[.int .i64 C, .int .i64 0]) ∧ Below u.heap.size u w') := fun u hu => by
        have h := loff_any p tb xs (day + 1) u hu hg (by omega) (by omega)
        rw [if_pos hk2, if_pos hk2, ← hC] at h
        exact h
      have HL : Hid (86400 + C - A = lenT tb day) := by show _ = _; unfold lenT; rw [if_pos hn, hA, hC]
      clear hA hC hk hk2 h
      go_enter Tryd.func11, Tryd.ntmps11
      go_wp2_with (first | (go_at_call 14; have hgo := HT1.out; clear hgo; refine (C2.out _ HT1.out).mono ?_; rintro e w2 ⟨rfl, hb2⟩; have HB2 : Hid (Below w.heap.size w w2) := HB1.out.trans (hb2.mono HB1.out.size); have HT2 : Hid (TB w2 p tb xs) := HT1.out.step hb2 (Nat.le_refl _); clear hb2) | (go_at_call 14; refine (C1.out _ HTB.out).mono ?_; rintro e w1 ⟨rfl, hb1⟩; have HB1 : Hid (Below w.heap.size w w1) := hb1; have HT1 : Hid (TB w1 p tb xs) := HTB.out.step hb1 (Nat.le_refl _); clear hb1))
      go_ret2
      exact ⟨by rw [← HL.out]; rfl, HB2.out⟩
    · have hk2 : ¬ Known tb (day + 1) := fun h => hn h.2.1
      have C2 : Hid (∀ u, TB u p tb xs → Calls Tryd.prog 14 #[.pointer (some p), .int .i64 (day + 1)] u fun e w' => e = .returned (.tuple #[.int .i64 0, .int .i64 4]) ∧ Below u.heap.size u w') := fun u hu => by
        have h := loff_any p tb xs (day + 1) u hu hg (by omega) (by omega)
        rw [if_neg hk2, if_neg hk2] at h
        exact h
      have HL : Hid (86400 = lenT tb day) := by show _ = _; unfold lenT; rw [if_neg hn]
      clear hA hC hk hk2 h
      go_enter Tryd.func11, Tryd.ntmps11
      go_wp2_with (first | (go_at_call 14; have hgo := HT1.out; clear hgo; refine (C2.out _ HT1.out).mono ?_; rintro e w2 ⟨rfl, hb2⟩; have HB2 : Hid (Below w.heap.size w w2) := HB1.out.trans (hb2.mono HB1.out.size); have HT2 : Hid (TB w2 p tb xs) := HT1.out.step hb2 (Nat.le_refl _); clear hb2) | (go_at_call 14; refine (C1.out _ HTB.out).mono ?_; rintro e w1 ⟨rfl, hb1⟩; have HB1 : Hid (Below w.heap.size w w1) := hb1; have HT1 : Hid (TB w1 p tb xs) := HTB.out.step hb1 (Nat.le_refl _); clear hb1))
      go_ret2
      exact ⟨by rw [← HL.out]; rfl, HB2.out⟩
  · have C1 : Hid (∀ u, TB u p tb xs → Calls Tryd.prog 14 #[.pointer (some p), .int .i64 day] u fun e w' => e = .returned (.tuple #[.int .i64 0, .int .i64 4]) ∧ Below u.heap.size u w') := fun u hu => by
      have h := loff_any p tb xs day u hu hg h1 h2
      rw [if_neg hk, if_neg hk] at h
      exact h
    rw [if_neg hk, if_neg hk]
    clear hk h
    go_enter Tryd.func11, Tryd.ntmps11
    go_wp2_with (go_at_call 14; refine (C1.out _ HTB.out).mono ?_; rintro e w1 ⟨rfl, hb1⟩; have HB1 : Hid (Below w.heap.size w w1) := hb1; have HT1 : Hid (TB w1 p tb xs) := HTB.out.step hb1 (Nat.le_refl _); clear hb1)
    go_ret2
    exact ⟨rfl, HB1.out⟩
set_option maxHeartbeats 1000000 in
theorem ltai_any (p : Addr) (tb : Tb) (xs : List Int) (day sec : Int) (w : World) (h : TB w p tb xs) (hg : GoodT tb) (h1 : -9223372036854775808 ≤ day) (h2 : day ≤ 9223372036854775807) (h3 : -9223372036854775808 ≤ sec) (h4 : sec ≤ 9223372036854775807) :
    Calls Tryd.prog 12 #[.pointer (some p), .int .i64 day, .int .i64 sec] w fun e w' => e = .returned (.tuple #[.int .i64 (if Known tb day ∧ 0 ≤ sec ∧ sec < lenT tb day then st tb day + sec else 0), .int .i64 (if Known tb day then if 0 ≤ sec ∧ sec < lenT tb day then 0 else 1 else 4)]) ∧ Below w.heap.size w w' := by
  have HTB : Hid (TB w p tb xs) := h
  by_cases hk : Known tb day
  · have ho := offT_range hg day
    have hlr := lenT_range hg hk
    have hkk := hk
    obtain ⟨k1, k2, _⟩ := hkk
    obtain ⟨A, hA⟩ : ∃ A, A = offT tb day := ⟨_, rfl⟩
    obtain ⟨L, hL⟩ : ∃ L, L = lenT tb day := ⟨_, rfl⟩
    have C1 : Hid (∀ u, TB u p tb xs → Calls Tryd.prog 11 #[.pointer (some p), .int .i64 day] u fun e w' => e = .returned (.tuple #[.int .i64 L, .int .i64 0]) ∧ Below u.heap.size u w') := fun u hu => by
      have h := llen_any p tb xs day u hu hg h1 h2
      rw [if_pos hk, if_pos hk, ← hL] at h
      exact h
    have C2 : Hid (∀ u, TB u p tb xs → Calls Tryd.prog 14 #[.pointer (some p), .int .i64 day] u fun e w' => e = .returned (.tuple #[.int .i64 A, .int .i64 0]) ∧ Below u.heap.size u w') := fun u hu => by
      have h := loff_any p tb xs day u hu hg h1 h2
      rw [if_pos hk, if_pos hk, ← hA] at h
      exact h
    have hst : st tb day = day * 86400 + A := by rw [hA]; rfl
    rw [← hL] at hlr
    rw [← hA] at ho
    by_cases hs : 0 ≤ sec ∧ sec < L
    · rw [if_pos ⟨hk, by rw [← hL]; exact hs⟩, if_pos hk, if_pos (by rw [← hL]; exact hs), hst]
      obtain ⟨s1, s2⟩ := hs
      have HQ : Hid (day * 86400 + A + sec = day * 86400 + sec + A) := by show _ = _; omega
      have s1b : decide (sec < 0) = false := decide_eq_false (by omega)
      have s2b : ¬ L ≤ sec := by omega
      clear hA hL hk h hst
      go_enter Tryd.func12, Tryd.ntmps12
      go_wp2_with (first | (go_at_call 14; have hgo := HT1.out; clear hgo; refine (C2.out _ HT1.out).mono ?_; rintro e w2 ⟨rfl, hb2⟩; have HB2 : Hid (Below w.heap.size w w2) := HB1.out.trans (hb2.mono HB1.out.size); have HT2 : Hid (TB w2 p tb xs) := HT1.out.step hb2 (Nat.le_refl _); clear hb2) | (go_at_call 11; refine (C1.out _ HTB.out).mono ?_; rintro e w1 ⟨rfl, hb1⟩; have HB1 : Hid (Below w.heap.size w w1) := hb1; have HT1 : Hid (TB w1 p tb xs) := HTB.out.step hb1 (Nat.le_refl _); clear hb1))
      go_ret2
      exact ⟨by rw [HQ.out]; rfl, HB2.out⟩
    · rw [if_neg (by rw [← hL]; exact fun h => hs h.2), if_pos hk, if_neg (by rw [← hL]; exact hs)]
      by_cases s1 : sec < 0
      · have s1b : decide (sec < 0) = true := decide_eq_true s1
        clear hA hL hk h hst hs
        go_enter Tryd.func12, Tryd.ntmps12
        go_wp2_with (go_at_call 11; refine (C1.out _ HTB.out).mono ?_; rintro e w1 ⟨rfl, hb1⟩; have HB1 : Hid (Below w.heap.size w w1) := hb1; have HT1 : Hid (TB w1 p tb xs) := HTB.out.step hb1 (Nat.le_refl _); clear hb1)
        go_ret2
        exact ⟨rfl, HB1.out⟩
      · have s1b : decide (sec < 0) = false := decide_eq_false s1
        have s2 : L ≤ sec := by omega
        clear hA hL hk h hst hs
        go_enter Tryd.func12, Tryd.ntmps12
        go_wp2_with (go_at_call 11; refine (C1.out _ HTB.out).mono ?_; rintro e w1 ⟨rfl, hb1⟩; have HB1 : Hid (Below w.heap.size w w1) := hb1; have HT1 : Hid (TB w1 p tb xs) := HTB.out.step hb1 (Nat.le_refl _); clear hb1)
        go_ret2
        exact ⟨rfl, HB1.out⟩
  · have C1 : Hid (∀ u, TB u p tb xs → Calls Tryd.prog 11 #[.pointer (some p), .int .i64 day] u fun e w' => e = .returned (.tuple #[.int .i64 0, .int .i64 4]) ∧ Below u.heap.size u w') := fun u hu => by
      have h := llen_any p tb xs day u hu hg h1 h2
      rw [if_neg hk, if_neg hk] at h
      exact h
    rw [if_neg (fun h => hk h.1), if_neg hk]
    clear hk h
    go_enter Tryd.func12, Tryd.ntmps12
    go_wp2_with (go_at_call 11; refine (C1.out _ HTB.out).mono ?_; rintro e w1 ⟨rfl, hb1⟩; have HB1 : Hid (Below w.heap.size w w1) := hb1; have HT1 : Hid (TB w1 p tb xs) := HTB.out.step hb1 (Nat.le_refl _); clear hb1)
    go_ret2
    exact ⟨rfl, HB1.out⟩
theorem at_near1 {tb : Tb} {t day sec : Int} (h : GoodT tb) (ha : At tb t day sec) : t.tdiv 86400 - 2 ≤ day ∧ day ≤ t.tdiv 86400 + 1 := by
  have e := ha.eq
  have r := offT_range h day
  have l := lenT_range h ha.known
  have a1 := ha.lo; have a2 := ha.hi
  unfold st at e
  rcases Int.le_total 0 t with c | c
  · rw [Int.tdiv_eq_ediv_of_nonneg c]; omega
  · have e2 := Int.neg_tdiv (-t) 86400
    rw [Int.neg_neg] at e2
    rw [e2, Int.tdiv_eq_ediv_of_nonneg (by omega)]; omega
/-- What comes back of a count. -/
structure URes (tb : Tb) (t : Int) (e : Ending) : Prop where
  good : ∀ day sec, At tb t day sec → e = .returned (.tuple #[.int .i64 day, .int .i64 sec, .int .i64 0])
  no : (∀ day sec, ¬ At tb t day sec) → e = .returned (.tuple #[.int .i64 0, .int .i64 0, .int .i64 4])
theorem URes.at {tb : Tb} {t day sec : Int} (hg : GoodT tb) (h : At tb t day sec) : URes tb t (.returned (.tuple #[.int .i64 day, .int .i64 sec, .int .i64 0])) :=
  ⟨fun d s h' => by obtain ⟨rfl, rfl⟩ := at_inj hg h h'; rfl, fun h' => absurd h (h' day sec)⟩
set_option maxRecDepth 4000 in
set_option maxHeartbeats 2000000 in
theorem lutc_any (p : Addr) (tb : Tb) (xs : List Int) (t : Int) (w : World) (h : TB w p tb xs) (hg : GoodT tb) (h1 : -9223372036854775808 ≤ t) (h2 : t ≤ 9223372036854775807) :
    Calls Tryd.prog 13 #[.pointer (some p), .int .i64 t] w fun e w' => URes tb t e ∧ Below w.heap.size w w' := by
  have HTB : Hid (TB w p tb xs) := h
  have hnr : ∀ day sec, At tb t day sec → t.tdiv 86400 - 2 ≤ day ∧ day ≤ t.tdiv 86400 + 1 := fun day sec ha => at_near1 hg ha
  have hq : -106751991167301 ≤ t.tdiv 86400 ∧ t.tdiv 86400 ≤ 106751991167301 := by
    rcases Int.le_total 0 t with c | c
    · rw [Int.tdiv_eq_ediv_of_nonneg c]; omega
    · have e2 := Int.neg_tdiv (-t) 86400
      rw [Int.neg_neg] at e2
      rw [e2, Int.tdiv_eq_ediv_of_nonneg (by omega)]; omega
  obtain ⟨q, hqd⟩ : ∃ q, q = t.tdiv 86400 := ⟨_, rfl⟩
  rw [← hqd] at hnr hq
  have HNR : Hid (∀ day sec, At tb t day sec → q - 2 ≤ day ∧ day ≤ q + 1) := hnr
  have HGT : Hid (GoodT tb) := hg
  have eq1 := hqd.symm
  clear hnr hqd h
  go_enter Tryd.func13, Tryd.ntmps13
  go_wp2
  go_loopw [4] (fun dv wr => ∃ (d : Int), dv = .int .i64 d ∧ q - 2 ≤ d ∧ d ≤ q + 2 ∧ Hid (TB wr p tb xs) ∧ Hid (Below w.heap.size w wr) ∧ Hid (∀ day sec, At tb t day sec → d ≤ day)) (fun dv _ => (q + 2 - intOf dv).toNat)
  case atStart => exact ⟨q - 2, by first | rfl | go_num, by omega, by omega, HTB, Below.refl _ _, fun day sec h => (HNR.out day sec h).1⟩
  case round =>
    obtain ⟨d, rfl, d1, d2, HT, HB, HA⟩ := hrel
    by_cases hd : d ≤ q + 1
    · by_cases hk : Known tb d
      · have hlr := lenT_range HGT.out hk
        have hor := offT_range HGT.out d
        have hkk := hk
        obtain ⟨k1, k2, _⟩ := hkk
        have ht : -500000000000 ≤ t ∧ t ≤ 500000000000 := by
          rcases Int.le_total 0 t with c | c
          · rw [Int.tdiv_eq_ediv_of_nonneg c] at eq1; omega
          · have e2 := Int.neg_tdiv (-t) 86400
            rw [Int.neg_neg] at e2
            rw [e2, Int.tdiv_eq_ediv_of_nonneg (by omega)] at eq1; omega
        obtain ⟨A, hA⟩ : ∃ A, A = st tb d := ⟨_, rfl⟩
        obtain ⟨L, hL⟩ : ∃ L, L = lenT tb d := ⟨_, rfl⟩
        have hAr : -400000000000 ≤ A ∧ A ≤ 400000000000 := by rw [hA]; unfold st; omega
        rw [← hL] at hlr
        have C1 : Hid (∀ u, TB u p tb xs → Calls Tryd.prog 12 #[.pointer (some p), .int .i64 d, .int .i64 0] u fun e w' => e = .returned (.tuple #[.int .i64 A, .int .i64 0]) ∧ Below u.heap.size u w') := fun u hu => by
          have h := ltai_any p tb xs d 0 u hu HGT.out (by omega) (by omega) (by omega) (by omega)
          rw [if_pos ⟨hk, by omega, by rw [← hL]; omega⟩, if_pos hk, if_pos ⟨by omega, by rw [← hL]; omega⟩, ← hA, Int.add_zero] at h
          exact h
        have C2 : Hid (∀ u, TB u p tb xs → Calls Tryd.prog 11 #[.pointer (some p), .int .i64 d] u fun e w' => e = .returned (.tuple #[.int .i64 L, .int .i64 0]) ∧ Below u.heap.size u w') := fun u hu => by
          have h := llen_any p tb xs d u hu HGT.out (by omega) (by omega)
          rw [if_pos hk, if_pos hk, ← hL] at h
          exact h
        by_cases c1 : t < A
        · have HNX : Hid (∀ day sec, At tb t day sec → d + 1 ≤ day) := fun day sec h => by
            have a := HA.out day sec h
            by_cases e : day = d
            · subst e
              have e1 := h.eq; have e2 := h.lo
              rw [← hA] at e1
              omega
            · omega
          have c1b : decide (t < A) = true := decide_eq_true c1
          clear hk hA hL hor eq1
          go_wp2_with (go_at_call 12; refine (C1.out _ HT.out).mono ?_; rintro e w1 ⟨rfl, hb1⟩; have HB1 : Hid (Below w.heap.size w w1) := HB.out.trans (hb1.mono HB.out.size); have HT1 : Hid (TB w1 p tb xs) := HT.out.step hb1 (Nat.le_refl _); clear hb1)
          go_roundw
          case rel => exact ⟨d + 1, by first | rfl | go_num, by omega, by omega, HT1, HB1, HNX⟩
          case measure => simp [intOf]; omega
        · have c1b : decide (t < A) = false := decide_eq_false c1
          by_cases c2 : t - A < L
          · have HAT : Hid (At tb t d (t - A)) := ⟨hk, by omega, by rw [← hL]; exact c2, by rw [← hA]; omega⟩
            clear hk hA hL hor eq1
            go_wp2_with (first | (go_at_call 11; have hgo := HT1.out; clear hgo; refine (C2.out _ HT1.out).mono ?_; rintro e w2 ⟨rfl, hb2⟩; have HB2 : Hid (Below w.heap.size w w2) := HB1.out.trans (hb2.mono HB1.out.size); have HT2 : Hid (TB w2 p tb xs) := HT1.out.step hb2 (Nat.le_refl _); clear hb2) | (go_at_call 12; refine (C1.out _ HT.out).mono ?_; rintro e w1 ⟨rfl, hb1⟩; have HB1 : Hid (Below w.heap.size w w1) := HB.out.trans (hb1.mono HB.out.size); have HT1 : Hid (TB w1 p tb xs) := HT.out.step hb1 (Nat.le_refl _); clear hb1))
            go_returns
            exact ⟨URes.at HGT.out HAT.out, HB2.out⟩
          · have HNX : Hid (∀ day sec, At tb t day sec → d + 1 ≤ day) := fun day sec h => by
              have a := HA.out day sec h
              by_cases e : day = d
              · subst e
                have e1 := h.eq; have e2 := h.hi
                rw [← hA] at e1
                rw [← hL] at e2
                omega
              · omega
            clear hk hA hL hor eq1
            go_wp2_with (first | (go_at_call 11; have hgo := HT1.out; clear hgo; refine (C2.out _ HT1.out).mono ?_; rintro e w2 ⟨rfl, hb2⟩; have HB2 : Hid (Below w.heap.size w w2) := HB1.out.trans (hb2.mono HB1.out.size); have HT2 : Hid (TB w2 p tb xs) := HT1.out.step hb2 (Nat.le_refl _); clear hb2) | (go_at_call 12; refine (C1.out _ HT.out).mono ?_; rintro e w1 ⟨rfl, hb1⟩; have HB1 : Hid (Below w.heap.size w w1) := HB.out.trans (hb1.mono HB.out.size); have HT1 : Hid (TB w1 p tb xs) := HT.out.step hb1 (Nat.le_refl _); clear hb1))
            go_roundw
            case rel => exact ⟨d + 1, by first | rfl | go_num, by omega, by omega, HT2, HB2, HNX⟩
            case measure => simp [intOf]; omega
      · have C1 : Hid (∀ u, TB u p tb xs → Calls Tryd.prog 12 #[.pointer (some p), .int .i64 d, .int .i64 0] u fun e w' => e = .returned (.tuple #[.int .i64 0, .int .i64 4]) ∧ Below u.heap.size u w') := fun u hu => by
          have h := ltai_any p tb xs d 0 u hu HGT.out (by omega) (by omega) (by omega) (by omega)
          rw [if_neg (fun h => hk h.1), if_neg hk] at h
          exact h
        have HNX : Hid (∀ day sec, At tb t day sec → d + 1 ≤ day) := fun day sec h => by
          have a := HA.out day sec h
          by_cases e : day = d
          · subst e; exact absurd h.known hk
          · omega
        clear hk eq1
        go_wp2_with (go_at_call 12; refine (C1.out _ HT.out).mono ?_; rintro e w1 ⟨rfl, hb1⟩; have HB1 : Hid (Below w.heap.size w w1) := HB.out.trans (hb1.mono HB.out.size); have HT1 : Hid (TB w1 p tb xs) := HT.out.step hb1 (Nat.le_refl _); clear hb1)
        go_roundw
        case rel => exact ⟨d + 1, by first | rfl | go_num, by omega, by omega, HT1, HB1, HNX⟩
        case measure => simp [intOf]; omega
    · have hde : d = q + 2 := by omega
      have HNO : Hid (∀ day sec, ¬ At tb t day sec) := fun day sec h => by have a := (HNR.out day sec h).2; have b := HA.out day sec h; omega
      go_wp2
      go_returns
      exact ⟨⟨fun day sec h => absurd h (HNO.out day sec), fun _ => rfl⟩, HB.out⟩
end Go.Proofs.YthkafbeojeedbaaDoor
