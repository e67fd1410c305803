/-
  What Put and Scan of package frame answer.
-/
import Derived.Test.YtlfmhdljldbjmaaFrameW
namespace Go.Proofs.Ytlfmhdljldbjmaa
open Go.RowKit
set_option linter.unusedVariables false

theorem own_cap {w : World} {base n cx : Nat} {ax : Option Addr} {xs : List Value} (h : w.ownsRow base 5 1 (.slice ax n cx) n xs) : n ≤ cx := by
  rcases h.2 with ⟨h1, h2⟩ | ⟨g, cap, cur, h1, _, _, h2, _⟩
  · cases h1; omega
  · cases h1; omega

theorem head_row {w : World} {g n m : Nat} {zs : List Int} (h : Mine w g ((zs ++ le32 m) ++ le32 (notN m))) (hn : zs.length = n) : Row w (some ⟨g, n, none⟩) (hd m) := by
  have h1 := h.row.drop n
  rw [Nat.zero_add, List.append_assoc, List.drop_left' hn] at h1
  exact h1

theorem put_long (a : Option Addr) (cap : Nat) (zs : List Int) (n : Nat) (a' : Option Addr) (cap' : Nat) (m : Nat) (w : World) (hm : 8000 < m) (hmax : m ≤ 140737488351232) :
    Calls Try.prog 60 #[.slice a n cap, .slice a' m cap'] w fun e w' => ∃ ax cx, e = .returned (.tuple #[.slice ax 0 cx, .int .i64 2]) ∧ Below w.heap.size w w' := by
  go_enter Try.func60, Try.ntmps60
  go_wp2
  go_ret2
  exact ⟨none, 0, rfl, Below.refl _ _⟩

set_option maxRecDepth 4000 in
theorem put_ok (a : Option Addr) (cap : Nat) (zs : List Int) (n : Nat) (a' : Option Addr) (cap' : Nat) (rs : List Int) (m : Nat) (w : World) (hn : zs.length = n) (hm : rs.length = m) (hz : Row w a zs) (hr : Row w a' rs) (hnil : a = none → n = 0 ∧ cap = 0) (hnil' : a' = none → m = 0 ∧ cap' = 0) (h8 : m ≤ 8000) (hmax : n ≤ 1099511627776) :
    Calls Try.prog 60 #[.slice a n cap, .slice a' m cap'] w fun e w' => ∃ ax cx, e = .returned (.tuple #[.slice ax (n + (12 + m)) cx, .int .i64 0]) ∧ w'.ownsRow w.heap.size 5 1 (.slice ax (n + (12 + m)) cx) (n + (12 + m)) (bs (zs ++ frameN rs)) ∧ Below w.heap.size w w' := by
  obtain ⟨i0, hi, hz0, hz1, hz2⟩ := info_parts info5
  have hmk : ∀ w : World, (Instr.makeSlice 31 (.int .i64 (n : Int)) (.int .i64 ((n : Int) + 12 + (m : Int)))).run Try.prog w = .ok (.slice (some ⟨w.heap.size, 0, none⟩) n (n + (12 + m))) (w.alloc (.cells (zeros (n + (12 + m))) 5)) := fun w => by
    have h := run_make (P := Try.prog) w 31 5 i0 (.int .u8 0) Try.underlying31 hi hz0 .i64 .i64 (n : Int) ((n : Int) + 12 + (m : Int)) (by omega) (by omega) (by rw [hz2]; omega) (by omega)
    rw [hz1] at h
    have e1 : ((n : Int)).toNat = n := by omega
    have e2 : ((n : Int) + 12 + (m : Int)).toNat * 1 = n + (12 + m) := by omega
    have e3 : ((n : Int) + 12 + (m : Int)).toNat = n + (12 + m) := by omega
    rw [e1, e2, e3] at h
    exact h
  have hnot := bits_not_if m (by omega)
  have HBY : Hid (By zs) := hz.bytes
  have HBR : Hid (By rs) := hr.bytes
  have HM : Hid (rs.length = m) := hm
  have HN : Hid (zs.length = n) := hn
  have HNIL : Hid (a' = none → m = 0 ∧ cap' = 0) := hnil'
  obtain ⟨w1, hcp, hown1, hB1, hs1⟩ := copy_row w a cap zs (zeros (n + (12 + m))) n (12 + m) hz hn (by simp [zeros, size_madeCells]) (by unfold maxLen; omega)
  have HB1 : Hid (Below w.heap.size w w1) := hB1
  have HR1 : Hid (∀ w', Below w.heap.size w w' → Row w' a' rs) := fun w' h => hr.below h (Nat.le_refl _)
  have HOWN1 : Hid _ := hown1
  have P1 : Hid (Calls Try.prog 68 #[.slice (some ⟨w.heap.size, 0, none⟩) n (n + (12 + m)), .int .u32 (m : Int)] w1 fun e w' => ∃ ay cy, e = .returned (.slice ay (n + 4) cy) ∧ w'.ownsRow w.heap.size 5 1 (.slice ay (n + 4) cy) (n + 4) (bs (zs ++ le32 m)) ∧ Below w.heap.size w1 w') :=
    put_word _ _ zs m n (n + 4) w.heap.size w1 hown1 hz.bytes hB1.size rfl (by omega) (by omega)
  clear hn hm hz hr hnil hnil' hB1 hown1 hs1 i0 hi hz0 hz1 hz2
  go_enter Try.func60, Try.ntmps60
  go_wp2_with (first
    | (at_builtin; have hgo := HOWN4.out; clear hgo; refine wpList_append_on rfl (.tmp 41) (.tmp 42) rfl w.heap.size w HB4.out HB4.out.size _ _ (((zs ++ le32 m) ++ le32 (notN m)) ++ le32 (ofN (hd m ++ rs))) rs rfl HOWN4.out _ _ _ rfl (HR1.out _ HB4.out) HM.out HNIL.out (((HBY.out.app (le32_by _)).app (le32_by _)).app (le32_by _)) (by omega) ?_; intro b5 c5 w5 hown5 hb5; have HOWN5 : Hid (w5.ownsRow w.heap.size 5 1 (.slice b5 (n + 12 + m) c5) (n + 12 + m) (bs ((((zs ++ le32 m) ++ le32 (notN m)) ++ le32 (ofN (hd m ++ rs))) ++ rs))) := hown5; have HB5 : Hid (Below w.heap.size w w5) := hb5; clear hown5 hb5)
    | (go_at_call 68; have hgo := P3.out; clear hgo; refine P3.out.mono ?_; rintro e w4 ⟨ax4, cx4, rfl, hown4, hb4⟩; have HB4 : Hid (Below w.heap.size w w4) := HB3.out.trans hb4; have HOWN4 : Hid (w4.ownsRow w.heap.size 5 1 (.slice ax4 (n + 12) cx4) (n + 12) (bs (((zs ++ le32 m) ++ le32 (notN m)) ++ le32 (ofN (hd m ++ rs))))) := hown4; clear hown4 hb4 P3)
    | (go_at_call 67; refine (sum_any _ _ (hd m) 8 _ _ rs m w3 rfl HM.out HD3.out (HR1.out _ HB3.out) (by omega) (by omega)).mono ?_; rintro e wq ⟨rfl, hwq⟩; obtain rfl := hwq.symm; have P3 : Hid (Calls Try.prog 68 #[.slice (some ⟨g3, 0, none⟩) (n + 8) cx3, .int .u32 ((ofN (hd m ++ rs) : Nat) : Int)] w3 fun e w' => ∃ ay cy, e = .returned (.slice ay (n + 12) cy) ∧ w'.ownsRow w.heap.size 5 1 (.slice ay (n + 12) cy) (n + 12) (bs (((zs ++ le32 m) ++ le32 (notN m)) ++ le32 (ofN (hd m ++ rs)))) ∧ Below w.heap.size w3 w') := put_word _ cx3 _ _ (n + 8) (n + 12) w.heap.size w3 HOWN3.out ((HBY.out.app (le32_by _)).app (le32_by _)) HB3.out.size rfl (by omega) (of_lt _); clear hwq)
    | (go_at_call 68; refine P2.out.mono ?_; rintro e w3 ⟨ax3, cx3, rfl, hown3, hb3⟩; have HB3 : Hid (Below w.heap.size w w3) := HB2.out.trans hb3; have hc3 := own_cap hown3; have hh := mine_of_own hown3 ((HBY.out.app (le32_by _)).app (le32_by _)) (by omega); obtain ⟨g3, hax3, hg3, hmine3, hl3⟩ := hh; subst hax3; have HM3 : Hid (Mine w3 g3 ((zs ++ le32 m) ++ le32 (notN m))) := hmine3; have HOWN3 : Hid (w3.ownsRow w.heap.size 5 1 (.slice (some ⟨g3, 0, none⟩) (n + 8) cx3) (n + 8) (bs ((zs ++ le32 m) ++ le32 (notN m)))) := hown3; have hc3' : ¬ cx3 = n := (by omega); have HD3 : Hid (Row w3 (some ⟨g3, n, none⟩) (hd m)) := head_row hmine3 HN.out; clear hown3 hb3 hmine3 hg3 hl3 P2)
    | (go_at_call 68; refine P1.out.mono ?_; rintro e w2 ⟨ax2, cx2, rfl, hown2, hb2⟩; have HB2 : Hid (Below w.heap.size w w2) := HB1.out.trans hb2; have P2 : Hid (Calls Try.prog 68 #[.slice ax2 (n + 4) cx2, .int .u32 ((notN m : Nat) : Int)] w2 fun e w' => ∃ ay cy, e = .returned (.slice ay (n + 8) cy) ∧ w'.ownsRow w.heap.size 5 1 (.slice ay (n + 8) cy) (n + 8) (bs ((zs ++ le32 m) ++ le32 (notN m))) ∧ Below w.heap.size w2 w') := put_word ax2 cx2 (zs ++ le32 m) (notN m) (n + 4) (n + 8) w.heap.size w2 hown2 (HBY.out.app (le32_by _)) HB2.out.size rfl (by omega) (notN_lt _); clear hown2 hb2 P1))
  go_ret2
  refine ⟨b5, c5, ?_, ?_, HB5.out⟩
  · rw [← Nat.add_assoc]; rfl
  · have h := HOWN5.out
    have e : (((zs ++ le32 m) ++ le32 (notN m)) ++ le32 (ofN (hd m ++ rs))) ++ rs = zs ++ frameN rs := by unfold frameN; rw [HM.out]; simp [hd]
    rw [e] at h
    rw [← Nat.add_assoc]
    exact h

set_option maxHeartbeats 1000000 in
theorem first_any (a : Option Addr) (cap : Nat) (D : List Int) (len : Nat) (w : World) (hn : D.length = len) (hrow : Row w a D) (hcap : len ≤ cap) (hmax : len ≤ 1099511627776) :
    Calls Try.prog 57 #[.slice a len cap] w fun e w' => ∃ ax n cx, e = .returned (.tuple #[.slice ax n cx, .bool (takeN D).isSome]) ∧ (∀ R, takeN D = some R → R.length = n ∧ Row w ax R ∧ (ax = none → n = 0 ∧ cx = 0)) ∧ ∃ m, w' = w.drewN m := by
  have HDL : Hid (D.length = len) := hn
  have RD : Hid (Row w a D) := hrow
  clear hn hrow
  by_cases h12 : len < 12
  · have HE : Hid (takeN D = none) := take_short (by rw [HDL.out]; exact h12)
    go_enter Try.func57, Try.ntmps57
    go_wp2
    go_ret2
    exact ⟨none, 0, 0, by rw [HE.out]; rfl, fun R hR => (by rw [HE.out] at hR; cases hR), 0, rfl⟩
  · obtain ⟨b, off, rfl⟩ : ∃ b off, a = some ⟨b, off, none⟩ := by
      rcases RD.out.cells with h | ⟨b, off, h, _⟩
      · have := HDL.out; rw [h] at this; simp at this; omega
      · exact ⟨b, off, h⟩
    obtain ⟨N, hN⟩ : ∃ N, N = rd32 D := ⟨_, rfl⟩
    obtain ⟨M, hM⟩ : ∃ M, M = rd32 (D.drop 4) := ⟨_, rfl⟩
    have hNl : N < 4294967296 := by rw [hN]; exact rd_lt D RD.out.bytes
    have hMl : M < 4294967296 := by rw [hM]; exact rd_lt _ (By.drop RD.out.bytes 4)
    have A1 : Hid (∀ c, Calls Try.prog 66 #[.slice (some ⟨b, off, none⟩) len c] w fun e w' => e = .returned (.int .u32 (N : Int)) ∧ ∃ m, w' = w.drewN m) := fun c => by
      rw [hN]; exact get_word b off c D len w HDL.out RD.out (by omega) (by omega)
    have A2 : Hid (∀ m c, Calls Try.prog 66 #[.slice (some ⟨b, off + 4, none⟩) (len - 4) c] (w.drewN m) fun e w' => e = .returned (.int .u32 (M : Int)) ∧ ∃ m', w' = (w.drewN m).drewN m') := fun m c => by
      rw [hM]; exact get_word b (off + 4) c (D.drop 4) (len - 4) (w.drewN m) (by rw [List.length_drop, HDL.out]) ((RD.out.drop 4).same rfl) (by omega) (by omega)
    have hnot := bits_not_if N hNl
    have c4 : ¬ cap = 4 := by omega
    have c8 : ¬ cap = 8 := by omega
    have HNN : Hid (N = rd32 D) := hN
    have HMM : Hid (M = rd32 (D.drop 4)) := hM
    clear hN hM
    go_enter Try.func57, Try.ntmps57
    by_cases hfit : M ≠ notN N ∨ 8000 < N ∨ len - 12 < N
    · have HE : Hid (takeN D = none) := take_unfit (by rw [← HNN.out, ← HMM.out, HDL.out]; exact hfit)
      by_cases f2 : 8000 < N
      · have g2 : (8000 : Int) < (N : Int) := by omega
        go_wp2_with (first | (go_at_call 66; refine (A1.out _).mono ?_; rintro e w2 ⟨rfl, m2, rfl⟩))
        go_ret2
        exact ⟨none, 0, 0, by rw [HE.out]; rfl, fun R hR => (by rw [HE.out] at hR; cases hR), m2, rfl⟩
      · have g2 : ¬ (8000 : Int) < (N : Int) := by omega
        by_cases f1 : M = notN N
        · have g1 : (((M : Nat) : Int) != ((notN N : Nat) : Int)) = false := by simp; omega
          have g3 : ((len - 12 : Nat) : Int) < (N : Int) := by omega
          go_wp2_with (first | (go_at_call 66; have hgo := H2.out; clear hgo; refine (A2.out _ _).mono ?_; rintro e w3 ⟨rfl, m3, rfl⟩) | (go_at_call 66; refine (A1.out _).mono ?_; rintro e w2 ⟨rfl, m2, rfl⟩; have H2 : Hid True := trivial))
          all_goals go_ret2
          all_goals exact ⟨none, 0, 0, by rw [HE.out]; rfl, fun R hR => (by rw [HE.out] at hR; cases hR), _, rfl⟩
        · have g1 : (((M : Nat) : Int) != ((notN N : Nat) : Int)) = true := by simp; omega
          go_wp2_with (first | (go_at_call 66; have hgo := H2.out; clear hgo; refine (A2.out _ _).mono ?_; rintro e w3 ⟨rfl, m3, rfl⟩) | (go_at_call 66; refine (A1.out _).mono ?_; rintro e w2 ⟨rfl, m2, rfl⟩; have H2 : Hid True := trivial))
          all_goals go_ret2
          all_goals exact ⟨none, 0, 0, by rw [HE.out]; rfl, fun R hR => (by rw [HE.out] at hR; cases hR), _, rfl⟩
    · have g1 : (((M : Nat) : Int) != ((notN N : Nat) : Int)) = false := by simp; omega
      have g2 : ¬ (8000 : Int) < (N : Int) := by omega
      have g3 : ¬ ((len - 12 : Nat) : Int) < (N : Int) := by omega
      have g4 : (N : Int) ≤ ((cap - 12 : Nat) : Int) := by omega
      have h8 : N ≤ 8000 := by omega
      have hfits : 12 + N ≤ len := by omega
      obtain ⟨R, hR⟩ : ∃ R, R = (D.drop 12).take N := ⟨_, rfl⟩
      have HRL : Hid (R.length = N) := by show _ = _; rw [hR]; simp [HDL.out]; omega
      obtain ⟨S, hS⟩ : ∃ S, S = rd32 (D.drop 8) := ⟨_, rfl⟩
      have HT : Hid (takeN D = if S = ofN (D.take 8 ++ R) then some R else none) := by
        have h1 := take_fit (zs := D) (by rw [HDL.out]; omega) (by rw [← HNN.out, ← HMM.out, HDL.out]; exact hfit)
        rw [← HNN.out, ← hR] at h1
        have h2 := frame_sum (D := D) (R := R) (N := N) RD.out.bytes HNN.out (by rw [← HMM.out]; omega) (by rw [HDL.out]; exact hfits) hR
        rw [hS]
        show _ = _
        rw [h1]
        simp only [h2]
      have A3 : Hid (∀ v : World, v.heap = w.heap → ∀ c, Calls Try.prog 66 #[.slice (some ⟨b, off + 8, none⟩) (len - 8) c] v fun e w' => e = .returned (.int .u32 (S : Int)) ∧ ∃ m', w' = v.drewN m') := fun v hv c => by
        rw [hS]; exact get_word b (off + 8) c (D.drop 8) (len - 8) v (by rw [List.length_drop, HDL.out]) ((RD.out.drop 8).same hv) (by omega) (by omega)
      have HR12 : Hid (Row w (some ⟨b, off + 12, none⟩) R) := by rw [hR]; exact (RD.out.drop 12).take N
      have HR8 : Hid (Row w (some ⟨b, off, none⟩) (D.take 8)) := RD.out.take 8
      have HL8 : Hid ((D.take 8).length = 8) := by show _ = _; rw [List.length_take, HDL.out]; omega
      have A4 : Hid (∀ v : World, v.heap = w.heap → ∀ c ax cx, Row w ax R → Calls Try.prog 67 #[.slice (some ⟨b, off, none⟩) 8 c, .slice ax N cx] v fun e w' => e = .returned (.int .u32 (ofN (D.take 8 ++ R) : Nat)) ∧ w' = v) := fun v hv c ax cx hr =>
        sum_any _ c (D.take 8) 8 ax cx R N v HL8.out HRL.out (HR8.out.same hv) (hr.same hv) (by omega) (by omega)
      have HR0 : Hid (cap = 12 → Row w (some ⟨b, off, none⟩) R) := fun hc => by
        have : R = [] := List.eq_nil_of_length_eq_zero (by rw [HRL.out]; omega)
        rw [this]; exact Row.nil _ _
      clear hfit hR hS
      go_wp2_with (first | (go_at_call 66; have hgo := H2.out; clear hgo; refine (A2.out _ _).mono ?_; rintro e w3 ⟨rfl, m3, rfl⟩) | (go_at_call 66; refine (A1.out _).mono ?_; rintro e w2 ⟨rfl, m2, rfl⟩; have H2 : Hid True := trivial))
      all_goals
        obtain ⟨mq, hmq⟩ : ∃ mq, mq = m2 + m3 := ⟨_, rfl⟩
        obtain ⟨v, hv⟩ : ∃ v, v = w.drewN (m2 + m3) := ⟨_, rfl⟩
        rw [← hv]
        have HV : Hid (v = w.drewN mq) := by show v = _; rw [hv, hmq]
        have HH : Hid (v.heap = w.heap) := by rw [hv]; rfl
        clear hv hmq
        have hq8 : (8 : Int) ≤ (len : Int) := by omega
        have hq8' : (8 : Int) ≤ (cap : Int) := by omega
      · have HRX : Hid (Row w (some ⟨b, off, none⟩) R) := HR0.out (by assumption)
        go_quiet ((first | (go_at_call 66; exact Calls.quiet_of (A3.out (v.drewN _) HH.out _)) | (go_at_call 67; exact Calls.quiet_of_same (A4.out (v.drewN _) HH.out _ _ _ HRX.out))))
        go_wp2
        go_ret2
        refine ⟨some ⟨b, off, none⟩, N, 0, ?_, fun Q hQ => ?_, mq + nq, by rw [HV.out, World.drewN_drewN]⟩
        · rw [HT.out]
          by_cases hs : S = ofN (D.take 8 ++ R)
          · rw [if_pos hs, ← hs]; simp
          · have hs' : ¬ (S : Int) = ((ofN (D.take 8 ++ R) : Nat) : Int) := by omega
            rw [if_neg hs]; simp [hs']
        · have h := HT.out
          rw [hQ] at h
          split at h
          · cases h; exact ⟨HRL.out, HRX.out, fun h' => by cases h'⟩
          · cases h
      · have HRX : Hid (Row w (some ⟨b, off + 12, none⟩) R) := HR12.out
        go_quiet ((first | (go_at_call 66; exact Calls.quiet_of (A3.out (v.drewN _) HH.out _)) | (go_at_call 67; exact Calls.quiet_of_same (A4.out (v.drewN _) HH.out _ _ _ HRX.out))))
        go_wp2
        go_ret2
        refine ⟨some ⟨b, off + 12, none⟩, N, cap - 12, ?_, fun Q hQ => ?_, mq + nq, by rw [HV.out, World.drewN_drewN]⟩
        · rw [HT.out]
          by_cases hs : S = ofN (D.take 8 ++ R)
          · rw [if_pos hs, ← hs]; simp
          · have hs' : ¬ (S : Int) = ((ofN (D.take 8 ++ R) : Nat) : Int) := by omega
            rw [if_neg hs]; simp [hs']
        · have h := HT.out
          rw [hQ] at h
          split at h
          · cases h; exact ⟨HRL.out, HRX.out, fun h' => by cases h'⟩
          · cases h

theorem row_from {w : World} {a : Option Addr} {zs D : List Int} {len k cap : Nat} (h : Row w a zs) (hn : zs.length = len) (hk : k ≤ len) (hcap : len ≤ cap) (hD : D = zs.drop k) : Row w (if cap = k then a else Option.map (fun x => x.add k) a) D := by
  subst hD
  by_cases hc : cap = k
  · rw [if_pos hc, List.drop_eq_nil_of_le (by omega)]; exact Row.nil _ _
  · rw [if_neg hc]
    rcases h.cells with h0 | ⟨b, off, rfl, _⟩
    · rw [h0]; simp; exact Row.nil _ _
    · simp only [Option.map, add_plain]; exact h.drop k
set_option maxHeartbeats 1000000 in
theorem scan_any (a : Option Addr) (cap : Nat) (zs : List Int) (len : Nat) (w : World) (hn : zs.length = len) (hrow : Row w a zs) (hcap : len ≤ cap) (hmax : len ≤ 1099511627776) :
    Calls Try.prog 35 #[.slice a len cap] w fun e w' => ∃ ax n cx, e = .returned (.tuple #[.slice ax n cx, .int .i64 ((scanN zs).2.1 : Nat), .bool (scanN zs).2.2]) ∧ OwnRows w' w.heap.size (.slice ax n cx) n (scanN zs).1 ∧ Below w.heap.size w w' := by
  have HN : Hid (zs.length = len) := hn
  have HR : Hid (Row w a zs) := hrow
  clear hn hrow
  go_enter Try.func35, Try.ntmps35
  go_wp2
  go_loopw [2, 3] (fun l i wr => ∃ (k n : Nat) (ax : Option Addr) (cx : Nat) (done : List (List Int)), k ≤ len ∧ n ≤ k ∧ i = .int .i64 k ∧ l = .slice ax n cx ∧ Hid (OwnRows wr w.heap.size (.slice ax n cx) n done) ∧ Hid (scanN zs = (done ++ (scanN (zs.drop k)).1, k + (scanN (zs.drop k)).2.1, (scanN (zs.drop k)).2.2)) ∧ Hid (Below w.heap.size w wr)) (fun _ i _ => len - (intOf i).toNat)
  case atStart => exact ⟨0, 0, none, 0, [], Nat.zero_le _, Nat.le_refl _, rfl, rfl, OwnRows.none _ _, by show _ = _; rw [List.drop_zero]; simp, Below.refl _ _⟩
  case round =>
    obtain ⟨k, n, ax, cx, done, hk, hnk, rfl, rfl, HO, HS, HB⟩ := hrel
    obtain ⟨wA, rfl⟩ : ∃ wA : World, wA = wr := ⟨wr, rfl⟩
    obtain ⟨D, hD⟩ : ∃ D, D = zs.drop k := ⟨_, rfl⟩
    have HD : Hid (D = zs.drop k) := hD
    have HDL : Hid (D.length = len - k) := by show _ = _; rw [hD]; simp [HN.out]
    have FR : Hid (Calls Try.prog 57 #[.slice (if cap = k then a else Option.map (fun x => x.add k) a) (len - k) (cap - k)] wA fun e w' => ∃ ax n cx, e = .returned (.tuple #[.slice ax n cx, .bool (takeN D).isSome]) ∧ (∀ R, takeN D = some R → R.length = n ∧ Row wA ax R ∧ (ax = none → n = 0 ∧ cx = 0)) ∧ ∃ m, w' = wA.drewN m) :=
      first_any _ (cap - k) D (len - k) wA HDL.out (row_from (HR.out.below HB.out (Nat.le_refl _)) HN.out hk hcap hD) (by omega) (by omega)
    clear hD
    cases ht : takeN D with
    | none =>
      have F0 : Hid (Calls Try.prog 57 #[.slice (if cap = k then a else Option.map (fun x => x.add k) a) (len - k) (cap - k)] wA fun e w' => ∃ ax n cx, e = .returned (.tuple #[.slice ax n cx, .bool false]) ∧ ∃ m, w' = wA.drewN m) :=
        FR.out.mono (by rintro e w' ⟨ax', n', cx', rfl, _, hm⟩; exact ⟨ax', n', cx', by rw [ht]; rfl, hm⟩)
      by_cases hkl : k = len
      · have HE : Hid (scanN zs = (done, k, true)) := scan_step_end HS.out (List.drop_eq_nil_of_le (by rw [HN.out]; omega))
        have hkl' : ((k : Int) == (len : Int)) = true := by simp; omega
        clear ht FR hkl
        go_wp2_with (first | (go_at_call 57; refine F0.out.mono ?_; rintro e w2 ⟨ax2, n2, cx2, rfl, m2, rfl⟩))
        all_goals go_ret3
        all_goals refine ⟨ax, n, cx, by rw [HE.out]; rfl, by rw [HE.out]; exact HO.out.below (below_drewN (Below.refl _ _) _) (Nat.le_refl _), below_drewN HB.out _⟩
      · have HE : Hid (scanN zs = (done, k, false)) := scan_step_none HS.out (by intro h; have := HDL.out; rw [HD.out, h] at this; simp at this; omega) (by rw [← HD.out]; exact ht)
        have hkl' : ((k : Int) == (len : Int)) = false := by simp; omega
        clear ht FR
        go_wp2_with (first | (go_at_call 57; refine F0.out.mono ?_; rintro e w2 ⟨ax2, n2, cx2, rfl, m2, rfl⟩))
        all_goals go_ret3
        all_goals refine ⟨ax, n, cx, by rw [HE.out]; rfl, by rw [HE.out]; exact HO.out.below (below_drewN (Below.refl _ _) _) (Nat.le_refl _), below_drewN HB.out _⟩
    | some R =>
      obtain ⟨h8, _, hfit⟩ := take_some ht
      have HBY : Hid (By R) := take_by (by rw [HD.out]; exact By.drop HR.out.bytes k) ht
      have HTS : Hid (takeN (zs.drop k) = some R) := by rw [← HD.out]; exact ht
      obtain ⟨N, hN⟩ : ∃ N, R.length = N := ⟨_, rfl⟩
      have HRL : Hid (R.length = N) := hN
      rw [hN] at h8 hfit
      rw [HDL.out] at hfit
      have F0 : Hid (Calls Try.prog 57 #[.slice (if cap = k then a else Option.map (fun x => x.add k) a) (len - k) (cap - k)] wA fun e w' => ∃ ax cx, e = .returned (.tuple #[.slice ax N cx, .bool true]) ∧ Row wA ax R ∧ (ax = none → N = 0 ∧ cx = 0) ∧ ∃ m, w' = wA.drewN m) :=
        FR.out.mono (by
          rintro e w' ⟨ax', n', cx', rfl, hq, hm⟩
          obtain ⟨h1, h2, h3⟩ := hq R ht
          obtain rfl : n' = N := by omega
          exact ⟨ax', cx', by rw [ht]; rfl, h2, h3, hm⟩)
      have hck : ¬ cap = k := by omega
      rw [if_neg hck] at F0
      clear ht FR hN
      go_wp2_with (first
        | (at_builtin; have hgo := HOWN4.out; clear hgo; refine wpList_append_rec rfl (.tmp 22) (.tmp 26) rfl w.heap.size w (HB4.out.alloc HB4.out.size _) (by simp; exact Nat.le_trans HB4.out.size (Nat.le_succ _)) _ n done rfl (HO4.out.below ((Below.refl _ _).alloc (Nat.le_refl _) _) (Nat.le_refl _)) _ rfl b4 c4 R N HRL.out (World.cell?_alloc_new _ _ _ _) (NEW4.out.below ((Below.refl _ _).alloc (Nat.le_refl _) _) (Nat.le_refl _)) (by omega) ?_; intro a6 c6 w6 hown6 hb6; have HO6 : Hid (OwnRows w6 w.heap.size (.slice a6 (n + 1) c6) (n + 1) (done ++ [R])) := hown6; have HB6 : Hid (Below w.heap.size w w6) := hb6; clear hown6 hb6)
        | (at_builtin; refine wpList_append_new rfl (.tmp 23) (.tmp 24) rfl rfl R _ _ _ rfl HR2.out HRL.out HNIL2.out (by omega) ?_; intro b4 c4 w4 hown4 hb4; have HOWN4 : Hid (w4.ownsRow w2.heap.size 5 1 (.slice b4 N c4) N (bs R)) := hown4; have HB4 : Hid (Below w.heap.size w w4) := HB2.out.trans (hb4.mono HB2.out.size); have HO4 : Hid (OwnRows w4 w.heap.size (.slice ax n cx) n done) := HO2.out.below hb4 (Nat.le_refl _); have NEW4 : Hid (NewRow w4 w.heap.size b4 c4 R) := (NewRow.of_own hown4 HBY.out).mono HB2.out.size; clear hown4 hb4)
        | (go_at_call 57; refine F0.out.mono ?_; rintro e w2 ⟨ax2, cx2, rfl, hr2, hnil2, m2, hw2⟩; have HB2 : Hid (Below w.heap.size w w2) := (by rw [hw2]; exact below_drewN HB.out _); have HR2 : Hid (Row w2 ax2 R) := hr2.same (by rw [hw2]; rfl); have HO2 : Hid (OwnRows w2 w.heap.size (.slice ax n cx) n done) := (by rw [hw2]; exact HO.out.below (below_drewN (Below.refl _ _) _) (Nat.le_refl _)); have HNIL2 : Hid (ax2 = none → N = 0 ∧ cx2 = 0) := hnil2; clear hr2 hnil2 hw2 F0))
      go_roundw
      case rel =>
        refine ⟨k + 12 + N, n + 1, a6, c6, done ++ [R], by omega, by omega, by go_num, rfl, HO6.out, ?_, HB6.out⟩
        have h := scan_step_some HS.out HTS.out
        rw [HRL.out] at h
        exact h
      case measure => simp [intOf]; omega
end Go.Proofs.Ytlfmhdljldbjmaa
