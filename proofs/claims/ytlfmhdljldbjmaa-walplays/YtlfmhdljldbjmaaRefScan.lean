/-
  What the document's own reading of frames (hourglassref1: Scan) answers.
-/
import Derived.Test.YtlfmhdljldbjmaaRefSame
import Derived.Test.YtlfmhdljldbjmaaRecs
import Derived.Deep.RegionHeld3
namespace Go.Proofs.Ytlfmhdljldbjmaa
open Go.RowKit
set_option linter.unusedVariables false

/-- What lies behind the first k bytes. -/
theorem Row.drop {w : World} {b off : Nat} {zs : List Int} (h : Row w (some ⟨b, off, none⟩) zs) (k : Nat) : Row w (some ⟨b, off + k, none⟩) (zs.drop k) := by
  refine ⟨fun z hz => h.bytes z (List.mem_of_mem_drop hz), ?_⟩
  rcases h.cells with h0 | ⟨b', off', h1, hc⟩
  · left; rw [h0]; simp
  · cases h1
    refine .inr ⟨b, off + k, rfl, fun j hj => ?_⟩
    simp at hj
    have := hc (k + j) (by omega)
    rw [← Nat.add_assoc] at this
    rw [this]
    simp [List.getD, List.getElem?_drop]
theorem Row.take {w : World} {a : Option Addr} {zs : List Int} (h : Row w a zs) (k : Nat) : Row w a (zs.take k) := by
  refine ⟨fun z hz => h.bytes z (List.mem_of_mem_take hz), ?_⟩
  rcases h.cells with h0 | ⟨b', off', h1, hc⟩
  · left; rw [h0]; simp
  · refine .inr ⟨b', off', h1, fun j hj => ?_⟩
    simp at hj
    rw [hc j (by omega)]
    have hjk : j < k := by omega
    simp [List.getD, hjk]

theorem scan_step_none {zs : List Int} {k : Nat} {done : List (List Int)} (hS : scanN zs = (done ++ (scanN (zs.drop k)).1, k + (scanN (zs.drop k)).2.1, (scanN (zs.drop k)).2.2)) (h0 : zs.drop k ≠ []) (h : takeN (zs.drop k) = none) : scanN zs = (done, k, false) := by
  rw [hS, scan_none h0 h]; simp
theorem scan_step_end {zs : List Int} {k : Nat} {done : List (List Int)} (hS : scanN zs = (done ++ (scanN (zs.drop k)).1, k + (scanN (zs.drop k)).2.1, (scanN (zs.drop k)).2.2)) (h0 : zs.drop k = []) : scanN zs = (done, k, true) := by
  rw [hS, h0, scan_nil]; simp
theorem scan_step_some {zs r : List Int} {k : Nat} {done : List (List Int)} (hS : scanN zs = (done ++ (scanN (zs.drop k)).1, k + (scanN (zs.drop k)).2.1, (scanN (zs.drop k)).2.2)) (h : takeN (zs.drop k) = some r) :
    scanN zs = ((done ++ [r]) ++ (scanN (zs.drop (k + 12 + r.length))).1, (k + 12 + r.length) + (scanN (zs.drop (k + 12 + r.length))).2.1, (scanN (zs.drop (k + 12 + r.length))).2.2) := by
  rw [hS, scan_some h, List.drop_drop]
  have e : k + (12 + r.length) = k + 12 + r.length := by omega
  rw [e]
  simp
  omega
theorem take_short {zs : List Int} (h : zs.length < 12) : takeN zs = none := by unfold takeN; rw [if_pos h]
theorem take_unfit {zs : List Int} (h : rd32 (zs.drop 4) ≠ notN (rd32 zs) ∨ 8000 < rd32 zs ∨ zs.length - 12 < rd32 zs) : takeN zs = none := by
  unfold takeN
  by_cases h12 : zs.length < 12
  · rw [if_pos h12]
  · rw [if_neg h12, if_pos h]
theorem take_fit {zs : List Int} (h12 : ¬ zs.length < 12) (h : ¬ (rd32 (zs.drop 4) ≠ notN (rd32 zs) ∨ 8000 < rd32 zs ∨ zs.length - 12 < rd32 zs)) : takeN zs = if frameN ((zs.drop 12).take (rd32 zs)) = zs.take (12 + rd32 zs) then some ((zs.drop 12).take (rd32 zs)) else none := by
  unfold takeN; rw [if_neg h12, if_neg h]

theorem elemB : Try.prog.elem 31 = 5 := by kernel_rfl
theorem slice_to (w : World) (b off len cap h : Nat) (x : Int) (hx : x = h) (hh : h ≤ cap) (h0 : 0 < cap) :
    (Instr.slice 31 (.slice (some ⟨b, off, none⟩) len cap) none (some (.int .i64 x)) none).run Try.prog w = .ok (.slice (some ⟨b, off, none⟩) h cap) w := by
  subst hx
  obtain ⟨i0, hi, _⟩ := info_parts info5
  rw [run_slice_h w 31 _ len cap (by rw [elemB]; exact Try.underlying31) .i64 (h : Int) (by omega) (by omega), elemB, run_sizeOf w hi]
  have : ¬ cap = 0 := by omega
  simp [sliced, this, add_plain]
/-- The one operation of a region that can run only behind the region's call. -/
def opS (p : String) : Oper := { dst := some 53, op := Op.convert 31 9 (Operand.tmp 52), type := 9, pos := p, after := #[{ on := 1, ground := Ground.data }], guard := none }
set_option maxHeartbeats 2000000 in
theorem rscan_any (a : Option Addr) (cap : Nat) (zs : List Int) (len : Nat) (w : World) (hn : zs.length = len) (hrow : Row w a zs) (hcap : len ≤ cap) (hmax : len ≤ 1099511627776) :
    Calls Try.prog 44 #[.slice a len cap] w fun e w' => ∃ ax n cx, e = .returned (.tuple #[.slice ax n cx, .int .i64 ((scanN zs).2.1 : Nat), .bool (scanN zs).2.2]) ∧ OwnRows w' w.heap.size (.slice ax n cx) n (scanN zs).1 ∧ Below w.heap.size w w' := by
  have HN : Hid (zs.length = len) := hn
  have HR : Hid (Row w a zs) := hrow
  clear hn hrow
  go_enter Try.func44, Try.ntmps44
  go_wp2
  go_loopw [5, 6] (fun l i wr => ∃ (k n : Nat) (ax : Option Addr) (cx : Nat) (done : List (List Int)), k ≤ len ∧ n ≤ k ∧ i = .int .i64 k ∧ l = .slice ax n cx ∧ Hid (OwnRows wr w.heap.size (.slice ax n cx) n done) ∧ Hid (scanN zs = (done ++ (scanN (zs.drop k)).1, k + (scanN (zs.drop k)).2.1, (scanN (zs.drop k)).2.2)) ∧ Hid (Below w.heap.size w wr)) (fun _ i _ => len - (intOf i).toNat)
  case atStart => exact ⟨0, 0, none, 0, [], Nat.zero_le _, Nat.le_refl _, rfl, rfl, OwnRows.none _ _, by show _ = _; rw [List.drop_zero]; simp, Below.refl _ _⟩
  case round =>
    obtain ⟨k, n, ax, cx, done, hk, hnk, rfl, rfl, HO, HS, HB⟩ := hrel
    obtain ⟨wA, rfl⟩ : ∃ wA : World, wA = wr := ⟨wr, rfl⟩
    by_cases hlt : k < len
    · obtain ⟨b, off, rfl⟩ : ∃ b off, a = some ⟨b, off, none⟩ := by
        rcases HR.out.cells with h | ⟨b, off, h, _⟩
        · have := HN.out; rw [h] at this; simp at this; omega
        · exact ⟨b, off, h⟩
      have hD0 : Hid (zs.drop k ≠ []) := by intro h; have := congrArg List.length h; simp at this; have := HN.out; omega
      obtain ⟨D, hD⟩ : ∃ D, D = zs.drop k := ⟨_, rfl⟩
      have HD : Hid (D = zs.drop k) := hD
      have RD : Hid (Row wA (some ⟨b, off + k, none⟩) D) := by rw [hD]; exact (HR.out.below HB.out (Nat.le_refl _)).drop k
      have HDL : Hid (D.length = len - k) := by show _ = _; rw [hD]; simp [HN.out]
      clear hD
      by_cases h12 : len - k < 12
      · have HE : Hid (scanN zs = (done, k, false)) := scan_step_none HS.out hD0.out (by rw [← HD.out]; exact take_short (by rw [HDL.out]; exact h12))
        go_wp2
        go_ret3
        refine ⟨ax, n, cx, ?_, ?_, HB.out⟩
        · rw [HE.out]; rfl
        · rw [HE.out]; exact HO.out
      · obtain ⟨N, hN⟩ : ∃ N, N = rd32 D := ⟨_, rfl⟩
        obtain ⟨M, hM⟩ : ∃ M, M = rd32 (D.drop 4) := ⟨_, rfl⟩
        have hNl : N < 4294967296 := by rw [hN]; exact rd_lt D RD.out.bytes
        have hMl : M < 4294967296 := by rw [hM]; exact rd_lt _ (By.drop RD.out.bytes 4)
        have A1 : Hid (∀ c, Calls Try.prog 61 #[.slice (some ⟨b, off + k, none⟩) (len - k) c] wA fun e w' => e = .returned (.int .u32 (N : Int)) ∧ ∃ m, w' = wA.drewN m) := fun c => by
          rw [hN]; exact at32_any b (off + k) c D (len - k) wA HDL.out RD.out (by omega) (by omega)
        have A2 : Hid (∀ m c, Calls Try.prog 61 #[.slice (some ⟨b, off + k + 4, none⟩) (len - k - 4) c] (wA.drewN m) fun e w' => e = .returned (.int .u32 (M : Int)) ∧ ∃ m', w' = (wA.drewN m).drewN m') := fun m c => by
          rw [hM]; exact at32_any b (off + k + 4) c (D.drop 4) (len - k - 4) (wA.drewN m) (by rw [List.length_drop, HDL.out]) ((RD.out.drop 4).same rfl) (by omega) (by omega)
        have hnot := bits_not_if N hNl
        have HNN : Hid (N = rd32 D) := hN
        have HMM : Hid (M = rd32 (D.drop 4)) := hM
        clear hN hM
        by_cases hfit : M ≠ notN N ∨ 8000 < N ∨ len - k - 12 < N
        · have HE : Hid (scanN zs = (done, k, false)) := scan_step_none HS.out hD0.out (by rw [← HD.out]; exact take_unfit (by rw [← HNN.out, ← HMM.out, HDL.out]; exact hfit))
          by_cases f1 : M = notN N
          · have g1 : (((M : Nat) : Int) != ((notN N : Nat) : Int)) = false := by simp; omega
            by_cases f2 : 8000 < N
            · have g2 : (8000 : Int) < (N : Int) := by omega
              go_wp2_with (first | (go_at_call_of 61 (some (⟨b, off + k, none⟩ : Addr)); refine (A1.out _).mono ?_; rintro e w2 ⟨rfl, m2, rfl⟩) | (go_at_call 61; refine (A2.out _ _).mono ?_; rintro e w3 ⟨rfl, m3, rfl⟩))
              go_ret3
              refine ⟨ax, n, cx, by rw [HE.out]; rfl, by rw [HE.out]; exact HO.out.below (below_drewN (Below.refl _ _) _) (Nat.le_refl _), below_drewN HB.out _⟩
            · have g2 : ¬ (8000 : Int) < (N : Int) := by omega
              have g3 : ((len - k : Nat) : Int) - 12 < (N : Int) := by omega
              go_wp2_with (first | (go_at_call_of 61 (some (⟨b, off + k, none⟩ : Addr)); refine (A1.out _).mono ?_; rintro e w2 ⟨rfl, m2, rfl⟩) | (go_at_call 61; refine (A2.out _ _).mono ?_; rintro e w3 ⟨rfl, m3, rfl⟩))
              go_ret3
              refine ⟨ax, n, cx, by rw [HE.out]; rfl, by rw [HE.out]; exact HO.out.below (below_drewN (Below.refl _ _) _) (Nat.le_refl _), below_drewN HB.out _⟩
          · have g1 : (((M : Nat) : Int) != ((notN N : Nat) : Int)) = true := by simp; omega
            go_wp2_with (first | (go_at_call_of 61 (some (⟨b, off + k, none⟩ : Addr)); refine (A1.out _).mono ?_; rintro e w2 ⟨rfl, m2, rfl⟩) | (go_at_call 61; refine (A2.out _ _).mono ?_; rintro e w3 ⟨rfl, m3, rfl⟩))
            go_ret3
            refine ⟨ax, n, cx, by rw [HE.out]; rfl, by rw [HE.out]; exact HO.out.below (below_drewN (Below.refl _ _) _) (Nat.le_refl _), below_drewN HB.out _⟩
        · have g1 : (((M : Nat) : Int) != ((notN N : Nat) : Int)) = false := by simp; omega
          have g2 : ¬ (8000 : Int) < (N : Int) := by omega
          have g3 : ¬ ((len - k : Nat) : Int) - 12 < (N : Int) := by omega
          have h8 : N ≤ 8000 := by omega
          have hfits : 12 + N ≤ len - k := by omega
          obtain ⟨R, hR⟩ : ∃ R, R = (D.drop 12).take N := ⟨_, rfl⟩
          have HRL : Hid (R.length = N) := by show _ = _; rw [hR]; simp [HDL.out]; omega
          have RR : Hid (∀ w2, Below wA.heap.size wA w2 → Row w2 (if cap - k = 12 then some ⟨b, off + k, none⟩ else some ⟨b, off + k + 12, none⟩) R) := fun w2 h2 => by
            by_cases hc : cap - k = 12
            · have : R = [] := List.eq_nil_of_length_eq_zero (by rw [HRL.out]; omega)
              rw [this]; exact Row.nil _ _
            · rw [if_neg hc, hR]; exact ((RD.out.below h2 (Nat.le_refl _)).drop 12).take N
          have HRN : Hid ((if cap - k = 12 then some (⟨b, off + k, none⟩ : Addr) else some ⟨b, off + k + 12, none⟩) = none → 12 + N - 12 = 0 ∧ cap - k - 12 = 0) := by intro h; split at h <;> cases h
          have H12N : Hid (12 + N - 12 = N) := by show _ = _; omega
          have HRL2 : Hid (R.length = 12 + N - 12) := by show _ = _; rw [HRL.out]; omega
          have HT : Hid (takeN D = if frameN R = D.take (12 + N) then some R else none) := by
            have := take_fit (zs := D) (by rw [HDL.out]; omega) (by rw [← HNN.out, ← HMM.out, HDL.out]; exact hfit)
            rw [← HNN.out, ← hR] at this
            exact this
          clear hfit hR
          go_wp2_with (first | (at_builtin; refine wpList_append_new rfl (.tmp 44) (.tmp 49) rfl rfl R _ _ _ rfl (RR.out _ (below_drewN (Below.refl _ _) _)) HRL2.out HRN.out (by omega) ?_; intro b4 c4 w4 hown4 hb4; rw [H12N.out] at hown4 ⊢; have HOWN4 : Hid (w4.ownsRow wA.heap.size 5 1 (.slice b4 N c4) N (bs R)) := hown4; have HB4 : Hid (Below wA.heap.size wA w4) := (below_drewN (Below.refl _ _) _).trans hb4; clear hown4 hb4) | (go_at_call_of 61 (some (⟨b, off + k, none⟩ : Addr)); refine (A1.out _).mono ?_; rintro e w2 ⟨rfl, m2, rfl⟩) | (go_at_call 61; refine (A2.out _ _).mono ?_; rintro e w3 ⟨rfl, m3, rfl⟩))
          clear HRN
          all_goals
            have RB : Hid (∀ w', Below w4.heap.size w4 w' → Row w' (some ⟨b, off + k, none⟩) (D.take (12 + N))) := fun w' h => ((RD.out.below HB4.out (Nat.le_refl _)).below h (Nat.le_refl _)).take (12 + N)
            have HTL : Hid ((D.take (12 + N)).length = 12 + N) := by show _ = _; rw [List.length_take, HDL.out]; omega
            have KS : Hid (∀ w', Below w4.heap.size w4 w' → Below w4.heap.size w4 w' ∧ ∀ c, (convert 31 9 (.slice (some ⟨b, off + k, none⟩) (12 + N) c)).run Try.prog w' = .ok (.string (strOfNums (D.take (12 + N)))) w') := fun w' h => ⟨h, fun c => str_at HTL.out (RB.out w' h) c⟩
            have FR : Hid (Calls Try.prog 48 #[.slice b4 N c4] w4.drew fun e w' => ∃ ax cx, e = .returned (.slice ax (12 + N) cx) ∧ Row w' ax (frameN R) ∧ Below w4.heap.size w4 w') := by
              refine (rframe_any b4 c4 R N w4.drew HRL.out ((own_row HOWN4.out ?_).same rfl) (own_nil HOWN4.out) h8).mono ?_
              · exact (RR.out _ (Below.refl _ _)).bytes
              · rintro e w' ⟨ax', cx', rfl, h1, h2⟩
                exact ⟨ax', cx', rfl, own_row h1 (frame_by R (RR.out _ (Below.refl _ _)).bytes), (Below.refl _ _).drew.trans h2⟩
            have heq : Hid (((strOfNums (frameN R)).toList == (strOfNums (D.take (12 + N))).toList) = decide (frameN R = D.take (12 + N))) := str_eq (frame_by R (RR.out _ (Below.refl _ _)).bytes) (By.take RD.out.bytes _)
            have HFL : Hid ((frameN R).length = 12 + N) := by show _ = _; rw [frame_len, HRL.out]
            have hopS : ∀ p, opS p = { dst := some 53, op := Op.convert 31 9 (Operand.tmp 52), type := 9, pos := p, after := #[{ on := 1, ground := Ground.data }], guard := none } := fun _ => rfl
            have q1 : 12 + N ≤ cap - k := by omega
            have q2 : (12 : Int) + (N : Int) ≤ ((cap - k : Nat) : Int) := by omega
            have q4 : ¬ cap ≤ k := by omega
            have q5 : ¬ cap - k = 0 := by omega
            have q6 : ((12 : Int) + (N : Int)).toNat = 12 + N := by omega
            have hw1 : IntKind.i64.wrap (N : Int) = (N : Int) := by rw [IntKind.wrap_i64]; omega
            have hw2 : IntKind.i64.wrap ((12 : Int) + (N : Int)) = (12 : Int) + (N : Int) := by rw [IntKind.wrap_i64]; omega
            first | (have hc12 : cap - k = 12 := by assumption
                     have hsl : ∀ w' x, x = (12 : Int) + (N : Int) → (Instr.slice 31 (.slice (some ⟨b, off + k, none⟩) (len - k) 12) none (some (.int .i64 x)) none).run Try.prog w' = .ok (.slice (some ⟨b, off + k, none⟩) (12 + N) 12) w' := fun w' x hx => slice_to w' b (off + k) (len - k) 12 (12 + N) x (by omega) (by omega) (by omega)
                     have hsl' := fun w' => hsl w' _ rfl
                     clear hsl) | (have hsl' : ∀ w', (Instr.slice 31 (.slice (some ⟨b, off + k, none⟩) (len - k) (cap - k)) none (some (.int .i64 ((12 : Int) + (N : Int)))) none).run Try.prog w' = .ok (.slice (some ⟨b, off + k, none⟩) (12 + N) (cap - k)) w' := fun w' => slice_to w' b (off + k) (len - k) (cap - k) (12 + N) _ (by omega) (by omega) (by omega))
            rw [← hopS]
            clear A1 A2 hnot g1 g2 g3
            by_cases hfr : frameN R = D.take (12 + N)
            · have heq' : ((strOfNums (frameN R)).toList == (strOfNums (D.take (12 + N))).toList) = true := by rw [heq.out]; simpa using hfr
              have HTS : Hid (takeN (zs.drop k) = some R) := by rw [← HD.out, HT.out]; exact if_pos hfr
              clear hfr
              go_region_held3 (fun w' => Below w4.heap.size w4 w' ∧ ∀ c, (convert 31 9 (.slice (some ⟨b, off + k, none⟩) (12 + N) c)).run Try.prog w' = .ok (.string (strOfNums (D.take (12 + N)))) w') (first | exact KS.out _ (by assumption) | exact KS.out _ (Below.refl _ _).drew) (first | (go_at_call 48; refine FR.out.mono ?_; rintro e w5 ⟨ax5, cx5, rfl, hrow5, hb5⟩; have hcv5 := str_at HFL.out hrow5 cx5; clear hrow5))
              have HB5 : Hid (Below w.heap.size w w5) := HB.out.trans ((HB4.out.mono HB.out.size).trans (hb5.mono (Nat.le_trans HB.out.size HB4.out.size)))
              have HO5 : Hid (OwnRows w5 w.heap.size (.slice ax n cx) n done) := (HO.out.below HB4.out (Nat.le_refl _)).below hb5 (Nat.le_refl _)
              have NEW5 : Hid (NewRow w5 w.heap.size b4 c4 R) := ((NewRow.of_own HOWN4.out (RR.out _ (Below.refl _ _)).bytes).mono HB.out.size).below hb5 (Nat.le_refl _)
              go_wp2_with (at_builtin; refine wpList_append_rec rfl (.tmp 63) (.tmp 65) rfl w.heap.size w (HB5.out.alloc HB5.out.size _) (by simp; exact Nat.le_trans HB5.out.size (Nat.le_succ _)) _ n done rfl (HO5.out.below ((Below.refl _ _).alloc (Nat.le_refl _) _) (Nat.le_refl _)) _ rfl b4 c4 R N HRL.out (World.cell?_alloc_new _ _ _ _) (NEW5.out.below ((Below.refl _ _).alloc (Nat.le_refl _) _) (Nat.le_refl _)) (by omega) ?_; intro a6 c6 w6 hown6 hb6; have HO6 : Hid _ := hown6; have HB6 : Hid _ := hb6; clear hown6 hb6)
              go_roundw
              case rel =>
                refine ⟨k + 12 + N, n + 1, a6, c6, done ++ [R], by omega, by omega, by go_num, rfl, HO6.out, ?_, HB6.out⟩
                have h := scan_step_some HS.out HTS.out
                rw [HRL.out] at h
                exact h
              case measure => simp [intOf]; omega
            · have heq' : ((strOfNums (frameN R)).toList == (strOfNums (D.take (12 + N))).toList) = false := by rw [heq.out]; simpa using hfr
              have HE : Hid (scanN zs = (done, k, false)) := scan_step_none HS.out hD0.out (by rw [← HD.out, HT.out]; exact if_neg hfr)
              clear hfr
              go_region_held3 (fun w' => Below w4.heap.size w4 w' ∧ ∀ c, (convert 31 9 (.slice (some ⟨b, off + k, none⟩) (12 + N) c)).run Try.prog w' = .ok (.string (strOfNums (D.take (12 + N)))) w') (first | exact KS.out _ (by assumption) | exact KS.out _ (Below.refl _ _).drew) (first | (go_at_call 48; refine FR.out.mono ?_; rintro e w5 ⟨ax5, cx5, rfl, hrow5, hb5⟩; have hcv5 := str_at HFL.out hrow5 cx5; clear hrow5))
              go_wp2
              go_ret3
              refine ⟨ax, n, cx, by rw [HE.out]; rfl, by rw [HE.out]; exact (HO.out.below HB4.out (Nat.le_refl _)).below hb5 (Nat.le_refl _), HB.out.trans ((HB4.out.mono HB.out.size).trans (hb5.mono (Nat.le_trans HB.out.size HB4.out.size)))⟩
    · obtain rfl : k = len := by omega
      have HE : Hid (scanN zs = (done, k, true)) := scan_step_end HS.out (List.drop_eq_nil_of_le (by rw [HN.out]; exact Nat.le_refl _))
      clear hlt hk
      go_wp2
      go_ret3
      refine ⟨ax, n, cx, by rw [HE.out]; rfl, by rw [HE.out]; exact HO.out, HB.out⟩
end Go.Proofs.Ytlfmhdljldbjmaa
