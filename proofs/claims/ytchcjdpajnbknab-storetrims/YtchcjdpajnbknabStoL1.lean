/-
  What layer 12's own helpers and the document's own Items answer: long, at, k, keys, Items.
-/
import Derived.Test.YtchcjdpajnbknabStB
import Derived.Test.YtchcjdpajnbknabRefKeyOf
namespace Go.Proofs.Ytchcjdpajnbknab
open Go.RowKit
set_option linter.unusedVariables false

/-- A result that lies in memory is answered whole. -/
theorem results_row {fn : Func} {c : Tmp} {T : TypeId} (h : fn.results = #[.cell c T]) (tmps : Array Value) (w : World) (b o : Nat) (cs : List Value) (d : TypeDesc) (hp : tmps.getD c undef = .pointer (some ⟨b, o, none⟩)) (hr : w.rangeAt b o cs) (hu : Try.prog.underlying T = some d) (hd : d.isRow = true) (hi : (Try.prog.info? T).map (·.size) = some cs.length) :
    (results fn tmps).run Try.prog w = .ok (.agg cs.toArray) w := by
  have hl := run_loadVar_mid (P := Try.prog) w b o T cs d hr hu hd hi
  unfold results
  rw [h]
  simp only [List.mapM_toArray, List.mapM_cons, List.mapM_nil, hp]
  simp [asAddr, hl]
theorem range_made (w : World) (cs : List Value) (T : TypeId) : (w.alloc (.cells cs.toArray T)).rangeAt w.heap.size 0 cs := by
  intro j v hv
  rw [Nat.zero_add, World.cell?_alloc_new]
  simpa using hv
theorem latt_any (t : Int) (w : World) :
    Calls Try.prog 12 #[.int .i64 t] w fun e w' => e = .returned (.agg #[.int .i64 t, .int .u8 0]) ∧ Below w.heap.size w w' := by
  go_enter Try.func12, Try.ntmps12
  go_wp2
  refine bodyPost_ret (results_row rfl _ _ w.heap.size 0 [.int .i64 t, .int .u8 0] _ rfl (range_made w _ _) Try.underlying24 rfl (by kernel_rfl)) rfl ?_
  exact ⟨rfl, (Below.refl _ _).alloc (Nat.le_refl _) _⟩
set_option maxHeartbeats 1000000 in
theorem lk_any (s : List Int) (hs : ∀ z ∈ s, 0 ≤ z ∧ z ≤ 255) (hm : s.length ≤ 140737488351232) (S : ByteArray) (hS : S = strOfNums s) (K : List Int) (hK : K = ofK s) (w : World) :
    Calls Try.prog 13 #[.string S] w fun e w' => e = .returned (kv K) ∧ Below w.heap.size w w' := by
  have KY : Hid (Ky K) := by rw [hK]; exact ofK_ky hs
  obtain ⟨mk, hmk⟩ : ∃ x, x = mayK s := ⟨_, rfl⟩
  have CO : Hid (∀ u, Calls Try.prog 25 #[.string S] u fun e w' => e = .returned (.tuple #[kv K, .bool mk]) ∧ Below u.heap.size u w') := fun u => by rw [hS, hK, hmk]; exact rof_any s hs hm u
  have HM0 : Hid (KeyMine (w.alloc (.cells (kcs zeroK) 26)) w.heap.size 0 zeroK) := KeyMine.made w 26 zeroK zeroK_ky
  have HB0 : Hid (Below w.heap.size w (w.alloc (.cells (kcs zeroK) 26))) := (Below.refl _ _).alloc (Nat.le_refl _) _
  rw [zero_cells] at HM0 HB0
  clear hS hK hmk hs
  go_enter Try.func13, Try.ntmps13
  go_wp2_with (first | (go_at_call 25; refine (CO.out _).mono ?_; rintro e w1 ⟨rfl, hb1⟩; have HM1 : Hid (KeyMine w1 w.heap.size 0 zeroK) := HM0.out.below hb1 HM0.out.lies.lt; have HB1 : Hid (Below w.heap.size w w1) := HB0.out.trans (hb1.mono HB0.out.size); have hmine := KeyMine.made w1 26 zeroK zeroK_ky; obtain ⟨hk1, hb2, hz1⟩ := laid_key w1 26 KY.out; rw [zero_cells] at hmine hk1 hb2 hz1; have HMI : Hid _ := hmine; have HK1 : Hid _ := hk1; have HB2 : Hid _ := hb2; clear hb1 hmine hk1 hb2 hz1) | (have hgo := HMI.out; clear hgo; refine wpList_store_keyU (by rfl) _ _ (by rfl) w1.heap.size 0 zeroK K (by rfl) (by rfl) KY.out HMI.out ?_; intro u2 hu; rw [← hu] at HK1 HB2; have HM2 : Hid (KeyMine u2 w.heap.size 0 zeroK) := HM1.out.below HB2.out HM1.out.lies.lt; clear hu HMI) | (have hgo := HM2.out; clear hgo; refine wpList_load_keyD 10 (by rfl) (by rfl) _ (by rfl) w1.heap.size 0 (by rfl) K KY.out HK1.out.lies ?_) | (have hgo := HM2.out; clear hgo; refine wpList_store_keyU (by rfl) _ _ (by rfl) w.heap.size 0 zeroK K (by rfl) (by rfl) KY.out HM2.out ?_; intro u3 hu3; have HM3 : Hid (KeyMine u3 w.heap.size 0 K) := hu3 ▸ HM2.out.store KY.out; have HB3 : Hid (Below w.heap.size w u3) := hu3 ▸ below_cells (Nat.le_refl _) (HB1.out.trans (HB2.out.mono HB1.out.size)); clear hu3))
  refine bodyPost_ret (results_row rfl _ _ w.heap.size 0 (K.map (Value.int .u8)) _ rfl (HM3.out.lies.range KY.out) Try.underlying26 rfl (info_keyl K KY.out)) rfl ?_
  exact ⟨rfl, HB3.out⟩
/-- Are writes more than is asked of? -/
def longW (l : List Wrt) : Bool := decide (20 < l.length) || l.any (fun W => decide (250 < W.v.length))
theorem WrtAt.str {w : World} {b o : Nat} {W : Wrt} (h : WrtAt w b o W) (hk : Ky W.k) : w.cell? ⟨b, o + 16, none⟩ = some (.string (strOfNums W.v)) := (h.cells hk).1
set_option maxHeartbeats 1000000 in
theorem llong_any (a : Option Addr) (N cap : Nat) (l : List Wrt) (w : World) (hl : l.length = N) (hc : N ≤ cap) (hN : N ≤ 9223372036854775807) (hat : WrtsAt w a l) :
    Calls Try.prog 6 #[.slice a N cap] w fun e w' => e = .returned (.bool (longW l)) ∧ w' = w := by
  obtain ⟨R, hR⟩ : ∃ R, R = longW l := ⟨_, rfl⟩
  have hR2 : R = (decide (20 < N) || l.any (fun W => decide (250 < W.v.length))) := by rw [hR, ← hl]; rfl
  rw [← hR]
  clear hR
  by_cases h20 : 20 < N
  · have HR : Hid (R = true) := by show R = true; rw [hR2, decide_eq_true h20]; rfl
    have d1 : (20 : Int) < (N : Int) := by omega
    clear hR2 hat hl
    go_enter Try.func6, Try.ntmps6
    go_wp2
    go_ret
    exact ⟨by rw [HR.out]; rfl, rfl⟩
  have d1 : ¬ (20 : Int) < (N : Int) := by omega
  have HR : Hid (R = l.any (fun W => decide (250 < W.v.length))) := by show R = _; rw [hR2, decide_eq_false h20]; rfl
  have HL : Hid (l.length = N) := hl
  have HA : Hid (WrtsAt w a l) := hat
  clear hR2 hat hl
  go_enter Try.func6, Try.ntmps6
  go_wp2
  go_loop [3] (fun i => ∃ n : Nat, n ≤ N ∧ i = .int .i64 n ∧ Hid (∀ W ∈ l.take n, W.v.length ≤ 250)) (fun i => N - (intOf i).toNat)
  case atStart => exact ⟨0, Nat.zero_le _, rfl, fun W hW => by simp at hW⟩
  case round =>
    obtain ⟨n, hn, rfl, HS⟩ := hrel
    have hn0 : (0 : Int) ≤ (n : Int) := by omega
    by_cases hlt : n < N
    · have h1 : (n : Int) < (N : Int) := by omega
      obtain ⟨W, hW⟩ : ∃ W, l[n]? = some W := ⟨_, List.getElem?_eq_getElem (by rw [HL.out]; exact hlt)⟩
      obtain ⟨b, o, rfl, hwa, hwo⟩ := HA.out.wrt hW
      have y0 := hwa.str hwo.key
      have HT : Hid (l.take (n + 1) = l.take n ++ [W]) := by show _ = _; rw [List.take_add_one, hW]; rfl
      have HWM : Hid (W ∈ l) := List.mem_of_getElem? hW
      obtain ⟨S, hS⟩ : ∃ S, S = strOfNums W.v := ⟨_, rfl⟩
      obtain ⟨m, hm⟩ : ∃ m, m = W.v.length := ⟨_, rfl⟩
      have HMW : Hid (m = W.v.length) := hm
      have hsz : S.size = m := by rw [hS, hm]; exact strOfNums_size _
      have hfew : m ≤ 9223372036854775807 := by
        have := hwo.few
        unfold maxLen at this
        rw [hm]
        exact Nat.le_trans this (by omega)
      rw [← hS] at y0
      clear hS hm hwa hwo hW
      by_cases hlong : 250 < m
      · have d2 : (250 : Int) < (m : Int) := by omega
        have HRT : Hid (R = true) := by
          show R = true
          rw [HR.out]
          exact List.any_eq_true.2 ⟨W, HWM.out, decide_eq_true (by rw [← HMW.out]; exact hlong)⟩
        go_wp2
        go_ret
        exact ⟨by rw [HRT.out]; rfl, rfl⟩
      · have d2 : ¬ (250 : Int) < (m : Int) := by omega
        have HS2 : Hid (∀ W ∈ l.take (n + 1), W.v.length ≤ 250) := fun V hV => by
          rw [HT.out] at hV
          rcases List.mem_append.1 hV with e | e
          · exact HS.out V e
          · simp at e; rw [e, ← HMW.out]; omega
        go_wp2
        go_round
        case rel => exact ⟨n + 1, by omega, by go_num, HS2⟩
        case measure => simp [intOf]; omega
    · obtain rfl : n = N := by omega
      have HRF : Hid (R = false) := by
        show R = false
        rw [HR.out]
        refine List.any_eq_false.2 (fun W hW => ?_)
        have := HS.out W (by rw [List.take_of_length_le (by rw [HL.out]; exact Nat.le_refl _)]; exact hW)
        simp; omega
      go_wp2
      go_ret
      exact ⟨by rw [HRF.out]; rfl, rfl⟩
theorem eq_key9s (w : World) (a b : List Int) (ha : Ky a) (hb : Ky b) : (Op.equalIn 9999 26 (.agg (a.map (Value.int .u8)).toArray) (.agg (b.map (Value.int .u8)).toArray)).run Try.prog w = .ok (decide (a = b)) w := by
  obtain ⟨i, hi⟩ := key_parts
  rw [run_equalIn_array w 9998 _ _ Try.underlying26 hi, List.range_eq_range', eq_items Try.underlying5 (by kernel_rfl) 9997 w a b 16 0 (by rw [ha.len]) (by rw [hb.len])]
  by_cases h : a = b <;> simp [h]
theorem encI_parts {x : Itm} (h : Ky x.1) : (encI x).take 16 = x.1.map (Value.int .u8) ∧ (encI x)[16]? = some (.string (strOfNums x.2)) := by
  have hl := kc_len h
  unfold encI
  refine ⟨?_, ?_⟩
  · rw [List.take_append_of_le_length (by omega), List.take_of_length_le (by omega)]; rfl
  · rw [List.getElem?_append_right (by omega), hl]; rfl
set_option maxHeartbeats 1000000 in
theorem eq_itm (w : World) (A B : Itm) (hA : ItmOk A) (hB : ItmOk B) : (Op.equalIn 10000 64 (iv A) (iv B)).run Try.prog w = .ok (decide (A = B)) w := by
  obtain ⟨a0, a1⟩ := encI_parts hA.key
  obtain ⟨b0, b1⟩ := encI_parts hB.key
  have hk := fun u => eq_key9s u A.1 B.1 hA.key hB.key
  have hs := str_eq hA.val hB.val
  have hd : decide (A = B) = (decide (A.1 = B.1) && decide (A.2 = B.2)) := by
    rw [Bool.eq_iff_iff]
    simp [Prod.ext_iff]
  rw [hd]
  clear hd
  go_simp
  by_cases h1 : A.1 = B.1
  · by_cases h4 : A.2 = B.2 <;> simp [h1, h4]
  · simp [h1]
theorem info_itml (x : Itm) (h : Ky x.1) : (Try.prog.info? 64).map (·.size) = some (encI x).length := by rw [info_itm, encI_len h]
set_option maxHeartbeats 4000000 in
set_option maxRecDepth 4000 in
theorem ritems_any (a a' : Option Addr) (N N' c c' : Nat) (L M : List Itm) (w : World) (hl : L.length = N) (hl' : M.length = N') (hc : N ≤ c) (hc' : N' ≤ c') (hN : N ≤ 1000000) (hN' : N' ≤ 1000000) (h : ItmsAt w a L) (h' : ItmsAt w a' M) :
    Calls Try.prog 11 #[.slice a N c, .slice a' N' c'] w fun e w' => e = .returned (.bool (decide (L = M))) ∧ Below w.heap.size w w' := by
  have HN : Hid (L.length = N) := hl
  have HN' : Hid (M.length = N') := hl'
  have HA : Hid (ItmsAt w a L) := h
  have HA' : Hid (ItmsAt w a' M) := h'
  obtain ⟨R, hR⟩ : ∃ R, R = decide (L = M) := ⟨_, rfl⟩
  have HR : Hid (R = decide (L = M)) := hR
  rw [← hR]
  clear hR h h' hl hl'
  by_cases hne : N = N'
  · subst hne
    have bn : (((N : Nat) : Int) != ((N : Nat) : Int)) = false := by simp
    go_enter Try.func11, Try.ntmps11
    go_wp2
    go_loopw [5] (fun iv wr => ∃ i : Nat, iv = .int .i64 i ∧ i ≤ N ∧ Hid (Below w.heap.size w wr) ∧ Hid (L.take i = M.take i)) (fun iv _ => N - (intOf iv).toNat)
    case atStart => exact ⟨0, rfl, Nat.zero_le _, Below.refl _ _, by simp [Hid]⟩
    case round =>
      obtain ⟨i, rfl, hi, HB, HT⟩ := hrel
      have hi0 : (0 : Int) ≤ (i : Int) := by omega
      by_cases hlt : i < N
      · have bl : (i : Int) < (N : Int) := by omega
        obtain ⟨V, hV⟩ : ∃ V, L[i]? = some V := ⟨_, List.getElem?_eq_getElem (by rw [HN.out]; exact hlt)⟩
        obtain ⟨W, hW⟩ : ∃ V, M[i]? = some V := ⟨_, List.getElem?_eq_getElem (by rw [HN'.out]; exact hlt)⟩
        have HV : Hid (L[i]? = some V) := hV
        have HW : Hid (M[i]? = some W) := hW
        obtain ⟨g, o, rfl, hva, hvo⟩ := (HA.out.past HB.out).itm hV
        obtain ⟨g', o', rfl, hwa, hwo⟩ := (HA'.out.past HB.out).itm hW
        have KV : Hid (ItmOk V) := hvo
        have KW : Hid (ItmOk W) := hwo
        have FV : Hid (∀ u, Below wr.heap.size wr u → ItmAt u g (o + i * 17) V) := fun u hb => hva.past hb
        have FW : Hid (∀ u, Below wr.heap.size wr u → ItmAt u g' (o' + i * 17) W) := fun u hb => hwa.past hb
        have heq := fun u => eq_itm u V W KV.out KW.out
        clear hV hW hva hvo hwa hwo
        by_cases hVW : V = W
        · rw [decide_eq_true hVW] at heq
          have HT2 : Hid (L.take (i + 1) = M.take (i + 1)) := by show _ = _; rw [List.take_add_one, List.take_add_one, HV.out, HW.out, HT.out, hVW]
          clear hVW
          go_wp2
          refine wp_region_noPanic ?_
          refine wp_region_held_drew (S := fun u => Below wr.heap.size wr u) (by kernel_rfl) ?_ (fun hHeld => ?_)
          · exact (Below.refl _ _).drew
          refine wpAnyH_take (i := 0) (v := ?_) rfl (by kernel_rfl) (by kernel_rfl) (by kernel_rfl) (fun _ _ _ h => h) (Or.inl ⟨by rfl, ?_⟩) hHeld ?_
          rotate_left
          · intro u hSu
            (go_simp) <;> (with_reducible rfl)
          change wpAnyH _ _ _ _ _ _ _ (Act.put _ (some 17) _) _
          simp only [Act.put, List.setIfInBounds_toArray, List.set_cons_zero, List.set_cons_succ]
          refine wpAnyH_take (i := 1) (v := ?_) rfl (by kernel_rfl) (by kernel_rfl) (by kernel_rfl) (fun _ _ _ h => h) (Or.inl ⟨by rfl, ?_⟩) hHeld ?_
          rotate_left
          · intro u hSu
            (go_simp) <;> (with_reducible rfl)
          change wpAnyH _ _ _ _ _ _ _ (Act.put _ (some 18) _) _
          simp only [Act.put, List.setIfInBounds_toArray, List.set_cons_zero, List.set_cons_succ]
          refine wpAnyH_take (i := 2) (v := ?_) rfl (by kernel_rfl) (by kernel_rfl) (by kernel_rfl) (fun _ _ _ h => h) (Or.inl ⟨by rfl, ?_⟩) hHeld ?_
          rotate_left
          · intro u hSu
            (go_simp) <;> (with_reducible rfl)
          change wpAnyH _ _ _ _ _ _ _ (Act.put _ (some 19) _) _
          simp only [Act.put, List.setIfInBounds_toArray, List.set_cons_zero, List.set_cons_succ]
          refine wpAnyH_take (i := 3) (v := iv V) rfl (by kernel_rfl) (by kernel_rfl) (by kernel_rfl) (fun _ _ _ h => h) (yieldsIf_load_mid (by rfl) _ _ rfl _ _ rfl (encI V) _ (fun u hu => (FV.out u hu).lies.range) Try.underlying64 rfl (info_itml V KV.out.key)) hHeld ?_
          change wpAnyH _ _ _ _ _ _ _ (Act.put _ (some 20) _) _
          simp only [Act.put, List.setIfInBounds_toArray, List.set_cons_zero, List.set_cons_succ]
          refine wpAnyH_take (i := 4) (v := ?_) rfl (by kernel_rfl) (by kernel_rfl) (by kernel_rfl) (fun _ _ _ h => h) (Or.inl ⟨by rfl, ?_⟩) hHeld ?_
          rotate_left
          · intro u hSu
            (go_simp) <;> (with_reducible rfl)
          change wpAnyH _ _ _ _ _ _ _ (Act.put _ (some 21) _) _
          simp only [Act.put, List.setIfInBounds_toArray, List.set_cons_zero, List.set_cons_succ]
          refine wpAnyH_take (i := 5) (v := ?_) rfl (by kernel_rfl) (by kernel_rfl) (by kernel_rfl) (fun _ _ _ h => h) (Or.inl ⟨by rfl, ?_⟩) hHeld ?_
          rotate_left
          · intro u hSu
            (go_simp) <;> (with_reducible rfl)
          change wpAnyH _ _ _ _ _ _ _ (Act.put _ (some 22) _) _
          simp only [Act.put, List.setIfInBounds_toArray, List.set_cons_zero, List.set_cons_succ]
          refine wpAnyH_take (i := 6) (v := ?_) rfl (by kernel_rfl) (by kernel_rfl) (by kernel_rfl) (fun _ _ _ h => h) (Or.inl ⟨by rfl, ?_⟩) hHeld ?_
          rotate_left
          · intro u hSu
            (go_simp) <;> (with_reducible rfl)
          change wpAnyH _ _ _ _ _ _ _ (Act.put _ (some 23) _) _
          simp only [Act.put, List.setIfInBounds_toArray, List.set_cons_zero, List.set_cons_succ]
          refine wpAnyH_take (i := 7) (v := iv W) rfl (by kernel_rfl) (by kernel_rfl) (by kernel_rfl) (fun _ _ _ h => h) (yieldsIf_load_mid (by rfl) _ _ rfl _ _ rfl (encI W) _ (fun u hu => (FW.out u hu).lies.range) Try.underlying64 rfl (info_itml W KW.out.key)) hHeld ?_
          change wpAnyH _ _ _ _ _ _ _ (Act.put _ (some 24) _) _
          simp only [Act.put, List.setIfInBounds_toArray, List.set_cons_zero, List.set_cons_succ]
          refine wpAnyH_take (i := 8) (v := ?_) rfl (by kernel_rfl) (by kernel_rfl) (by kernel_rfl) (fun _ _ _ h => h) (Or.inl ⟨by rfl, ?_⟩) hHeld ?_
          rotate_left
          · intro u hSu
            (go_simp) <;> (with_reducible rfl)
          change wpAnyH _ _ _ _ _ _ _ (Act.put _ (some 25) _) _
          simp only [Act.put, List.setIfInBounds_toArray, List.set_cons_zero, List.set_cons_succ]
          refine wpAnyH_done (by kernel_rfl) ?_ _
          refine NoPanic.normal ?_
          go_wp2
          go_roundw
          case rel => exact ⟨i + 1, by go_num, by omega, HB.out.drew, HT2⟩
          case measure => simp [intOf]; omega
        · rw [decide_eq_false hVW] at heq
          have HRF : Hid (R = false) := by
            show R = _
            rw [HR.out]
            refine decide_eq_false (fun e => hVW ?_)
            have h1 := HV.out
            rw [e, HW.out] at h1
            injection h1 with h1
            exact h1.symm
          clear hVW
          go_wp2
          refine wp_region_noPanic ?_
          refine wp_region_held_drew (S := fun u => Below wr.heap.size wr u) (by kernel_rfl) ?_ (fun hHeld => ?_)
          · exact (Below.refl _ _).drew
          refine wpAnyH_take (i := 0) (v := ?_) rfl (by kernel_rfl) (by kernel_rfl) (by kernel_rfl) (fun _ _ _ h => h) (Or.inl ⟨by rfl, ?_⟩) hHeld ?_
          rotate_left
          · intro u hSu
            (go_simp) <;> (with_reducible rfl)
          change wpAnyH _ _ _ _ _ _ _ (Act.put _ (some 17) _) _
          simp only [Act.put, List.setIfInBounds_toArray, List.set_cons_zero, List.set_cons_succ]
          refine wpAnyH_take (i := 1) (v := ?_) rfl (by kernel_rfl) (by kernel_rfl) (by kernel_rfl) (fun _ _ _ h => h) (Or.inl ⟨by rfl, ?_⟩) hHeld ?_
          rotate_left
          · intro u hSu
            (go_simp) <;> (with_reducible rfl)
          change wpAnyH _ _ _ _ _ _ _ (Act.put _ (some 18) _) _
          simp only [Act.put, List.setIfInBounds_toArray, List.set_cons_zero, List.set_cons_succ]
          refine wpAnyH_take (i := 2) (v := ?_) rfl (by kernel_rfl) (by kernel_rfl) (by kernel_rfl) (fun _ _ _ h => h) (Or.inl ⟨by rfl, ?_⟩) hHeld ?_
          rotate_left
          · intro u hSu
            (go_simp) <;> (with_reducible rfl)
          change wpAnyH _ _ _ _ _ _ _ (Act.put _ (some 19) _) _
          simp only [Act.put, List.setIfInBounds_toArray, List.set_cons_zero, List.set_cons_succ]
          refine wpAnyH_take (i := 3) (v := iv V) rfl (by kernel_rfl) (by kernel_rfl) (by kernel_rfl) (fun _ _ _ h => h) (yieldsIf_load_mid (by rfl) _ _ rfl _ _ rfl (encI V) _ (fun u hu => (FV.out u hu).lies.range) Try.underlying64 rfl (info_itml V KV.out.key)) hHeld ?_
          change wpAnyH _ _ _ _ _ _ _ (Act.put _ (some 20) _) _
          simp only [Act.put, List.setIfInBounds_toArray, List.set_cons_zero, List.set_cons_succ]
          refine wpAnyH_take (i := 4) (v := ?_) rfl (by kernel_rfl) (by kernel_rfl) (by kernel_rfl) (fun _ _ _ h => h) (Or.inl ⟨by rfl, ?_⟩) hHeld ?_
          rotate_left
          · intro u hSu
            (go_simp) <;> (with_reducible rfl)
          change wpAnyH _ _ _ _ _ _ _ (Act.put _ (some 21) _) _
          simp only [Act.put, List.setIfInBounds_toArray, List.set_cons_zero, List.set_cons_succ]
          refine wpAnyH_take (i := 5) (v := ?_) rfl (by kernel_rfl) (by kernel_rfl) (by kernel_rfl) (fun _ _ _ h => h) (Or.inl ⟨by rfl, ?_⟩) hHeld ?_
          rotate_left
          · intro u hSu
            (go_simp) <;> (with_reducible rfl)
          change wpAnyH _ _ _ _ _ _ _ (Act.put _ (some 22) _) _
          simp only [Act.put, List.setIfInBounds_toArray, List.set_cons_zero, List.set_cons_succ]
          refine wpAnyH_take (i := 6) (v := ?_) rfl (by kernel_rfl) (by kernel_rfl) (by kernel_rfl) (fun _ _ _ h => h) (Or.inl ⟨by rfl, ?_⟩) hHeld ?_
          rotate_left
          · intro u hSu
            (go_simp) <;> (with_reducible rfl)
          change wpAnyH _ _ _ _ _ _ _ (Act.put _ (some 23) _) _
          simp only [Act.put, List.setIfInBounds_toArray, List.set_cons_zero, List.set_cons_succ]
          refine wpAnyH_take (i := 7) (v := iv W) rfl (by kernel_rfl) (by kernel_rfl) (by kernel_rfl) (fun _ _ _ h => h) (yieldsIf_load_mid (by rfl) _ _ rfl _ _ rfl (encI W) _ (fun u hu => (FW.out u hu).lies.range) Try.underlying64 rfl (info_itml W KW.out.key)) hHeld ?_
          change wpAnyH _ _ _ _ _ _ _ (Act.put _ (some 24) _) _
          simp only [Act.put, List.setIfInBounds_toArray, List.set_cons_zero, List.set_cons_succ]
          refine wpAnyH_take (i := 8) (v := ?_) rfl (by kernel_rfl) (by kernel_rfl) (by kernel_rfl) (fun _ _ _ h => h) (Or.inl ⟨by rfl, ?_⟩) hHeld ?_
          rotate_left
          · intro u hSu
            (go_simp) <;> (with_reducible rfl)
          change wpAnyH _ _ _ _ _ _ _ (Act.put _ (some 25) _) _
          simp only [Act.put, List.setIfInBounds_toArray, List.set_cons_zero, List.set_cons_succ]
          refine wpAnyH_done (by kernel_rfl) ?_ _
          refine NoPanic.normal ?_
          go_wp2
          go_ret
          exact ⟨by rw [HRF.out]; rfl, HB.out.drew⟩
      · have bl : ¬ (i : Int) < (N : Int) := by omega
        have HRT : Hid (R = true) := by
          show R = _
          rw [HR.out]
          refine decide_eq_true ?_
          have e1 := HT.out
          rw [List.take_of_length_le (by rw [HN.out]; omega), List.take_of_length_le (by rw [HN'.out]; omega)] at e1
          exact e1
        go_wp2
        go_ret
        exact ⟨by rw [HRT.out]; rfl, HB.out⟩
  · have bn : (((N : Nat) : Int) != ((N' : Nat) : Int)) = true := by simp; omega
    have HRF : Hid (R = false) := by show R = _; rw [HR.out]; exact decide_eq_false (fun e => hne (by rw [← HN.out, ← HN'.out, e]))
    go_enter Try.func11, Try.ntmps11
    go_wp2
    go_ret
    exact ⟨by rw [HRF.out]; rfl, Below.refl _ _⟩
end Go.Proofs.Ytchcjdpajnbknab
