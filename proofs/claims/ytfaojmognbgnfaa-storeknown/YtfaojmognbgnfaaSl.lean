/-
  What layer 12's own helpers and the document's own Items answer: long, at, k, keys, Items.
  A store of the call's own, as layer 12's statements use it; what their own awake answers.
-/
import Derived.Test.YtfaojmognbgnfaaStB
import Derived.Test.YtfaojmognbgnfaaRefKeyOf
namespace Go.Proofs.Ytfaojmognbgnfaa
open Go.RowKit
set_option linter.unusedVariables false

/-- A result that lies in memory is answered whole. -/
theorem results_row {fn : Func} {c : Tmp} {T : TypeId} (h : fn.results = #[.cell c T]) (tmps : Array Value) (w : World) (b o : Nat) (cs : List Value) (d : TypeDesc) (hp : tmps.getD c undef = .pointer (some ⟨b, o, none⟩)) (hr : w.rangeAt b o cs) (hu : Try.prog.underlying T = some d) (hd : d.isRow = true) (hi : (Try.prog.info? T).map (·.size) = some cs.length) :
    (results fn tmps).run Try.prog w = .ok (.agg cs.toArray) w := by
  have hl := run_loadVar_mid (P := Try.prog) w b o T cs d hr hu hd hi
  unfold results
  rw [h]
  simp only [List.mapM_toArray, List.mapM_cons, List.mapM_nil, hp]
  simp [asAddr, hl]
theorem range_made (w : World) (cs : List Value) (T : TypeId) : (w.alloc (.cells cs.toArray T)).rangeAt w.heap.size 0 cs := by
  intro j v hv
  rw [Nat.zero_add, World.cell?_alloc_new]
  simpa using hv
theorem latt_any (t : Int) (w : World) :
    Calls Try.prog 11 #[.int .i64 t] w fun e w' => e = .returned (.agg #[.int .i64 t, .int .u8 0]) ∧ Below w.heap.size w w' := by
  go_enter Try.func11, Try.ntmps11
  go_wp2
  refine bodyPost_ret (results_row rfl _ _ w.heap.size 0 [.int .i64 t, .int .u8 0] _ rfl (range_made w _ _) Try.underlying28 rfl (by kernel_rfl)) rfl ?_
  exact ⟨rfl, (Below.refl _ _).alloc (Nat.le_refl _) _⟩
set_option maxHeartbeats 1000000 in
theorem lk_any (s : List Int) (hs : ∀ z ∈ s, 0 ≤ z ∧ z ≤ 255) (hm : s.length ≤ 140737488351232) (S : ByteArray) (hS : S = strOfNums s) (K : List Int) (hK : K = ofK s) (w : World) :
    Calls Try.prog 12 #[.string S] w fun e w' => e = .returned (kv K) ∧ Below w.heap.size w w' := by
  have KY : Hid (Ky K) := by rw [hK]; exact ofK_ky hs
  obtain ⟨mk, hmk⟩ : ∃ x, x = mayK s := ⟨_, rfl⟩
  have CO : Hid (∀ u, Calls Try.prog 33 #[.string S] u fun e w' => e = .returned (.tuple #[kv K, .bool mk]) ∧ Below u.heap.size u w') := fun u => by rw [hS, hK, hmk]; exact rof_any s hs hm u
  have HM0 : Hid (KeyMine (w.alloc (.cells (kcs zeroK) 31)) w.heap.size 0 zeroK) := KeyMine.made w 31 zeroK zeroK_ky
  have HB0 : Hid (Below w.heap.size w (w.alloc (.cells (kcs zeroK) 31))) := (Below.refl _ _).alloc (Nat.le_refl _) _
  rw [zero_cells] at HM0 HB0
  clear hS hK hmk hs
  go_enter Try.func12, Try.ntmps12
  go_wp2_with (first | (go_at_call 33; refine (CO.out _).mono ?_; rintro e w1 ⟨rfl, hb1⟩; have HM1 : Hid (KeyMine w1 w.heap.size 0 zeroK) := HM0.out.below hb1 HM0.out.lies.lt; have HB1 : Hid (Below w.heap.size w w1) := HB0.out.trans (hb1.mono HB0.out.size); have hmine := KeyMine.made w1 31 zeroK zeroK_ky; obtain ⟨hk1, hb2, hz1⟩ := laid_key w1 31 KY.out; rw [zero_cells] at hmine hk1 hb2 hz1; have HMI : Hid _ := hmine; have HK1 : Hid _ := hk1; have HB2 : Hid _ := hb2; clear hb1 hmine hk1 hb2 hz1) | (have hgo := HMI.out; clear hgo; refine wpList_store_keyU (by rfl) _ _ (by rfl) w1.heap.size 0 zeroK K (by rfl) (by rfl) KY.out HMI.out ?_; intro u2 hu; rw [← hu] at HK1 HB2; have HM2 : Hid (KeyMine u2 w.heap.size 0 zeroK) := HM1.out.below HB2.out HM1.out.lies.lt; clear hu HMI) | (have hgo := HM2.out; clear hgo; refine wpList_load_keyD 10 (by rfl) (by rfl) _ (by rfl) w1.heap.size 0 (by rfl) K KY.out HK1.out.lies ?_) | (have hgo := HM2.out; clear hgo; refine wpList_store_keyU (by rfl) _ _ (by rfl) w.heap.size 0 zeroK K (by rfl) (by rfl) KY.out HM2.out ?_; intro u3 hu3; have HM3 : Hid (KeyMine u3 w.heap.size 0 K) := hu3 ▸ HM2.out.store KY.out; have HB3 : Hid (Below w.heap.size w u3) := hu3 ▸ below_cells (Nat.le_refl _) (HB1.out.trans (HB2.out.mono HB1.out.size)); clear hu3))
  refine bodyPost_ret (results_row rfl _ _ w.heap.size 0 (K.map (Value.int .u8)) _ rfl (HM3.out.lies.range KY.out) Try.underlying31 rfl (info_keyl K KY.out)) rfl ?_
  exact ⟨rfl, HB3.out⟩
/-- Are writes more than is asked of? -/
def longW (l : List Wrt) : Bool := decide (20 < l.length) || l.any (fun W => decide (250 < W.v.length))
theorem WrtAt.str {w : World} {b o : Nat} {W : Wrt} (h : WrtAt w b o W) (hk : Ky W.k) : w.cell? ⟨b, o + 16, none⟩ = some (.string (strOfNums W.v)) := (h.cells hk).1
set_option maxHeartbeats 1000000 in
theorem llong_any (a : Option Addr) (N cap : Nat) (l : List Wrt) (w : World) (hl : l.length = N) (hc : N ≤ cap) (hN : N ≤ 9223372036854775807) (hat : WrtsAt w a l) :
    Calls Try.prog 18 #[.slice a N cap] w fun e w' => e = .returned (.bool (longW l)) ∧ w' = w := by
  obtain ⟨R, hR⟩ : ∃ R, R = longW l := ⟨_, rfl⟩
  have hR2 : R = (decide (20 < N) || l.any (fun W => decide (250 < W.v.length))) := by rw [hR, ← hl]; rfl
  rw [← hR]
  clear hR
  by_cases h20 : 20 < N
  · have HR : Hid (R = true) := by show R = true; rw [hR2, decide_eq_true h20]; rfl
    have d1 : (20 : Int) < (N : Int) := by omega
    clear hR2 hat hl
    go_enter Try.func18, Try.ntmps18
    go_wp2
    go_ret
    exact ⟨by rw [HR.out]; rfl, rfl⟩
  have d1 : ¬ (20 : Int) < (N : Int) := by omega
  have HR : Hid (R = l.any (fun W => decide (250 < W.v.length))) := by show R = _; rw [hR2, decide_eq_false h20]; rfl
  have HL : Hid (l.length = N) := hl
  have HA : Hid (WrtsAt w a l) := hat
  clear hR2 hat hl
  go_enter Try.func18, Try.ntmps18
  go_wp2
  go_loop [3] (fun i => ∃ n : Nat, n ≤ N ∧ i = .int .i64 n ∧ Hid (∀ W ∈ l.take n, W.v.length ≤ 250)) (fun i => N - (intOf i).toNat)
  case atStart => exact ⟨0, Nat.zero_le _, rfl, fun W hW => by simp at hW⟩
  case round =>
    obtain ⟨n, hn, rfl, HS⟩ := hrel
    have hn0 : (0 : Int) ≤ (n : Int) := by omega
    by_cases hlt : n < N
    · have h1 : (n : Int) < (N : Int) := by omega
      obtain ⟨W, hW⟩ : ∃ W, l[n]? = some W := ⟨_, List.getElem?_eq_getElem (by rw [HL.out]; exact hlt)⟩
      obtain ⟨b, o, rfl, hwa, hwo⟩ := HA.out.wrt hW
      have y0 := hwa.str hwo.key
      have HT : Hid (l.take (n + 1) = l.take n ++ [W]) := by show _ = _; rw [List.take_add_one, hW]; rfl
      have HWM : Hid (W ∈ l) := List.mem_of_getElem? hW
      obtain ⟨S, hS⟩ : ∃ S, S = strOfNums W.v := ⟨_, rfl⟩
      obtain ⟨m, hm⟩ : ∃ m, m = W.v.length := ⟨_, rfl⟩
      have HMW : Hid (m = W.v.length) := hm
      have hsz : S.size = m := by rw [hS, hm]; exact strOfNums_size _
      have hfew : m ≤ 9223372036854775807 := by
        have := hwo.few
        unfold maxLen at this
        rw [hm]
        exact Nat.le_trans this (by omega)
      rw [← hS] at y0
      clear hS hm hwa hwo hW
      by_cases hlong : 250 < m
      · have d2 : (250 : Int) < (m : Int) := by omega
        have HRT : Hid (R = true) := by
          show R = true
          rw [HR.out]
          exact List.any_eq_true.2 ⟨W, HWM.out, decide_eq_true (by rw [← HMW.out]; exact hlong)⟩
        go_wp2
        go_ret
        exact ⟨by rw [HRT.out]; rfl, rfl⟩
      · have d2 : ¬ (250 : Int) < (m : Int) := by omega
        have HS2 : Hid (∀ W ∈ l.take (n + 1), W.v.length ≤ 250) := fun V hV => by
          rw [HT.out] at hV
          rcases List.mem_append.1 hV with e | e
          · exact HS.out V e
          · simp at e; rw [e, ← HMW.out]; omega
        go_wp2
        go_round
        case rel => exact ⟨n + 1, by omega, by go_num, HS2⟩
        case measure => simp [intOf]; omega
    · obtain rfl : n = N := by omega
      have HRF : Hid (R = false) := by
        show R = false
        rw [HR.out]
        refine List.any_eq_false.2 (fun W hW => ?_)
        have := HS.out W (by rw [List.take_of_length_le (by rw [HL.out]; exact Nat.le_refl _)]; exact hW)
        simp; omega
      go_wp2
      go_ret
      exact ⟨by rw [HRF.out]; rfl, rfl⟩
theorem eq_key9s (w : World) (a b : List Int) (ha : Ky a) (hb : Ky b) : (Op.equalIn 9999 31 (.agg (a.map (Value.int .u8)).toArray) (.agg (b.map (Value.int .u8)).toArray)).run Try.prog w = .ok (decide (a = b)) w := by
  obtain ⟨i, hi⟩ := key_parts
  rw [run_equalIn_array w 9998 _ _ Try.underlying31 hi, List.range_eq_range', eq_items Try.underlying5 (by kernel_rfl) 9997 w a b 16 0 (by rw [ha.len]) (by rw [hb.len])]
  by_cases h : a = b <;> simp [h]
theorem encI_parts {x : Itm} (h : Ky x.1) : (encI x).take 16 = x.1.map (Value.int .u8) ∧ (encI x)[16]? = some (.string (strOfNums x.2)) := by
  have hl := kc_len h
  unfold encI
  refine ⟨?_, ?_⟩
  · rw [List.take_append_of_le_length (by omega), List.take_of_length_le (by omega)]; rfl
  · rw [List.getElem?_append_right (by omega), hl]; rfl
set_option maxHeartbeats 1000000 in
theorem eq_itm (w : World) (A B : Itm) (hA : ItmOk A) (hB : ItmOk B) : (Op.equalIn 10000 41 (iv A) (iv B)).run Try.prog w = .ok (decide (A = B)) w := by
  obtain ⟨a0, a1⟩ := encI_parts hA.key
  obtain ⟨b0, b1⟩ := encI_parts hB.key
  have hk := fun u => eq_key9s u A.1 B.1 hA.key hB.key
  have hs := str_eq hA.val hB.val
  have hd : decide (A = B) = (decide (A.1 = B.1) && decide (A.2 = B.2)) := by
    rw [Bool.eq_iff_iff]
    simp [Prod.ext_iff]
  rw [hd]
  clear hd
  go_simp
  by_cases h1 : A.1 = B.1
  · by_cases h4 : A.2 = B.2 <;> simp [h1, h4]
  · simp [h1]
theorem info_itml (x : Itm) (h : Ky x.1) : (Try.prog.info? 41).map (·.size) = some (encI x).length := by rw [info_itm, encI_len h]
set_option maxHeartbeats 4000000 in
set_option maxRecDepth 4000 in
theorem ritems_any (a a' : Option Addr) (N N' c c' : Nat) (L M : List Itm) (w : World) (hl : L.length = N) (hl' : M.length = N') (hc : N ≤ c) (hc' : N' ≤ c') (hN : N ≤ 1000000) (hN' : N' ≤ 1000000) (h : ItmsAt w a L) (h' : ItmsAt w a' M) :
    Calls Try.prog 23 #[.slice a N c, .slice a' N' c'] w fun e w' => e = .returned (.bool (decide (L = M))) ∧ Below w.heap.size w w' := by
  have HN : Hid (L.length = N) := hl
  have HN' : Hid (M.length = N') := hl'
  have HA : Hid (ItmsAt w a L) := h
  have HA' : Hid (ItmsAt w a' M) := h'
  obtain ⟨R, hR⟩ : ∃ R, R = decide (L = M) := ⟨_, rfl⟩
  have HR : Hid (R = decide (L = M)) := hR
  rw [← hR]
  clear hR h h' hl hl'
  by_cases hne : N = N'
  · subst hne
    have bn : (((N : Nat) : Int) != ((N : Nat) : Int)) = false := by simp
    go_enter Try.func23, Try.ntmps23
    go_wp2
    go_loopw [5] (fun iv wr => ∃ i : Nat, iv = .int .i64 i ∧ i ≤ N ∧ Hid (Below w.heap.size w wr) ∧ Hid (L.take i = M.take i)) (fun iv _ => N - (intOf iv).toNat)
    case atStart => exact ⟨0, rfl, Nat.zero_le _, Below.refl _ _, by simp [Hid]⟩
    case round =>
      obtain ⟨i, rfl, hi, HB, HT⟩ := hrel
      have hi0 : (0 : Int) ≤ (i : Int) := by omega
      by_cases hlt : i < N
      · have bl : (i : Int) < (N : Int) := by omega
        obtain ⟨V, hV⟩ : ∃ V, L[i]? = some V := ⟨_, List.getElem?_eq_getElem (by rw [HN.out]; exact hlt)⟩
        obtain ⟨W, hW⟩ : ∃ V, M[i]? = some V := ⟨_, List.getElem?_eq_getElem (by rw [HN'.out]; exact hlt)⟩
        have HV : Hid (L[i]? = some V) := hV
        have HW : Hid (M[i]? = some W) := hW
        obtain ⟨g, o, rfl, hva, hvo⟩ := (HA.out.past HB.out).itm hV
        obtain ⟨g', o', rfl, hwa, hwo⟩ := (HA'.out.past HB.out).itm hW
        have KV : Hid (ItmOk V) := hvo
        have KW : Hid (ItmOk W) := hwo
        have FV : Hid (∀ u, Below wr.heap.size wr u → ItmAt u g (o + i * 17) V) := fun u hb => hva.past hb
        have FW : Hid (∀ u, Below wr.heap.size wr u → ItmAt u g' (o' + i * 17) W) := fun u hb => hwa.past hb
        have heq := fun u => eq_itm u V W KV.out KW.out
        clear hV hW hva hvo hwa hwo
        by_cases hVW : V = W
        · rw [decide_eq_true hVW] at heq
          have HT2 : Hid (L.take (i + 1) = M.take (i + 1)) := by show _ = _; rw [List.take_add_one, List.take_add_one, HV.out, HW.out, HT.out, hVW]
          clear hVW
          go_wp2
          refine wp_region_noPanic ?_
          refine wp_region_held_drew (S := fun u => Below wr.heap.size wr u) (by kernel_rfl) ?_ (fun hHeld => ?_)
          · exact (Below.refl _ _).drew
          refine wpAnyH_take (i := 0) (v := ?_) rfl (by kernel_rfl) (by kernel_rfl) (by kernel_rfl) (fun _ _ _ h => h) (Or.inl ⟨by rfl, ?_⟩) hHeld ?_
          rotate_left
          · intro u hSu
            (go_simp) <;> (with_reducible rfl)
          change wpAnyH _ _ _ _ _ _ _ (Act.put _ (some 17) _) _
          simp only [Act.put, List.setIfInBounds_toArray, List.set_cons_zero, List.set_cons_succ]
          refine wpAnyH_take (i := 1) (v := ?_) rfl (by kernel_rfl) (by kernel_rfl) (by kernel_rfl) (fun _ _ _ h => h) (Or.inl ⟨by rfl, ?_⟩) hHeld ?_
          rotate_left
          · intro u hSu
            (go_simp) <;> (with_reducible rfl)
          change wpAnyH _ _ _ _ _ _ _ (Act.put _ (some 18) _) _
          simp only [Act.put, List.setIfInBounds_toArray, List.set_cons_zero, List.set_cons_succ]
          refine wpAnyH_take (i := 2) (v := ?_) rfl (by kernel_rfl) (by kernel_rfl) (by kernel_rfl) (fun _ _ _ h => h) (Or.inl ⟨by rfl, ?_⟩) hHeld ?_
          rotate_left
          · intro u hSu
            (go_simp) <;> (with_reducible rfl)
          change wpAnyH _ _ _ _ _ _ _ (Act.put _ (some 19) _) _
          simp only [Act.put, List.setIfInBounds_toArray, List.set_cons_zero, List.set_cons_succ]
          refine wpAnyH_take (i := 3) (v := iv V) rfl (by kernel_rfl) (by kernel_rfl) (by kernel_rfl) (fun _ _ _ h => h) (yieldsIf_load_mid (by rfl) _ _ rfl _ _ rfl (encI V) _ (fun u hu => (FV.out u hu).lies.range) Try.underlying41 rfl (info_itml V KV.out.key)) hHeld ?_
          change wpAnyH _ _ _ _ _ _ _ (Act.put _ (some 20) _) _
          simp only [Act.put, List.setIfInBounds_toArray, List.set_cons_zero, List.set_cons_succ]
          refine wpAnyH_take (i := 4) (v := ?_) rfl (by kernel_rfl) (by kernel_rfl) (by kernel_rfl) (fun _ _ _ h => h) (Or.inl ⟨by rfl, ?_⟩) hHeld ?_
          rotate_left
          · intro u hSu
            (go_simp) <;> (with_reducible rfl)
          change wpAnyH _ _ _ _ _ _ _ (Act.put _ (some 21) _) _
          simp only [Act.put, List.setIfInBounds_toArray, List.set_cons_zero, List.set_cons_succ]
          refine wpAnyH_take (i := 5) (v := ?_) rfl (by kernel_rfl) (by kernel_rfl) (by kernel_rfl) (fun _ _ _ h => h) (Or.inl ⟨by rfl, ?_⟩) hHeld ?_
          rotate_left
          · intro u hSu
            (go_simp) <;> (with_reducible rfl)
          change wpAnyH _ _ _ _ _ _ _ (Act.put _ (some 22) _) _
          simp only [Act.put, List.setIfInBounds_toArray, List.set_cons_zero, List.set_cons_succ]
          refine wpAnyH_take (i := 6) (v := ?_) rfl (by kernel_rfl) (by kernel_rfl) (by kernel_rfl) (fun _ _ _ h => h) (Or.inl ⟨by rfl, ?_⟩) hHeld ?_
          rotate_left
          · intro u hSu
            (go_simp) <;> (with_reducible rfl)
          change wpAnyH _ _ _ _ _ _ _ (Act.put _ (some 23) _) _
          simp only [Act.put, List.setIfInBounds_toArray, List.set_cons_zero, List.set_cons_succ]
          refine wpAnyH_take (i := 7) (v := iv W) rfl (by kernel_rfl) (by kernel_rfl) (by kernel_rfl) (fun _ _ _ h => h) (yieldsIf_load_mid (by rfl) _ _ rfl _ _ rfl (encI W) _ (fun u hu => (FW.out u hu).lies.range) Try.underlying41 rfl (info_itml W KW.out.key)) hHeld ?_
          change wpAnyH _ _ _ _ _ _ _ (Act.put _ (some 24) _) _
          simp only [Act.put, List.setIfInBounds_toArray, List.set_cons_zero, List.set_cons_succ]
          refine wpAnyH_take (i := 8) (v := ?_) rfl (by kernel_rfl) (by kernel_rfl) (by kernel_rfl) (fun _ _ _ h => h) (Or.inl ⟨by rfl, ?_⟩) hHeld ?_
          rotate_left
          · intro u hSu
            (go_simp) <;> (with_reducible rfl)
          change wpAnyH _ _ _ _ _ _ _ (Act.put _ (some 25) _) _
          simp only [Act.put, List.setIfInBounds_toArray, List.set_cons_zero, List.set_cons_succ]
          refine wpAnyH_done (by kernel_rfl) ?_ _
          refine NoPanic.normal ?_
          go_wp2
          go_roundw
          case rel => exact ⟨i + 1, by go_num, by omega, HB.out.drew, HT2⟩
          case measure => simp [intOf]; omega
        · rw [decide_eq_false hVW] at heq
          have HRF : Hid (R = false) := by
            show R = _
            rw [HR.out]
            refine decide_eq_false (fun e => hVW ?_)
            have h1 := HV.out
            rw [e, HW.out] at h1
            injection h1 with h1
            exact h1.symm
          clear hVW
          go_wp2
          refine wp_region_noPanic ?_
          refine wp_region_held_drew (S := fun u => Below wr.heap.size wr u) (by kernel_rfl) ?_ (fun hHeld => ?_)
          · exact (Below.refl _ _).drew
          refine wpAnyH_take (i := 0) (v := ?_) rfl (by kernel_rfl) (by kernel_rfl) (by kernel_rfl) (fun _ _ _ h => h) (Or.inl ⟨by rfl, ?_⟩) hHeld ?_
          rotate_left
          · intro u hSu
            (go_simp) <;> (with_reducible rfl)
          change wpAnyH _ _ _ _ _ _ _ (Act.put _ (some 17) _) _
          simp only [Act.put, List.setIfInBounds_toArray, List.set_cons_zero, List.set_cons_succ]
          refine wpAnyH_take (i := 1) (v := ?_) rfl (by kernel_rfl) (by kernel_rfl) (by kernel_rfl) (fun _ _ _ h => h) (Or.inl ⟨by rfl, ?_⟩) hHeld ?_
          rotate_left
          · intro u hSu
            (go_simp) <;> (with_reducible rfl)
          change wpAnyH _ _ _ _ _ _ _ (Act.put _ (some 18) _) _
          simp only [Act.put, List.setIfInBounds_toArray, List.set_cons_zero, List.set_cons_succ]
          refine wpAnyH_take (i := 2) (v := ?_) rfl (by kernel_rfl) (by kernel_rfl) (by kernel_rfl) (fun _ _ _ h => h) (Or.inl ⟨by rfl, ?_⟩) hHeld ?_
          rotate_left
          · intro u hSu
            (go_simp) <;> (with_reducible rfl)
          change wpAnyH _ _ _ _ _ _ _ (Act.put _ (some 19) _) _
          simp only [Act.put, List.setIfInBounds_toArray, List.set_cons_zero, List.set_cons_succ]
          refine wpAnyH_take (i := 3) (v := iv V) rfl (by kernel_rfl) (by kernel_rfl) (by kernel_rfl) (fun _ _ _ h => h) (yieldsIf_load_mid (by rfl) _ _ rfl _ _ rfl (encI V) _ (fun u hu => (FV.out u hu).lies.range) Try.underlying41 rfl (info_itml V KV.out.key)) hHeld ?_
          change wpAnyH _ _ _ _ _ _ _ (Act.put _ (some 20) _) _
          simp only [Act.put, List.setIfInBounds_toArray, List.set_cons_zero, List.set_cons_succ]
          refine wpAnyH_take (i := 4) (v := ?_) rfl (by kernel_rfl) (by kernel_rfl) (by kernel_rfl) (fun _ _ _ h => h) (Or.inl ⟨by rfl, ?_⟩) hHeld ?_
          rotate_left
          · intro u hSu
            (go_simp) <;> (with_reducible rfl)
          change wpAnyH _ _ _ _ _ _ _ (Act.put _ (some 21) _) _
          simp only [Act.put, List.setIfInBounds_toArray, List.set_cons_zero, List.set_cons_succ]
          refine wpAnyH_take (i := 5) (v := ?_) rfl (by kernel_rfl) (by kernel_rfl) (by kernel_rfl) (fun _ _ _ h => h) (Or.inl ⟨by rfl, ?_⟩) hHeld ?_
          rotate_left
          · intro u hSu
            (go_simp) <;> (with_reducible rfl)
          change wpAnyH _ _ _ _ _ _ _ (Act.put _ (some 22) _) _
          simp only [Act.put, List.setIfInBounds_toArray, List.set_cons_zero, List.set_cons_succ]
          refine wpAnyH_take (i := 6) (v := ?_) rfl (by kernel_rfl) (by kernel_rfl) (by kernel_rfl) (fun _ _ _ h => h) (Or.inl ⟨by rfl, ?_⟩) hHeld ?_
          rotate_left
          · intro u hSu
            (go_simp) <;> (with_reducible rfl)
          change wpAnyH _ _ _ _ _ _ _ (Act.put _ (some 23) _) _
          simp only [Act.put, List.setIfInBounds_toArray, List.set_cons_zero, List.set_cons_succ]
          refine wpAnyH_take (i := 7) (v := iv W) rfl (by kernel_rfl) (by kernel_rfl) (by kernel_rfl) (fun _ _ _ h => h) (yieldsIf_load_mid (by rfl) _ _ rfl _ _ rfl (encI W) _ (fun u hu => (FW.out u hu).lies.range) Try.underlying41 rfl (info_itml W KW.out.key)) hHeld ?_
          change wpAnyH _ _ _ _ _ _ _ (Act.put _ (some 24) _) _
          simp only [Act.put, List.setIfInBounds_toArray, List.set_cons_zero, List.set_cons_succ]
          refine wpAnyH_take (i := 8) (v := ?_) rfl (by kernel_rfl) (by kernel_rfl) (by kernel_rfl) (fun _ _ _ h => h) (Or.inl ⟨by rfl, ?_⟩) hHeld ?_
          rotate_left
          · intro u hSu
            (go_simp) <;> (with_reducible rfl)
          change wpAnyH _ _ _ _ _ _ _ (Act.put _ (some 25) _) _
          simp only [Act.put, List.setIfInBounds_toArray, List.set_cons_zero, List.set_cons_succ]
          refine wpAnyH_done (by kernel_rfl) ?_ _
          refine NoPanic.normal ?_
          go_wp2
          go_ret
          exact ⟨by rw [HRF.out]; rfl, HB.out.drew⟩
      · have bl : ¬ (i : Int) < (N : Int) := by omega
        have HRT : Hid (R = true) := by
          show R = _
          rw [HR.out]
          refine decide_eq_true ?_
          have e1 := HT.out
          rw [List.take_of_length_le (by rw [HN.out]; omega), List.take_of_length_le (by rw [HN'.out]; omega)] at e1
          exact e1
        go_wp2
        go_ret
        exact ⟨by rw [HRT.out]; rfl, HB.out⟩
  · have bn : (((N : Nat) : Int) != ((N' : Nat) : Int)) = true := by simp; omega
    have HRF : Hid (R = false) := by show R = _; rw [HR.out]; exact decide_eq_false (fun e => hne (by rw [← HN.out, ← HN'.out, e]))
    go_enter Try.func23, Try.ntmps23
    go_wp2
    go_ret
    exact ⟨by rw [HRF.out]; rfl, Below.refl _ _⟩
set_option maxHeartbeats 4000000 in
set_option maxRecDepth 4000 in
theorem lkeys_any (a a' : Option Addr) (N N' c c' : Nat) (L M : List (List Int)) (w : World) (hl : L.length = N) (hl' : M.length = N') (hc : N ≤ c) (hc' : N' ≤ c') (hN : N ≤ 1000000) (hN' : N' ≤ 1000000) (h : KeysAt w a L) (h' : KeysAt w a' M) :
    Calls Try.prog 16 #[.slice a N c, .slice a' N' c'] w fun e w' => e = .returned (.bool (decide (L = M))) ∧ Below w.heap.size w w' := by
  have HN : Hid (L.length = N) := hl
  have HN' : Hid (M.length = N') := hl'
  have HA : Hid (KeysAt w a L) := h
  have HA' : Hid (KeysAt w a' M) := h'
  obtain ⟨R, hR⟩ : ∃ R, R = decide (L = M) := ⟨_, rfl⟩
  have HR : Hid (R = decide (L = M)) := hR
  rw [← hR]
  clear hR h h' hl hl'
  by_cases hne : N = N'
  · subst hne
    have bn : (((N : Nat) : Int) != ((N : Nat) : Int)) = false := by simp
    go_enter Try.func16, Try.ntmps16
    go_wp2
    go_loopw [5] (fun iv wr => ∃ i : Nat, iv = .int .i64 i ∧ i ≤ N ∧ Hid (Below w.heap.size w wr) ∧ Hid (L.take i = M.take i)) (fun iv _ => N - (intOf iv).toNat)
    case atStart => exact ⟨0, rfl, Nat.zero_le _, Below.refl _ _, by simp [Hid]⟩
    case round =>
      obtain ⟨i, rfl, hi, HB, HT⟩ := hrel
      have hi0 : (0 : Int) ≤ (i : Int) := by omega
      by_cases hlt : i < N
      · have bl : (i : Int) < (N : Int) := by omega
        obtain ⟨V, hV⟩ : ∃ V, V = L.getD i [] := ⟨_, rfl⟩
        obtain ⟨W, hW⟩ : ∃ V, V = M.getD i [] := ⟨_, rfl⟩
        have HV : Hid (L[i]? = some V) := by
          have : i < L.length := by rw [HN.out]; exact hlt
          show _ = _
          rw [hV]; simp [List.getD, this]
        have HW : Hid (M[i]? = some W) := by
          have : i < M.length := by rw [HN'.out]; exact hlt
          show _ = _
          rw [hW]; simp [List.getD, this]
        obtain ⟨g, o, rfl, hva, hvo⟩ := (HA.out.past (w' := wr) HB.out).key (i := i) (by rw [HN.out]; exact hlt)
        obtain ⟨g', o', rfl, hwa, hwo⟩ := (HA'.out.past (w' := wr) HB.out).key (i := i) (by rw [HN'.out]; exact hlt)
        rw [← hV] at hva hvo
        rw [← hW] at hwa hwo
        have KV : Hid (Ky V) := hvo
        have KW : Hid (Ky W) := hwo
        have FV : Hid (∀ u, Below wr.heap.size wr u → KeyAt u g (o + i * 16) V) := fun u hb => hva.past hb
        have FW : Hid (∀ u, Below wr.heap.size wr u → KeyAt u g' (o' + i * 16) W) := fun u hb => hwa.past hb
        have heq := fun u => eq_key u V W KV.out KW.out
        clear hV hW hva hvo hwa hwo
        by_cases hVW : V = W
        · rw [decide_eq_true hVW] at heq
          have HT2 : Hid (L.take (i + 1) = M.take (i + 1)) := by show _ = _; rw [List.take_add_one, List.take_add_one, HV.out, HW.out, HT.out, hVW]
          clear hVW
          go_wp2
          refine wp_region_noPanic ?_
          refine wp_region_held_drew (S := fun u => Below wr.heap.size wr u) (by kernel_rfl) ?_ (fun hHeld => ?_)
          · exact (Below.refl _ _).drew
          refine wpAnyH_take (i := 0) (v := ?_) rfl (by kernel_rfl) (by kernel_rfl) (by kernel_rfl) (fun _ _ _ h => h) (Or.inl ⟨by rfl, ?_⟩) hHeld ?_
          rotate_left
          · intro u hSu
            (go_simp) <;> (with_reducible rfl)
          change wpAnyH _ _ _ _ _ _ _ (Act.put _ (some 17) _) _
          simp only [Act.put, List.setIfInBounds_toArray, List.set_cons_zero, List.set_cons_succ]
          refine wpAnyH_take (i := 1) (v := ?_) rfl (by kernel_rfl) (by kernel_rfl) (by kernel_rfl) (fun _ _ _ h => h) (Or.inl ⟨by rfl, ?_⟩) hHeld ?_
          rotate_left
          · intro u hSu
            (go_simp) <;> (with_reducible rfl)
          change wpAnyH _ _ _ _ _ _ _ (Act.put _ (some 18) _) _
          simp only [Act.put, List.setIfInBounds_toArray, List.set_cons_zero, List.set_cons_succ]
          refine wpAnyH_take (i := 2) (v := ?_) rfl (by kernel_rfl) (by kernel_rfl) (by kernel_rfl) (fun _ _ _ h => h) (Or.inl ⟨by rfl, ?_⟩) hHeld ?_
          rotate_left
          · intro u hSu
            (go_simp) <;> (with_reducible rfl)
          change wpAnyH _ _ _ _ _ _ _ (Act.put _ (some 19) _) _
          simp only [Act.put, List.setIfInBounds_toArray, List.set_cons_zero, List.set_cons_succ]
          refine wpAnyH_take (i := 3) (v := kv V) rfl (by kernel_rfl) (by kernel_rfl) (by kernel_rfl) (fun _ _ _ h => h) (yieldsIf_load_mid (by rfl) _ _ rfl _ _ rfl (V.map (Value.int .u8)) _ (fun u hu => (FV.out u hu).range KV.out) Try.underlying31 rfl (info_keyl V KV.out)) hHeld ?_
          change wpAnyH _ _ _ _ _ _ _ (Act.put _ (some 20) _) _
          simp only [Act.put, List.setIfInBounds_toArray, List.set_cons_zero, List.set_cons_succ]
          refine wpAnyH_take (i := 4) (v := ?_) rfl (by kernel_rfl) (by kernel_rfl) (by kernel_rfl) (fun _ _ _ h => h) (Or.inl ⟨by rfl, ?_⟩) hHeld ?_
          rotate_left
          · intro u hSu
            (go_simp) <;> (with_reducible rfl)
          change wpAnyH _ _ _ _ _ _ _ (Act.put _ (some 21) _) _
          simp only [Act.put, List.setIfInBounds_toArray, List.set_cons_zero, List.set_cons_succ]
          refine wpAnyH_take (i := 5) (v := ?_) rfl (by kernel_rfl) (by kernel_rfl) (by kernel_rfl) (fun _ _ _ h => h) (Or.inl ⟨by rfl, ?_⟩) hHeld ?_
          rotate_left
          · intro u hSu
            (go_simp) <;> (with_reducible rfl)
          change wpAnyH _ _ _ _ _ _ _ (Act.put _ (some 22) _) _
          simp only [Act.put, List.setIfInBounds_toArray, List.set_cons_zero, List.set_cons_succ]
          refine wpAnyH_take (i := 6) (v := ?_) rfl (by kernel_rfl) (by kernel_rfl) (by kernel_rfl) (fun _ _ _ h => h) (Or.inl ⟨by rfl, ?_⟩) hHeld ?_
          rotate_left
          · intro u hSu
            (go_simp) <;> (with_reducible rfl)
          change wpAnyH _ _ _ _ _ _ _ (Act.put _ (some 23) _) _
          simp only [Act.put, List.setIfInBounds_toArray, List.set_cons_zero, List.set_cons_succ]
          refine wpAnyH_take (i := 7) (v := kv W) rfl (by kernel_rfl) (by kernel_rfl) (by kernel_rfl) (fun _ _ _ h => h) (yieldsIf_load_mid (by rfl) _ _ rfl _ _ rfl (W.map (Value.int .u8)) _ (fun u hu => (FW.out u hu).range KW.out) Try.underlying31 rfl (info_keyl W KW.out)) hHeld ?_
          change wpAnyH _ _ _ _ _ _ _ (Act.put _ (some 24) _) _
          simp only [Act.put, List.setIfInBounds_toArray, List.set_cons_zero, List.set_cons_succ]
          refine wpAnyH_take (i := 8) (v := ?_) rfl (by kernel_rfl) (by kernel_rfl) (by kernel_rfl) (fun _ _ _ h => h) (Or.inl ⟨by rfl, ?_⟩) hHeld ?_
          rotate_left
          · intro u hSu
            (go_simp) <;> (with_reducible rfl)
          change wpAnyH _ _ _ _ _ _ _ (Act.put _ (some 25) _) _
          simp only [Act.put, List.setIfInBounds_toArray, List.set_cons_zero, List.set_cons_succ]
          refine wpAnyH_done (by kernel_rfl) ?_ _
          refine NoPanic.normal ?_
          go_wp2
          go_roundw
          case rel => exact ⟨i + 1, by go_num, by omega, HB.out.drew, HT2⟩
          case measure => simp [intOf]; omega
        · rw [decide_eq_false hVW] at heq
          have HRF : Hid (R = false) := by
            show R = _
            rw [HR.out]
            refine decide_eq_false (fun e => hVW ?_)
            have h1 := HV.out
            rw [e, HW.out] at h1
            injection h1 with h1
            exact h1.symm
          clear hVW
          go_wp2
          refine wp_region_noPanic ?_
          refine wp_region_held_drew (S := fun u => Below wr.heap.size wr u) (by kernel_rfl) ?_ (fun hHeld => ?_)
          · exact (Below.refl _ _).drew
          refine wpAnyH_take (i := 0) (v := ?_) rfl (by kernel_rfl) (by kernel_rfl) (by kernel_rfl) (fun _ _ _ h => h) (Or.inl ⟨by rfl, ?_⟩) hHeld ?_
          rotate_left
          · intro u hSu
            (go_simp) <;> (with_reducible rfl)
          change wpAnyH _ _ _ _ _ _ _ (Act.put _ (some 17) _) _
          simp only [Act.put, List.setIfInBounds_toArray, List.set_cons_zero, List.set_cons_succ]
          refine wpAnyH_take (i := 1) (v := ?_) rfl (by kernel_rfl) (by kernel_rfl) (by kernel_rfl) (fun _ _ _ h => h) (Or.inl ⟨by rfl, ?_⟩) hHeld ?_
          rotate_left
          · intro u hSu
            (go_simp) <;> (with_reducible rfl)
          change wpAnyH _ _ _ _ _ _ _ (Act.put _ (some 18) _) _
          simp only [Act.put, List.setIfInBounds_toArray, List.set_cons_zero, List.set_cons_succ]
          refine wpAnyH_take (i := 2) (v := ?_) rfl (by kernel_rfl) (by kernel_rfl) (by kernel_rfl) (fun _ _ _ h => h) (Or.inl ⟨by rfl, ?_⟩) hHeld ?_
          rotate_left
          · intro u hSu
            (go_simp) <;> (with_reducible rfl)
          change wpAnyH _ _ _ _ _ _ _ (Act.put _ (some 19) _) _
          simp only [Act.put, List.setIfInBounds_toArray, List.set_cons_zero, List.set_cons_succ]
          refine wpAnyH_take (i := 3) (v := kv V) rfl (by kernel_rfl) (by kernel_rfl) (by kernel_rfl) (fun _ _ _ h => h) (yieldsIf_load_mid (by rfl) _ _ rfl _ _ rfl (V.map (Value.int .u8)) _ (fun u hu => (FV.out u hu).range KV.out) Try.underlying31 rfl (info_keyl V KV.out)) hHeld ?_
          change wpAnyH _ _ _ _ _ _ _ (Act.put _ (some 20) _) _
          simp only [Act.put, List.setIfInBounds_toArray, List.set_cons_zero, List.set_cons_succ]
          refine wpAnyH_take (i := 4) (v := ?_) rfl (by kernel_rfl) (by kernel_rfl) (by kernel_rfl) (fun _ _ _ h => h) (Or.inl ⟨by rfl, ?_⟩) hHeld ?_
          rotate_left
          · intro u hSu
            (go_simp) <;> (with_reducible rfl)
          change wpAnyH _ _ _ _ _ _ _ (Act.put _ (some 21) _) _
          simp only [Act.put, List.setIfInBounds_toArray, List.set_cons_zero, List.set_cons_succ]
          refine wpAnyH_take (i := 5) (v := ?_) rfl (by kernel_rfl) (by kernel_rfl) (by kernel_rfl) (fun _ _ _ h => h) (Or.inl ⟨by rfl, ?_⟩) hHeld ?_
          rotate_left
          · intro u hSu
            (go_simp) <;> (with_reducible rfl)
          change wpAnyH _ _ _ _ _ _ _ (Act.put _ (some 22) _) _
          simp only [Act.put, List.setIfInBounds_toArray, List.set_cons_zero, List.set_cons_succ]
          refine wpAnyH_take (i := 6) (v := ?_) rfl (by kernel_rfl) (by kernel_rfl) (by kernel_rfl) (fun _ _ _ h => h) (Or.inl ⟨by rfl, ?_⟩) hHeld ?_
          rotate_left
          · intro u hSu
            (go_simp) <;> (with_reducible rfl)
          change wpAnyH _ _ _ _ _ _ _ (Act.put _ (some 23) _) _
          simp only [Act.put, List.setIfInBounds_toArray, List.set_cons_zero, List.set_cons_succ]
          refine wpAnyH_take (i := 7) (v := kv W) rfl (by kernel_rfl) (by kernel_rfl) (by kernel_rfl) (fun _ _ _ h => h) (yieldsIf_load_mid (by rfl) _ _ rfl _ _ rfl (W.map (Value.int .u8)) _ (fun u hu => (FW.out u hu).range KW.out) Try.underlying31 rfl (info_keyl W KW.out)) hHeld ?_
          change wpAnyH _ _ _ _ _ _ _ (Act.put _ (some 24) _) _
          simp only [Act.put, List.setIfInBounds_toArray, List.set_cons_zero, List.set_cons_succ]
          refine wpAnyH_take (i := 8) (v := ?_) rfl (by kernel_rfl) (by kernel_rfl) (by kernel_rfl) (fun _ _ _ h => h) (Or.inl ⟨by rfl, ?_⟩) hHeld ?_
          rotate_left
          · intro u hSu
            (go_simp) <;> (with_reducible rfl)
          change wpAnyH _ _ _ _ _ _ _ (Act.put _ (some 25) _) _
          simp only [Act.put, List.setIfInBounds_toArray, List.set_cons_zero, List.set_cons_succ]
          refine wpAnyH_done (by kernel_rfl) ?_ _
          refine NoPanic.normal ?_
          go_wp2
          go_ret
          exact ⟨by rw [HRF.out]; rfl, HB.out.drew⟩
      · have bl : ¬ (i : Int) < (N : Int) := by omega
        have HRT : Hid (R = true) := by
          show R = _
          rw [HR.out]
          refine decide_eq_true ?_
          have e1 := HT.out
          rw [List.take_of_length_le (by rw [HN.out]; omega), List.take_of_length_le (by rw [HN'.out]; omega)] at e1
          exact e1
        go_wp2
        go_ret
        exact ⟨by rw [HRT.out]; rfl, HB.out⟩
  · have bn : (((N : Nat) : Int) != ((N' : Nat) : Int)) = true := by simp; omega
    have HRF : Hid (R = false) := by show R = _; rw [HR.out]; exact decide_eq_false (fun e => hne (by rw [← HN.out, ← HN'.out, e]))
    go_enter Try.func16, Try.ntmps16
    go_wp2
    go_ret
    exact ⟨by rw [HRF.out]; rfl, Below.refl _ _⟩
end Go.Proofs.Ytfaojmognbgnfaa

namespace Go.Proofs.Ytfaojmognbgnfaa
open Go.RowKit
set_option linter.unusedVariables false

/-- A store that has come since w. -/
def StX (w u : World) (p : Nat) (L : List Ver) : Prop := ∃ X, StD u p L X ∧ Below w.heap.size w u ∧ ∀ k, X k → w.heap.size ≤ k
theorem StX.below {w u : World} {p : Nat} {L : List Ver} (h : StX w u p L) : Below w.heap.size w u := by obtain ⟨X, _, h, _⟩ := h; exact h
theorem StX.sto {w u : World} {p : Nat} {L : List Ver} (h : StX w u p L) : StoG L := by obtain ⟨X, h, _⟩ := h; exact h.1
theorem StX.past {w u u' : World} {p : Nat} {L : List Ver} (h : StX w u p L) (hb : Below u.heap.size u u') : StX w u' p L := by
  obtain ⟨X, h1, h2, h3⟩ := h
  exact ⟨X, h1.past hb, h2.trans (hb.mono h2.size), h3⟩
theorem StX.to {w0 w u : World} {p : Nat} {L : List Ver} (h : StX w u p L) (hb : Below w0.heap.size w0 w) : StX w0 u p L := by
  obtain ⟨X, h1, h2, h3⟩ := h
  exact ⟨X, h1, hb.trans (h2.mono hb.size), fun k hk => Nat.le_trans hb.size (h3 k hk)⟩
theorem xnew_any (w : World) : Calls Try.prog 9 #[] w fun e w' => ∃ p, e = .returned (.pointer (some ⟨p, 0, none⟩)) ∧ StX w w' p [] :=
  (snew_any w).mono (fun e w' ⟨p, X, h1, h2, h3, h4⟩ => ⟨p, h1, X, h2, h3, h4⟩)
theorem xget_any {w u : World} {p : Nat} {L : List Ver} (h : StX w u p L) (k : List Int) (hk : Ky k) (t n : Int) :
    Calls Try.prog 21 #[.pointer (some ⟨p, 0, none⟩), kv k, .agg #[.int .i64 t, .int .u8 n]] u fun e w' => e = .returned (.tuple #[.string (strOfNums ((getV L k t n).getD [])), .bool (getV L k t n).isSome]) ∧ StX w w' p L := by
  obtain ⟨X, h1, h2, h3⟩ := h
  exact (sget_any p L X k hk t n u h1).mono (fun e w' ⟨e1, hb⟩ => ⟨e1, StX.past ⟨X, h1, h2, h3⟩ hb⟩)
theorem xkeys_any {w u : World} {p : Nat} {L : List Ver} (h : StX w u p L) :
    Calls Try.prog 17 #[.pointer (some ⟨p, 0, none⟩)] u fun e w' => (∃ a' cap', e = .returned (.slice a' (keysV L).length cap') ∧ KeysAt w' a' (keysV L) ∧ (keysV L).length ≤ cap') ∧ Below u.heap.size u w' ∧ StX w w' p L := by
  obtain ⟨X, h1, h2, h3⟩ := h
  exact (skeys_any p L X u h1).mono (fun e w' ⟨e1, hb⟩ => ⟨e1, hb, StX.past ⟨X, h1, h2, h3⟩ hb⟩)
theorem xscan_any {w u : World} {p : Nat} {L : List Ver} (h : StX w u p L) (a b : List Int) (ha : Ky a) (hb : Ky b) (t n most : Int) (hmo : -9223372036854775808 ≤ most ∧ most ≤ 9223372036854775807) :
    Calls Try.prog 13 #[.pointer (some ⟨p, 0, none⟩), kv a, kv b, .agg #[.int .i64 t, .int .u8 n], .int .i64 most] u fun e w' => (∃ a' c', e = .returned (.slice a' ((scanV L a b t n).take most.toNat).length c') ∧ ItmsAt w' a' ((scanV L a b t n).take most.toNat) ∧ ((scanV L a b t n).take most.toNat).length ≤ c') ∧ Below u.heap.size u w' ∧ StX w w' p L := by
  obtain ⟨X, h1, h2, h3⟩ := h
  exact (sscan_any p L X a b ha hb t n most hmo u h1).mono (fun e w' ⟨e1, hb⟩ => ⟨e1, hb, StX.past ⟨X, h1, h2, h3⟩ hb⟩)
theorem xnewest_any {w u : World} {p : Nat} {L : List Ver} (h : StX w u p L) (k : List Int) (hk : Ky k) :
    Calls Try.prog 14 #[.pointer (some ⟨p, 0, none⟩), kv k] u fun e w' => e = .returned (.tuple #[.agg #[.int .i64 (newT (newestV L k)), .int .u8 (newN (newestV L k))], .bool (newestV L k).isSome]) ∧ StX w w' p L := by
  obtain ⟨X, h1, h2, h3⟩ := h
  exact (snewest_any p L X k hk u h1).mono (fun e w' ⟨e1, hb⟩ => ⟨e1, StX.past ⟨X, h1, h2, h3⟩ hb⟩)
/-- The store turns; what else came since w, in blocks that are not the store's, stays. -/
theorem xapply_far {w u : World} {p : Nat} {L : List Ver} {X : Foot} (h1 : StD u p L X) (h2 : Below w.heap.size w u) (h3 : ∀ k, X k → w.heap.size ≤ k) (t n : Int) (hn : 0 ≤ n ∧ n ≤ 255) (a : Option Addr) (N cap : Nat) (l : List Wrt) (hl : l.length = N) (hc : N ≤ cap) (hN : N ≤ 1000000) (hat : WrtsAt u a l) (hfar : l ≠ [] → Far a X) :
    Calls Try.prog 10 #[.pointer (some ⟨p, 0, none⟩), .agg #[.int .i64 t, .int .u8 n], .slice a N cap] u fun e w' => e = .returned (.int .i64 (applyV L t n l).1) ∧ StX w w' p (applyV L t n l).2 := by
  refine (sapply_any p L X t n hn a N cap l u h1 hl hc hN hat hfar).mono ?_
  rintro e w' ⟨rfl, X', j1, j2⟩
  exact ⟨rfl, X', j1, h2.trans (j2.chg.below h2.size h3), fun k hk => (j2.new k hk).1.elim (h3 k) (fun e => Nat.le_trans h2.size e)⟩
/-- Writes that lay there when w was. -/
theorem xapply_in {w u : World} {p : Nat} {L : List Ver} (h : StX w u p L) (t n : Int) (hn : 0 ≤ n ∧ n ≤ 255) (a : Option Addr) (N cap : Nat) (l : List Wrt) (hl : l.length = N) (hc : N ≤ cap) (hN : N ≤ 1000000) (hat : WrtsAt w a l) :
    Calls Try.prog 10 #[.pointer (some ⟨p, 0, none⟩), .agg #[.int .i64 t, .int .u8 n], .slice a N cap] u fun e w' => e = .returned (.int .i64 (applyV L t n l).1) ∧ StX w w' p (applyV L t n l).2 := by
  obtain ⟨X, h1, h2, h3⟩ := h
  refine xapply_far h1 h2 h3 t n hn a N cap l hl hc hN (hat.past h2) (fun hne b o e hx => ?_)
  have hlt : b < w.heap.size := by
    rcases hat.cells with e2 | ⟨b2, o2, e2, hc2⟩
    · exact absurd e2 hne
    · rw [e] at e2
      cases e2
      cases l with
      | nil => exact absurd rfl hne
      | cons W r => exact (hc2 0 W rfl).lt (hat.oks W (by simp)).key
  have := h3 b hx
  omega
/-- Writes that lie in a block that is new since the store's. -/
theorem xapply_new {w u u1 : World} {p : Nat} {L : List Ver} (h : StX w u p L) (hb : Below u.heap.size u u1) (t n : Int) (hn : 0 ≤ n ∧ n ≤ 255) (b0 : Nat) (hb0 : u.heap.size ≤ b0) (N cap : Nat) (l : List Wrt) (hl : l.length = N) (hc : N ≤ cap) (hN : N ≤ 1000000) (hat : WrtsAt u1 (some ⟨b0, 0, none⟩) l) :
    Calls Try.prog 10 #[.pointer (some ⟨p, 0, none⟩), .agg #[.int .i64 t, .int .u8 n], .slice (some ⟨b0, 0, none⟩) N cap] u1 fun e w' => e = .returned (.int .i64 (applyV L t n l).1) ∧ StX w w' p (applyV L t n l).2 := by
  obtain ⟨X, h1, h2, h3⟩ := h
  refine xapply_far (h1.past hb) (h2.trans (hb.mono h2.size)) h3 t n hn _ N cap l hl hc hN hat (fun _ b o e hx => ?_)
  cases e
  have := h1.lt b0 hx
  omega
theorem xnil_any {w u : World} {p : Nat} {L : List Ver} (h : StX w u p L) (t n : Int) (hn : 0 ≤ n ∧ n ≤ 255) :
    Calls Try.prog 10 #[.pointer (some ⟨p, 0, none⟩), .agg #[.int .i64 t, .int .u8 n], .slice none 0 0] u fun e w' => e = .returned (.int .i64 (applyV L t n []).1) ∧ StX w w' p (applyV L t n []).2 := by
  obtain ⟨X, h1, h2, h3⟩ := h
  exact xapply_far h1 h2 h3 t n hn none 0 0 [] rfl (Nat.le_refl _) (by omega) ⟨.inl rfl, fun W hW => by simp at hW⟩ (fun hne => absurd rfl hne)
theorem xtrim_s {w u : World} {p : Nat} {L : List Ver} (h : StX w u p L) (t n : Int) :
    Calls Try.prog 15 #[.pointer (some ⟨p, 0, none⟩), .agg #[.int .i64 t, .int .u8 n]] u fun e w' => e = .returned (.int .i64 ((L.length : Int) - ((restV L t n).length : Int))) ∧ StX w w' p (restV L t n) := by
  obtain ⟨X, h1, h2, h3⟩ := h
  refine (strim_any p L X t n u h1).mono ?_
  rintro e w' ⟨rfl, X', j1, j2⟩
  exact ⟨rfl, X', j1, h2.trans (j2.chg.below h2.size h3), fun k hk => (j2.new k hk).1.elim (h3 k) (fun e => Nat.le_trans h2.size e)⟩
/-- A write is made of its parts. -/
theorem encW_zero_len : (encW zeroW).length = 18 := encW_len zeroW_ky
theorem fill_key0 (place : Nat → Option (Nat × Nat)) (hp : place 0 = some (0, 16)) (k : List Int) (hk : Ky k) (rest : List (Nat × Value)) : Instr.fill place (encW zeroW).toArray ((0, kv k) :: rest) = Instr.fill place (encW ⟨k, [], false⟩).toArray rest := by
  show Instr.fill place (encW zeroW).toArray ((0, .agg (kc k).toArray) :: rest) = _
  rw [fill_step place (encW zeroW) 0 0 16 (kc k) hp (kc_len hk) (by rw [encW_zero_len]; omega)]
  congr 2
theorem run_build_w1 (w : World) (k : List Int) (hk : Ky k) : (Instr.build 34 #[(0, kv k)]).run Try.prog w = .ok (wv ⟨k, [], false⟩) w := by
  have hf : Instr.fill (fun x => [(0, 16), (16, 1), (17, 1)][x]?) (encW zeroW).toArray [(0, kv k)] = some (encW ⟨k, [], false⟩).toArray := by rw [fill_key0 _ rfl k hk]; rfl
  simp [Instr.build, run_underlying Try.underlying34]
  have hf2 : Instr.fill (fun x => [(0, 16), (16, 1), (17, 1)][x]?) (Value.agg #[.int .u8 0, .int .u8 0, .int .u8 0, .int .u8 0, .int .u8 0, .int .u8 0, .int .u8 0, .int .u8 0, .int .u8 0, .int .u8 0, .int .u8 0, .int .u8 0, .int .u8 0, .int .u8 0, .int .u8 0, .int .u8 0, .string ⟨#[]⟩, .bool false]).cells [(0, kv k)] = some (encW ⟨k, [], false⟩).toArray := hf
  rw [hf2]
  rfl
theorem run_build_w2 (w : World) (k v : List Int) (hk : Ky k) : (Instr.build 34 #[(0, kv k), (1, .string (strOfNums v))]).run Try.prog w = .ok (wv ⟨k, v, false⟩) w := by
  have hf : Instr.fill (fun x => [(0, 16), (16, 1), (17, 1)][x]?) (encW zeroW).toArray [(0, kv k), (1, .string (strOfNums v))] = some (encW ⟨k, v, false⟩).toArray := by
    rw [fill_key0 _ rfl k hk, fill_cell (fun x => [(0, 16), (16, 1), (17, 1)][x]?) _ 1 16 (.string (strOfNums v)) rfl rfl (by rw [encW_len (W := ⟨k, [], false⟩) hk]; omega)]
    show some _ = some _
    congr 2
    unfold encW
    rw [List.set_append_right _ _ (by rw [kc_len hk]; exact Nat.le_refl _), kc_len hk]
    rfl
  simp [Instr.build, run_underlying Try.underlying34]
  have hf2 : Instr.fill (fun x => [(0, 16), (16, 1), (17, 1)][x]?) (Value.agg #[.int .u8 0, .int .u8 0, .int .u8 0, .int .u8 0, .int .u8 0, .int .u8 0, .int .u8 0, .int .u8 0, .int .u8 0, .int .u8 0, .int .u8 0, .int .u8 0, .int .u8 0, .int .u8 0, .int .u8 0, .int .u8 0, .string ⟨#[]⟩, .bool false]).cells [(0, kv k), (1, .string (strOfNums v))] = some (encW ⟨k, v, false⟩).toArray := hf
  rw [hf2]
  rfl
theorem run_build_w3 (w : World) (k : List Int) (g : Bool) (hk : Ky k) : (Instr.build 34 #[(0, kv k), (2, .bool g)]).run Try.prog w = .ok (wv ⟨k, [], g⟩) w := by
  have hf : Instr.fill (fun x => [(0, 16), (16, 1), (17, 1)][x]?) (encW zeroW).toArray [(0, kv k), (2, .bool g)] = some (encW ⟨k, [], g⟩).toArray := by
    rw [fill_key0 _ rfl k hk, fill_cell (fun x => [(0, 16), (16, 1), (17, 1)][x]?) _ 2 17 (.bool g) rfl rfl (by rw [encW_len (W := ⟨k, [], false⟩) hk]; omega)]
    show some _ = some _
    congr 2
    unfold encW
    rw [List.set_append_right _ _ (by rw [kc_len hk]; omega), kc_len hk]
    rfl
  simp [Instr.build, run_underlying Try.underlying34]
  have hf2 : Instr.fill (fun x => [(0, 16), (16, 1), (17, 1)][x]?) (Value.agg #[.int .u8 0, .int .u8 0, .int .u8 0, .int .u8 0, .int .u8 0, .int .u8 0, .int .u8 0, .int .u8 0, .int .u8 0, .int .u8 0, .int .u8 0, .int .u8 0, .int .u8 0, .int .u8 0, .int .u8 0, .int .u8 0, .string ⟨#[]⟩, .bool false]).cells [(0, kv k), (2, .bool g)] = some (encW ⟨k, [], g⟩).toArray := hf
  rw [hf2]
  rfl
theorem wpList_build_w1 (d : Tmp) {ops : Array Oper} {rest : List Oper} {op : Oper} {a : Act} {w : World} {Q : Exit → Act → World → Prop} (hd : op.dst = some d) (hgd : op.guard = none) (x : Operand) (ho : op.op = .build 34 #[(0, x)])
    (k : List Int) (hk : Ky k) (hx : a.eval x = kv k) (h : wpList Try.prog ops Q rest (a.put op.dst (wv ⟨k, [], false⟩)) w) : wpList Try.prog ops Q (op :: rest) a w := by
  refine wpList_plain hgd fun K hK => ?_
  have hrun := run_build_w1 w k hk
  unfold Oper.wp
  simp only [execOp, ho, List.map_toArray, List.map_cons, List.map_nil, hx, Sem.run_bind, hrun, Result.andThen]
  exact hK _ _ h
theorem wpList_build_w2 (d : Tmp) {ops : Array Oper} {rest : List Oper} {op : Oper} {a : Act} {w : World} {Q : Exit → Act → World → Prop} (hd : op.dst = some d) (hgd : op.guard = none) (x y : Operand) (ho : op.op = .build 34 #[(0, x), (1, y)])
    (k v : List Int) (hk : Ky k) (hx : a.eval x = kv k) (hy : a.eval y = .string (strOfNums v)) (h : wpList Try.prog ops Q rest (a.put op.dst (wv ⟨k, v, false⟩)) w) : wpList Try.prog ops Q (op :: rest) a w := by
  refine wpList_plain hgd fun K hK => ?_
  have hrun := run_build_w2 w k v hk
  unfold Oper.wp
  simp only [execOp, ho, List.map_toArray, List.map_cons, List.map_nil, hx, hy, Sem.run_bind, hrun, Result.andThen]
  exact hK _ _ h
theorem wpList_build_w3 (d : Tmp) {ops : Array Oper} {rest : List Oper} {op : Oper} {a : Act} {w : World} {Q : Exit → Act → World → Prop} (hd : op.dst = some d) (hgd : op.guard = none) (x y : Operand) (ho : op.op = .build 34 #[(0, x), (2, y)])
    (k : List Int) (g : Bool) (hk : Ky k) (hx : a.eval x = kv k) (hy : a.eval y = .bool g) (h : wpList Try.prog ops Q rest (a.put op.dst (wv ⟨k, [], g⟩)) w) : wpList Try.prog ops Q (op :: rest) a w := by
  refine wpList_plain hgd fun K hK => ?_
  have hrun := run_build_w3 w k g hk
  unfold Oper.wp
  simp only [execOp, ho, List.map_toArray, List.map_cons, List.map_nil, hx, hy, Sem.run_bind, hrun, Result.andThen]
  exact hK _ _ h
/-- Lists of one, two, three writes are made. -/
theorem run_build_ws1 (w : World) (A : Wrt) (hA : Ky A.k) :
    (Instr.buildSlice 46 1 #[(0, wv A)]).run Try.prog w = .ok (.slice (some ⟨w.heap.size, 0, none⟩) 1 1) (w.alloc (.cells (encW A).toArray 34)) := by
  have hf : Instr.fill (fun i => some (i * 18, 18)) (encW zeroW).toArray [(0, wv A)] = some (encW A).toArray := by
    rw [fill_step _ (encW zeroW) 0 0 18 (encW A) rfl (encW_len hA) (by rw [encW_zero_len]; omega)]
    show some _ = some _
    congr 2
    rw [List.drop_eq_nil_of_le (by rw [encW_zero_len]; omega)]
    simp
  simp [Instr.buildSlice, run_underlying Try.underlying46]
  generalize hz : Array.map _ (Array.range 18) = Z
  have hz2 : Z = (encW zeroW).toArray := by rw [← hz]; kernel_rfl
  rw [hz2, hf]
  simp [newRow]
theorem run_build_ws2 (w : World) (A B : Wrt) (hA : Ky A.k) (hB : Ky B.k) :
    (Instr.buildSlice 46 2 #[(0, wv A), (1, wv B)]).run Try.prog w = .ok (.slice (some ⟨w.heap.size, 0, none⟩) 2 2) (w.alloc (.cells ([A, B].flatMap encW).toArray 34)) := by
  have lA := encW_len hA
  have lB := encW_len hB
  have lz := encW_zero_len
  have hf : Instr.fill (fun i => some (i * 18, 18)) (encW zeroW ++ encW zeroW).toArray [(0, wv A), (1, wv B)] = some ([A, B].flatMap encW).toArray := by
    rw [fill_step _ (encW zeroW ++ encW zeroW) 0 0 18 (encW A) rfl lA (by rw [List.length_append]; omega)]
    rw [List.take_zero, List.nil_append, List.drop_append, List.drop_eq_nil_of_le (by omega), List.nil_append, lz, show 0 + 18 - 18 = 0 from rfl, List.drop_zero]
    rw [fill_step _ (encW A ++ encW zeroW) 1 18 18 (encW B) rfl lB (by rw [List.length_append]; omega)]
    show some _ = some _
    congr 2
    rw [List.take_append, List.take_of_length_le (by omega), lA, Nat.sub_self, List.take_zero, List.append_nil, List.drop_eq_nil_of_le (by rw [List.length_append]; omega), List.append_nil]
    simp
  simp [Instr.buildSlice, run_underlying Try.underlying46]
  generalize hz : Array.map _ (Array.range 36) = Z
  have hz2 : Z = (encW zeroW ++ encW zeroW).toArray := by rw [← hz]; kernel_rfl
  rw [hz2, hf]
  simp [newRow]
theorem run_build_ws3 (w : World) (A B D : Wrt) (hA : Ky A.k) (hB : Ky B.k) (hD : Ky D.k) :
    (Instr.buildSlice 46 3 #[(0, wv A), (1, wv B), (2, wv D)]).run Try.prog w = .ok (.slice (some ⟨w.heap.size, 0, none⟩) 3 3) (w.alloc (.cells ([A, B, D].flatMap encW).toArray 34)) := by
  have lA := encW_len hA
  have lB := encW_len hB
  have lD := encW_len hD
  have lz := encW_zero_len
  have hf : Instr.fill (fun i => some (i * 18, 18)) (encW zeroW ++ (encW zeroW ++ encW zeroW)).toArray [(0, wv A), (1, wv B), (2, wv D)] = some ([A, B, D].flatMap encW).toArray := by
    rw [fill_step _ (encW zeroW ++ (encW zeroW ++ encW zeroW)) 0 0 18 (encW A) rfl lA (by simp only [List.length_append]; omega)]
    rw [List.take_zero, List.nil_append, List.drop_append, List.drop_eq_nil_of_le (by omega), List.nil_append, lz, show 0 + 18 - 18 = 0 from rfl, List.drop_zero]
    rw [fill_step _ (encW A ++ (encW zeroW ++ encW zeroW)) 1 18 18 (encW B) rfl lB (by simp only [List.length_append]; omega)]
    rw [List.take_append, List.take_of_length_le (by omega), lA, Nat.sub_self, List.take_zero, List.append_nil, List.drop_append, List.drop_eq_nil_of_le (by omega), List.nil_append, lA, show 18 + 18 - 18 = 18 from rfl, List.drop_append, List.drop_eq_nil_of_le (by omega), List.nil_append, lz, show 18 - 18 = 0 from rfl, List.drop_zero]
    rw [fill_step _ (encW A ++ encW B ++ encW zeroW) 2 36 18 (encW D) rfl lD (by simp only [List.length_append]; omega)]
    show some _ = some _
    congr 2
    rw [List.take_append, List.take_of_length_le (by simp only [List.length_append]; omega), show 36 - (encW A ++ encW B).length = 0 by simp only [List.length_append]; omega, List.take_zero, List.append_nil, List.drop_eq_nil_of_le (by simp only [List.length_append]; omega), List.append_nil]
    simp
  simp [Instr.buildSlice, run_underlying Try.underlying46]
  generalize hz : Array.map _ (Array.range 54) = Z
  have hz2 : Z = (encW zeroW ++ (encW zeroW ++ encW zeroW)).toArray := by rw [← hz]; kernel_rfl
  rw [hz2, hf]
  simp [newRow]
theorem wrts_made (w : World) (l : List Wrt) (h : ∀ W ∈ l, WrtOk W) : WrtsAt (w.alloc (.cells (l.flatMap encW).toArray 34)) (some ⟨w.heap.size, 0, none⟩) l := by
  refine ⟨.inr ⟨w.heap.size, 0, rfl, fun i W hW => ⟨?_⟩⟩, h⟩
  have hl := lies_made w (l.flatMap encW).toArray 34
  rw [List.toList_toArray] at hl
  exact hl.el (fun V hV => encW_len (h V hV).key) hW
theorem wpList_build_ws1 (d : Tmp) {ops : Array Oper} {rest : List Oper} {op : Oper} {a : Act} {w : World} {Q : Exit → Act → World → Prop} (hd : op.dst = some d) (hgd : op.guard = none) (x : Operand) (ho : op.op = .buildSlice 46 1 #[(0, x)])
    (A : Wrt) (hA : Ky A.k) (ex : a.eval x = wv A)
    (h : wpList Try.prog ops Q rest (a.put op.dst (.slice (some ⟨w.heap.size, 0, none⟩) 1 1)) (w.alloc (.cells (encW A).toArray 34))) : wpList Try.prog ops Q (op :: rest) a w := by
  refine wpList_plain hgd fun K hK => ?_
  have hrun := run_build_ws1 w A hA
  unfold Oper.wp
  simp only [execOp, ho, List.map_toArray, List.map_cons, List.map_nil, ex, Sem.run_bind, hrun, Result.andThen]
  exact hK _ _ h
theorem wpList_build_ws2 (d : Tmp) {ops : Array Oper} {rest : List Oper} {op : Oper} {a : Act} {w : World} {Q : Exit → Act → World → Prop} (hd : op.dst = some d) (hgd : op.guard = none) (x y : Operand) (ho : op.op = .buildSlice 46 2 #[(0, x), (1, y)])
    (A B : Wrt) (hA : Ky A.k) (hB : Ky B.k) (ex : a.eval x = wv A) (ey : a.eval y = wv B)
    (h : wpList Try.prog ops Q rest (a.put op.dst (.slice (some ⟨w.heap.size, 0, none⟩) 2 2)) (w.alloc (.cells ([A, B].flatMap encW).toArray 34))) : wpList Try.prog ops Q (op :: rest) a w := by
  refine wpList_plain hgd fun K hK => ?_
  have hrun := run_build_ws2 w A B hA hB
  unfold Oper.wp
  simp only [execOp, ho, List.map_toArray, List.map_cons, List.map_nil, ex, ey, Sem.run_bind, hrun, Result.andThen]
  exact hK _ _ h
theorem wpList_build_ws3 (d : Tmp) {ops : Array Oper} {rest : List Oper} {op : Oper} {a : Act} {w : World} {Q : Exit → Act → World → Prop} (hd : op.dst = some d) (hgd : op.guard = none) (x y z : Operand) (ho : op.op = .buildSlice 46 3 #[(0, x), (1, y), (2, z)])
    (A B D : Wrt) (hA : Ky A.k) (hB : Ky B.k) (hD : Ky D.k) (ex : a.eval x = wv A) (ey : a.eval y = wv B) (ez : a.eval z = wv D)
    (h : wpList Try.prog ops Q rest (a.put op.dst (.slice (some ⟨w.heap.size, 0, none⟩) 3 3)) (w.alloc (.cells ([A, B, D].flatMap encW).toArray 34))) : wpList Try.prog ops Q (op :: rest) a w := by
  refine wpList_plain hgd fun K hK => ?_
  have hrun := run_build_ws3 w A B D hA hB hD
  unfold Oper.wp
  simp only [execOp, ho, List.map_toArray, List.map_cons, List.map_nil, ex, ey, ez, Sem.run_bind, hrun, Result.andThen]
  exact hK _ _ h
/-- What awake asks, reckoned. -/
def keyA : List Int := ofK [97]
theorem keyA_ky : Ky keyA := ofK_ky (by decide)
def wrtA : Wrt := ⟨keyA, [120], false⟩
theorem awake_apply : applyV [] 2 0 [wrtA] = (0, [⟨keyA, 2, 0, [120], false⟩]) := by kernel_rfl
theorem awake_get1 : getV [⟨keyA, 2, 0, [120], false⟩] keyA 1 9 = none := by decide +kernel
theorem awake_get2 : getV [⟨keyA, 2, 0, [120], false⟩] keyA 2 0 = some [120] := by decide +kernel
theorem awake_keys : (keysV [⟨keyA, 2, 0, [120], false⟩]).length = 1 := by decide +kernel
set_option maxHeartbeats 4000000 in
set_option maxRecDepth 4000 in
theorem lawake_any (w : World) :
    Calls Try.prog 8 #[] w fun e w' => e = .returned (.bool true) ∧ Below w.heap.size w w' := by
  have CN : Hid (Calls Try.prog 9 #[] w fun e w' => ∃ p, e = .returned (.pointer (some ⟨p, 0, none⟩)) ∧ StX w w' p []) := xnew_any w
  have CA : Hid (∀ u t, Calls Try.prog 11 #[.int .i64 t] u fun e w' => e = .returned (.agg #[.int .i64 t, .int .u8 0]) ∧ Below u.heap.size u w') := fun u t => latt_any t u
  obtain ⟨K, hK⟩ : ∃ K, K = keyA := ⟨_, rfl⟩
  have KY : Hid (Ky K) := by rw [hK]; exact keyA_ky
  have CK : Hid (∀ u, Calls Try.prog 12 #[.string ⟨#[97]⟩] u fun e w' => e = .returned (kv K) ∧ Below u.heap.size u w') := fun u => lk_any [97] (by decide) (by decide) _ rfl K (by rw [hK]; rfl) u
  obtain ⟨L, hL⟩ : ∃ L : List Ver, L = [⟨keyA, 2, 0, [120], false⟩] := ⟨_, rfl⟩
  have hWA : (⟨K, [120], false⟩ : Wrt) = wrtA := by rw [hK]; rfl
  have hWO : WrtOk ⟨K, [120], false⟩ := by rw [hWA]; exact ⟨keyA_ky, by decide, by unfold maxLen; decide⟩
  have CAP : Hid (∀ u p, StX w u p [] → Calls Try.prog 10 #[.pointer (some ⟨p, 0, none⟩), .agg #[.int .i64 2, .int .u8 0], .slice (some ⟨u.heap.size, 0, none⟩) 1 1] (u.alloc (.cells (encW ⟨K, [120], false⟩).toArray 34)) fun e w' => e = .returned (.int .i64 0) ∧ StX w w' p L) := fun u p h => by
    have hat : WrtsAt (u.alloc (.cells (encW ⟨K, [120], false⟩).toArray 34)) (some ⟨u.heap.size, 0, none⟩) [⟨K, [120], false⟩] := by
      have := wrts_made u [⟨K, [120], false⟩] (fun V hV => by simp at hV; rw [hV]; exact hWO)
      simpa using this
    have := xapply_new h ((Below.refl _ _).alloc (Nat.le_refl _) _) 2 0 (by omega) u.heap.size (Nat.le_refl _) 1 1 [⟨K, [120], false⟩] rfl (Nat.le_refl _) (by omega) hat
    rw [show applyV [] 2 0 [⟨K, [120], false⟩] = (0, L) by rw [hWA, hL]; exact awake_apply] at this
    exact this
  have CG1 : Hid (∀ u p, StX w u p L → Calls Try.prog 21 #[.pointer (some ⟨p, 0, none⟩), kv K, .agg #[.int .i64 1, .int .u8 9]] u fun e w' => e = .returned (.tuple #[.string ⟨#[]⟩, .bool false]) ∧ StX w w' p L) := fun u p h => by
    have := xget_any h K KY.out 1 9
    rw [show getV L K 1 9 = none by rw [hL, hK]; exact awake_get1] at this
    exact this
  have CG2 : Hid (∀ u p, StX w u p L → Calls Try.prog 21 #[.pointer (some ⟨p, 0, none⟩), kv K, .agg #[.int .i64 2, .int .u8 0]] u fun e w' => e = .returned (.tuple #[.string ⟨#[120]⟩, .bool true]) ∧ StX w w' p L) := fun u p h => by
    have := xget_any h K KY.out 2 0
    rw [show getV L K 2 0 = some [120] by rw [hL, hK]; exact awake_get2] at this
    exact this
  have CKS : Hid (∀ u p, StX w u p L → Calls Try.prog 17 #[.pointer (some ⟨p, 0, none⟩)] u fun e w' => (∃ a' cap', e = .returned (.slice a' 1 cap')) ∧ Below w.heap.size w w') := fun u p h => by
    refine (xkeys_any h).mono ?_
    rintro e w' ⟨⟨a', cap', rfl, _, _⟩, _, h2⟩
    exact ⟨⟨a', cap', by rw [hL, awake_keys]⟩, h2.below⟩
  have HS : Hid ((Value.string ⟨#[120]⟩) = .string (strOfNums [120])) := rfl
  clear hK hL hWA hWO
  go_enter Try.func8, Try.ntmps8
  go_wp2_with (first | (go_at_call 9; refine CN.out.mono ?_; rintro e w1 ⟨p, rfl, h1⟩; have H1 : Hid (StX w w1 p []) := h1; clear h1 CN) | (have hgo := H1.out; clear hgo; go_at_call 11; refine (CA.out _ _).mono ?_; rintro e w2 ⟨rfl, hb2⟩; have H2 : Hid (StX w w2 p []) := H1.out.past hb2; clear hb2 H1) | (have hgo := H2.out; clear hgo; go_at_call 12; refine (CK.out _).mono ?_; rintro e w3 ⟨rfl, hb3⟩; have H3 : Hid (StX w w3 p []) := H2.out.past hb3; clear hb3 H2) | (have hgo := H3.out; clear hgo; refine wpList_build_w2 13 (by rfl) (by rfl) (.tmp 12) (.const (.string ⟨#[120]⟩)) (by rfl) K [120] KY.out (by rfl) HS.out ?_) | (have hgo := H3.out; clear hgo; refine wpList_build_ws1 14 (by rfl) (by rfl) (.tmp 13) (by rfl) ⟨K, [120], false⟩ KY.out (by rfl) ?_) | (have hgo := H3.out; clear hgo; go_at_call 10; refine (CAP.out _ _ H3.out).mono ?_; rintro e w4 ⟨rfl, h4⟩; have H4 : Hid (StX w w4 p L) := h4; clear h4 H3) | (have hgo := H4.out; clear hgo; go_at_call 12; refine (CK.out _).mono ?_; rintro e w5 ⟨rfl, hb5⟩; have H5 : Hid (StX w w5 p L) := H4.out.past hb5; clear hb5 H4) | (have hgo := H5.out; clear hgo; go_at_call 21; refine (CG1.out _ _ H5.out).mono ?_; rintro e w6 ⟨rfl, h6⟩; have H6 : Hid (StX w w6 p L) := h6; clear h6 H5) | (have hgo := H6.out; clear hgo; go_at_call 12; refine (CK.out _).mono ?_; rintro e w7 ⟨rfl, hb7⟩; have H7 : Hid (StX w w7 p L) := H6.out.past hb7; clear hb7 H6) | (have hgo := H7.out; clear hgo; go_at_call 11; refine (CA.out _ _).mono ?_; rintro e w8 ⟨rfl, hb8⟩; have H8 : Hid (StX w w8 p L) := H7.out.past hb8; clear hb8 H7) | (have hgo := H8.out; clear hgo; go_at_call 21; refine (CG2.out _ _ H8.out).mono ?_; rintro e w9 ⟨rfl, h9⟩; have H9 : Hid (StX w w9 p L) := h9; clear h9 H8) | (have hgo := H9.out; clear hgo; go_at_call 17; refine (CKS.out _ _ H9.out).mono ?_; rintro e w10 ⟨⟨a10, c10, rfl⟩, hb10⟩; have HB10 : Hid (Below w.heap.size w w10) := hb10; clear hb10))
  go_ret
  exact ⟨rfl, HB10.out⟩
end Go.Proofs.Ytfaojmognbgnfaa

