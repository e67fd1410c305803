/-
  What the document's own keys of texts (hourglassref10: Of) answer.
-/
import Derived.Test.YtdbgkbgodnknnaaRefKey
namespace Go.Proofs.Ytdbgkbgodnknnaa
open Go.RowKit
set_option linter.unusedVariables false

/-- What Of's rounds hold: what is answered, what is made. -/
structure OfR (w u : World) (K : List Int) : Prop where
  below : Below w.heap.size w u
  res : KeyMine u w.heap.size 0 zeroK
  key : KeyMine u (w.heap.size + 1) 0 K
theorem zero_cells : (kcs zeroK) = #[.int .u8 0, .int .u8 0, .int .u8 0, .int .u8 0, .int .u8 0, .int .u8 0, .int .u8 0, .int .u8 0, .int .u8 0, .int .u8 0, .int .u8 0, .int .u8 0, .int .u8 0, .int .u8 0, .int .u8 0, .int .u8 0] := rfl
theorem OfR.made (w : World) (T : TypeId) : OfR w ((w.alloc (.cells (kcs zeroK) T)).alloc (.cells (kcs zeroK) T)) zeroK := by
  have e1 := KeyMine.made w T zeroK zeroK_ky
  have e2 := KeyMine.made (w.alloc (.cells (kcs zeroK) T)) T zeroK zeroK_ky
  rw [World.size_alloc] at e2
  exact ⟨((Below.refl _ _).alloc (Nat.le_refl _) _).alloc (by simp) _, e1.alloc _, e2⟩
theorem OfR.store {w u : World} {K : List Int} (h : OfR w u K) {k : List Int} (hk : Ky k) : OfR w (u.setCells (w.heap.size + 1) 0 (k.map (Value.int .u8))) k :=
  ⟨below_cells (by omega) h.below, h.res.other (by omega), h.key.store hk⟩
theorem OfR.set {w u : World} {K : List Int} (h : OfR w u K) (n : Nat) (z : Int) (hn : n < 16) (h0 : 0 ≤ z) (h1 : z ≤ 255) : OfR w (u.setCell ⟨w.heap.size + 1, n, none⟩ (.int .u8 z)) (K.set n z) :=
  ⟨h.below.setCell (by show w.heap.size ≤ w.heap.size + 1; omega) _, h.res.aside (by show w.heap.size ≠ w.heap.size + 1; omega), h.key.set n z hn h0 h1⟩
/-- What is answered is laid. -/
structure OfD (w u : World) (K : List Int) : Prop where
  below : Below w.heap.size w u
  lies : KeyAt u w.heap.size 0 K
  ky : Ky K
theorem OfR.done {w u : World} {K : List Int} (h : OfR w u K) {k : List Int} (hk : Ky k) : OfD w (u.setCells w.heap.size 0 (k.map (Value.int .u8))) k :=
  ⟨below_cells (Nat.le_refl _) h.below, (h.res.store hk).lies, hk⟩
set_option maxHeartbeats 1000000 in
theorem rof_any (s : List Int) (hb : ∀ z ∈ s, 0 ≤ z ∧ z ≤ 255) (hm : s.length ≤ 140737488351232) (w : World) :
    Calls Try.prog 29 #[.string (strOfNums s)] w fun e w' => e = .returned (.tuple #[kv (ofK s), .bool (mayK s)]) ∧ Below w.heap.size w w' := by
  have H0 : Hid (OfR w ((w.alloc (.cells (kcs zeroK) 28)).alloc (.cells (kcs zeroK) 28)) zeroK) := OfR.made w 28
  rw [zero_cells] at H0
  have HB : Hid (∀ z ∈ s, 0 ≤ z ∧ z ≤ 255) := hb
  have HZ : Hid ((strOfNums s).size = s.length) := strOfNums_size s
  obtain ⟨S, hS⟩ : ∃ S, S = strOfNums s := ⟨_, rfl⟩
  have HS : Hid (S = strOfNums s) := hS
  rw [← hS] at HZ ⊢
  have hl : S.size ≤ 140737488351232 := by rw [HZ.out]; exact hm
  clear hS hb hm
  by_cases hlen : 1 ≤ S.size ∧ S.size ≤ 16
  · obtain ⟨l1, l2⟩ := hlen
    go_enter Try.func29, Try.ntmps29
    go_wp2_with (have hgo := H0.out; clear hgo; refine wpList_store_keyU (by rfl) _ _ (by rfl) (w.heap.size + 1) 0 zeroK zeroK (by rfl) (by rfl) zeroK_ky H0.out.key ?_; intro u hu; have H1 : Hid (OfR w u zeroK) := hu ▸ H0.out.store zeroK_ky; clear hu H0)
    go_loopw [5] (fun i wr => ∃ n : Nat, n ≤ S.size ∧ i = .int .i64 n ∧ Hid (OfR w wr (keyK (s.take n))) ∧ Hid (∀ z ∈ s.take n, z ≠ 0)) (fun i _ => S.size - (intOf i).toNat)
    case atStart => exact ⟨0, Nat.zero_le _, rfl, by rw [List.take_zero]; exact H1, by intro z hz; simp at hz⟩
    case round =>
      obtain ⟨n, hn, rfl, HW, HN⟩ := hrel
      have h0 : (0 : Int) ≤ (n : Int) := by omega
      have h16 : (n : Int) ≤ 16 := by omega
      by_cases hlt : n < S.size
      · have hlt16 : (n : Int) < 16 := by omega
        have hns : n < s.length := by rw [← HZ.out]; exact hlt
        have hz : ((S[n]'hlt).toNat : Int) = s.getD n 0 := by
          have := nums_at s HB.out n (by rw [← HS.out]; exact hlt)
          simp only [← HS.out] at this
          rw [this]; rfl
        have hbz : 0 ≤ s.getD n 0 ∧ s.getD n 0 ≤ 255 := byte_at HB.out n
        have c0 := HW.out.key.lies.cell0 n (by omega)
        have f0 := HW.out.key.free0 n (by omega)
        obtain ⟨Z, hZ⟩ : ∃ Z, Z = s.getD n 0 := ⟨_, rfl⟩
        obtain ⟨C, hC⟩ : ∃ C, C = (keyK (s.take n)).getD n 0 := ⟨_, rfl⟩
        rw [← hZ] at hz hbz
        rw [← hC] at c0
        have HZZ : Hid (Z = s.getD n 0) := hZ
        have h16n : s.length ≤ 16 := by rw [← HZ.out]; omega
        by_cases z0 : Z = 0
        · subst z0
          have HR : Hid (mayK s = false) := decide_eq_false fun h => h.2.2 (s.getD n 0) (by simp [List.getD, hns]) hZ.symm
          clear hZ hC h16n hns
          go_wp2_with (have hgo := HW.out; clear hgo; refine wpList_store_keyU (by rfl) _ _ (by rfl) w.heap.size 0 zeroK zeroK (by rfl) (by rfl) zeroK_ky HW.out.res ?_; intro u2 hu; have HD : Hid (OfD w u2 zeroK) := hu ▸ HW.out.done zeroK_ky; clear hu HW)
          refine bodyPost_ret (results_key rfl _ _ w.heap.size 0 zeroK rfl HD.out.ky HD.out.lies) rfl ?_
          refine ⟨?_, HD.out.below⟩
          have e : ofK s = zeroK := by unfold ofK; rw [HR.out]; rfl
          rw [e, HR.out]
          rfl
        · have zb : (Z == 0) = false := by simpa using z0
          have HN' : Hid (∀ z ∈ s.take (n + 1), z ≠ 0) := by
            intro z hm
            rw [List.take_add_one, List.mem_append] at hm
            rcases hm with hm | hm
            · exact HN.out z hm
            · have : z = Z := by rw [hZ]; simp [hns] at hm; simp [List.getD, hns, hm]
              rw [this]; exact z0
          have HK : Hid (OfR w (wr.setCell ⟨w.heap.size + 1, n, none⟩ (.int .u8 Z)) (keyK (s.take (n + 1)))) := by
            rw [keyK_next hns h16n, ← hZ]
            exact HW.out.set n Z (by omega) hbz.1 hbz.2
          clear hZ hC h16n hns z0
          go_wp2
          go_roundw
          case rel => exact ⟨n + 1, by omega, by go_num, HK, HN'⟩
          case measure => simp [intOf]; omega
      · have hns : n = s.length := by rw [← HZ.out]; omega
        have hst : s.take n = s := List.take_of_length_le (by omega)
        have HR : Hid (mayK s = true) := decide_eq_true ⟨by rw [← HZ.out]; exact l1, by rw [← HZ.out]; exact l2, by rw [← hst]; exact HN.out⟩
        have HW' : Hid (OfR w wr (keyK s)) := by rw [← hst]; rw [hst]; exact hst ▸ HW
        have HY : Hid (Ky (keyK s)) := keyK_ky (by rw [← HZ.out]; exact l2) HB.out
        clear hns hst HW HN
        go_wp2_with (first | (have hgo := HW'.out; clear hgo; refine wpList_load_key (by rfl) _ (by rfl) (w.heap.size + 1) 0 (by rfl) (keyK s) HY.out HW'.out.key.lies ?_) | (have hgo := HW'.out; clear hgo; refine wpList_store_keyU (by rfl) _ _ (by rfl) w.heap.size 0 zeroK (keyK s) (by rfl) (by rfl) HY.out HW'.out.res ?_; intro u2 hu; have HD : Hid (OfD w u2 (keyK s)) := hu ▸ HW'.out.done HY.out; clear hu HW'))
        refine bodyPost_ret (results_key rfl _ _ w.heap.size 0 (keyK s) rfl HD.out.ky HD.out.lies) rfl ?_
        refine ⟨?_, HD.out.below⟩
        have e : ofK s = keyK s := by unfold ofK; rw [HR.out]; rfl
        rw [e, HR.out]
        rfl
  · have HR : Hid (mayK s = false) := decide_eq_false fun h => hlen ⟨by rw [HZ.out]; exact h.1, by rw [HZ.out]; exact h.2.1⟩
    have hcase : S.size = 0 ∨ 16 < S.size := by omega
    clear hlen
    rcases hcase with hc | hc
    all_goals
      go_enter Try.func29, Try.ntmps29
      go_wp2_with (first | (have hgo := H0.out; clear hgo; refine wpList_store_keyU (by rfl) _ _ (by rfl) (w.heap.size + 1) 0 zeroK zeroK (by rfl) (by rfl) zeroK_ky H0.out.key ?_; intro u hu; have H1 : Hid (OfR w u zeroK) := hu ▸ H0.out.store zeroK_ky; clear hu H0) | (have hgo := H1.out; clear hgo; refine wpList_load_key (by rfl) _ (by rfl) (w.heap.size + 1) 0 (by rfl) zeroK zeroK_ky H1.out.key.lies ?_) | (have hgo := H1.out; clear hgo; refine wpList_store_keyU (by rfl) _ _ (by rfl) w.heap.size 0 zeroK zeroK (by rfl) (by rfl) zeroK_ky H1.out.res ?_; intro u2 hu; have HD : Hid (OfD w u2 zeroK) := hu ▸ H1.out.done zeroK_ky; clear hu H1))
      refine bodyPost_ret (results_key rfl _ _ w.heap.size 0 zeroK rfl HD.out.ky HD.out.lies) rfl ?_
      refine ⟨?_, HD.out.below⟩
      have e : ofK s = zeroK := by unfold ofK; rw [HR.out]; rfl
      rw [e, HR.out]
      rfl
end Go.Proofs.Ytdbgkbgodnknnaa
