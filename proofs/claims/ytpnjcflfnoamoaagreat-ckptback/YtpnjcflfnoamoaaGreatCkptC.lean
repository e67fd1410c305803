/-
  The landed ckpt, by contract: Put (CkptW), Get (CkptG2), Same.
-/
import Derived.Test.YtpnjcflfnoamoaaGreatCkptE
import Derived.Test.YtpnjcflfnoamoaaGreatCkptW
import Derived.Test.YtpnjcflfnoamoaaGreatCkptG2
import Derived.Test.YtpnjcflfnoamoaaGreatAu15
namespace Go.Proofs.YtpnjcflfnoamoaaGreat
open Go.RowKit
set_option linter.unusedVariables false
set_option linter.unusedSimpArgs false

theorem same_all {L M : List Ver} (hL : OrdK L) (hM : OrdK M) (hk : keysV L = keysV M) (h : ∀ k ∈ keysV L, oneV L k = oneV M k) : L = M := by
  rw [← flat_one_keys hL, ← flat_one_keys hM, ← hk]
  generalize keysV L = K at h
  clear hk
  induction K with
  | nil => rfl
  | cons k r ih => rw [List.flatMap_cons, List.flatMap_cons, h k (by simp), ih (fun x hx => h x (by simp [hx]))]
theorem CVersOf.cs {w : World} {a : Option Addr} {c : Nat} {l : List Ver} (h : CVersOf w a c l) : CsAt w a l := ⟨h.cells, h.ins⟩
open Classical in
set_option maxHeartbeats 4000000 in
set_option maxRecDepth 8000 in
theorem cksame_any {w1 w2 u : World} {p q : Nat} {L M : List Ver} (h : StX w1 u p L) (h' : StX w2 u q M) :
    Calls Tryz.prog 14 #[.pointer (some ⟨p, 0, none⟩), .pointer (some ⟨q, 0, none⟩)] u fun e w' => e = .returned (.bool (decide (L = M))) ∧ Below u.heap.size u w' := by
  obtain ⟨X, hs, _, _⟩ := h
  obtain ⟨Y, hs', _, _⟩ := h'
  have HS : Hid (StD u p L X) := hs
  have HS' : Hid (StD u q M Y) := hs'
  have HO : Hid (OrdK L ∧ OrdK M) := ⟨hs.1.sto.ord, hs'.1.sto.ord⟩
  obtain ⟨K, hK⟩ : ∃ K, K = keysV L := ⟨_, rfl⟩
  obtain ⟨N, hN⟩ : ∃ N, N = K.length := ⟨_, rfl⟩
  obtain ⟨K', hK'⟩ : ∃ K', K' = keysV M := ⟨_, rfl⟩
  obtain ⟨N', hN'⟩ : ∃ N', N' = K'.length := ⟨_, rfl⟩
  have hN200 : N ≤ 200 := by rw [hN, hK]; exact hs.1.few
  have hN200' : N' ≤ 200 := by rw [hN', hK']; exact hs'.1.few
  have HKL : Hid (K = keysV L ∧ K.length = N ∧ K' = keysV M) := ⟨hK, hN.symm, hK'⟩
  have CK : Hid (Calls Tryz.prog 20 #[.pointer (some ⟨p, 0, none⟩)] u fun e w' => (∃ a' c', e = .returned (.slice a' N c') ∧ KeysAt w' a' K) ∧ Below u.heap.size u w') := by
    rw [hN, hK]
    refine (skeys_any p L X u hs).mono ?_
    rintro e w' ⟨⟨a', c', rfl, h1, _⟩, h2⟩
    exact ⟨⟨a', c', rfl, h1⟩, h2⟩
  have CK' : Hid (∀ v, Below u.heap.size u v → Calls Tryz.prog 20 #[.pointer (some ⟨q, 0, none⟩)] v fun e w' => (∃ a' c', e = .returned (.slice a' N' c') ∧ KeysAt w' a' K') ∧ Below v.heap.size v w') := fun v hv => by
    rw [hN', hK']
    refine (skeys_any q M Y v (hs'.past hv)).mono ?_
    rintro e w' ⟨⟨a', c', rfl, h1, _⟩, h2⟩
    exact ⟨⟨a', c', rfl, h1⟩, h2⟩
  obtain ⟨E, hE⟩ : ∃ E, E = decide (K = K') := ⟨_, rfl⟩
  have HE : Hid (E = decide (K = K')) := hE
  obtain ⟨R, hR⟩ : ∃ R, R = decide (L = M) := ⟨_, rfl⟩
  have HR : Hid (R = decide (L = M)) := hR
  have CE : Hid (∀ v a c a' c', KeysAt v a K → KeysAt v a' K' → Calls Tryz.prog 45 #[.slice a N c, .slice a' N' c'] v fun e w' => e = .returned (.bool E) ∧ Below v.heap.size v w') := fun v a c a' c' h1 h2 => by
    rw [hE]; exact kequal_any a a' N N' c c' K K' v hN.symm hN'.symm (by omega) (by omega) h1 h2
  rw [← hR]
  clear hs hs' hK hK' hN hN' hE hR
  go_enter Tryz.func14, Tryz.ntmps14
  go_wp2_with (first
    | (have hgo := H2.out; clear hgo; go_at_call 45; refine (CE.out _ a c a' c' H2.out.1 H2.out.2.1).mono ?_; rintro e w3 ⟨rfl, hb⟩; have H3 : Hid (KeysAt w3 a K ∧ Below u.heap.size u w3) := ⟨H2.out.1.past hb, H2.out.2.2.trans (hb.mono H2.out.2.2.size)⟩; clear hb H2; cases E)
    | (have hgo := H1.out; clear hgo; go_at_call 20; refine (CK'.out _ H1.out.2).mono ?_; rintro e w2 ⟨⟨a', c', rfl, h1⟩, hb⟩; have H2 : Hid (KeysAt w2 a K ∧ KeysAt w2 a' K' ∧ Below u.heap.size u w2) := ⟨H1.out.1.past hb, h1, H1.out.2.trans (hb.mono H1.out.2.size)⟩; clear h1 hb H1)
    | (go_at_call 20; refine CK.out.mono ?_; rintro e w1 ⟨⟨a, c, rfl, h1⟩, hb⟩; have H1 : Hid (KeysAt w1 a K ∧ Below u.heap.size u w1) := ⟨h1, hb⟩; clear h1 hb CK))
  · have HF : Hid (R = false) := by
      rw [HR.out]
      refine decide_eq_false (fun e => ?_)
      have h1 : ¬ K = K' := of_decide_eq_false HE.out.symm
      rw [HKL.out.1, HKL.out.2.2, e] at h1
      exact h1 rfl
    go_ret
    exact ⟨by rw [HF.out]; rfl, H3.out.2⟩
  · have HEK : Hid (keysV L = keysV M) := by
      have h1 : K = K' := of_decide_eq_true HE.out.symm
      rw [HKL.out.1, HKL.out.2.2] at h1
      exact h1
    go_loopw [17] (fun iv wr => ∃ i : Nat, i ≤ N ∧ iv = .int .i64 i ∧ Hid (Below w3.heap.size w3 wr ∧ ∀ j k, j < i → K[j]? = some k → oneV L k = oneV M k)) (fun iv _ => N - (intOf iv).toNat)
    case atStart => exact ⟨0, Nat.zero_le _, rfl, Below.refl _ _, fun j k hj => by omega⟩
    case round =>
      obtain ⟨i, hiN, rfl, HI⟩ := hrel
      have hi0 : (0 : Int) ≤ (i : Int) := by omega
      by_cases hlt : i < N
      · have hltI : (i : Int) < (N : Int) := by omega
        obtain ⟨k, hk⟩ : ∃ k, K[i]? = some k := ⟨_, List.getElem?_eq_getElem (by rw [HKL.out.2.1]; exact hlt)⟩
        obtain ⟨b, o, rfl, hat, hky⟩ := (H3.out.1.past HI.out.1).keyO hk
        have HAT : Hid (KeyAt wr b (o + i * 16) k) := hat
        have KY : Hid (Ky k) := hky
        have HUW : Hid (Below u.heap.size u wr) := H3.out.2.trans (HI.out.1.mono H3.out.2.size)
        obtain ⟨l, hl⟩ : ∃ l, l = oneV L k := ⟨_, rfl⟩
        obtain ⟨l', hl'⟩ : ∃ l', l' = oneV M k := ⟨_, rfl⟩
        obtain ⟨n, hn⟩ : ∃ n, n = l.length := ⟨_, rfl⟩
        obtain ⟨n', hn'⟩ : ∃ n', n' = l'.length := ⟨_, rfl⟩
        have hn50 : n ≤ 50 := by rw [hn, hl, one_len]; exact HS.out.1.sto.few k
        have hn50' : n' ≤ 50 := by rw [hn', hl', one_len]; exact HS'.out.1.sto.few k
        have CC : Hid (∀ v, Below u.heap.size u v → Calls Tryz.prog 31 #[.pointer (some ⟨p, 0, none⟩), kv k] v fun e w' => (∃ a c, e = .returned (.slice a n c) ∧ CsAt w' a l) ∧ Below v.heap.size v w') := fun v hv => by
          rw [hn, hl]
          refine (schain_any p L X k KY.out v (HS.out.past hv)).mono ?_
          rintro e w' ⟨⟨a', c', rfl, h1⟩, h2⟩
          exact ⟨⟨a', c', rfl, h1.cs⟩, h2⟩
        have CC' : Hid (∀ v, Below u.heap.size u v → Calls Tryz.prog 31 #[.pointer (some ⟨q, 0, none⟩), kv k] v fun e w' => (∃ a c, e = .returned (.slice a n' c) ∧ CsAt w' a l') ∧ Below v.heap.size v w') := fun v hv => by
          rw [hn', hl']
          refine (schain_any q M Y k KY.out v (HS'.out.past hv)).mono ?_
          rintro e w' ⟨⟨a', c', rfl, h1⟩, h2⟩
          exact ⟨⟨a', c', rfl, h1.cs⟩, h2⟩
        obtain ⟨D, hD⟩ : ∃ D, D = decide (l = l') := ⟨_, rfl⟩
        have CV : Hid (∀ v a c a' c', CsAt v a l → CsAt v a' l' → Calls Tryz.prog 46 #[.slice a n c, .slice a' n' c'] v fun e w' => e = .returned (.bool D) ∧ Below v.heap.size v w') := fun v a c a' c' h1 h2 => by
          rw [hD]; exact vequal_any a a' n n' c c' l l' v hn.symm hn'.symm (by omega) (by omega) h1 h2
        have HD : Hid (D = decide (oneV L k = oneV M k)) := by rw [hD, hl, hl']; exact rfl
        have HKI : Hid (K[i]? = some k) := hk
        have HBX : Hid (∀ B, B = (wr.alloc (.cells #[.int .u8 0, .int .u8 0, .int .u8 0, .int .u8 0, .int .u8 0, .int .u8 0, .int .u8 0, .int .u8 0, .int .u8 0, .int .u8 0, .int .u8 0, .int .u8 0, .int .u8 0, .int .u8 0, .int .u8 0, .int .u8 0] 57)).setCells wr.heap.size 0 (k.map (Value.int .u8)) → Below u.heap.size u B ∧ Below w3.heap.size w3 B ∧ ∀ v, Below B.heap.size B v → KeyAt v wr.heap.size 0 k) := fun B hB => by
          obtain ⟨h1, h2, h3⟩ := key_boxed KY.out hB
          exact ⟨HUW.out.trans (h1.mono HUW.out.size), HI.out.1.trans (h1.mono HI.out.1.size), fun v hv => h3.past hv⟩
        clear hk hat hky hl hl' hn hn' hD
        go_wp2_with (first
          | (have hgo := HBX.out; clear hgo; (with_reducible show wpList _ _ _ (Oper.mk none _ _ _ _ _ :: _) _ _); refine wpList_store_keyU (by rfl) _ _ (by rfl) wr.heap.size 0 zeroK k (by rfl) (by rfl) KY.out (keyMine_zeroW wr) ?_; intro B hB; have H4 : Hid (Below u.heap.size u B ∧ Below w3.heap.size w3 B ∧ ∀ v, Below B.heap.size B v → KeyAt v wr.heap.size 0 k) := HBX.out B hB; clear hB HBX)
          | (have hgo := HAT.out; clear hgo; (with_reducible show wpList _ _ _ (Oper.mk (some 20) _ _ _ _ _ :: _) _ _); refine wpList_load_keyN 20 (by rfl) (by rfl) _ (by rfl) b (o + i * 16) (by rfl) k KY.out HAT.out ?_))
        have FK : Hid (∀ v, Below B.heap.size B v → KeyAt v wr.heap.size 0 k) := H4.out.2.2
        have HUB : Hid (∀ v, Below B.heap.size B v → Below u.heap.size u v) := fun v hv => H4.out.1.trans (hv.mono H4.out.1.size)
        refine wp_region_noPanic ?_
        refine wp_region_held_drew (S := fun u => Below B.heap.size B u) (by kernel_rfl) ?_ (fun hHeld => ?_)
        · exact (Below.refl _ _).drew
        refine wpAnyH_take (i := 0) (v := ?_) rfl (by kernel_rfl) (by kernel_rfl) (by kernel_rfl) (fun _ _ _ h => h) (Or.inl ⟨by rfl, ?_⟩) hHeld ?_
        rotate_left
        · intro u hSu
          (go_simp) <;> (with_reducible rfl)
        change wpAnyH _ _ _ _ _ _ _ (Act.put _ (some 21) _) _
        simp only [Act.put, List.setIfInBounds_toArray, List.set_cons_zero, List.set_cons_succ]
        refine wpAnyH_take (i := 1) (v := kv k) rfl (by kernel_rfl) (by kernel_rfl) (by kernel_rfl) (fun _ _ _ h => h) (yieldsIf_load_mid (by rfl) _ _ rfl _ _ rfl (k.map (Value.int .u8)) _ (fun u hu => (FK.out u hu).range KY.out) Tryz.underlying57 rfl (info_keyl k KY.out)) hHeld ?_
        change wpAnyH _ _ _ _ _ _ _ (Act.put _ (some 22) _) _
        simp only [Act.put, List.setIfInBounds_toArray, List.set_cons_zero, List.set_cons_succ]
        refine wpAnyH_take (i := 3) (v := ?_) rfl (by kernel_rfl) (by kernel_rfl) (by kernel_rfl) (fun _ _ _ h => h) (Or.inl ⟨by rfl, ?_⟩) hHeld ?_
        rotate_left
        · intro u hSu
          (go_simp) <;> (with_reducible rfl)
        change wpAnyH _ _ _ _ _ _ _ (Act.put _ (some 24) _) _
        simp only [Act.put, List.setIfInBounds_toArray, List.set_cons_zero, List.set_cons_succ]
        refine wpAnyH_take (i := 4) (v := kv k) rfl (by kernel_rfl) (by kernel_rfl) (by kernel_rfl) (fun _ _ _ h => h) (yieldsIf_load_mid (by rfl) _ _ rfl _ _ rfl (k.map (Value.int .u8)) _ (fun u hu => (FK.out u hu).range KY.out) Tryz.underlying57 rfl (info_keyl k KY.out)) hHeld ?_
        change wpAnyH _ _ _ _ _ _ _ (Act.put _ (some 25) _) _
        simp only [Act.put, List.setIfInBounds_toArray, List.set_cons_zero, List.set_cons_succ]
        refine wpAnyH_ready (rs := [2]) (by kernel_rfl) (by simp) ?_
        refine AllReadyH.cons rfl (fun K hK => ?_) AllReadyH.nil
        go_simp
        go_at_call 31
        refine (CC.out _ (HUB.out _ hHeld)).mono ?_
        rintro e u1 ⟨⟨a1, c1, rfl, h1⟩, hb1⟩
        have B1 : Hid (Below B.heap.size B u1 ∧ CsAt u1 a1 l) := ⟨hHeld.trans (hb1.mono hHeld.size), h1⟩; have B1b : Hid (Below B.heap.size B u1) := B1.out.1; clear hb1 h1
        refine hK.out _ _ ?_ (fun hHeld2 => ?_)
        · exact B1b.out
        clear hK K hHeld
        have hHeld := hHeld2
        clear hHeld2
        refine wpAnyH_ready (rs := [5]) (by kernel_rfl) (by simp) ?_
        refine AllReadyH.cons rfl (fun K hK => ?_) AllReadyH.nil
        go_simp
        go_at_call 31
        refine (CC'.out _ (HUB.out _ hHeld)).mono ?_
        rintro e u2 ⟨⟨a2, c2, rfl, h2⟩, hb2⟩
        have B2 : Hid (Below B.heap.size B u2 ∧ CsAt u2 a1 l ∧ CsAt u2 a2 l') := ⟨hHeld.trans (hb2.mono hHeld.size), B1.out.2.past hb2, h2⟩; have B2b : Hid (Below B.heap.size B u2) := B2.out.1; clear hb2 h2
        refine hK.out _ _ ?_ (fun hHeld2 => ?_)
        · exact B2b.out
        clear hK K hHeld
        have hHeld := hHeld2
        clear hHeld2
        refine wpAnyH_ready (rs := [6]) (by kernel_rfl) (by simp) ?_
        refine AllReadyH.cons rfl (fun K hK => ?_) AllReadyH.nil
        go_simp
        go_at_call 46
        refine (CV.out _ a1 c1 a2 c2 B2.out.2.1 B2.out.2.2).mono ?_
        rintro e u3 ⟨rfl, hb3⟩
        have B3b : Hid (Below B.heap.size B u3) := hHeld.trans (hb3.mono hHeld.size); clear hb3
        refine hK.out _ _ ?_ (fun hHeld2 => ?_)
        · exact B3b.out
        clear hK K hHeld
        have hHeld := hHeld2
        clear hHeld2
        refine wpAnyH_take (i := 7) (v := ?_) rfl (by kernel_rfl) (by kernel_rfl) (by kernel_rfl) (fun _ _ _ h => h) (Or.inl ⟨by rfl, ?_⟩) hHeld ?_
        rotate_left
        · intro u hSu
          (go_simp) <;> (with_reducible rfl)
        change wpAnyH _ _ _ _ _ _ _ (Act.put _ (some 28) _) _
        simp only [Act.put, List.setIfInBounds_toArray, List.set_cons_zero, List.set_cons_succ]
        refine wpAnyH_done (by kernel_rfl) ?_ _
        refine NoPanic.normal ?_
        cases D with
        | false =>
          have HF : Hid (R = false) := by
            rw [HR.out]
            refine decide_eq_false (fun e => ?_)
            have h1 : ¬ oneV L k = oneV M k := of_decide_eq_false HD.out.symm
            rw [e] at h1
            exact h1 rfl
          go_wp2
          go_ret
          exact ⟨by rw [HF.out]; rfl, HUB.out _ B3b.out⟩
        | true =>
          have HNX : Hid (Below w3.heap.size w3 u3 ∧ ∀ j k, j < i + 1 → K[j]? = some k → oneV L k = oneV M k) := ⟨H4.out.2.1.trans (B3b.out.mono H4.out.2.1.size), fun j x hj hx => by
            by_cases e : j = i
            · rw [e, HKI.out] at hx
              injection hx with hx
              subst hx
              exact of_decide_eq_true HD.out.symm
            · exact HI.out.2 j x (by omega) hx⟩
          go_wp2
          go_roundw
          case rel => exact ⟨i + 1, by omega, by go_num, HNX⟩
          case measure => simp [intOf]; omega
      · obtain rfl : i = N := by omega
        have HF : Hid (R = true) := by
          rw [HR.out]
          refine decide_eq_true (same_all HO.out.1 HO.out.2 HEK.out (fun k hk => ?_))
          rw [← HKL.out.1] at hk
          obtain ⟨j, hj⟩ := List.getElem?_of_mem hk
          exact HI.out.2 j k (by have := (List.getElem?_eq_some_iff.1 hj).1; rw [HKL.out.2.1] at this; exact this) hj
        have HB : Hid (Below u.heap.size u wr) := H3.out.2.trans (HI.out.1.mono H3.out.2.size)
        go_wp2
        go_ret
        exact ⟨by rw [HF.out]; rfl, HB.out⟩
end Go.Proofs.YtpnjcflfnoamoaaGreat
