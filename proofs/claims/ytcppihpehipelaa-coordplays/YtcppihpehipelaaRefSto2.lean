/-
  What the document says of writes (hourglassref10: MayWrites).
-/
import Derived.Test.YtcppihpehipelaaAu49
import Derived.Test.YtcppihpehipelaaAu54
namespace Go.Proofs.Ytcppihpehipelaa
open Go.RowKit
set_option linter.unusedVariables false

/-- May a write be, by itself? -/
def fitW (W : Wrt) : Bool := goodK W.k && decide (W.v.length ≤ 200) && (!W.g || decide (W.v = []))
theorem may_fit {l : List Wrt} {least : Nat} : mayW l least = true ↔ (least ≤ l.length ∧ l.length ≤ 16) ∧ (∀ W ∈ l, fitW W = true) ∧ l.Pairwise (fun A B => A.k ≠ B.k) := by
  unfold mayW
  simp only [Bool.and_eq_true, decide_eq_true_eq, List.all_eq_true, and_assoc]
  unfold fitW
  simp only [Bool.and_eq_true, decide_eq_true_eq, and_assoc]
theorem may_not {l : List Wrt} {least : Nat} (h : ¬ ((least ≤ l.length ∧ l.length ≤ 16) ∧ (∀ W ∈ l, fitW W = true) ∧ l.Pairwise (fun A B => A.k ≠ B.k))) : mayW l least = false := by
  cases e : mayW l least with
  | false => rfl
  | true => exact absurd (may_fit.1 e) h
/-- What MayWrites' rounds hold of the first writes. -/
def Fits (l : List Wrt) (i : Nat) : Prop := (∀ W ∈ l.take i, fitW W = true) ∧ (l.take i).Pairwise (fun A B => A.k ≠ B.k)
theorem Fits.next {l : List Wrt} {i : Nat} {W : Wrt} (h : Fits l i) (hW : l[i]? = some W) (hf : fitW W = true) (hne : ∀ j A, j < i → l[j]? = some A → A.k ≠ W.k) : Fits l (i + 1) := by
  have e : l.take (i + 1) = l.take i ++ [W] := by rw [List.take_add_one, hW]; rfl
  unfold Fits
  rw [e]
  refine ⟨fun V hV => ?_, List.pairwise_append.2 ⟨h.2, by simp, fun A hA B hB => ?_⟩⟩
  · rcases List.mem_append.1 hV with x | x
    · exact h.1 V x
    · simp at x; rw [x]; exact hf
  · simp at hB
    subst hB
    obtain ⟨j, hj, rfl⟩ := List.mem_iff_getElem.1 hA
    rw [List.length_take] at hj
    rw [List.getElem_take]
    exact hne j _ (by omega) (List.getElem?_eq_getElem (by omega))
theorem twice_not {l : List Wrt} {i j : Nat} {A W : Wrt} (hj : j < i) (hA : l[j]? = some A) (hW : l[i]? = some W) (he : A.k = W.k) : ¬ l.Pairwise (fun A B => A.k ≠ B.k) := fun h => by
  obtain ⟨h1, rfl⟩ := List.getElem?_eq_some_iff.1 hA
  obtain ⟨h2, rfl⟩ := List.getElem?_eq_some_iff.1 hW
  exact List.pairwise_iff_getElem.1 h j i h1 h2 hj he
set_option maxHeartbeats 8000000 in
set_option maxRecDepth 8000 in
theorem rmayw_any (a : Option Addr) (N cap : Nat) (l : List Wrt) (least : Nat) (w : World) (hl : l.length = N) (hc : N ≤ cap) (hN : N ≤ 1000000) (hle : least ≤ 1000000) (hat : WrtsAt w a l) :
    Calls Try.prog 83 #[.slice a N cap, .int .i64 (least : Nat)] w fun e w' => e = .returned (.bool (mayW l least)) ∧ Below w.heap.size w w' := by
  obtain ⟨R, hR⟩ : ∃ R, R = mayW l least := ⟨_, rfl⟩
  rw [← hR]
  have HNO : Hid (¬ ((least ≤ N ∧ N ≤ 16) ∧ (∀ W ∈ l, fitW W = true) ∧ l.Pairwise (fun A B => A.k ≠ B.k)) → R = false) := fun h => by rw [hR]; exact may_not (by rw [hl]; exact h)
  have HYES : Hid ((least ≤ N ∧ N ≤ 16) ∧ (∀ W ∈ l, fitW W = true) ∧ l.Pairwise (fun A B => A.k ≠ B.k) → R = true) := fun h => by rw [hR]; exact may_fit.2 (by rw [hl]; exact h)
  by_cases h0 : N < least
  · have HR : Hid (R = false) := HNO.out (fun h => by omega)
    have d1 : (N : Int) < (least : Int) := by omega
    clear hR hat hl HNO HYES
    go_enter Try.func83, Try.ntmps83
    go_wp2
    go_ret
    exact ⟨by rw [HR.out]; rfl, Below.refl _ _⟩
  have d1 : ¬ (N : Int) < (least : Int) := by omega
  by_cases h16 : 16 < N
  · have HR : Hid (R = false) := HNO.out (fun h => by omega)
    have d2 : (16 : Int) < (N : Int) := by omega
    clear hR hat hl HNO HYES
    go_enter Try.func83, Try.ntmps83
    go_wp2
    go_ret
    exact ⟨by rw [HR.out]; rfl, Below.refl _ _⟩
  have d2 : ¬ (16 : Int) < (N : Int) := by omega
  have HL : Hid (l.length = N) := hl
  have HA : Hid (WrtsAt w a l) := hat
  clear hR hat hl
  go_enter Try.func83, Try.ntmps83
  go_wp2
  go_loopw [5] (fun iv wr => ∃ i : Nat, iv = .int .i64 i ∧ i ≤ N ∧ Hid (Below w.heap.size w wr) ∧ Hid (Fits l i)) (fun iv _ => N - (intOf iv).toNat)
  case atStart => exact ⟨0, rfl, Nat.zero_le _, Below.refl _ _, ⟨fun W hW => by simp at hW, by simp⟩⟩
  case round =>
    obtain ⟨i, rfl, hi, HB, HF⟩ := hrel
    have hi0 : (0 : Int) ≤ (i : Int) := by omega
    by_cases hlt : i < N
    · have h1 : (i : Int) < (N : Int) := by omega
      obtain ⟨W, hW⟩ : ∃ W, l[i]? = some W := ⟨_, List.getElem?_eq_getElem (by rw [HL.out]; exact hlt)⟩
      obtain ⟨b, o, hab, hwa, hwo⟩ := HA.out.wrt hW
      have HEL : Hid (∀ j A, l[j]? = some A → Ky A.k ∧ ∀ u, Below w.heap.size w u → KeyAt u b (o + j * 18) A.k) := fun j A hA => by
        obtain ⟨b', o', e', hx, hok⟩ := HA.out.wrt hA
        rw [hab] at e'
        cases e'
        exact ⟨hok.key, fun u hb => (hx.past hb).key hok.key⟩
      have HWI : Hid (l[i]? = some W) := hW
      obtain ⟨k, hk⟩ : ∃ k, k = W.k := ⟨_, rfl⟩
      obtain ⟨g, hg⟩ : ∃ g, g = W.g := ⟨_, rfl⟩
      obtain ⟨v, hv⟩ : ∃ v, v = W.v := ⟨_, rfl⟩
      obtain ⟨S, hS⟩ : ∃ S, S = strOfNums v := ⟨_, rfl⟩
      obtain ⟨m, hm⟩ : ∃ m, m = v.length := ⟨_, rfl⟩
      have KY : Hid (Ky k) := by rw [hk]; exact hwo.key
      have FK : Hid (∀ u, Below w.heap.size w u → KeyAt u b (o + i * 18) k) := fun u hb => by rw [hk]; exact (hwa.past hb).key hwo.key
      have FC : Hid (∀ u, Below w.heap.size w u → u.cell? ⟨b, o + i * 18 + 16, none⟩ = some (.string S) ∧ u.cell? ⟨b, o + i * 18 + 17, none⟩ = some (.bool g)) := fun u hb => by rw [hS, hv, hg]; exact (hwa.past hb).cells hwo.key
      have hsz : S.size = m := by rw [hS, hm]; exact strOfNums_size _
      have hfew : m ≤ 9223372036854775807 := by
        have := hwo.few
        unfold maxLen at this
        rw [hm, hv]
        exact Nat.le_trans this (by omega)
      have hemp : S.toList.isEmpty = decide (v = []) := by
        rw [hS, ByteArray.toList_eq, strOfNums_data]
        cases v with
        | nil => rfl
        | cons z r => simp
      obtain ⟨gk, hgk⟩ : ∃ x, x = goodK k := ⟨_, rfl⟩
      have CG : Hid (∀ u, Calls Try.prog 90 #[kv k] u fun e w' => e = .returned (.bool gk) ∧ Below u.heap.size u w') := fun u => by rw [hgk]; exact rgood_any k KY.out u
      have HOK : Hid (fitW W = (gk && decide (m ≤ 200) && (!g || decide (v = [])))) := by show _ = _; unfold fitW; rw [hgk, hm, hk, hg, hv]
      have HNF : Hid (fitW W = false → R = false) := fun hf => HNO.out (fun h => by
        have := h.2.1 W (List.mem_of_getElem? HWI.out)
        rw [hf] at this; cases this)
      have HKW : Hid (k = W.k) := hk
      subst hab
      clear hwa hwo hW hk hg hv hS hm hgk
      cases gk with
      | false =>
        have HR : Hid (R = false) := HNF.out (by rw [HOK.out]; rfl)
        clear HOK HNF
        go_wp2_with (first | (refine wpList_load_keyD 26 (by rfl) (by rfl) _ (by rfl) b (o + i * 18) (by rfl) k KY.out (FK.out _ HB.out) ?_) | (go_at_call 90; refine (CG.out _).mono ?_; rintro e w1 ⟨rfl, hb1⟩; have B1 : Hid (Below w.heap.size w w1) := HB.out.trans (hb1.mono HB.out.size); clear hb1))
        go_ret
        exact ⟨by rw [HR.out]; rfl, B1.out⟩
      | true =>
        by_cases hm2 : 200 < m
        · have d3 : (200 : Int) < (m : Int) := by omega
          have HR : Hid (R = false) := HNF.out (by rw [HOK.out, decide_eq_false (by omega)]; rfl)
          clear HOK HNF
          go_wp2_with (first | (refine wpList_load_keyD 26 (by rfl) (by rfl) _ (by rfl) b (o + i * 18) (by rfl) k KY.out (FK.out _ HB.out) ?_) | (go_at_call 90; refine (CG.out _).mono ?_; rintro e w1 ⟨rfl, hb1⟩; have B1 : Hid (Below w.heap.size w w1) := HB.out.trans (hb1.mono HB.out.size); obtain ⟨y0, y1⟩ := FC.out _ B1.out; clear hb1))
          go_ret
          exact ⟨by rw [HR.out]; rfl, B1.out⟩
        · have d3 : ¬ (200 : Int) < (m : Int) := by omega
          have HOK2 : Hid (fitW W = (!g || decide (v = []))) := by show _ = _; rw [HOK.out, decide_eq_true (by omega)]; simp
          clear HOK
          by_cases hbad : g = true ∧ v ≠ []
          · obtain ⟨rfl, hv0⟩ := hbad
            have HR : Hid (R = false) := HNF.out (by rw [HOK2.out, decide_eq_false hv0]; rfl)
            rw [decide_eq_false hv0] at hemp
            clear HOK2 HNF hv0
            go_wp2_with (first | (refine wpList_load_keyD 26 (by rfl) (by rfl) _ (by rfl) b (o + i * 18) (by rfl) k KY.out (FK.out _ HB.out) ?_) | (go_at_call 90; refine (CG.out _).mono ?_; rintro e w1 ⟨rfl, hb1⟩; have B1 : Hid (Below w.heap.size w w1) := HB.out.trans (hb1.mono HB.out.size); obtain ⟨y0, y1⟩ := FC.out _ B1.out; clear hb1))
            go_ret
            exact ⟨by rw [HR.out]; rfl, B1.out⟩
          · have HFT : Hid (fitW W = true) := by
              show _ = _
              rw [HOK2.out]
              cases g with
              | false => rfl
              | true =>
                have : v = [] := Classical.byContradiction fun e => hbad ⟨rfl, e⟩
                rw [this]; rfl
            have hemp2 : g = true → S.toList.isEmpty = true := fun hg => by
              have : v = [] := Classical.byContradiction fun e => hbad ⟨hg, e⟩
              rw [hemp, this]; rfl
            clear hemp hbad HOK2 HNF
            cases g with
            | true =>
              have hemp := hemp2 rfl
              clear hemp2
              go_wp2_with (first | (refine wpList_load_keyD 26 (by rfl) (by rfl) _ (by rfl) b (o + i * 18) (by rfl) k KY.out (FK.out _ HB.out) ?_) | (go_at_call 90; refine (CG.out _).mono ?_; rintro e w1 ⟨rfl, hb1⟩; have B1 : Hid (Below w.heap.size w w1) := HB.out.trans (hb1.mono HB.out.size); obtain ⟨y0, y1⟩ := FC.out _ B1.out; clear hb1))
              clear y0 y1 CG FC
              go_loopw [6] (fun jv wr => ∃ j : Nat, jv = .int .i64 j ∧ j ≤ i ∧ Hid (Below w.heap.size w wr) ∧ Hid (∀ x A, x < j → l[x]? = some A → A.k ≠ k)) (fun jv _ => i - (intOf jv).toNat)
              case atStart => exact ⟨0, rfl, Nat.zero_le _, B1, fun x A hx => absurd hx (Nat.not_lt_zero _)⟩
              case round =>
                obtain ⟨j, rfl, hj, HB2, HJ⟩ := hrel
                have hj0 : (0 : Int) ≤ (j : Int) := by omega
                by_cases hji : j < i
                · have h2 : (j : Int) < (i : Int) := by omega
                  have h3 : (j : Int) < (N : Int) := by omega
                  obtain ⟨A, hA⟩ : ∃ A, l[j]? = some A := ⟨_, List.getElem?_eq_getElem (by rw [HL.out]; omega)⟩
                  have HAJ : Hid (l[j]? = some A) := hA
                  obtain ⟨hkA, hatA⟩ := HEL.out j A hA
                  obtain ⟨k2, hk2⟩ : ∃ k2, k2 = A.k := ⟨_, rfl⟩
                  have KY2 : Hid (Ky k2) := by rw [hk2]; exact hkA
                  have F2 : Hid (∀ u, Below wr.heap.size wr u → KeyAt u b (o + j * 18) k2) := fun u hb => by rw [hk2]; exact hatA u (HB2.out.trans (hb.mono HB2.out.size))
                  have F1 : Hid (∀ u, Below wr.heap.size wr u → KeyAt u b (o + i * 18) k) := fun u hb => FK.out u (HB2.out.trans (hb.mono HB2.out.size))
                  have HK2 : Hid (k2 = A.k) := hk2
                  clear hA hkA hatA hk2
                  by_cases hq : k2 = k
                  · have he : ∀ u, (Op.equalIn 10000 84 (kv k2) (kv k)).run Try.prog u = .ok true u := fun u => by rw [eq_key u k2 k KY2.out KY.out, decide_eq_true hq]
                    have HR : Hid (R = false) := HNO.out (fun h => twice_not hji HAJ.out HWI.out (by rw [← HK2.out, ← HKW.out]; exact hq) h.2.2)
                    clear hq
                    go_wp2
                    refine wp_region_noPanic ?_
                    refine wp_region_held_drew (S := fun u => Below wr.heap.size wr u) (by kernel_rfl) ?_ (fun hHeld => ?_)
                    · exact (Below.refl _ _).drew
                    refine wpAnyH_take (i := 0) (v := ?_) rfl (by kernel_rfl) (by kernel_rfl) (by kernel_rfl) (fun _ _ _ h => h) (Or.inl ⟨by rfl, ?_⟩) hHeld ?_
                    rotate_left
                    · intro u hSu
                      (go_simp) <;> (with_reducible rfl)
                    change wpAnyH _ _ _ _ _ _ _ (Act.put _ (some 58) _) _
                    simp only [Act.put, List.setIfInBounds_toArray, List.set_cons_zero, List.set_cons_succ]
                    refine wpAnyH_take (i := 1) (v := ?_) rfl (by kernel_rfl) (by kernel_rfl) (by kernel_rfl) (fun _ _ _ h => h) (Or.inl ⟨by rfl, ?_⟩) hHeld ?_
                    rotate_left
                    · intro u hSu
                      (go_simp) <;> (with_reducible rfl)
                    change wpAnyH _ _ _ _ _ _ _ (Act.put _ (some 59) _) _
                    simp only [Act.put, List.setIfInBounds_toArray, List.set_cons_zero, List.set_cons_succ]
                    refine wpAnyH_take (i := 2) (v := ?_) rfl (by kernel_rfl) (by kernel_rfl) (by kernel_rfl) (fun _ _ _ h => h) (Or.inl ⟨by rfl, ?_⟩) hHeld ?_
                    rotate_left
                    · intro u hSu
                      (go_simp) <;> (with_reducible rfl)
                    change wpAnyH _ _ _ _ _ _ _ (Act.put _ (some 60) _) _
                    simp only [Act.put, List.setIfInBounds_toArray, List.set_cons_zero, List.set_cons_succ]
                    refine wpAnyH_take (i := 3) (v := ?_) rfl (by kernel_rfl) (by kernel_rfl) (by kernel_rfl) (fun _ _ _ h => h) (Or.inl ⟨by rfl, ?_⟩) hHeld ?_
                    rotate_left
                    · intro u hSu
                      (go_simp) <;> (with_reducible rfl)
                    change wpAnyH _ _ _ _ _ _ _ (Act.put _ (some 61) _) _
                    simp only [Act.put, List.setIfInBounds_toArray, List.set_cons_zero, List.set_cons_succ]
                    refine wpAnyH_take (i := 4) (v := kv k2) rfl (by kernel_rfl) (by kernel_rfl) (by kernel_rfl) (fun _ _ _ h => h) (yieldsIf_load_mid (by rfl) _ _ rfl _ _ rfl (k2.map (Value.int .u8)) _ (fun u hu => (F2.out u hu).range KY2.out) Try.underlying84 rfl (info_keyl k2 KY2.out)) hHeld ?_
                    change wpAnyH _ _ _ _ _ _ _ (Act.put _ (some 62) _) _
                    simp only [Act.put, List.setIfInBounds_toArray, List.set_cons_zero, List.set_cons_succ]
                    refine wpAnyH_take (i := 5) (v := ?_) rfl (by kernel_rfl) (by kernel_rfl) (by kernel_rfl) (fun _ _ _ h => h) (Or.inl ⟨by rfl, ?_⟩) hHeld ?_
                    rotate_left
                    · intro u hSu
                      (go_simp) <;> (with_reducible rfl)
                    change wpAnyH _ _ _ _ _ _ _ (Act.put _ (some 63) _) _
                    simp only [Act.put, List.setIfInBounds_toArray, List.set_cons_zero, List.set_cons_succ]
                    refine wpAnyH_take (i := 6) (v := ?_) rfl (by kernel_rfl) (by kernel_rfl) (by kernel_rfl) (fun _ _ _ h => h) (Or.inl ⟨by rfl, ?_⟩) hHeld ?_
                    rotate_left
                    · intro u hSu
                      (go_simp) <;> (with_reducible rfl)
                    change wpAnyH _ _ _ _ _ _ _ (Act.put _ (some 64) _) _
                    simp only [Act.put, List.setIfInBounds_toArray, List.set_cons_zero, List.set_cons_succ]
                    refine wpAnyH_take (i := 7) (v := ?_) rfl (by kernel_rfl) (by kernel_rfl) (by kernel_rfl) (fun _ _ _ h => h) (Or.inl ⟨by rfl, ?_⟩) hHeld ?_
                    rotate_left
                    · intro u hSu
                      (go_simp) <;> (with_reducible rfl)
                    change wpAnyH _ _ _ _ _ _ _ (Act.put _ (some 65) _) _
                    simp only [Act.put, List.setIfInBounds_toArray, List.set_cons_zero, List.set_cons_succ]
                    refine wpAnyH_take (i := 8) (v := ?_) rfl (by kernel_rfl) (by kernel_rfl) (by kernel_rfl) (fun _ _ _ h => h) (Or.inl ⟨by rfl, ?_⟩) hHeld ?_
                    rotate_left
                    · intro u hSu
                      (go_simp) <;> (with_reducible rfl)
                    change wpAnyH _ _ _ _ _ _ _ (Act.put _ (some 66) _) _
                    simp only [Act.put, List.setIfInBounds_toArray, List.set_cons_zero, List.set_cons_succ]
                    refine wpAnyH_take (i := 9) (v := kv k) rfl (by kernel_rfl) (by kernel_rfl) (by kernel_rfl) (fun _ _ _ h => h) (yieldsIf_load_mid (by rfl) _ _ rfl _ _ rfl (k.map (Value.int .u8)) _ (fun u hu => (F1.out u hu).range KY.out) Try.underlying84 rfl (info_keyl k KY.out)) hHeld ?_
                    change wpAnyH _ _ _ _ _ _ _ (Act.put _ (some 67) _) _
                    simp only [Act.put, List.setIfInBounds_toArray, List.set_cons_zero, List.set_cons_succ]
                    refine wpAnyH_take (i := 10) (v := ?_) rfl (by kernel_rfl) (by kernel_rfl) (by kernel_rfl) (fun _ _ _ h => h) (Or.inl ⟨by rfl, ?_⟩) hHeld ?_
                    rotate_left
                    · intro u hSu
                      (go_simp) <;> (with_reducible rfl)
                    change wpAnyH _ _ _ _ _ _ _ (Act.put _ (some 68) _) _
                    simp only [Act.put, List.setIfInBounds_toArray, List.set_cons_zero, List.set_cons_succ]
                    refine wpAnyH_done (by kernel_rfl) ?_ _
                    refine NoPanic.normal ?_
                    go_wp2
                    go_ret
                    exact ⟨by rw [HR.out]; rfl, HB2.out.drew⟩
                  · have he : ∀ u, (Op.equalIn 10000 84 (kv k2) (kv k)).run Try.prog u = .ok false u := fun u => by rw [eq_key u k2 k KY2.out KY.out, decide_eq_false hq]
                    have HJ2 : Hid (∀ x A, x < j + 1 → l[x]? = some A → A.k ≠ k) := fun x A' hx hA' => by
                      by_cases e : x < j
                      · exact HJ.out x A' e hA'
                      · obtain rfl : x = j := by omega
                        rw [HAJ.out] at hA'
                        obtain rfl := Option.some.inj hA'
                        rw [← HK2.out]; exact hq
                    clear hq
                    go_wp2
                    refine wp_region_noPanic ?_
                    refine wp_region_held_drew (S := fun u => Below wr.heap.size wr u) (by kernel_rfl) ?_ (fun hHeld => ?_)
                    · exact (Below.refl _ _).drew
                    refine wpAnyH_take (i := 0) (v := ?_) rfl (by kernel_rfl) (by kernel_rfl) (by kernel_rfl) (fun _ _ _ h => h) (Or.inl ⟨by rfl, ?_⟩) hHeld ?_
                    rotate_left
                    · intro u hSu
                      (go_simp) <;> (with_reducible rfl)
                    change wpAnyH _ _ _ _ _ _ _ (Act.put _ (some 58) _) _
                    simp only [Act.put, List.setIfInBounds_toArray, List.set_cons_zero, List.set_cons_succ]
                    refine wpAnyH_take (i := 1) (v := ?_) rfl (by kernel_rfl) (by kernel_rfl) (by kernel_rfl) (fun _ _ _ h => h) (Or.inl ⟨by rfl, ?_⟩) hHeld ?_
                    rotate_left
                    · intro u hSu
                      (go_simp) <;> (with_reducible rfl)
                    change wpAnyH _ _ _ _ _ _ _ (Act.put _ (some 59) _) _
                    simp only [Act.put, List.setIfInBounds_toArray, List.set_cons_zero, List.set_cons_succ]
                    refine wpAnyH_take (i := 2) (v := ?_) rfl (by kernel_rfl) (by kernel_rfl) (by kernel_rfl) (fun _ _ _ h => h) (Or.inl ⟨by rfl, ?_⟩) hHeld ?_
                    rotate_left
                    · intro u hSu
                      (go_simp) <;> (with_reducible rfl)
                    change wpAnyH _ _ _ _ _ _ _ (Act.put _ (some 60) _) _
                    simp only [Act.put, List.setIfInBounds_toArray, List.set_cons_zero, List.set_cons_succ]
                    refine wpAnyH_take (i := 3) (v := ?_) rfl (by kernel_rfl) (by kernel_rfl) (by kernel_rfl) (fun _ _ _ h => h) (Or.inl ⟨by rfl, ?_⟩) hHeld ?_
                    rotate_left
                    · intro u hSu
                      (go_simp) <;> (with_reducible rfl)
                    change wpAnyH _ _ _ _ _ _ _ (Act.put _ (some 61) _) _
                    simp only [Act.put, List.setIfInBounds_toArray, List.set_cons_zero, List.set_cons_succ]
                    refine wpAnyH_take (i := 4) (v := kv k2) rfl (by kernel_rfl) (by kernel_rfl) (by kernel_rfl) (fun _ _ _ h => h) (yieldsIf_load_mid (by rfl) _ _ rfl _ _ rfl (k2.map (Value.int .u8)) _ (fun u hu => (F2.out u hu).range KY2.out) Try.underlying84 rfl (info_keyl k2 KY2.out)) hHeld ?_
                    change wpAnyH _ _ _ _ _ _ _ (Act.put _ (some 62) _) _
                    simp only [Act.put, List.setIfInBounds_toArray, List.set_cons_zero, List.set_cons_succ]
                    refine wpAnyH_take (i := 5) (v := ?_) rfl (by kernel_rfl) (by kernel_rfl) (by kernel_rfl) (fun _ _ _ h => h) (Or.inl ⟨by rfl, ?_⟩) hHeld ?_
                    rotate_left
                    · intro u hSu
                      (go_simp) <;> (with_reducible rfl)
                    change wpAnyH _ _ _ _ _ _ _ (Act.put _ (some 63) _) _
                    simp only [Act.put, List.setIfInBounds_toArray, List.set_cons_zero, List.set_cons_succ]
                    refine wpAnyH_take (i := 6) (v := ?_) rfl (by kernel_rfl) (by kernel_rfl) (by kernel_rfl) (fun _ _ _ h => h) (Or.inl ⟨by rfl, ?_⟩) hHeld ?_
                    rotate_left
                    · intro u hSu
                      (go_simp) <;> (with_reducible rfl)
                    change wpAnyH _ _ _ _ _ _ _ (Act.put _ (some 64) _) _
                    simp only [Act.put, List.setIfInBounds_toArray, List.set_cons_zero, List.set_cons_succ]
                    refine wpAnyH_take (i := 7) (v := ?_) rfl (by kernel_rfl) (by kernel_rfl) (by kernel_rfl) (fun _ _ _ h => h) (Or.inl ⟨by rfl, ?_⟩) hHeld ?_
                    rotate_left
                    · intro u hSu
                      (go_simp) <;> (with_reducible rfl)
                    change wpAnyH _ _ _ _ _ _ _ (Act.put _ (some 65) _) _
                    simp only [Act.put, List.setIfInBounds_toArray, List.set_cons_zero, List.set_cons_succ]
                    refine wpAnyH_take (i := 8) (v := ?_) rfl (by kernel_rfl) (by kernel_rfl) (by kernel_rfl) (fun _ _ _ h => h) (Or.inl ⟨by rfl, ?_⟩) hHeld ?_
                    rotate_left
                    · intro u hSu
                      (go_simp) <;> (with_reducible rfl)
                    change wpAnyH _ _ _ _ _ _ _ (Act.put _ (some 66) _) _
                    simp only [Act.put, List.setIfInBounds_toArray, List.set_cons_zero, List.set_cons_succ]
                    refine wpAnyH_take (i := 9) (v := kv k) rfl (by kernel_rfl) (by kernel_rfl) (by kernel_rfl) (fun _ _ _ h => h) (yieldsIf_load_mid (by rfl) _ _ rfl _ _ rfl (k.map (Value.int .u8)) _ (fun u hu => (F1.out u hu).range KY.out) Try.underlying84 rfl (info_keyl k KY.out)) hHeld ?_
                    change wpAnyH _ _ _ _ _ _ _ (Act.put _ (some 67) _) _
                    simp only [Act.put, List.setIfInBounds_toArray, List.set_cons_zero, List.set_cons_succ]
                    refine wpAnyH_take (i := 10) (v := ?_) rfl (by kernel_rfl) (by kernel_rfl) (by kernel_rfl) (fun _ _ _ h => h) (Or.inl ⟨by rfl, ?_⟩) hHeld ?_
                    rotate_left
                    · intro u hSu
                      (go_simp) <;> (with_reducible rfl)
                    change wpAnyH _ _ _ _ _ _ _ (Act.put _ (some 68) _) _
                    simp only [Act.put, List.setIfInBounds_toArray, List.set_cons_zero, List.set_cons_succ]
                    refine wpAnyH_done (by kernel_rfl) ?_ _
                    refine NoPanic.normal ?_
                    go_wp2
                    go_roundw
                    case rel => exact ⟨j + 1, by go_num, by omega, HB2.out.drew, HJ2⟩
                    case measure => simp [intOf]; omega
                · obtain rfl : j = i := by omega
                  have HF2 : Hid (Fits l (j + 1)) := HF.out.next HWI.out HFT.out (fun x A hx hA => by rw [← HKW.out]; exact HJ.out x A hx hA)
                  go_wp2
                  go_roundw
                  case rel => exact ⟨j + 1, by go_num, by omega, HB2, HF2⟩
                  case measure => simp [intOf]; omega
            | false =>
              clear hemp2
              go_wp2_with (first | (refine wpList_load_keyD 26 (by rfl) (by rfl) _ (by rfl) b (o + i * 18) (by rfl) k KY.out (FK.out _ HB.out) ?_) | (go_at_call 90; refine (CG.out _).mono ?_; rintro e w1 ⟨rfl, hb1⟩; have B1 : Hid (Below w.heap.size w w1) := HB.out.trans (hb1.mono HB.out.size); obtain ⟨y0, y1⟩ := FC.out _ B1.out; clear hb1))
              clear y0 y1 CG FC
              go_loopw [6] (fun jv wr => ∃ j : Nat, jv = .int .i64 j ∧ j ≤ i ∧ Hid (Below w.heap.size w wr) ∧ Hid (∀ x A, x < j → l[x]? = some A → A.k ≠ k)) (fun jv _ => i - (intOf jv).toNat)
              case atStart => exact ⟨0, rfl, Nat.zero_le _, B1, fun x A hx => absurd hx (Nat.not_lt_zero _)⟩
              case round =>
                obtain ⟨j, rfl, hj, HB2, HJ⟩ := hrel
                have hj0 : (0 : Int) ≤ (j : Int) := by omega
                by_cases hji : j < i
                · have h2 : (j : Int) < (i : Int) := by omega
                  have h3 : (j : Int) < (N : Int) := by omega
                  obtain ⟨A, hA⟩ : ∃ A, l[j]? = some A := ⟨_, List.getElem?_eq_getElem (by rw [HL.out]; omega)⟩
                  have HAJ : Hid (l[j]? = some A) := hA
                  obtain ⟨hkA, hatA⟩ := HEL.out j A hA
                  obtain ⟨k2, hk2⟩ : ∃ k2, k2 = A.k := ⟨_, rfl⟩
                  have KY2 : Hid (Ky k2) := by rw [hk2]; exact hkA
                  have F2 : Hid (∀ u, Below wr.heap.size wr u → KeyAt u b (o + j * 18) k2) := fun u hb => by rw [hk2]; exact hatA u (HB2.out.trans (hb.mono HB2.out.size))
                  have F1 : Hid (∀ u, Below wr.heap.size wr u → KeyAt u b (o + i * 18) k) := fun u hb => FK.out u (HB2.out.trans (hb.mono HB2.out.size))
                  have HK2 : Hid (k2 = A.k) := hk2
                  clear hA hkA hatA hk2
                  by_cases hq : k2 = k
                  · have he : ∀ u, (Op.equalIn 10000 84 (kv k2) (kv k)).run Try.prog u = .ok true u := fun u => by rw [eq_key u k2 k KY2.out KY.out, decide_eq_true hq]
                    have HR : Hid (R = false) := HNO.out (fun h => twice_not hji HAJ.out HWI.out (by rw [← HK2.out, ← HKW.out]; exact hq) h.2.2)
                    clear hq
                    go_wp2
                    refine wp_region_noPanic ?_
                    refine wp_region_held_drew (S := fun u => Below wr.heap.size wr u) (by kernel_rfl) ?_ (fun hHeld => ?_)
                    · exact (Below.refl _ _).drew
                    refine wpAnyH_take (i := 0) (v := ?_) rfl (by kernel_rfl) (by kernel_rfl) (by kernel_rfl) (fun _ _ _ h => h) (Or.inl ⟨by rfl, ?_⟩) hHeld ?_
                    rotate_left
                    · intro u hSu
                      (go_simp) <;> (with_reducible rfl)
                    change wpAnyH _ _ _ _ _ _ _ (Act.put _ (some 58) _) _
                    simp only [Act.put, List.setIfInBounds_toArray, List.set_cons_zero, List.set_cons_succ]
                    refine wpAnyH_take (i := 1) (v := ?_) rfl (by kernel_rfl) (by kernel_rfl) (by kernel_rfl) (fun _ _ _ h => h) (Or.inl ⟨by rfl, ?_⟩) hHeld ?_
                    rotate_left
                    · intro u hSu
                      (go_simp) <;> (with_reducible rfl)
                    change wpAnyH _ _ _ _ _ _ _ (Act.put _ (some 59) _) _
                    simp only [Act.put, List.setIfInBounds_toArray, List.set_cons_zero, List.set_cons_succ]
                    refine wpAnyH_take (i := 2) (v := ?_) rfl (by kernel_rfl) (by kernel_rfl) (by kernel_rfl) (fun _ _ _ h => h) (Or.inl ⟨by rfl, ?_⟩) hHeld ?_
                    rotate_left
                    · intro u hSu
                      (go_simp) <;> (with_reducible rfl)
                    change wpAnyH _ _ _ _ _ _ _ (Act.put _ (some 60) _) _
                    simp only [Act.put, List.setIfInBounds_toArray, List.set_cons_zero, List.set_cons_succ]
                    refine wpAnyH_take (i := 3) (v := ?_) rfl (by kernel_rfl) (by kernel_rfl) (by kernel_rfl) (fun _ _ _ h => h) (Or.inl ⟨by rfl, ?_⟩) hHeld ?_
                    rotate_left
                    · intro u hSu
                      (go_simp) <;> (with_reducible rfl)
                    change wpAnyH _ _ _ _ _ _ _ (Act.put _ (some 61) _) _
                    simp only [Act.put, List.setIfInBounds_toArray, List.set_cons_zero, List.set_cons_succ]
                    refine wpAnyH_take (i := 4) (v := kv k2) rfl (by kernel_rfl) (by kernel_rfl) (by kernel_rfl) (fun _ _ _ h => h) (yieldsIf_load_mid (by rfl) _ _ rfl _ _ rfl (k2.map (Value.int .u8)) _ (fun u hu => (F2.out u hu).range KY2.out) Try.underlying84 rfl (info_keyl k2 KY2.out)) hHeld ?_
                    change wpAnyH _ _ _ _ _ _ _ (Act.put _ (some 62) _) _
                    simp only [Act.put, List.setIfInBounds_toArray, List.set_cons_zero, List.set_cons_succ]
                    refine wpAnyH_take (i := 5) (v := ?_) rfl (by kernel_rfl) (by kernel_rfl) (by kernel_rfl) (fun _ _ _ h => h) (Or.inl ⟨by rfl, ?_⟩) hHeld ?_
                    rotate_left
                    · intro u hSu
                      (go_simp) <;> (with_reducible rfl)
                    change wpAnyH _ _ _ _ _ _ _ (Act.put _ (some 63) _) _
                    simp only [Act.put, List.setIfInBounds_toArray, List.set_cons_zero, List.set_cons_succ]
                    refine wpAnyH_take (i := 6) (v := ?_) rfl (by kernel_rfl) (by kernel_rfl) (by kernel_rfl) (fun _ _ _ h => h) (Or.inl ⟨by rfl, ?_⟩) hHeld ?_
                    rotate_left
                    · intro u hSu
                      (go_simp) <;> (with_reducible rfl)
                    change wpAnyH _ _ _ _ _ _ _ (Act.put _ (some 64) _) _
                    simp only [Act.put, List.setIfInBounds_toArray, List.set_cons_zero, List.set_cons_succ]
                    refine wpAnyH_take (i := 7) (v := ?_) rfl (by kernel_rfl) (by kernel_rfl) (by kernel_rfl) (fun _ _ _ h => h) (Or.inl ⟨by rfl, ?_⟩) hHeld ?_
                    rotate_left
                    · intro u hSu
                      (go_simp) <;> (with_reducible rfl)
                    change wpAnyH _ _ _ _ _ _ _ (Act.put _ (some 65) _) _
                    simp only [Act.put, List.setIfInBounds_toArray, List.set_cons_zero, List.set_cons_succ]
                    refine wpAnyH_take (i := 8) (v := ?_) rfl (by kernel_rfl) (by kernel_rfl) (by kernel_rfl) (fun _ _ _ h => h) (Or.inl ⟨by rfl, ?_⟩) hHeld ?_
                    rotate_left
                    · intro u hSu
                      (go_simp) <;> (with_reducible rfl)
                    change wpAnyH _ _ _ _ _ _ _ (Act.put _ (some 66) _) _
                    simp only [Act.put, List.setIfInBounds_toArray, List.set_cons_zero, List.set_cons_succ]
                    refine wpAnyH_take (i := 9) (v := kv k) rfl (by kernel_rfl) (by kernel_rfl) (by kernel_rfl) (fun _ _ _ h => h) (yieldsIf_load_mid (by rfl) _ _ rfl _ _ rfl (k.map (Value.int .u8)) _ (fun u hu => (F1.out u hu).range KY.out) Try.underlying84 rfl (info_keyl k KY.out)) hHeld ?_
                    change wpAnyH _ _ _ _ _ _ _ (Act.put _ (some 67) _) _
                    simp only [Act.put, List.setIfInBounds_toArray, List.set_cons_zero, List.set_cons_succ]
                    refine wpAnyH_take (i := 10) (v := ?_) rfl (by kernel_rfl) (by kernel_rfl) (by kernel_rfl) (fun _ _ _ h => h) (Or.inl ⟨by rfl, ?_⟩) hHeld ?_
                    rotate_left
                    · intro u hSu
                      (go_simp) <;> (with_reducible rfl)
                    change wpAnyH _ _ _ _ _ _ _ (Act.put _ (some 68) _) _
                    simp only [Act.put, List.setIfInBounds_toArray, List.set_cons_zero, List.set_cons_succ]
                    refine wpAnyH_done (by kernel_rfl) ?_ _
                    refine NoPanic.normal ?_
                    go_wp2
                    go_ret
                    exact ⟨by rw [HR.out]; rfl, HB2.out.drew⟩
                  · have he : ∀ u, (Op.equalIn 10000 84 (kv k2) (kv k)).run Try.prog u = .ok false u := fun u => by rw [eq_key u k2 k KY2.out KY.out, decide_eq_false hq]
                    have HJ2 : Hid (∀ x A, x < j + 1 → l[x]? = some A → A.k ≠ k) := fun x A' hx hA' => by
                      by_cases e : x < j
                      · exact HJ.out x A' e hA'
                      · obtain rfl : x = j := by omega
                        rw [HAJ.out] at hA'
                        obtain rfl := Option.some.inj hA'
                        rw [← HK2.out]; exact hq
                    clear hq
                    go_wp2
                    refine wp_region_noPanic ?_
                    refine wp_region_held_drew (S := fun u => Below wr.heap.size wr u) (by kernel_rfl) ?_ (fun hHeld => ?_)
                    · exact (Below.refl _ _).drew
                    refine wpAnyH_take (i := 0) (v := ?_) rfl (by kernel_rfl) (by kernel_rfl) (by kernel_rfl) (fun _ _ _ h => h) (Or.inl ⟨by rfl, ?_⟩) hHeld ?_
                    rotate_left
                    · intro u hSu
                      (go_simp) <;> (with_reducible rfl)
                    change wpAnyH _ _ _ _ _ _ _ (Act.put _ (some 58) _) _
                    simp only [Act.put, List.setIfInBounds_toArray, List.set_cons_zero, List.set_cons_succ]
                    refine wpAnyH_take (i := 1) (v := ?_) rfl (by kernel_rfl) (by kernel_rfl) (by kernel_rfl) (fun _ _ _ h => h) (Or.inl ⟨by rfl, ?_⟩) hHeld ?_
                    rotate_left
                    · intro u hSu
                      (go_simp) <;> (with_reducible rfl)
                    change wpAnyH _ _ _ _ _ _ _ (Act.put _ (some 59) _) _
                    simp only [Act.put, List.setIfInBounds_toArray, List.set_cons_zero, List.set_cons_succ]
                    refine wpAnyH_take (i := 2) (v := ?_) rfl (by kernel_rfl) (by kernel_rfl) (by kernel_rfl) (fun _ _ _ h => h) (Or.inl ⟨by rfl, ?_⟩) hHeld ?_
                    rotate_left
                    · intro u hSu
                      (go_simp) <;> (with_reducible rfl)
                    change wpAnyH _ _ _ _ _ _ _ (Act.put _ (some 60) _) _
                    simp only [Act.put, List.setIfInBounds_toArray, List.set_cons_zero, List.set_cons_succ]
                    refine wpAnyH_take (i := 3) (v := ?_) rfl (by kernel_rfl) (by kernel_rfl) (by kernel_rfl) (fun _ _ _ h => h) (Or.inl ⟨by rfl, ?_⟩) hHeld ?_
                    rotate_left
                    · intro u hSu
                      (go_simp) <;> (with_reducible rfl)
                    change wpAnyH _ _ _ _ _ _ _ (Act.put _ (some 61) _) _
                    simp only [Act.put, List.setIfInBounds_toArray, List.set_cons_zero, List.set_cons_succ]
                    refine wpAnyH_take (i := 4) (v := kv k2) rfl (by kernel_rfl) (by kernel_rfl) (by kernel_rfl) (fun _ _ _ h => h) (yieldsIf_load_mid (by rfl) _ _ rfl _ _ rfl (k2.map (Value.int .u8)) _ (fun u hu => (F2.out u hu).range KY2.out) Try.underlying84 rfl (info_keyl k2 KY2.out)) hHeld ?_
                    change wpAnyH _ _ _ _ _ _ _ (Act.put _ (some 62) _) _
                    simp only [Act.put, List.setIfInBounds_toArray, List.set_cons_zero, List.set_cons_succ]
                    refine wpAnyH_take (i := 5) (v := ?_) rfl (by kernel_rfl) (by kernel_rfl) (by kernel_rfl) (fun _ _ _ h => h) (Or.inl ⟨by rfl, ?_⟩) hHeld ?_
                    rotate_left
                    · intro u hSu
                      (go_simp) <;> (with_reducible rfl)
                    change wpAnyH _ _ _ _ _ _ _ (Act.put _ (some 63) _) _
                    simp only [Act.put, List.setIfInBounds_toArray, List.set_cons_zero, List.set_cons_succ]
                    refine wpAnyH_take (i := 6) (v := ?_) rfl (by kernel_rfl) (by kernel_rfl) (by kernel_rfl) (fun _ _ _ h => h) (Or.inl ⟨by rfl, ?_⟩) hHeld ?_
                    rotate_left
                    · intro u hSu
                      (go_simp) <;> (with_reducible rfl)
                    change wpAnyH _ _ _ _ _ _ _ (Act.put _ (some 64) _) _
                    simp only [Act.put, List.setIfInBounds_toArray, List.set_cons_zero, List.set_cons_succ]
                    refine wpAnyH_take (i := 7) (v := ?_) rfl (by kernel_rfl) (by kernel_rfl) (by kernel_rfl) (fun _ _ _ h => h) (Or.inl ⟨by rfl, ?_⟩) hHeld ?_
                    rotate_left
                    · intro u hSu
                      (go_simp) <;> (with_reducible rfl)
                    change wpAnyH _ _ _ _ _ _ _ (Act.put _ (some 65) _) _
                    simp only [Act.put, List.setIfInBounds_toArray, List.set_cons_zero, List.set_cons_succ]
                    refine wpAnyH_take (i := 8) (v := ?_) rfl (by kernel_rfl) (by kernel_rfl) (by kernel_rfl) (fun _ _ _ h => h) (Or.inl ⟨by rfl, ?_⟩) hHeld ?_
                    rotate_left
                    · intro u hSu
                      (go_simp) <;> (with_reducible rfl)
                    change wpAnyH _ _ _ _ _ _ _ (Act.put _ (some 66) _) _
                    simp only [Act.put, List.setIfInBounds_toArray, List.set_cons_zero, List.set_cons_succ]
                    refine wpAnyH_take (i := 9) (v := kv k) rfl (by kernel_rfl) (by kernel_rfl) (by kernel_rfl) (fun _ _ _ h => h) (yieldsIf_load_mid (by rfl) _ _ rfl _ _ rfl (k.map (Value.int .u8)) _ (fun u hu => (F1.out u hu).range KY.out) Try.underlying84 rfl (info_keyl k KY.out)) hHeld ?_
                    change wpAnyH _ _ _ _ _ _ _ (Act.put _ (some 67) _) _
                    simp only [Act.put, List.setIfInBounds_toArray, List.set_cons_zero, List.set_cons_succ]
                    refine wpAnyH_take (i := 10) (v := ?_) rfl (by kernel_rfl) (by kernel_rfl) (by kernel_rfl) (fun _ _ _ h => h) (Or.inl ⟨by rfl, ?_⟩) hHeld ?_
                    rotate_left
                    · intro u hSu
                      (go_simp) <;> (with_reducible rfl)
                    change wpAnyH _ _ _ _ _ _ _ (Act.put _ (some 68) _) _
                    simp only [Act.put, List.setIfInBounds_toArray, List.set_cons_zero, List.set_cons_succ]
                    refine wpAnyH_done (by kernel_rfl) ?_ _
                    refine NoPanic.normal ?_
                    go_wp2
                    go_roundw
                    case rel => exact ⟨j + 1, by go_num, by omega, HB2.out.drew, HJ2⟩
                    case measure => simp [intOf]; omega
                · obtain rfl : j = i := by omega
                  have HF2 : Hid (Fits l (j + 1)) := HF.out.next HWI.out HFT.out (fun x A hx hA => by rw [← HKW.out]; exact HJ.out x A hx hA)
                  go_wp2
                  go_roundw
                  case rel => exact ⟨j + 1, by go_num, by omega, HB2, HF2⟩
                  case measure => simp [intOf]; omega
    · obtain rfl : i = N := by omega
      have HT : Hid (l.take i = l) := List.take_of_length_le (by rw [HL.out]; exact Nat.le_refl _)
      have HR : Hid (R = true) := HYES.out ⟨⟨by omega, by omega⟩, by have := HF.out.1; rw [HT.out] at this; exact this, by have := HF.out.2; rw [HT.out] at this; exact this⟩
      go_wp2
      go_ret
      exact ⟨by rw [HR.out]; rfl, HB.out⟩
end Go.Proofs.Ytcppihpehipelaa
