/-
  What layer 12's own helpers and the document's own Items answer: long, at, k, keys, Items.
  A store of the call's own, as layer 12's statements use it; what their own awake answers.
  Two versions held against one another.
-/
import Derived.Test.YtileidbdmpeciaaGreatAu108
import Derived.Test.YtileidbdmpeciaaGreatAu84
import Derived.Test.YtileidbdmpeciaaGreatAu87
import Derived.Test.YtileidbdmpeciaaGreatAu112
import Derived.Test.YtileidbdmpeciaaGreatAu96
import Derived.Test.YtileidbdmpeciaaGreatRefVPut
import Derived.Laws.StructEq
namespace Go.Proofs.YtileidbdmpeciaaGreat
open Go.RowKit
set_option linter.unusedVariables false

theorem eq_key9s (w : World) (a b : List Int) (ha : Ky a) (hb : Ky b) : (Op.equalIn 9999 38 (.agg (a.map (Value.int .u8)).toArray) (.agg (b.map (Value.int .u8)).toArray)).run Tryz.prog w = .ok (decide (a = b)) w := by
  obtain ⟨i, hi⟩ := key_parts
  rw [run_equalIn_array w 9998 _ _ Tryz.underlying38 hi, List.range_eq_range', eq_items Tryz.underlying5 (by kernel_rfl) 9997 w a b 16 0 (by rw [ha.len]) (by rw [hb.len])]
  by_cases h : a = b <;> simp [h]
theorem encI_parts {x : Itm} (h : Ky x.1) : (encI x).take 16 = x.1.map (Value.int .u8) ∧ (encI x)[16]? = some (.string (strOfNums x.2)) := by
  have hl := kc_len h
  unfold encI
  refine ⟨?_, ?_⟩
  · rw [List.take_append_of_le_length (by omega), List.take_of_length_le (by omega)]; rfl
  · rw [List.getElem?_append_right (by omega), hl]; rfl
set_option maxHeartbeats 1000000 in
theorem eq_itm (w : World) (A B : Itm) (hA : ItmOk A) (hB : ItmOk B) : (Op.equalIn 10000 132 (iv A) (iv B)).run Tryz.prog w = .ok (decide (A = B)) w := by
  obtain ⟨a0, a1⟩ := encI_parts hA.key
  obtain ⟨b0, b1⟩ := encI_parts hB.key
  have hk := fun u => eq_key9s u A.1 B.1 hA.key hB.key
  have hs := str_eq hA.val hB.val
  have hd : decide (A = B) = (decide (A.1 = B.1) && decide (A.2 = B.2)) := by
    rw [Bool.eq_iff_iff]
    simp [Prod.ext_iff]
  rw [hd]
  clear hd
  go_simp
  by_cases h1 : A.1 = B.1
  · by_cases h4 : A.2 = B.2 <;> simp [h1, h4]
  · simp [h1]
theorem info_itml (x : Itm) (h : Ky x.1) : (Tryz.prog.info? 132).map (·.size) = some (encI x).length := by rw [info_itm, encI_len h]
set_option maxHeartbeats 4000000 in
set_option maxRecDepth 4000 in
theorem ritems_any (a a' : Option Addr) (N N' c c' : Nat) (L M : List Itm) (w : World) (hl : L.length = N) (hl' : M.length = N') (hc : N ≤ c) (hc' : N' ≤ c') (hN : N ≤ 1000000) (hN' : N' ≤ 1000000) (h : ItmsAt w a L) (h' : ItmsAt w a' M) :
    Calls Tryz.prog 33 #[.slice a N c, .slice a' N' c'] w fun e w' => e = .returned (.bool (decide (L = M))) ∧ Below w.heap.size w w' := by
  have HN : Hid (L.length = N) := hl
  have HN' : Hid (M.length = N') := hl'
  have HA : Hid (ItmsAt w a L) := h
  have HA' : Hid (ItmsAt w a' M) := h'
  obtain ⟨R, hR⟩ : ∃ R, R = decide (L = M) := ⟨_, rfl⟩
  have HR : Hid (R = decide (L = M)) := hR
  rw [← hR]
  clear hR h h' hl hl'
  by_cases hne : N = N'
  · subst hne
    have bn : (((N : Nat) : Int) != ((N : Nat) : Int)) = false := by simp
    go_enter Tryz.func33, Tryz.ntmps33
    go_wp2
    go_loopw [5] (fun iv wr => ∃ i : Nat, iv = .int .i64 i ∧ i ≤ N ∧ Hid (Below w.heap.size w wr) ∧ Hid (L.take i = M.take i)) (fun iv _ => N - (intOf iv).toNat)
    case atStart => exact ⟨0, rfl, Nat.zero_le _, Below.refl _ _, by simp [Hid]⟩
    case round =>
      obtain ⟨i, rfl, hi, HB, HT⟩ := hrel
      have hi0 : (0 : Int) ≤ (i : Int) := by omega
      by_cases hlt : i < N
      · have bl : (i : Int) < (N : Int) := by omega
        obtain ⟨V, hV⟩ : ∃ V, L[i]? = some V := ⟨_, List.getElem?_eq_getElem (by rw [HN.out]; exact hlt)⟩
        obtain ⟨W, hW⟩ : ∃ V, M[i]? = some V := ⟨_, List.getElem?_eq_getElem (by rw [HN'.out]; exact hlt)⟩
        have HV : Hid (L[i]? = some V) := hV
        have HW : Hid (M[i]? = some W) := hW
        obtain ⟨g, o, rfl, hva, hvo⟩ := (HA.out.past HB.out).itm hV
        obtain ⟨g', o', rfl, hwa, hwo⟩ := (HA'.out.past HB.out).itm hW
        have KV : Hid (ItmOk V) := hvo
        have KW : Hid (ItmOk W) := hwo
        have FV : Hid (∀ u, Below wr.heap.size wr u → ItmAt u g (o + i * 17) V) := fun u hb => hva.past hb
        have FW : Hid (∀ u, Below wr.heap.size wr u → ItmAt u g' (o' + i * 17) W) := fun u hb => hwa.past hb
        have heq := fun u => eq_itm u V W KV.out KW.out
        clear hV hW hva hvo hwa hwo
        by_cases hVW : V = W
        · rw [decide_eq_true hVW] at heq
          have HT2 : Hid (L.take (i + 1) = M.take (i + 1)) := by show _ = _; rw [List.take_add_one, List.take_add_one, HV.out, HW.out, HT.out, hVW]
          clear hVW
          go_wp2
          refine wp_region_noPanic ?_
          refine wp_region_held_drew (S := fun u => Below wr.heap.size wr u) (by kernel_rfl) ?_ (fun hHeld => ?_)
          · exact (Below.refl _ _).drew
          refine wpAnyH_take (i := 0) (v := ?_) rfl (by kernel_rfl) (by kernel_rfl) (by kernel_rfl) (fun _ _ _ h => h) (Or.inl ⟨by rfl, ?_⟩) hHeld ?_
          rotate_left
          · intro u hSu
            (go_simp) <;> (with_reducible rfl)
          change wpAnyH _ _ _ _ _ _ _ (Act.put _ (some 17) _) _
          simp only [Act.put, List.setIfInBounds_toArray, List.set_cons_zero, List.set_cons_succ]
          refine wpAnyH_take (i := 1) (v := ?_) rfl (by kernel_rfl) (by kernel_rfl) (by kernel_rfl) (fun _ _ _ h => h) (Or.inl ⟨by rfl, ?_⟩) hHeld ?_
          rotate_left
          · intro u hSu
            (go_simp) <;> (with_reducible rfl)
          change wpAnyH _ _ _ _ _ _ _ (Act.put _ (some 18) _) _
          simp only [Act.put, List.setIfInBounds_toArray, List.set_cons_zero, List.set_cons_succ]
          refine wpAnyH_take (i := 2) (v := ?_) rfl (by kernel_rfl) (by kernel_rfl) (by kernel_rfl) (fun _ _ _ h => h) (Or.inl ⟨by rfl, ?_⟩) hHeld ?_
          rotate_left
          · intro u hSu
            (go_simp) <;> (with_reducible rfl)
          change wpAnyH _ _ _ _ _ _ _ (Act.put _ (some 19) _) _
          simp only [Act.put, List.setIfInBounds_toArray, List.set_cons_zero, List.set_cons_succ]
          refine wpAnyH_take (i := 3) (v := iv V) rfl (by kernel_rfl) (by kernel_rfl) (by kernel_rfl) (fun _ _ _ h => h) (yieldsIf_load_mid (by rfl) _ _ rfl _ _ rfl (encI V) _ (fun u hu => (FV.out u hu).lies.range) Tryz.underlying132 rfl (info_itml V KV.out.key)) hHeld ?_
          change wpAnyH _ _ _ _ _ _ _ (Act.put _ (some 20) _) _
          simp only [Act.put, List.setIfInBounds_toArray, List.set_cons_zero, List.set_cons_succ]
          refine wpAnyH_take (i := 4) (v := ?_) rfl (by kernel_rfl) (by kernel_rfl) (by kernel_rfl) (fun _ _ _ h => h) (Or.inl ⟨by rfl, ?_⟩) hHeld ?_
          rotate_left
          · intro u hSu
            (go_simp) <;> (with_reducible rfl)
          change wpAnyH _ _ _ _ _ _ _ (Act.put _ (some 21) _) _
          simp only [Act.put, List.setIfInBounds_toArray, List.set_cons_zero, List.set_cons_succ]
          refine wpAnyH_take (i := 5) (v := ?_) rfl (by kernel_rfl) (by kernel_rfl) (by kernel_rfl) (fun _ _ _ h => h) (Or.inl ⟨by rfl, ?_⟩) hHeld ?_
          rotate_left
          · intro u hSu
            (go_simp) <;> (with_reducible rfl)
          change wpAnyH _ _ _ _ _ _ _ (Act.put _ (some 22) _) _
          simp only [Act.put, List.setIfInBounds_toArray, List.set_cons_zero, List.set_cons_succ]
          refine wpAnyH_take (i := 6) (v := ?_) rfl (by kernel_rfl) (by kernel_rfl) (by kernel_rfl) (fun _ _ _ h => h) (Or.inl ⟨by rfl, ?_⟩) hHeld ?_
          rotate_left
          · intro u hSu
            (go_simp) <;> (with_reducible rfl)
          change wpAnyH _ _ _ _ _ _ _ (Act.put _ (some 23) _) _
          simp only [Act.put, List.setIfInBounds_toArray, List.set_cons_zero, List.set_cons_succ]
          refine wpAnyH_take (i := 7) (v := iv W) rfl (by kernel_rfl) (by kernel_rfl) (by kernel_rfl) (fun _ _ _ h => h) (yieldsIf_load_mid (by rfl) _ _ rfl _ _ rfl (encI W) _ (fun u hu => (FW.out u hu).lies.range) Tryz.underlying132 rfl (info_itml W KW.out.key)) hHeld ?_
          change wpAnyH _ _ _ _ _ _ _ (Act.put _ (some 24) _) _
          simp only [Act.put, List.setIfInBounds_toArray, List.set_cons_zero, List.set_cons_succ]
          refine wpAnyH_take (i := 8) (v := ?_) rfl (by kernel_rfl) (by kernel_rfl) (by kernel_rfl) (fun _ _ _ h => h) (Or.inl ⟨by rfl, ?_⟩) hHeld ?_
          rotate_left
          · intro u hSu
            (go_simp) <;> (with_reducible rfl)
          change wpAnyH _ _ _ _ _ _ _ (Act.put _ (some 25) _) _
          simp only [Act.put, List.setIfInBounds_toArray, List.set_cons_zero, List.set_cons_succ]
          refine wpAnyH_done (by kernel_rfl) ?_ _
          refine NoPanic.normal ?_
          go_wp2
          go_roundw
          case rel => exact ⟨i + 1, by go_num, by omega, HB.out.drew, HT2⟩
          case measure => simp [intOf]; omega
        · rw [decide_eq_false hVW] at heq
          have HRF : Hid (R = false) := by
            show R = _
            rw [HR.out]
            refine decide_eq_false (fun e => hVW ?_)
            have h1 := HV.out
            rw [e, HW.out] at h1
            injection h1 with h1
            exact h1.symm
          clear hVW
          go_wp2
          refine wp_region_noPanic ?_
          refine wp_region_held_drew (S := fun u => Below wr.heap.size wr u) (by kernel_rfl) ?_ (fun hHeld => ?_)
          · exact (Below.refl _ _).drew
          refine wpAnyH_take (i := 0) (v := ?_) rfl (by kernel_rfl) (by kernel_rfl) (by kernel_rfl) (fun _ _ _ h => h) (Or.inl ⟨by rfl, ?_⟩) hHeld ?_
          rotate_left
          · intro u hSu
            (go_simp) <;> (with_reducible rfl)
          change wpAnyH _ _ _ _ _ _ _ (Act.put _ (some 17) _) _
          simp only [Act.put, List.setIfInBounds_toArray, List.set_cons_zero, List.set_cons_succ]
          refine wpAnyH_take (i := 1) (v := ?_) rfl (by kernel_rfl) (by kernel_rfl) (by kernel_rfl) (fun _ _ _ h => h) (Or.inl ⟨by rfl, ?_⟩) hHeld ?_
          rotate_left
          · intro u hSu
            (go_simp) <;> (with_reducible rfl)
          change wpAnyH _ _ _ _ _ _ _ (Act.put _ (some 18) _) _
          simp only [Act.put, List.setIfInBounds_toArray, List.set_cons_zero, List.set_cons_succ]
          refine wpAnyH_take (i := 2) (v := ?_) rfl (by kernel_rfl) (by kernel_rfl) (by kernel_rfl) (fun _ _ _ h => h) (Or.inl ⟨by rfl, ?_⟩) hHeld ?_
          rotate_left
          · intro u hSu
            (go_simp) <;> (with_reducible rfl)
          change wpAnyH _ _ _ _ _ _ _ (Act.put _ (some 19) _) _
          simp only [Act.put, List.setIfInBounds_toArray, List.set_cons_zero, List.set_cons_succ]
          refine wpAnyH_take (i := 3) (v := iv V) rfl (by kernel_rfl) (by kernel_rfl) (by kernel_rfl) (fun _ _ _ h => h) (yieldsIf_load_mid (by rfl) _ _ rfl _ _ rfl (encI V) _ (fun u hu => (FV.out u hu).lies.range) Tryz.underlying132 rfl (info_itml V KV.out.key)) hHeld ?_
          change wpAnyH _ _ _ _ _ _ _ (Act.put _ (some 20) _) _
          simp only [Act.put, List.setIfInBounds_toArray, List.set_cons_zero, List.set_cons_succ]
          refine wpAnyH_take (i := 4) (v := ?_) rfl (by kernel_rfl) (by kernel_rfl) (by kernel_rfl) (fun _ _ _ h => h) (Or.inl ⟨by rfl, ?_⟩) hHeld ?_
          rotate_left
          · intro u hSu
            (go_simp) <;> (with_reducible rfl)
          change wpAnyH _ _ _ _ _ _ _ (Act.put _ (some 21) _) _
          simp only [Act.put, List.setIfInBounds_toArray, List.set_cons_zero, List.set_cons_succ]
          refine wpAnyH_take (i := 5) (v := ?_) rfl (by kernel_rfl) (by kernel_rfl) (by kernel_rfl) (fun _ _ _ h => h) (Or.inl ⟨by rfl, ?_⟩) hHeld ?_
          rotate_left
          · intro u hSu
            (go_simp) <;> (with_reducible rfl)
          change wpAnyH _ _ _ _ _ _ _ (Act.put _ (some 22) _) _
          simp only [Act.put, List.setIfInBounds_toArray, List.set_cons_zero, List.set_cons_succ]
          refine wpAnyH_take (i := 6) (v := ?_) rfl (by kernel_rfl) (by kernel_rfl) (by kernel_rfl) (fun _ _ _ h => h) (Or.inl ⟨by rfl, ?_⟩) hHeld ?_
          rotate_left
          · intro u hSu
            (go_simp) <;> (with_reducible rfl)
          change wpAnyH _ _ _ _ _ _ _ (Act.put _ (some 23) _) _
          simp only [Act.put, List.setIfInBounds_toArray, List.set_cons_zero, List.set_cons_succ]
          refine wpAnyH_take (i := 7) (v := iv W) rfl (by kernel_rfl) (by kernel_rfl) (by kernel_rfl) (fun _ _ _ h => h) (yieldsIf_load_mid (by rfl) _ _ rfl _ _ rfl (encI W) _ (fun u hu => (FW.out u hu).lies.range) Tryz.underlying132 rfl (info_itml W KW.out.key)) hHeld ?_
          change wpAnyH _ _ _ _ _ _ _ (Act.put _ (some 24) _) _
          simp only [Act.put, List.setIfInBounds_toArray, List.set_cons_zero, List.set_cons_succ]
          refine wpAnyH_take (i := 8) (v := ?_) rfl (by kernel_rfl) (by kernel_rfl) (by kernel_rfl) (fun _ _ _ h => h) (Or.inl ⟨by rfl, ?_⟩) hHeld ?_
          rotate_left
          · intro u hSu
            (go_simp) <;> (with_reducible rfl)
          change wpAnyH _ _ _ _ _ _ _ (Act.put _ (some 25) _) _
          simp only [Act.put, List.setIfInBounds_toArray, List.set_cons_zero, List.set_cons_succ]
          refine wpAnyH_done (by kernel_rfl) ?_ _
          refine NoPanic.normal ?_
          go_wp2
          go_ret
          exact ⟨by rw [HRF.out]; rfl, HB.out.drew⟩
      · have bl : ¬ (i : Int) < (N : Int) := by omega
        have HRT : Hid (R = true) := by
          show R = _
          rw [HR.out]
          refine decide_eq_true ?_
          have e1 := HT.out
          rw [List.take_of_length_le (by rw [HN.out]; omega), List.take_of_length_le (by rw [HN'.out]; omega)] at e1
          exact e1
        go_wp2
        go_ret
        exact ⟨by rw [HRT.out]; rfl, HB.out⟩
  · have bn : (((N : Nat) : Int) != ((N' : Nat) : Int)) = true := by simp; omega
    have HRF : Hid (R = false) := by show R = _; rw [HR.out]; exact decide_eq_false (fun e => hne (by rw [← HN.out, ← HN'.out, e]))
    go_enter Tryz.func33, Tryz.ntmps33
    go_wp2
    go_ret
    exact ⟨by rw [HRF.out]; rfl, Below.refl _ _⟩
end Go.Proofs.YtileidbdmpeciaaGreat

namespace Go.Proofs.YtileidbdmpeciaaGreat
open Go.RowKit
set_option linter.unusedVariables false

/-- A store that has come since w. -/
def StX (w u : World) (p : Nat) (L : List Ver) : Prop := ∃ X, StD u p L X ∧ Below w.heap.size w u ∧ ∀ k, X k → w.heap.size ≤ k
theorem StX.below {w u : World} {p : Nat} {L : List Ver} (h : StX w u p L) : Below w.heap.size w u := by obtain ⟨X, _, h, _⟩ := h; exact h
theorem StX.sto {w u : World} {p : Nat} {L : List Ver} (h : StX w u p L) : StoG L := by obtain ⟨X, h, _⟩ := h; exact h.1
theorem StX.past {w u u' : World} {p : Nat} {L : List Ver} (h : StX w u p L) (hb : Below u.heap.size u u') : StX w u' p L := by
  obtain ⟨X, h1, h2, h3⟩ := h
  exact ⟨X, h1.past hb, h2.trans (hb.mono h2.size), h3⟩
theorem StX.to {w0 w u : World} {p : Nat} {L : List Ver} (h : StX w u p L) (hb : Below w0.heap.size w0 w) : StX w0 u p L := by
  obtain ⟨X, h1, h2, h3⟩ := h
  exact ⟨X, h1, hb.trans (h2.mono hb.size), fun k hk => Nat.le_trans hb.size (h3 k hk)⟩
end Go.Proofs.YtileidbdmpeciaaGreat

namespace Go.Proofs.YtileidbdmpeciaaGreat
open Go.RowKit
set_option linter.unusedVariables false

theorem ver_eq {A B : Ver} : A = B ↔ A.k = B.k ∧ (A.t = B.t ∧ A.n = B.n) ∧ A.v = B.v ∧ A.g = B.g := by
  constructor
  · rintro rfl; exact ⟨rfl, ⟨rfl, rfl⟩, rfl, rfl⟩
  · rintro ⟨h1, ⟨h2, h3⟩, h4, h5⟩
    cases A; cases B; simp_all
theorem enc_parts {V : Ver} (h : Ky V.k) : (encV V).take 16 = V.k.map (Value.int .u8) ∧ (encV V)[16]? = some (.int .i64 V.t) ∧ (encV V)[17]? = some (.int .u8 V.n) ∧ (encV V)[18]? = some (.string (strOfNums V.v)) ∧ (encV V)[19]? = some (.bool V.g) := by
  have hl := kc_len h
  unfold encV
  refine ⟨?_, ?_, ?_, ?_, ?_⟩
  · rw [List.take_append_of_le_length (by omega), List.take_of_length_le (by omega)]; rfl
  all_goals (rw [List.getElem?_append_right (by omega), hl]; rfl)
theorem eq_key9 (w : World) (a b : List Int) (ha : Ky a) (hb : Ky b) : (Op.equalIn 9999 38 (.agg (a.map (Value.int .u8)).toArray) (.agg (b.map (Value.int .u8)).toArray)).run Tryz.prog w = .ok (decide (a = b)) w := by
  obtain ⟨i, hi⟩ := key_parts
  rw [run_equalIn_array w 9998 _ _ Tryz.underlying38 hi, List.range_eq_range', eq_items Tryz.underlying5 (by kernel_rfl) 9997 w a b 16 0 (by rw [ha.len]) (by rw [hb.len])]
  by_cases h : a = b <;> simp [h]
open Classical in
set_option maxHeartbeats 1000000 in
theorem eq_ver (w : World) (A B : Ver) (hA : VerOk A) (hB : VerOk B) : (Op.equalIn 10000 127 (vv A) (vv B)).run Tryz.prog w = .ok (decide (A = B)) w := by
  obtain ⟨a0, a1, a2, a3, a4⟩ := enc_parts hA.key
  obtain ⟨b0, b1, b2, b3, b4⟩ := enc_parts hB.key
  have hk := fun u => eq_key9 u A.k B.k hA.key hB.key
  have hs := str_eq hA.val hB.val
  have hd : decide (A = B) = (decide (A.k = B.k) && (decide (A.t = B.t) && decide (A.n = B.n)) && decide (A.v = B.v) && (A.g == B.g)) := by
    rw [Bool.eq_iff_iff]
    simp [ver_eq, and_assoc]
  rw [hd]
  clear hd
  go_simp
  by_cases h1 : A.k = B.k
  · by_cases h2 : A.t = B.t
    · by_cases h3 : A.n = B.n
      · by_cases h4 : A.v = B.v
        · by_cases h5 : A.g = B.g <;> simp [h1, h2, h3, h4, h5]
        · simp [h1, h2, h3, h4]
      · simp [h1, h2, h3]
    · simp [h1, h2]
  · simp [h1]
/-- A store that is only read: its list's cell, each version of it. -/
structure StoreL (u : World) (p : Nat) (L : List Ver) : Prop where
  cell : ∃ a c, L.length ≤ c ∧ (∀ v, Below u.heap.size u v → v.cell? ⟨p, 0, none⟩ = some (.slice a L.length c)) ∧ (L = [] ∨ ∃ g, a = some ⟨g, 0, none⟩ ∧ ∀ v, Below u.heap.size u v → ∀ i V, L[i]? = some V → VerAt v g (i * 20) V)
  oks : OkL L
  few : L.length ≤ 1000000
theorem StoreR.looks {u : World} {B p : Nat} {L : List Ver} (h : StoreR u B p L) : StoreL u p L := by
  obtain ⟨a, c, h1, h2, h3⟩ := h.open
  exact ⟨⟨a, c, h1, h2, h3.imp id (fun ⟨g, e1, _, _, e4⟩ => ⟨g, e1, e4⟩)⟩, h.oks, h.few⟩
theorem StoreL.past {u u' : World} {p : Nat} {L : List Ver} (h : StoreL u p L) (hb : Below u.heap.size u u') : StoreL u' p L := by
  obtain ⟨a, c, h1, h2, h3⟩ := h.cell
  exact ⟨⟨a, c, h1, fun v hv => h2 v (hb.trans (hv.mono hb.size)), h3.imp id (fun ⟨g, e1, e4⟩ => ⟨g, e1, fun v hv => e4 v (hb.trans (hv.mono hb.size))⟩)⟩, h.oks, h.few⟩
theorem list_ne {L M : List Ver} {i : Nat} {V W : Ver} (hV : L[i]? = some V) (hW : M[i]? = some W) (h : V ≠ W) : L ≠ M := fun e => by
  rw [e, hW] at hV
  injection hV with hV
  exact h hV.symm
theorem list_eq {L M : List Ver} (hl : L.length = M.length) (h : L.take L.length = M.take L.length) : L = M := by
  rw [List.take_length, hl, List.take_length] at h
  exact h
open Classical in
set_option maxHeartbeats 4000000 in
set_option maxRecDepth 4000 in
theorem rsame10_any (p q : Nat) (L M : List Ver) (w : World) (h : StoreL w p L) (h' : StoreL w q M) :
    Calls Tryz.prog 36 #[.pointer (some ⟨p, 0, none⟩), .pointer (some ⟨q, 0, none⟩)] w fun e w' => e = .returned (.bool (decide (L = M))) ∧ Below w.heap.size w w' := by
  obtain ⟨N, hN⟩ : ∃ N, N = L.length := ⟨_, rfl⟩
  obtain ⟨N', hN'⟩ : ∃ N', N' = M.length := ⟨_, rfl⟩
  obtain ⟨a, c, hc, hcell, hs⟩ := h.cell
  obtain ⟨a', c', hc', hcell', hs'⟩ := h'.cell
  have hf := h.few
  have hf' := h'.few
  rw [← hN] at hc hcell hf
  rw [← hN'] at hc' hcell' hf'
  have HN : Hid (L.length = N) := hN.symm
  have HN' : Hid (M.length = N') := hN'.symm
  have HOK : Hid (OkL L) := h.oks
  have HOK' : Hid (OkL M) := h'.oks
  have HC : Hid (∀ v, Below w.heap.size w v → v.cell? ⟨p, 0, none⟩ = some (.slice a N c)) := hcell
  have HC' : Hid (∀ v, Below w.heap.size w v → v.cell? ⟨q, 0, none⟩ = some (.slice a' N' c')) := hcell'
  obtain ⟨R, hR⟩ : ∃ R, R = decide (L = M) := ⟨_, rfl⟩
  have HR : Hid (R = decide (L = M)) := hR
  rw [← hR]
  clear hR hcell hcell' hN hN' h h'
  have y0 := HC.out w (Below.refl _ _)
  have y1 := HC'.out w (Below.refl _ _)
  by_cases hne : N = N'
  · subst hne
    have bn : (((N : Nat) : Int) != ((N : Nat) : Int)) = false := by simp
    go_enter Tryz.func36, Tryz.ntmps36
    go_wp2
    go_quiet (fail)
    go_wp2
    go_loopw [5] (fun iv wr => ∃ i : Nat, iv = .int .i64 i ∧ i ≤ N ∧ Hid (Below w.heap.size w wr) ∧ Hid (L.take i = M.take i)) (fun iv _ => N - (intOf iv).toNat)
    case atStart => exact ⟨0, rfl, Nat.zero_le _, below_drewN (Below.refl _ _) _, by simp [Hid]⟩
    case round =>
      obtain ⟨i, rfl, hi, HB, HT⟩ := hrel
      have y0 := HC.out wr HB.out
      have y1 := HC'.out wr HB.out
      by_cases hlt : i < N
      · have bl : decide ((i : Int) < (N : Int)) = true := decide_eq_true (by omega)
        obtain ⟨V, hV⟩ : ∃ V, L[i]? = some V := ⟨_, List.getElem?_eq_getElem (by rw [HN.out]; exact hlt)⟩
        obtain ⟨W, hW⟩ : ∃ V, M[i]? = some V := ⟨_, List.getElem?_eq_getElem (by rw [HN'.out]; exact hlt)⟩
        have HV : Hid (L[i]? = some V) := hV
        have HW : Hid (M[i]? = some W) := hW
        have KV : Hid (VerOk V) := HOK.out V (List.mem_of_getElem? hV)
        have KW : Hid (VerOk W) := HOK'.out W (List.mem_of_getElem? hW)
        obtain ⟨g, hag, hG⟩ : ∃ g, a = some ⟨g, 0, none⟩ ∧ ∀ v, Below w.heap.size w v → ∀ i V, L[i]? = some V → VerAt v g (i * 20) V := by
          rcases hs with e | e
          · rw [e] at hV; simp at hV
          · exact e
        obtain ⟨g', hag', hG'⟩ : ∃ g, a' = some ⟨g, 0, none⟩ ∧ ∀ v, Below w.heap.size w v → ∀ i V, M[i]? = some V → VerAt v g (i * 20) V := by
          rcases hs' with e | e
          · rw [e] at hW; simp at hW
          · exact e
        have F0 : Hid (∀ u, Below wr.heap.size wr u → u.cell? ⟨p, 0, none⟩ = some (.slice (some ⟨g, 0, none⟩) N c)) := fun u hb => by rw [← hag]; exact HC.out u (HB.out.trans (hb.mono HB.out.size))
        have F1 : Hid (∀ u, Below wr.heap.size wr u → u.cell? ⟨q, 0, none⟩ = some (.slice (some ⟨g', 0, none⟩) N c')) := fun u hb => by rw [← hag']; exact HC'.out u (HB.out.trans (hb.mono HB.out.size))
        have FV : Hid (∀ u, Below wr.heap.size wr u → VerAt u g (i * 20) V) := fun u hb => hG u (HB.out.trans (hb.mono HB.out.size)) _ _ hV
        have FW : Hid (∀ u, Below wr.heap.size wr u → VerAt u g' (i * 20) W) := fun u hb => hG' u (HB.out.trans (hb.mono HB.out.size)) _ _ hW
        have heq := fun u => eq_ver u V W KV.out KW.out
        clear hV hW hag hag' hG hG'
        by_cases hVW : V = W
        · rw [decide_eq_true hVW] at heq
          have HVW : Hid (V = W) := hVW
          clear hVW
          go_wp2
          refine wp_region_noPanic ?_
          refine wp_region_held_drew (S := fun u => Below wr.heap.size wr u) (by kernel_rfl) ?_ (fun hHeld => ?_)
          · exact (Below.refl _ _).drew
          refine wpAnyH_take (i := 0) (v := ?_) rfl (by kernel_rfl) (by kernel_rfl) (by kernel_rfl) (fun _ _ _ h => h) (Or.inl ⟨by rfl, ?_⟩) hHeld ?_
          rotate_left
          · intro u hSu
            (go_simp) <;> (with_reducible rfl)
          change wpAnyH _ _ _ _ _ _ _ (Act.put _ (some 26) _) _
          simp only [Act.put, List.setIfInBounds_toArray, List.set_cons_zero, List.set_cons_succ]
          refine wpAnyH_take (i := 1) (v := ?_) rfl (by kernel_rfl) (by kernel_rfl) (by kernel_rfl) (fun _ _ _ h => h) (Or.inl ⟨by rfl, ?_⟩) hHeld ?_
          rotate_left
          · intro u hSu
            (go_simp) <;> (with_reducible rfl)
          change wpAnyH _ _ _ _ _ _ _ (Act.put _ (some 27) _) _
          simp only [Act.put, List.setIfInBounds_toArray, List.set_cons_zero, List.set_cons_succ]
          refine wpAnyH_take (i := 2) (v := ?_) rfl (by kernel_rfl) (by kernel_rfl) (by kernel_rfl) (fun _ _ _ h => h) (Or.inl ⟨by rfl, ?_⟩) hHeld ?_
          rotate_left
          · intro u hSu
            (go_simp) <;> (with_reducible rfl)
          change wpAnyH _ _ _ _ _ _ _ (Act.put _ (some 28) _) _
          simp only [Act.put, List.setIfInBounds_toArray, List.set_cons_zero, List.set_cons_succ]
          refine wpAnyH_take (i := 3) (v := ?_) rfl (by kernel_rfl) (by kernel_rfl) (by kernel_rfl) (fun _ _ _ h => h) (Or.inl ⟨by rfl, ?_⟩) hHeld ?_
          rotate_left
          · intro u hSu
            have z0 := F0.out u hSu
            (go_simp) <;> (with_reducible rfl)
          change wpAnyH _ _ _ _ _ _ _ (Act.put _ (some 29) _) _
          simp only [Act.put, List.setIfInBounds_toArray, List.set_cons_zero, List.set_cons_succ]
          refine wpAnyH_take (i := 4) (v := ?_) rfl (by kernel_rfl) (by kernel_rfl) (by kernel_rfl) (fun _ _ _ h => h) (Or.inl ⟨by rfl, ?_⟩) hHeld ?_
          rotate_left
          · intro u hSu
            (go_simp) <;> (with_reducible rfl)
          change wpAnyH _ _ _ _ _ _ _ (Act.put _ (some 30) _) _
          simp only [Act.put, List.setIfInBounds_toArray, List.set_cons_zero, List.set_cons_succ]
          refine wpAnyH_take (i := 5) (v := ?_) rfl (by kernel_rfl) (by kernel_rfl) (by kernel_rfl) (fun _ _ _ h => h) (Or.inl ⟨by rfl, ?_⟩) hHeld ?_
          rotate_left
          · intro u hSu
            (go_simp) <;> (with_reducible rfl)
          change wpAnyH _ _ _ _ _ _ _ (Act.put _ (some 31) _) _
          simp only [Act.put, List.setIfInBounds_toArray, List.set_cons_zero, List.set_cons_succ]
          refine wpAnyH_take (i := 6) (v := vv V) rfl (by kernel_rfl) (by kernel_rfl) (by kernel_rfl) (fun _ _ _ h => h) (yieldsIf_load_mid (by rfl) _ _ rfl _ _ rfl (encV V) _ (fun u hu => (FV.out u hu).range) Tryz.underlying127 rfl (info_verl V KV.out.key)) hHeld ?_
          change wpAnyH _ _ _ _ _ _ _ (Act.put _ (some 32) _) _
          simp only [Act.put, List.setIfInBounds_toArray, List.set_cons_zero, List.set_cons_succ]
          refine wpAnyH_take (i := 7) (v := ?_) rfl (by kernel_rfl) (by kernel_rfl) (by kernel_rfl) (fun _ _ _ h => h) (Or.inl ⟨by rfl, ?_⟩) hHeld ?_
          rotate_left
          · intro u hSu
            (go_simp) <;> (with_reducible rfl)
          change wpAnyH _ _ _ _ _ _ _ (Act.put _ (some 33) _) _
          simp only [Act.put, List.setIfInBounds_toArray, List.set_cons_zero, List.set_cons_succ]
          refine wpAnyH_take (i := 8) (v := ?_) rfl (by kernel_rfl) (by kernel_rfl) (by kernel_rfl) (fun _ _ _ h => h) (Or.inl ⟨by rfl, ?_⟩) hHeld ?_
          rotate_left
          · intro u hSu
            (go_simp) <;> (with_reducible rfl)
          change wpAnyH _ _ _ _ _ _ _ (Act.put _ (some 34) _) _
          simp only [Act.put, List.setIfInBounds_toArray, List.set_cons_zero, List.set_cons_succ]
          refine wpAnyH_take (i := 9) (v := ?_) rfl (by kernel_rfl) (by kernel_rfl) (by kernel_rfl) (fun _ _ _ h => h) (Or.inl ⟨by rfl, ?_⟩) hHeld ?_
          rotate_left
          · intro u hSu
            (go_simp) <;> (with_reducible rfl)
          change wpAnyH _ _ _ _ _ _ _ (Act.put _ (some 35) _) _
          simp only [Act.put, List.setIfInBounds_toArray, List.set_cons_zero, List.set_cons_succ]
          refine wpAnyH_take (i := 10) (v := ?_) rfl (by kernel_rfl) (by kernel_rfl) (by kernel_rfl) (fun _ _ _ h => h) (Or.inl ⟨by rfl, ?_⟩) hHeld ?_
          rotate_left
          · intro u hSu
            have z0 := F1.out u hSu
            (go_simp) <;> (with_reducible rfl)
          change wpAnyH _ _ _ _ _ _ _ (Act.put _ (some 36) _) _
          simp only [Act.put, List.setIfInBounds_toArray, List.set_cons_zero, List.set_cons_succ]
          refine wpAnyH_take (i := 11) (v := ?_) rfl (by kernel_rfl) (by kernel_rfl) (by kernel_rfl) (fun _ _ _ h => h) (Or.inl ⟨by rfl, ?_⟩) hHeld ?_
          rotate_left
          · intro u hSu
            (go_simp) <;> (with_reducible rfl)
          change wpAnyH _ _ _ _ _ _ _ (Act.put _ (some 37) _) _
          simp only [Act.put, List.setIfInBounds_toArray, List.set_cons_zero, List.set_cons_succ]
          refine wpAnyH_take (i := 12) (v := ?_) rfl (by kernel_rfl) (by kernel_rfl) (by kernel_rfl) (fun _ _ _ h => h) (Or.inl ⟨by rfl, ?_⟩) hHeld ?_
          rotate_left
          · intro u hSu
            (go_simp) <;> (with_reducible rfl)
          change wpAnyH _ _ _ _ _ _ _ (Act.put _ (some 38) _) _
          simp only [Act.put, List.setIfInBounds_toArray, List.set_cons_zero, List.set_cons_succ]
          refine wpAnyH_take (i := 13) (v := vv W) rfl (by kernel_rfl) (by kernel_rfl) (by kernel_rfl) (fun _ _ _ h => h) (yieldsIf_load_mid (by rfl) _ _ rfl _ _ rfl (encV W) _ (fun u hu => (FW.out u hu).range) Tryz.underlying127 rfl (info_verl W KW.out.key)) hHeld ?_
          change wpAnyH _ _ _ _ _ _ _ (Act.put _ (some 39) _) _
          simp only [Act.put, List.setIfInBounds_toArray, List.set_cons_zero, List.set_cons_succ]
          refine wpAnyH_take (i := 14) (v := ?_) rfl (by kernel_rfl) (by kernel_rfl) (by kernel_rfl) (fun _ _ _ h => h) (Or.inl ⟨by rfl, ?_⟩) hHeld ?_
          rotate_left
          · intro u hSu
            (go_simp) <;> (with_reducible rfl)
          change wpAnyH _ _ _ _ _ _ _ (Act.put _ (some 40) _) _
          simp only [Act.put, List.setIfInBounds_toArray, List.set_cons_zero, List.set_cons_succ]
          refine wpAnyH_done (by kernel_rfl) ?_ _
          refine NoPanic.normal ?_
          go_wp2
          go_roundw
          case rel => exact ⟨i + 1, by push_cast; rfl, by omega, HB.out.drew, by show _ = _; rw [List.take_add_one, List.take_add_one, HT.out, HV.out, HW.out, HVW.out]⟩
          case measure => simp [intOf]; omega
        · rw [decide_eq_false hVW] at heq
          have HRF : Hid (R = false) := by show R = _; rw [HR.out]; exact decide_eq_false (list_ne HV.out HW.out hVW)
          clear hVW
          go_wp2
          refine wp_region_noPanic ?_
          refine wp_region_held_drew (S := fun u => Below wr.heap.size wr u) (by kernel_rfl) ?_ (fun hHeld => ?_)
          · exact (Below.refl _ _).drew
          refine wpAnyH_take (i := 0) (v := ?_) rfl (by kernel_rfl) (by kernel_rfl) (by kernel_rfl) (fun _ _ _ h => h) (Or.inl ⟨by rfl, ?_⟩) hHeld ?_
          rotate_left
          · intro u hSu
            (go_simp) <;> (with_reducible rfl)
          change wpAnyH _ _ _ _ _ _ _ (Act.put _ (some 26) _) _
          simp only [Act.put, List.setIfInBounds_toArray, List.set_cons_zero, List.set_cons_succ]
          refine wpAnyH_take (i := 1) (v := ?_) rfl (by kernel_rfl) (by kernel_rfl) (by kernel_rfl) (fun _ _ _ h => h) (Or.inl ⟨by rfl, ?_⟩) hHeld ?_
          rotate_left
          · intro u hSu
            (go_simp) <;> (with_reducible rfl)
          change wpAnyH _ _ _ _ _ _ _ (Act.put _ (some 27) _) _
          simp only [Act.put, List.setIfInBounds_toArray, List.set_cons_zero, List.set_cons_succ]
          refine wpAnyH_take (i := 2) (v := ?_) rfl (by kernel_rfl) (by kernel_rfl) (by kernel_rfl) (fun _ _ _ h => h) (Or.inl ⟨by rfl, ?_⟩) hHeld ?_
          rotate_left
          · intro u hSu
            (go_simp) <;> (with_reducible rfl)
          change wpAnyH _ _ _ _ _ _ _ (Act.put _ (some 28) _) _
          simp only [Act.put, List.setIfInBounds_toArray, List.set_cons_zero, List.set_cons_succ]
          refine wpAnyH_take (i := 3) (v := ?_) rfl (by kernel_rfl) (by kernel_rfl) (by kernel_rfl) (fun _ _ _ h => h) (Or.inl ⟨by rfl, ?_⟩) hHeld ?_
          rotate_left
          · intro u hSu
            have z0 := F0.out u hSu
            (go_simp) <;> (with_reducible rfl)
          change wpAnyH _ _ _ _ _ _ _ (Act.put _ (some 29) _) _
          simp only [Act.put, List.setIfInBounds_toArray, List.set_cons_zero, List.set_cons_succ]
          refine wpAnyH_take (i := 4) (v := ?_) rfl (by kernel_rfl) (by kernel_rfl) (by kernel_rfl) (fun _ _ _ h => h) (Or.inl ⟨by rfl, ?_⟩) hHeld ?_
          rotate_left
          · intro u hSu
            (go_simp) <;> (with_reducible rfl)
          change wpAnyH _ _ _ _ _ _ _ (Act.put _ (some 30) _) _
          simp only [Act.put, List.setIfInBounds_toArray, List.set_cons_zero, List.set_cons_succ]
          refine wpAnyH_take (i := 5) (v := ?_) rfl (by kernel_rfl) (by kernel_rfl) (by kernel_rfl) (fun _ _ _ h => h) (Or.inl ⟨by rfl, ?_⟩) hHeld ?_
          rotate_left
          · intro u hSu
            (go_simp) <;> (with_reducible rfl)
          change wpAnyH _ _ _ _ _ _ _ (Act.put _ (some 31) _) _
          simp only [Act.put, List.setIfInBounds_toArray, List.set_cons_zero, List.set_cons_succ]
          refine wpAnyH_take (i := 6) (v := vv V) rfl (by kernel_rfl) (by kernel_rfl) (by kernel_rfl) (fun _ _ _ h => h) (yieldsIf_load_mid (by rfl) _ _ rfl _ _ rfl (encV V) _ (fun u hu => (FV.out u hu).range) Tryz.underlying127 rfl (info_verl V KV.out.key)) hHeld ?_
          change wpAnyH _ _ _ _ _ _ _ (Act.put _ (some 32) _) _
          simp only [Act.put, List.setIfInBounds_toArray, List.set_cons_zero, List.set_cons_succ]
          refine wpAnyH_take (i := 7) (v := ?_) rfl (by kernel_rfl) (by kernel_rfl) (by kernel_rfl) (fun _ _ _ h => h) (Or.inl ⟨by rfl, ?_⟩) hHeld ?_
          rotate_left
          · intro u hSu
            (go_simp) <;> (with_reducible rfl)
          change wpAnyH _ _ _ _ _ _ _ (Act.put _ (some 33) _) _
          simp only [Act.put, List.setIfInBounds_toArray, List.set_cons_zero, List.set_cons_succ]
          refine wpAnyH_take (i := 8) (v := ?_) rfl (by kernel_rfl) (by kernel_rfl) (by kernel_rfl) (fun _ _ _ h => h) (Or.inl ⟨by rfl, ?_⟩) hHeld ?_
          rotate_left
          · intro u hSu
            (go_simp) <;> (with_reducible rfl)
          change wpAnyH _ _ _ _ _ _ _ (Act.put _ (some 34) _) _
          simp only [Act.put, List.setIfInBounds_toArray, List.set_cons_zero, List.set_cons_succ]
          refine wpAnyH_take (i := 9) (v := ?_) rfl (by kernel_rfl) (by kernel_rfl) (by kernel_rfl) (fun _ _ _ h => h) (Or.inl ⟨by rfl, ?_⟩) hHeld ?_
          rotate_left
          · intro u hSu
            (go_simp) <;> (with_reducible rfl)
          change wpAnyH _ _ _ _ _ _ _ (Act.put _ (some 35) _) _
          simp only [Act.put, List.setIfInBounds_toArray, List.set_cons_zero, List.set_cons_succ]
          refine wpAnyH_take (i := 10) (v := ?_) rfl (by kernel_rfl) (by kernel_rfl) (by kernel_rfl) (fun _ _ _ h => h) (Or.inl ⟨by rfl, ?_⟩) hHeld ?_
          rotate_left
          · intro u hSu
            have z0 := F1.out u hSu
            (go_simp) <;> (with_reducible rfl)
          change wpAnyH _ _ _ _ _ _ _ (Act.put _ (some 36) _) _
          simp only [Act.put, List.setIfInBounds_toArray, List.set_cons_zero, List.set_cons_succ]
          refine wpAnyH_take (i := 11) (v := ?_) rfl (by kernel_rfl) (by kernel_rfl) (by kernel_rfl) (fun _ _ _ h => h) (Or.inl ⟨by rfl, ?_⟩) hHeld ?_
          rotate_left
          · intro u hSu
            (go_simp) <;> (with_reducible rfl)
          change wpAnyH _ _ _ _ _ _ _ (Act.put _ (some 37) _) _
          simp only [Act.put, List.setIfInBounds_toArray, List.set_cons_zero, List.set_cons_succ]
          refine wpAnyH_take (i := 12) (v := ?_) rfl (by kernel_rfl) (by kernel_rfl) (by kernel_rfl) (fun _ _ _ h => h) (Or.inl ⟨by rfl, ?_⟩) hHeld ?_
          rotate_left
          · intro u hSu
            (go_simp) <;> (with_reducible rfl)
          change wpAnyH _ _ _ _ _ _ _ (Act.put _ (some 38) _) _
          simp only [Act.put, List.setIfInBounds_toArray, List.set_cons_zero, List.set_cons_succ]
          refine wpAnyH_take (i := 13) (v := vv W) rfl (by kernel_rfl) (by kernel_rfl) (by kernel_rfl) (fun _ _ _ h => h) (yieldsIf_load_mid (by rfl) _ _ rfl _ _ rfl (encV W) _ (fun u hu => (FW.out u hu).range) Tryz.underlying127 rfl (info_verl W KW.out.key)) hHeld ?_
          change wpAnyH _ _ _ _ _ _ _ (Act.put _ (some 39) _) _
          simp only [Act.put, List.setIfInBounds_toArray, List.set_cons_zero, List.set_cons_succ]
          refine wpAnyH_take (i := 14) (v := ?_) rfl (by kernel_rfl) (by kernel_rfl) (by kernel_rfl) (fun _ _ _ h => h) (Or.inl ⟨by rfl, ?_⟩) hHeld ?_
          rotate_left
          · intro u hSu
            (go_simp) <;> (with_reducible rfl)
          change wpAnyH _ _ _ _ _ _ _ (Act.put _ (some 40) _) _
          simp only [Act.put, List.setIfInBounds_toArray, List.set_cons_zero, List.set_cons_succ]
          refine wpAnyH_done (by kernel_rfl) ?_ _
          refine NoPanic.normal ?_
          go_wp2
          go_ret
          rw [HRF.out]
          exact ⟨rfl, HB.out.drew⟩
      · have bl : decide ((i : Int) < (N : Int)) = false := decide_eq_false (by omega)
        have HRT : Hid (R = true) := by
          show R = _
          rw [HR.out]
          have hin : i = N := by omega
          refine decide_eq_true (list_eq (by rw [HN.out, HN'.out]) ?_)
          rw [HN.out, ← hin]
          exact HT.out
        go_wp2
        go_ret
        rw [HRT.out]
        exact ⟨rfl, HB.out⟩
  · have bn : (((N : Nat) : Int) != ((N' : Nat) : Int)) = true := by simp; omega
    have HRF : Hid (R = false) := by show R = _; rw [HR.out]; exact decide_eq_false (fun e => hne (by rw [← HN.out, ← HN'.out, e]))
    go_enter Tryz.func36, Tryz.ntmps36
    go_wp2
    go_quiet (fail)
    go_wp2
    go_ret
    rw [HRF.out]
    exact ⟨rfl, below_drewN (Below.refl _ _) _⟩
end Go.Proofs.YtileidbdmpeciaaGreat

