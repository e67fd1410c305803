/-
  Two lists held against one another: writes, numbers (slices.Equal; the document's own Writes).
-/
import Derived.Test.YtcppihpehipelaaAu62
import Derived.Test.YtcppihpehipelaaAu63
namespace Go.Proofs.Ytcppihpehipelaa
open Go.RowKit
set_option linter.unusedVariables false

theorem wrt_eq {A B : Wrt} : A = B ↔ A.k = B.k ∧ A.v = B.v ∧ A.g = B.g := by
  constructor
  · rintro rfl; exact ⟨rfl, rfl, rfl⟩
  · rintro ⟨h1, h2, h3⟩
    cases A; cases B; simp_all
open Classical in
set_option maxHeartbeats 1000000 in
theorem eq_wrt (w : World) (A B : Wrt) (hA : WrtOk A) (hB : WrtOk B) : (Op.equalIn 10000 86 (wv A) (wv B)).run Try.prog w = .ok (decide (A = B)) w := by
  obtain ⟨a0, a1, a2⟩ := encW_parts hA.key
  obtain ⟨b0, b1, b2⟩ := encW_parts hB.key
  have hk := fun u => eq_key9w u A.k B.k hA.key hB.key
  have hs := str_eq hA.val hB.val
  have hd : decide (A = B) = (decide (A.k = B.k) && decide (A.v = B.v) && (A.g == B.g)) := by
    rw [Bool.eq_iff_iff]
    simp [wrt_eq, and_assoc]
  rw [hd]
  clear hd
  go_simp
  by_cases h1 : A.k = B.k
  · by_cases h4 : A.v = B.v
    · by_cases h5 : A.g = B.g <;> simp [h1, h4, h5]
    · simp [h1, h4]
  · simp [h1]
theorem lists_ne {α : Type} {L M : List α} {i : Nat} {V W : α} (hV : L[i]? = some V) (hW : M[i]? = some W) (h : V ≠ W) : L ≠ M := fun e => by
  rw [e, hW] at hV
  injection hV with hV
  exact h hV.symm
theorem lists_eq {α : Type} {L M : List α} {N : Nat} (h1 : L.length = N) (h2 : M.length = N) (h : ∀ j, j < N → L[j]? = M[j]?) : L = M := by
  refine List.ext_getElem? (fun j => ?_)
  by_cases hj : j < N
  · exact h j hj
  · rw [List.getElem?_eq_none (by omega), List.getElem?_eq_none (by omega)]
theorem same_next {α : Type} {L M : List α} {i : Nat} (h : ∀ j, j < i → L[j]? = M[j]?) {V : α} (h1 : L[i]? = some V) (h2 : M[i]? = some V) : ∀ j, j < i + 1 → L[j]? = M[j]? := fun j hj => by
  by_cases e : j = i
  · rw [e, h1, h2]
  · exact h j (by omega)
set_option maxHeartbeats 4000000 in
set_option maxRecDepth 4000 in
open Classical in
theorem lequal_any (a a' : Option Addr) (N N' c c' : Nat) (l l' : List Wrt) (w : World) (hl : l.length = N) (hl' : l'.length = N') (hc : N ≤ c) (hc' : N' ≤ c') (hN : N ≤ 1000000) (hN' : N' ≤ 1000000) (h : WrtsAt w a l) (h' : WrtsAt w a' l') :
    Calls Try.prog 46 #[.slice a N c, .slice a' N' c'] w fun e w' => e = .returned (.bool (decide (l = l'))) ∧ Below w.heap.size w w' := by
  have HA : Hid (WrtsAt w a l) := h
  have HA' : Hid (WrtsAt w a' l') := h'
  have HL : Hid (l.length = N) := hl
  have HL' : Hid (l'.length = N') := hl'
  by_cases hnn : N = N'
  · subst hnn
    have bn : (((N : Nat) : Int) != ((N : Nat) : Int)) = false := by simp
    obtain ⟨R, hR⟩ : ∃ R, R = decide (l = l') := ⟨_, rfl⟩
    have HR : Hid (R = decide (l = l')) := hR
    rw [← hR]
    clear h h' hl hl' hR
    go_enter Try.func46, Try.ntmps46
    go_wp2
    go_loopw [13] (fun iv wr => ∃ i : Nat, iv = .int .i64 i ∧ i ≤ N ∧ Hid (Below w.heap.size w wr ∧ ∀ j, j < i → l[j]? = l'[j]?)) (fun iv _ => N - (intOf iv).toNat)
    case atStart => exact ⟨0, rfl, Nat.zero_le _, Below.refl _ _, fun j hj => by omega⟩
    case round =>
      obtain ⟨i, rfl, hi, HB⟩ := hrel
      have hi0 : (0 : Int) ≤ (i : Int) := by omega
      by_cases hlt : i < N
      · have bl : (i : Int) < (N : Int) := by omega
        obtain ⟨V, hV⟩ : ∃ V, l[i]? = some V := ⟨_, List.getElem?_eq_getElem (by rw [HL.out]; exact hlt)⟩
        obtain ⟨V', hV'⟩ : ∃ V, l'[i]? = some V := ⟨_, List.getElem?_eq_getElem (by rw [HL'.out]; exact hlt)⟩
        obtain ⟨g, o, rfl, hva, hvo⟩ := (HA.out.past HB.out.1).wrt hV
        obtain ⟨g', o', rfl, hwa, hwo⟩ := (HA'.out.past HB.out.1).wrt hV'
        have KV : Hid (WrtOk V) := hvo
        have KV' : Hid (WrtOk V') := hwo
        have FV : Hid (∀ u, Below wr.heap.size wr u → WrtAt u g (o + i * 18) V) := fun u hb => hva.past hb
        have FW : Hid (∀ u, Below wr.heap.size wr u → WrtAt u g' (o' + i * 18) V') := fun u hb => hwa.past hb
        by_cases hvv : V = V'
        · subst hvv
          have heq := fun u => eq_wrt u V V KV.out KV.out
          rw [decide_eq_true (rfl : V = V)] at heq
          have HN1 : Hid (∀ j, j < i + 1 → l[j]? = l'[j]?) := same_next HB.out.2 hV hV'
          clear hV hV' hva hvo hwa hwo
          go_wp2
          refine wp_region_noPanic ?_
          refine wp_region_held_drew (S := fun u => Below wr.heap.size wr u) (by kernel_rfl) ?_ (fun hHeld => ?_)
          · exact (Below.refl _ _).drew
          refine wpAnyH_take (i := 0) (v := ?_) rfl (by kernel_rfl) (by kernel_rfl) (by kernel_rfl) (fun _ _ _ h => h) (Or.inl ⟨by rfl, ?_⟩) hHeld ?_
          rotate_left
          · intro u hSu
            (go_simp) <;> (with_reducible rfl)
          change wpAnyH _ _ _ _ _ _ _ (Act.put _ (some 16) _) _
          simp only [Act.put, List.setIfInBounds_toArray, List.set_cons_zero, List.set_cons_succ]
          refine wpAnyH_take (i := 1) (v := ?_) rfl (by kernel_rfl) (by kernel_rfl) (by kernel_rfl) (fun _ _ _ h => h) (Or.inl ⟨by rfl, ?_⟩) hHeld ?_
          rotate_left
          · intro u hSu
            (go_simp) <;> (with_reducible rfl)
          change wpAnyH _ _ _ _ _ _ _ (Act.put _ (some 17) _) _
          simp only [Act.put, List.setIfInBounds_toArray, List.set_cons_zero, List.set_cons_succ]
          refine wpAnyH_take (i := 2) (v := ?_) rfl (by kernel_rfl) (by kernel_rfl) (by kernel_rfl) (fun _ _ _ h => h) (Or.inl ⟨by rfl, ?_⟩) hHeld ?_
          rotate_left
          · intro u hSu
            (go_simp) <;> (with_reducible rfl)
          change wpAnyH _ _ _ _ _ _ _ (Act.put _ (some 18) _) _
          simp only [Act.put, List.setIfInBounds_toArray, List.set_cons_zero, List.set_cons_succ]
          refine wpAnyH_take (i := 3) (v := wv V) rfl (by kernel_rfl) (by kernel_rfl) (by kernel_rfl) (fun _ _ _ h => h) (yieldsIf_load_mid (by rfl) _ _ rfl _ _ rfl (encW V) _ (fun u hu => (FV.out u hu).range) Try.underlying86 rfl (info_wrtl V KV.out.key)) hHeld ?_
          change wpAnyH _ _ _ _ _ _ _ (Act.put _ (some 19) _) _
          simp only [Act.put, List.setIfInBounds_toArray, List.set_cons_zero, List.set_cons_succ]
          refine wpAnyH_take (i := 4) (v := ?_) rfl (by kernel_rfl) (by kernel_rfl) (by kernel_rfl) (fun _ _ _ h => h) (Or.inl ⟨by rfl, ?_⟩) hHeld ?_
          rotate_left
          · intro u hSu
            (go_simp) <;> (with_reducible rfl)
          change wpAnyH _ _ _ _ _ _ _ (Act.put _ (some 20) _) _
          simp only [Act.put, List.setIfInBounds_toArray, List.set_cons_zero, List.set_cons_succ]
          refine wpAnyH_take (i := 5) (v := ?_) rfl (by kernel_rfl) (by kernel_rfl) (by kernel_rfl) (fun _ _ _ h => h) (Or.inl ⟨by rfl, ?_⟩) hHeld ?_
          rotate_left
          · intro u hSu
            (go_simp) <;> (with_reducible rfl)
          change wpAnyH _ _ _ _ _ _ _ (Act.put _ (some 21) _) _
          simp only [Act.put, List.setIfInBounds_toArray, List.set_cons_zero, List.set_cons_succ]
          refine wpAnyH_take (i := 6) (v := ?_) rfl (by kernel_rfl) (by kernel_rfl) (by kernel_rfl) (fun _ _ _ h => h) (Or.inl ⟨by rfl, ?_⟩) hHeld ?_
          rotate_left
          · intro u hSu
            (go_simp) <;> (with_reducible rfl)
          change wpAnyH _ _ _ _ _ _ _ (Act.put _ (some 22) _) _
          simp only [Act.put, List.setIfInBounds_toArray, List.set_cons_zero, List.set_cons_succ]
          refine wpAnyH_take (i := 7) (v := wv V) rfl (by kernel_rfl) (by kernel_rfl) (by kernel_rfl) (fun _ _ _ h => h) (yieldsIf_load_mid (by rfl) _ _ rfl _ _ rfl (encW V) _ (fun u hu => (FW.out u hu).range) Try.underlying86 rfl (info_wrtl V KV.out.key)) hHeld ?_
          change wpAnyH _ _ _ _ _ _ _ (Act.put _ (some 23) _) _
          simp only [Act.put, List.setIfInBounds_toArray, List.set_cons_zero, List.set_cons_succ]
          refine wpAnyH_take (i := 8) (v := ?_) rfl (by kernel_rfl) (by kernel_rfl) (by kernel_rfl) (fun _ _ _ h => h) (Or.inl ⟨by rfl, ?_⟩) hHeld ?_
          rotate_left
          · intro u hSu
            (go_simp) <;> (with_reducible rfl)
          change wpAnyH _ _ _ _ _ _ _ (Act.put _ (some 24) _) _
          simp only [Act.put, List.setIfInBounds_toArray, List.set_cons_zero, List.set_cons_succ]
          refine wpAnyH_done (by kernel_rfl) ?_ _
          refine NoPanic.normal ?_
          go_wp2
          go_roundw
          case rel => exact ⟨i + 1, by go_num, by omega, HB.out.1.drew, HN1.out⟩
          case measure => simp [intOf]; omega
        · have heq := fun u => eq_wrt u V V' KV.out KV'.out
          rw [decide_eq_false hvv] at heq
          have E : Hid (R = false) := by rw [HR.out]; exact decide_eq_false (lists_ne hV hV' hvv)
          clear hV hV' hva hvo hwa hwo hvv
          go_wp2
          refine wp_region_noPanic ?_
          refine wp_region_held_drew (S := fun u => Below wr.heap.size wr u) (by kernel_rfl) ?_ (fun hHeld => ?_)
          · exact (Below.refl _ _).drew
          refine wpAnyH_take (i := 0) (v := ?_) rfl (by kernel_rfl) (by kernel_rfl) (by kernel_rfl) (fun _ _ _ h => h) (Or.inl ⟨by rfl, ?_⟩) hHeld ?_
          rotate_left
          · intro u hSu
            (go_simp) <;> (with_reducible rfl)
          change wpAnyH _ _ _ _ _ _ _ (Act.put _ (some 16) _) _
          simp only [Act.put, List.setIfInBounds_toArray, List.set_cons_zero, List.set_cons_succ]
          refine wpAnyH_take (i := 1) (v := ?_) rfl (by kernel_rfl) (by kernel_rfl) (by kernel_rfl) (fun _ _ _ h => h) (Or.inl ⟨by rfl, ?_⟩) hHeld ?_
          rotate_left
          · intro u hSu
            (go_simp) <;> (with_reducible rfl)
          change wpAnyH _ _ _ _ _ _ _ (Act.put _ (some 17) _) _
          simp only [Act.put, List.setIfInBounds_toArray, List.set_cons_zero, List.set_cons_succ]
          refine wpAnyH_take (i := 2) (v := ?_) rfl (by kernel_rfl) (by kernel_rfl) (by kernel_rfl) (fun _ _ _ h => h) (Or.inl ⟨by rfl, ?_⟩) hHeld ?_
          rotate_left
          · intro u hSu
            (go_simp) <;> (with_reducible rfl)
          change wpAnyH _ _ _ _ _ _ _ (Act.put _ (some 18) _) _
          simp only [Act.put, List.setIfInBounds_toArray, List.set_cons_zero, List.set_cons_succ]
          refine wpAnyH_take (i := 3) (v := wv V) rfl (by kernel_rfl) (by kernel_rfl) (by kernel_rfl) (fun _ _ _ h => h) (yieldsIf_load_mid (by rfl) _ _ rfl _ _ rfl (encW V) _ (fun u hu => (FV.out u hu).range) Try.underlying86 rfl (info_wrtl V KV.out.key)) hHeld ?_
          change wpAnyH _ _ _ _ _ _ _ (Act.put _ (some 19) _) _
          simp only [Act.put, List.setIfInBounds_toArray, List.set_cons_zero, List.set_cons_succ]
          refine wpAnyH_take (i := 4) (v := ?_) rfl (by kernel_rfl) (by kernel_rfl) (by kernel_rfl) (fun _ _ _ h => h) (Or.inl ⟨by rfl, ?_⟩) hHeld ?_
          rotate_left
          · intro u hSu
            (go_simp) <;> (with_reducible rfl)
          change wpAnyH _ _ _ _ _ _ _ (Act.put _ (some 20) _) _
          simp only [Act.put, List.setIfInBounds_toArray, List.set_cons_zero, List.set_cons_succ]
          refine wpAnyH_take (i := 5) (v := ?_) rfl (by kernel_rfl) (by kernel_rfl) (by kernel_rfl) (fun _ _ _ h => h) (Or.inl ⟨by rfl, ?_⟩) hHeld ?_
          rotate_left
          · intro u hSu
            (go_simp) <;> (with_reducible rfl)
          change wpAnyH _ _ _ _ _ _ _ (Act.put _ (some 21) _) _
          simp only [Act.put, List.setIfInBounds_toArray, List.set_cons_zero, List.set_cons_succ]
          refine wpAnyH_take (i := 6) (v := ?_) rfl (by kernel_rfl) (by kernel_rfl) (by kernel_rfl) (fun _ _ _ h => h) (Or.inl ⟨by rfl, ?_⟩) hHeld ?_
          rotate_left
          · intro u hSu
            (go_simp) <;> (with_reducible rfl)
          change wpAnyH _ _ _ _ _ _ _ (Act.put _ (some 22) _) _
          simp only [Act.put, List.setIfInBounds_toArray, List.set_cons_zero, List.set_cons_succ]
          refine wpAnyH_take (i := 7) (v := wv V') rfl (by kernel_rfl) (by kernel_rfl) (by kernel_rfl) (fun _ _ _ h => h) (yieldsIf_load_mid (by rfl) _ _ rfl _ _ rfl (encW V') _ (fun u hu => (FW.out u hu).range) Try.underlying86 rfl (info_wrtl V' KV'.out.key)) hHeld ?_
          change wpAnyH _ _ _ _ _ _ _ (Act.put _ (some 23) _) _
          simp only [Act.put, List.setIfInBounds_toArray, List.set_cons_zero, List.set_cons_succ]
          refine wpAnyH_take (i := 8) (v := ?_) rfl (by kernel_rfl) (by kernel_rfl) (by kernel_rfl) (fun _ _ _ h => h) (Or.inl ⟨by rfl, ?_⟩) hHeld ?_
          rotate_left
          · intro u hSu
            (go_simp) <;> (with_reducible rfl)
          change wpAnyH _ _ _ _ _ _ _ (Act.put _ (some 24) _) _
          simp only [Act.put, List.setIfInBounds_toArray, List.set_cons_zero, List.set_cons_succ]
          refine wpAnyH_done (by kernel_rfl) ?_ _
          refine NoPanic.normal ?_
          go_wp2
          go_ret
          exact ⟨by rw [E.out]; rfl, HB.out.1.drew⟩
      · have bl : ¬ (i : Int) < (N : Int) := by omega
        obtain rfl : i = N := by omega
        have E : Hid (R = true) := by rw [HR.out]; exact decide_eq_true (lists_eq HL.out HL'.out HB.out.2)
        go_wp2
        go_ret
        exact ⟨by rw [E.out]; rfl, HB.out.1⟩
  · have bn : (((N : Nat) : Int) != ((N' : Nat) : Int)) = true := by simp; omega
    have hne : decide (l = l') = false := decide_eq_false (fun e => hnn (by rw [← hl, e, hl']))
    rw [hne]
    clear h h' hl hl'
    go_enter Try.func46, Try.ntmps46
    go_wp2
    go_ret
    exact ⟨rfl, Below.refl _ _⟩
set_option maxHeartbeats 4000000 in
set_option maxRecDepth 4000 in
open Classical in
theorem rwrites_any (a a' : Option Addr) (N N' c c' : Nat) (l l' : List Wrt) (w : World) (hl : l.length = N) (hl' : l'.length = N') (hc : N ≤ c) (hc' : N' ≤ c') (hN : N ≤ 1000000) (hN' : N' ≤ 1000000) (h : WrtsAt w a l) (h' : WrtsAt w a' l') :
    Calls Try.prog 55 #[.slice a N c, .slice a' N' c'] w fun e w' => e = .returned (.bool (decide (l = l'))) ∧ Below w.heap.size w w' := by
  have HA : Hid (WrtsAt w a l) := h
  have HA' : Hid (WrtsAt w a' l') := h'
  have HL : Hid (l.length = N) := hl
  have HL' : Hid (l'.length = N') := hl'
  by_cases hnn : N = N'
  · subst hnn
    have bn : (((N : Nat) : Int) != ((N : Nat) : Int)) = false := by simp
    obtain ⟨R, hR⟩ : ∃ R, R = decide (l = l') := ⟨_, rfl⟩
    have HR : Hid (R = decide (l = l')) := hR
    rw [← hR]
    clear h h' hl hl' hR
    go_enter Try.func55, Try.ntmps55
    go_wp2
    go_loopw [5] (fun iv wr => ∃ i : Nat, iv = .int .i64 i ∧ i ≤ N ∧ Hid (Below w.heap.size w wr ∧ ∀ j, j < i → l[j]? = l'[j]?)) (fun iv _ => N - (intOf iv).toNat)
    case atStart => exact ⟨0, rfl, Nat.zero_le _, Below.refl _ _, fun j hj => by omega⟩
    case round =>
      obtain ⟨i, rfl, hi, HB⟩ := hrel
      have hi0 : (0 : Int) ≤ (i : Int) := by omega
      by_cases hlt : i < N
      · have bl : (i : Int) < (N : Int) := by omega
        obtain ⟨V, hV⟩ : ∃ V, l[i]? = some V := ⟨_, List.getElem?_eq_getElem (by rw [HL.out]; exact hlt)⟩
        obtain ⟨V', hV'⟩ : ∃ V, l'[i]? = some V := ⟨_, List.getElem?_eq_getElem (by rw [HL'.out]; exact hlt)⟩
        obtain ⟨g, o, rfl, hva, hvo⟩ := (HA.out.past HB.out.1).wrt hV
        obtain ⟨g', o', rfl, hwa, hwo⟩ := (HA'.out.past HB.out.1).wrt hV'
        have KV : Hid (WrtOk V) := hvo
        have KV' : Hid (WrtOk V') := hwo
        have FV : Hid (∀ u, Below wr.heap.size wr u → WrtAt u g (o + i * 18) V) := fun u hb => hva.past hb
        have FW : Hid (∀ u, Below wr.heap.size wr u → WrtAt u g' (o' + i * 18) V') := fun u hb => hwa.past hb
        by_cases hvv : V = V'
        · subst hvv
          have heq := fun u => eq_wrt u V V KV.out KV.out
          rw [decide_eq_true (rfl : V = V)] at heq
          have HN1 : Hid (∀ j, j < i + 1 → l[j]? = l'[j]?) := same_next HB.out.2 hV hV'
          clear hV hV' hva hvo hwa hwo
          go_wp2
          refine wp_region_noPanic ?_
          refine wp_region_held_drew (S := fun u => Below wr.heap.size wr u) (by kernel_rfl) ?_ (fun hHeld => ?_)
          · exact (Below.refl _ _).drew
          refine wpAnyH_take (i := 0) (v := ?_) rfl (by kernel_rfl) (by kernel_rfl) (by kernel_rfl) (fun _ _ _ h => h) (Or.inl ⟨by rfl, ?_⟩) hHeld ?_
          rotate_left
          · intro u hSu
            (go_simp) <;> (with_reducible rfl)
          change wpAnyH _ _ _ _ _ _ _ (Act.put _ (some 17) _) _
          simp only [Act.put, List.setIfInBounds_toArray, List.set_cons_zero, List.set_cons_succ]
          refine wpAnyH_take (i := 1) (v := ?_) rfl (by kernel_rfl) (by kernel_rfl) (by kernel_rfl) (fun _ _ _ h => h) (Or.inl ⟨by rfl, ?_⟩) hHeld ?_
          rotate_left
          · intro u hSu
            (go_simp) <;> (with_reducible rfl)
          change wpAnyH _ _ _ _ _ _ _ (Act.put _ (some 18) _) _
          simp only [Act.put, List.setIfInBounds_toArray, List.set_cons_zero, List.set_cons_succ]
          refine wpAnyH_take (i := 2) (v := ?_) rfl (by kernel_rfl) (by kernel_rfl) (by kernel_rfl) (fun _ _ _ h => h) (Or.inl ⟨by rfl, ?_⟩) hHeld ?_
          rotate_left
          · intro u hSu
            (go_simp) <;> (with_reducible rfl)
          change wpAnyH _ _ _ _ _ _ _ (Act.put _ (some 19) _) _
          simp only [Act.put, List.setIfInBounds_toArray, List.set_cons_zero, List.set_cons_succ]
          refine wpAnyH_take (i := 3) (v := wv V) rfl (by kernel_rfl) (by kernel_rfl) (by kernel_rfl) (fun _ _ _ h => h) (yieldsIf_load_mid (by rfl) _ _ rfl _ _ rfl (encW V) _ (fun u hu => (FV.out u hu).range) Try.underlying86 rfl (info_wrtl V KV.out.key)) hHeld ?_
          change wpAnyH _ _ _ _ _ _ _ (Act.put _ (some 20) _) _
          simp only [Act.put, List.setIfInBounds_toArray, List.set_cons_zero, List.set_cons_succ]
          refine wpAnyH_take (i := 4) (v := ?_) rfl (by kernel_rfl) (by kernel_rfl) (by kernel_rfl) (fun _ _ _ h => h) (Or.inl ⟨by rfl, ?_⟩) hHeld ?_
          rotate_left
          · intro u hSu
            (go_simp) <;> (with_reducible rfl)
          change wpAnyH _ _ _ _ _ _ _ (Act.put _ (some 21) _) _
          simp only [Act.put, List.setIfInBounds_toArray, List.set_cons_zero, List.set_cons_succ]
          refine wpAnyH_take (i := 5) (v := ?_) rfl (by kernel_rfl) (by kernel_rfl) (by kernel_rfl) (fun _ _ _ h => h) (Or.inl ⟨by rfl, ?_⟩) hHeld ?_
          rotate_left
          · intro u hSu
            (go_simp) <;> (with_reducible rfl)
          change wpAnyH _ _ _ _ _ _ _ (Act.put _ (some 22) _) _
          simp only [Act.put, List.setIfInBounds_toArray, List.set_cons_zero, List.set_cons_succ]
          refine wpAnyH_take (i := 6) (v := ?_) rfl (by kernel_rfl) (by kernel_rfl) (by kernel_rfl) (fun _ _ _ h => h) (Or.inl ⟨by rfl, ?_⟩) hHeld ?_
          rotate_left
          · intro u hSu
            (go_simp) <;> (with_reducible rfl)
          change wpAnyH _ _ _ _ _ _ _ (Act.put _ (some 23) _) _
          simp only [Act.put, List.setIfInBounds_toArray, List.set_cons_zero, List.set_cons_succ]
          refine wpAnyH_take (i := 7) (v := wv V) rfl (by kernel_rfl) (by kernel_rfl) (by kernel_rfl) (fun _ _ _ h => h) (yieldsIf_load_mid (by rfl) _ _ rfl _ _ rfl (encW V) _ (fun u hu => (FW.out u hu).range) Try.underlying86 rfl (info_wrtl V KV.out.key)) hHeld ?_
          change wpAnyH _ _ _ _ _ _ _ (Act.put _ (some 24) _) _
          simp only [Act.put, List.setIfInBounds_toArray, List.set_cons_zero, List.set_cons_succ]
          refine wpAnyH_take (i := 8) (v := ?_) rfl (by kernel_rfl) (by kernel_rfl) (by kernel_rfl) (fun _ _ _ h => h) (Or.inl ⟨by rfl, ?_⟩) hHeld ?_
          rotate_left
          · intro u hSu
            (go_simp) <;> (with_reducible rfl)
          change wpAnyH _ _ _ _ _ _ _ (Act.put _ (some 25) _) _
          simp only [Act.put, List.setIfInBounds_toArray, List.set_cons_zero, List.set_cons_succ]
          refine wpAnyH_done (by kernel_rfl) ?_ _
          refine NoPanic.normal ?_
          go_wp2
          go_roundw
          case rel => exact ⟨i + 1, by go_num, by omega, HB.out.1.drew, HN1.out⟩
          case measure => simp [intOf]; omega
        · have heq := fun u => eq_wrt u V V' KV.out KV'.out
          rw [decide_eq_false hvv] at heq
          have E : Hid (R = false) := by rw [HR.out]; exact decide_eq_false (lists_ne hV hV' hvv)
          clear hV hV' hva hvo hwa hwo hvv
          go_wp2
          refine wp_region_noPanic ?_
          refine wp_region_held_drew (S := fun u => Below wr.heap.size wr u) (by kernel_rfl) ?_ (fun hHeld => ?_)
          · exact (Below.refl _ _).drew
          refine wpAnyH_take (i := 0) (v := ?_) rfl (by kernel_rfl) (by kernel_rfl) (by kernel_rfl) (fun _ _ _ h => h) (Or.inl ⟨by rfl, ?_⟩) hHeld ?_
          rotate_left
          · intro u hSu
            (go_simp) <;> (with_reducible rfl)
          change wpAnyH _ _ _ _ _ _ _ (Act.put _ (some 17) _) _
          simp only [Act.put, List.setIfInBounds_toArray, List.set_cons_zero, List.set_cons_succ]
          refine wpAnyH_take (i := 1) (v := ?_) rfl (by kernel_rfl) (by kernel_rfl) (by kernel_rfl) (fun _ _ _ h => h) (Or.inl ⟨by rfl, ?_⟩) hHeld ?_
          rotate_left
          · intro u hSu
            (go_simp) <;> (with_reducible rfl)
          change wpAnyH _ _ _ _ _ _ _ (Act.put _ (some 18) _) _
          simp only [Act.put, List.setIfInBounds_toArray, List.set_cons_zero, List.set_cons_succ]
          refine wpAnyH_take (i := 2) (v := ?_) rfl (by kernel_rfl) (by kernel_rfl) (by kernel_rfl) (fun _ _ _ h => h) (Or.inl ⟨by rfl, ?_⟩) hHeld ?_
          rotate_left
          · intro u hSu
            (go_simp) <;> (with_reducible rfl)
          change wpAnyH _ _ _ _ _ _ _ (Act.put _ (some 19) _) _
          simp only [Act.put, List.setIfInBounds_toArray, List.set_cons_zero, List.set_cons_succ]
          refine wpAnyH_take (i := 3) (v := wv V) rfl (by kernel_rfl) (by kernel_rfl) (by kernel_rfl) (fun _ _ _ h => h) (yieldsIf_load_mid (by rfl) _ _ rfl _ _ rfl (encW V) _ (fun u hu => (FV.out u hu).range) Try.underlying86 rfl (info_wrtl V KV.out.key)) hHeld ?_
          change wpAnyH _ _ _ _ _ _ _ (Act.put _ (some 20) _) _
          simp only [Act.put, List.setIfInBounds_toArray, List.set_cons_zero, List.set_cons_succ]
          refine wpAnyH_take (i := 4) (v := ?_) rfl (by kernel_rfl) (by kernel_rfl) (by kernel_rfl) (fun _ _ _ h => h) (Or.inl ⟨by rfl, ?_⟩) hHeld ?_
          rotate_left
          · intro u hSu
            (go_simp) <;> (with_reducible rfl)
          change wpAnyH _ _ _ _ _ _ _ (Act.put _ (some 21) _) _
          simp only [Act.put, List.setIfInBounds_toArray, List.set_cons_zero, List.set_cons_succ]
          refine wpAnyH_take (i := 5) (v := ?_) rfl (by kernel_rfl) (by kernel_rfl) (by kernel_rfl) (fun _ _ _ h => h) (Or.inl ⟨by rfl, ?_⟩) hHeld ?_
          rotate_left
          · intro u hSu
            (go_simp) <;> (with_reducible rfl)
          change wpAnyH _ _ _ _ _ _ _ (Act.put _ (some 22) _) _
          simp only [Act.put, List.setIfInBounds_toArray, List.set_cons_zero, List.set_cons_succ]
          refine wpAnyH_take (i := 6) (v := ?_) rfl (by kernel_rfl) (by kernel_rfl) (by kernel_rfl) (fun _ _ _ h => h) (Or.inl ⟨by rfl, ?_⟩) hHeld ?_
          rotate_left
          · intro u hSu
            (go_simp) <;> (with_reducible rfl)
          change wpAnyH _ _ _ _ _ _ _ (Act.put _ (some 23) _) _
          simp only [Act.put, List.setIfInBounds_toArray, List.set_cons_zero, List.set_cons_succ]
          refine wpAnyH_take (i := 7) (v := wv V') rfl (by kernel_rfl) (by kernel_rfl) (by kernel_rfl) (fun _ _ _ h => h) (yieldsIf_load_mid (by rfl) _ _ rfl _ _ rfl (encW V') _ (fun u hu => (FW.out u hu).range) Try.underlying86 rfl (info_wrtl V' KV'.out.key)) hHeld ?_
          change wpAnyH _ _ _ _ _ _ _ (Act.put _ (some 24) _) _
          simp only [Act.put, List.setIfInBounds_toArray, List.set_cons_zero, List.set_cons_succ]
          refine wpAnyH_take (i := 8) (v := ?_) rfl (by kernel_rfl) (by kernel_rfl) (by kernel_rfl) (fun _ _ _ h => h) (Or.inl ⟨by rfl, ?_⟩) hHeld ?_
          rotate_left
          · intro u hSu
            (go_simp) <;> (with_reducible rfl)
          change wpAnyH _ _ _ _ _ _ _ (Act.put _ (some 25) _) _
          simp only [Act.put, List.setIfInBounds_toArray, List.set_cons_zero, List.set_cons_succ]
          refine wpAnyH_done (by kernel_rfl) ?_ _
          refine NoPanic.normal ?_
          go_wp2
          go_ret
          exact ⟨by rw [E.out]; rfl, HB.out.1.drew⟩
      · have bl : ¬ (i : Int) < (N : Int) := by omega
        obtain rfl : i = N := by omega
        have E : Hid (R = true) := by rw [HR.out]; exact decide_eq_true (lists_eq HL.out HL'.out HB.out.2)
        go_wp2
        go_ret
        exact ⟨by rw [E.out]; rfl, HB.out.1⟩
  · have bn : (((N : Nat) : Int) != ((N' : Nat) : Int)) = true := by simp; omega
    have hne : decide (l = l') = false := decide_eq_false (fun e => hnn (by rw [← hl, e, hl']))
    rw [hne]
    clear h h' hl hl'
    go_enter Try.func55, Try.ntmps55
    go_wp2
    go_ret
    exact ⟨rfl, Below.refl _ _⟩
theorem IntsAt.past {w w' : World} {a : Option Addr} {l : List Int} (h : IntsAt w a l) (hb : Below w.heap.size w w') : IntsAt w' a l :=
  ⟨h.cells.imp id (fun ⟨b, o, e, hc⟩ => ⟨b, o, e, fun j hj => by rw [hb.cell (p := ⟨b, o + j, none⟩) (lt_of_cell (hc j hj))]; exact hc j hj⟩), h.bounds⟩
theorem IntsAt.at {w : World} {a : Option Addr} {l : List Int} (h : IntsAt w a l) {i : Nat} (hi : i < l.length) : ∃ b o x, a = some ⟨b, o, none⟩ ∧ w.cell? ⟨b, o + i, none⟩ = some (.int .i64 x) ∧ l[i]? = some x := by
  rcases h.cells with rfl | ⟨b, o, e, hc⟩
  · simp at hi
  · exact ⟨b, o, l.getD i 0, e, hc i hi, by simp [List.getD, hi]⟩
set_option maxHeartbeats 4000000 in
set_option maxRecDepth 4000 in
open Classical in
theorem iequal_any (a a' : Option Addr) (N N' c c' : Nat) (l l' : List Int) (w : World) (hl : l.length = N) (hl' : l'.length = N') (hN : N ≤ 1000000) (hN' : N' ≤ 1000000) (h : IntsAt w a l) (h' : IntsAt w a' l') :
    Calls Try.prog 47 #[.slice a N c, .slice a' N' c'] w fun e w' => e = .returned (.bool (decide (l = l'))) ∧ Below w.heap.size w w' := by
  have HA : Hid (IntsAt w a l) := h
  have HA' : Hid (IntsAt w a' l') := h'
  have HL : Hid (l.length = N) := hl
  have HL' : Hid (l'.length = N') := hl'
  by_cases hnn : N = N'
  · subst hnn
    have bn : (((N : Nat) : Int) != ((N : Nat) : Int)) = false := by simp
    obtain ⟨R, hR⟩ : ∃ R, R = decide (l = l') := ⟨_, rfl⟩
    have HR : Hid (R = decide (l = l')) := hR
    rw [← hR]
    clear h h' hl hl' hR
    go_enter Try.func47, Try.ntmps47
    go_wp2
    go_loopw [13] (fun iv wr => ∃ i : Nat, iv = .int .i64 i ∧ i ≤ N ∧ Hid (Below w.heap.size w wr ∧ ∀ j, j < i → l[j]? = l'[j]?)) (fun iv _ => N - (intOf iv).toNat)
    case atStart => exact ⟨0, rfl, Nat.zero_le _, Below.refl _ _, fun j hj => by omega⟩
    case round =>
      obtain ⟨i, rfl, hi, HB⟩ := hrel
      have hi0 : (0 : Int) ≤ (i : Int) := by omega
      by_cases hlt : i < N
      · have bl : (i : Int) < (N : Int) := by omega
        obtain ⟨g, o, x, rfl, hx, hvx⟩ := (HA.out.past HB.out.1).at (by rw [HL.out]; exact hlt)
        obtain ⟨g', o', x', rfl, hx', hvx'⟩ := (HA'.out.past HB.out.1).at (by rw [HL'.out]; exact hlt)
        by_cases hvv : x = x'
        · subst hvv
          have HN1 : Hid (∀ j, j < i + 1 → l[j]? = l'[j]?) := same_next HB.out.2 hvx hvx'
          clear hvx hvx'
          go_wp2
          go_quiet (fail)
          go_wp2
          go_roundw
          case rel => exact ⟨i + 1, by go_num, by omega, below_dN HB.out.1 _, HN1.out⟩
          case measure => simp [intOf]; omega
        · have E : Hid (R = false) := by rw [HR.out]; exact decide_eq_false (lists_ne hvx hvx' hvv)
          clear hvx hvx'
          have hb : (x != x') = true := bne_iff_ne.2 hvv
          go_wp2
          go_quiet (fail)
          go_wp2
          go_ret
          exact ⟨by rw [E.out]; rfl, below_dN HB.out.1 _⟩
      · have bl : ¬ (i : Int) < (N : Int) := by omega
        obtain rfl : i = N := by omega
        have E : Hid (R = true) := by rw [HR.out]; exact decide_eq_true (lists_eq HL.out HL'.out HB.out.2)
        go_wp2
        go_ret
        exact ⟨by rw [E.out]; rfl, HB.out.1⟩
  · have bn : (((N : Nat) : Int) != ((N' : Nat) : Int)) = true := by simp; omega
    have hne : decide (l = l') = false := decide_eq_false (fun e => hnn (by rw [← hl, e, hl']))
    rw [hne]
    clear h h' hl hl'
    go_enter Try.func47, Try.ntmps47
    go_wp2
    go_ret
    exact ⟨rfl, Below.refl _ _⟩
end Go.Proofs.Ytcppihpehipelaa
