/-
  Keys and versions held against one another: slices.Equal; the landed ckpt: Same.
-/
import Derived.Test.YtpnjcflfnoamoaaGreatStoL3
import Derived.Test.YtpnjcflfnoamoaaGreatKd
import Derived.Test.YtpnjcflfnoamoaaGreatAu30
namespace Go.Proofs.YtpnjcflfnoamoaaGreat
open Go.RowKit
set_option linter.unusedVariables false
set_option linter.unusedSimpArgs false

theorem in_ne {α : Type} {L M : List α} {i : Nat} {V W : α} (hV : L[i]? = some V) (hW : M[i]? = some W) (h : V ≠ W) : L ≠ M := fun e => by
  rw [e, hW] at hV
  injection hV with hV
  exact h hV.symm
theorem in_eq {α : Type} {L M : List α} {N : Nat} (h1 : L.length = N) (h2 : M.length = N) (h : ∀ j, j < N → L[j]? = M[j]?) : L = M := by
  refine List.ext_getElem? (fun j => ?_)
  by_cases hj : j < N
  · exact h j hj
  · rw [List.getElem?_eq_none (by omega), List.getElem?_eq_none (by omega)]
theorem in_next {α : Type} {L M : List α} {i : Nat} (h : ∀ j, j < i → L[j]? = M[j]?) {V : α} (h1 : L[i]? = some V) (h2 : M[i]? = some V) : ∀ j, j < i + 1 → L[j]? = M[j]? := fun j hj => by
  by_cases e : j = i
  · rw [e, h1, h2]
  · exact h j (by omega)
theorem bare_eq {A B : Ver} (hA : A.k = zeroK) (hB : B.k = zeroK) : A = B ↔ (A.t = B.t ∧ A.n = B.n) ∧ A.v = B.v ∧ A.g = B.g := by
  constructor
  · rintro rfl; simp
  · rintro ⟨⟨h1, h2⟩, h3, h4⟩
    cases A; cases B; simp_all
open Classical in
set_option maxHeartbeats 1000000 in
theorem eq_cver (u : World) (A B : Ver) (hA : VerIn A) (hB : VerIn B) : (Op.equalIn 10000 75 (cvv A) (cvv B)).run Tryz.prog u = .ok (decide (A = B)) u := by
  have hs := str_eq hA.val hB.val
  have hd : decide (A = B) = ((decide (A.t = B.t) && decide (A.n = B.n)) && decide (A.v = B.v) && (A.g == B.g)) := by
    rw [Bool.eq_iff_iff]
    simp [bare_eq hA.key hB.key, and_assoc]
  rw [hd]
  clear hd
  go_simp
  by_cases h2 : A.t = B.t
  · by_cases h3 : A.n = B.n
    · by_cases h4 : A.v = B.v
      · by_cases h5 : A.g = B.g <;> simp [h2, h3, h4, h5]
      · simp [h2, h3, h4]
    · simp [h2, h3]
  · simp [h2]
open Classical in
set_option maxHeartbeats 4000000 in
set_option maxRecDepth 4000 in
theorem kequal_any (a a' : Option Addr) (N N' c c' : Nat) (l l' : List (List Int)) (w : World) (hl : l.length = N) (hl' : l'.length = N') (hN : N ≤ 1000000) (hN' : N' ≤ 1000000) (h : KeysAt w a l) (h' : KeysAt w a' l') :
    Calls Tryz.prog 45 #[.slice a N c, .slice a' N' c'] w fun e w' => e = .returned (.bool (decide (l = l'))) ∧ Below w.heap.size w w' := by
  have HA : Hid (KeysAt w a l) := h
  have HA' : Hid (KeysAt w a' l') := h'
  have HL : Hid (l.length = N) := hl
  have HL' : Hid (l'.length = N') := hl'
  by_cases hnn : N = N'
  · subst hnn
    have bn : (((N : Nat) : Int) != ((N : Nat) : Int)) = false := by simp
    obtain ⟨R, hR⟩ : ∃ R, R = decide (l = l') := ⟨_, rfl⟩
    have HR : Hid (R = decide (l = l')) := hR
    rw [← hR]
    clear h h' hl hl' hR
    go_enter Tryz.func45, Tryz.ntmps45
    go_wp2
    go_loopw [13] (fun iv wr => ∃ i : Nat, iv = .int .i64 i ∧ i ≤ N ∧ Hid (Below w.heap.size w wr ∧ ∀ j, j < i → l[j]? = l'[j]?)) (fun iv _ => N - (intOf iv).toNat)
    case atStart => exact ⟨0, rfl, Nat.zero_le _, Below.refl _ _, fun j hj => by omega⟩
    case round =>
      obtain ⟨i, rfl, hi, HB⟩ := hrel
      have hi0 : (0 : Int) ≤ (i : Int) := by omega
      by_cases hlt : i < N
      · have bl : (i : Int) < (N : Int) := by omega
        obtain ⟨g, o, rfl, hva, hvo⟩ := (HA.out.past HB.out.1).key (i := i) (by rw [HL.out]; exact hlt)
        obtain ⟨g', o', rfl, hwa, hwo⟩ := (HA'.out.past HB.out.1).key (i := i) (by rw [HL'.out]; exact hlt)
        have hV : l[i]? = some (l.getD i []) := by simp [List.getD, show i < l.length by rw [HL.out]; exact hlt]
        have hV' : l'[i]? = some (l'.getD i []) := by simp [List.getD, show i < l'.length by rw [HL'.out]; exact hlt]
        obtain ⟨V, hVe⟩ : ∃ V, V = l.getD i [] := ⟨_, rfl⟩
        obtain ⟨V', hVe'⟩ : ∃ V, V = l'.getD i [] := ⟨_, rfl⟩
        rw [← hVe] at hva hvo hV
        rw [← hVe'] at hwa hwo hV'
        have KV : Hid (Ky V) := hvo
        have KV' : Hid (Ky V') := hwo
        have FV : Hid (∀ u, Below wr.heap.size wr u → KeyAt u g (o + i * 16) V) := fun u hb => hva.past hb
        have FW : Hid (∀ u, Below wr.heap.size wr u → KeyAt u g' (o' + i * 16) V') := fun u hb => hwa.past hb
        by_cases hvv : V = V'
        · subst hvv
          have heq := fun u => eq_key u V V KV.out KV.out
          rw [decide_eq_true (rfl : V = V)] at heq
          have HN1 : Hid (∀ j, j < i + 1 → l[j]? = l'[j]?) := in_next HB.out.2 hV hV'
          clear hV hV' hva hvo hwa hwo hVe hVe'
          go_wp2
          refine wp_region_noPanic ?_
          refine wp_region_held_drew (S := fun u => Below wr.heap.size wr u) (by kernel_rfl) ?_ (fun hHeld => ?_)
          · exact (Below.refl _ _).drew
          refine wpAnyH_take (i := 0) (v := ?_) rfl (by kernel_rfl) (by kernel_rfl) (by kernel_rfl) (fun _ _ _ h => h) (Or.inl ⟨by rfl, ?_⟩) hHeld ?_
          rotate_left
          · intro u hSu
            (go_simp) <;> (with_reducible rfl)
          change wpAnyH _ _ _ _ _ _ _ (Act.put _ (some 16) _) _
          simp only [Act.put, List.setIfInBounds_toArray, List.set_cons_zero, List.set_cons_succ]
          refine wpAnyH_take (i := 1) (v := ?_) rfl (by kernel_rfl) (by kernel_rfl) (by kernel_rfl) (fun _ _ _ h => h) (Or.inl ⟨by rfl, ?_⟩) hHeld ?_
          rotate_left
          · intro u hSu
            (go_simp) <;> (with_reducible rfl)
          change wpAnyH _ _ _ _ _ _ _ (Act.put _ (some 17) _) _
          simp only [Act.put, List.setIfInBounds_toArray, List.set_cons_zero, List.set_cons_succ]
          refine wpAnyH_take (i := 2) (v := ?_) rfl (by kernel_rfl) (by kernel_rfl) (by kernel_rfl) (fun _ _ _ h => h) (Or.inl ⟨by rfl, ?_⟩) hHeld ?_
          rotate_left
          · intro u hSu
            (go_simp) <;> (with_reducible rfl)
          change wpAnyH _ _ _ _ _ _ _ (Act.put _ (some 18) _) _
          simp only [Act.put, List.setIfInBounds_toArray, List.set_cons_zero, List.set_cons_succ]
          refine wpAnyH_take (i := 3) (v := kv V) rfl (by kernel_rfl) (by kernel_rfl) (by kernel_rfl) (fun _ _ _ h => h) (yieldsIf_load_mid (by rfl) _ _ rfl _ _ rfl (V.map (Value.int .u8)) _ (fun u hu => (FV.out u hu).range KV.out) Tryz.underlying57 rfl (info_keyl V KV.out)) hHeld ?_
          change wpAnyH _ _ _ _ _ _ _ (Act.put _ (some 19) _) _
          simp only [Act.put, List.setIfInBounds_toArray, List.set_cons_zero, List.set_cons_succ]
          refine wpAnyH_take (i := 4) (v := ?_) rfl (by kernel_rfl) (by kernel_rfl) (by kernel_rfl) (fun _ _ _ h => h) (Or.inl ⟨by rfl, ?_⟩) hHeld ?_
          rotate_left
          · intro u hSu
            (go_simp) <;> (with_reducible rfl)
          change wpAnyH _ _ _ _ _ _ _ (Act.put _ (some 20) _) _
          simp only [Act.put, List.setIfInBounds_toArray, List.set_cons_zero, List.set_cons_succ]
          refine wpAnyH_take (i := 5) (v := ?_) rfl (by kernel_rfl) (by kernel_rfl) (by kernel_rfl) (fun _ _ _ h => h) (Or.inl ⟨by rfl, ?_⟩) hHeld ?_
          rotate_left
          · intro u hSu
            (go_simp) <;> (with_reducible rfl)
          change wpAnyH _ _ _ _ _ _ _ (Act.put _ (some 21) _) _
          simp only [Act.put, List.setIfInBounds_toArray, List.set_cons_zero, List.set_cons_succ]
          refine wpAnyH_take (i := 6) (v := ?_) rfl (by kernel_rfl) (by kernel_rfl) (by kernel_rfl) (fun _ _ _ h => h) (Or.inl ⟨by rfl, ?_⟩) hHeld ?_
          rotate_left
          · intro u hSu
            (go_simp) <;> (with_reducible rfl)
          change wpAnyH _ _ _ _ _ _ _ (Act.put _ (some 22) _) _
          simp only [Act.put, List.setIfInBounds_toArray, List.set_cons_zero, List.set_cons_succ]
          refine wpAnyH_take (i := 7) (v := kv V) rfl (by kernel_rfl) (by kernel_rfl) (by kernel_rfl) (fun _ _ _ h => h) (yieldsIf_load_mid (by rfl) _ _ rfl _ _ rfl (V.map (Value.int .u8)) _ (fun u hu => (FW.out u hu).range KV.out) Tryz.underlying57 rfl (info_keyl V KV.out)) hHeld ?_
          change wpAnyH _ _ _ _ _ _ _ (Act.put _ (some 23) _) _
          simp only [Act.put, List.setIfInBounds_toArray, List.set_cons_zero, List.set_cons_succ]
          refine wpAnyH_take (i := 8) (v := ?_) rfl (by kernel_rfl) (by kernel_rfl) (by kernel_rfl) (fun _ _ _ h => h) (Or.inl ⟨by rfl, ?_⟩) hHeld ?_
          rotate_left
          · intro u hSu
            (go_simp) <;> (with_reducible rfl)
          change wpAnyH _ _ _ _ _ _ _ (Act.put _ (some 24) _) _
          simp only [Act.put, List.setIfInBounds_toArray, List.set_cons_zero, List.set_cons_succ]
          refine wpAnyH_done (by kernel_rfl) ?_ _
          refine NoPanic.normal ?_
          go_wp2
          go_roundw
          case rel => exact ⟨i + 1, by go_num, by omega, HB.out.1.drew, HN1.out⟩
          case measure => simp [intOf]; omega
        · have heq := fun u => eq_key u V V' KV.out KV'.out
          rw [decide_eq_false hvv] at heq
          have E : Hid (R = false) := by rw [HR.out]; exact decide_eq_false (in_ne hV hV' hvv)
          clear hV hV' hva hvo hwa hwo hvv hVe hVe'
          go_wp2
          refine wp_region_noPanic ?_
          refine wp_region_held_drew (S := fun u => Below wr.heap.size wr u) (by kernel_rfl) ?_ (fun hHeld => ?_)
          · exact (Below.refl _ _).drew
          refine wpAnyH_take (i := 0) (v := ?_) rfl (by kernel_rfl) (by kernel_rfl) (by kernel_rfl) (fun _ _ _ h => h) (Or.inl ⟨by rfl, ?_⟩) hHeld ?_
          rotate_left
          · intro u hSu
            (go_simp) <;> (with_reducible rfl)
          change wpAnyH _ _ _ _ _ _ _ (Act.put _ (some 16) _) _
          simp only [Act.put, List.setIfInBounds_toArray, List.set_cons_zero, List.set_cons_succ]
          refine wpAnyH_take (i := 1) (v := ?_) rfl (by kernel_rfl) (by kernel_rfl) (by kernel_rfl) (fun _ _ _ h => h) (Or.inl ⟨by rfl, ?_⟩) hHeld ?_
          rotate_left
          · intro u hSu
            (go_simp) <;> (with_reducible rfl)
          change wpAnyH _ _ _ _ _ _ _ (Act.put _ (some 17) _) _
          simp only [Act.put, List.setIfInBounds_toArray, List.set_cons_zero, List.set_cons_succ]
          refine wpAnyH_take (i := 2) (v := ?_) rfl (by kernel_rfl) (by kernel_rfl) (by kernel_rfl) (fun _ _ _ h => h) (Or.inl ⟨by rfl, ?_⟩) hHeld ?_
          rotate_left
          · intro u hSu
            (go_simp) <;> (with_reducible rfl)
          change wpAnyH _ _ _ _ _ _ _ (Act.put _ (some 18) _) _
          simp only [Act.put, List.setIfInBounds_toArray, List.set_cons_zero, List.set_cons_succ]
          refine wpAnyH_take (i := 3) (v := kv V) rfl (by kernel_rfl) (by kernel_rfl) (by kernel_rfl) (fun _ _ _ h => h) (yieldsIf_load_mid (by rfl) _ _ rfl _ _ rfl (V.map (Value.int .u8)) _ (fun u hu => (FV.out u hu).range KV.out) Tryz.underlying57 rfl (info_keyl V KV.out)) hHeld ?_
          change wpAnyH _ _ _ _ _ _ _ (Act.put _ (some 19) _) _
          simp only [Act.put, List.setIfInBounds_toArray, List.set_cons_zero, List.set_cons_succ]
          refine wpAnyH_take (i := 4) (v := ?_) rfl (by kernel_rfl) (by kernel_rfl) (by kernel_rfl) (fun _ _ _ h => h) (Or.inl ⟨by rfl, ?_⟩) hHeld ?_
          rotate_left
          · intro u hSu
            (go_simp) <;> (with_reducible rfl)
          change wpAnyH _ _ _ _ _ _ _ (Act.put _ (some 20) _) _
          simp only [Act.put, List.setIfInBounds_toArray, List.set_cons_zero, List.set_cons_succ]
          refine wpAnyH_take (i := 5) (v := ?_) rfl (by kernel_rfl) (by kernel_rfl) (by kernel_rfl) (fun _ _ _ h => h) (Or.inl ⟨by rfl, ?_⟩) hHeld ?_
          rotate_left
          · intro u hSu
            (go_simp) <;> (with_reducible rfl)
          change wpAnyH _ _ _ _ _ _ _ (Act.put _ (some 21) _) _
          simp only [Act.put, List.setIfInBounds_toArray, List.set_cons_zero, List.set_cons_succ]
          refine wpAnyH_take (i := 6) (v := ?_) rfl (by kernel_rfl) (by kernel_rfl) (by kernel_rfl) (fun _ _ _ h => h) (Or.inl ⟨by rfl, ?_⟩) hHeld ?_
          rotate_left
          · intro u hSu
            (go_simp) <;> (with_reducible rfl)
          change wpAnyH _ _ _ _ _ _ _ (Act.put _ (some 22) _) _
          simp only [Act.put, List.setIfInBounds_toArray, List.set_cons_zero, List.set_cons_succ]
          refine wpAnyH_take (i := 7) (v := kv V') rfl (by kernel_rfl) (by kernel_rfl) (by kernel_rfl) (fun _ _ _ h => h) (yieldsIf_load_mid (by rfl) _ _ rfl _ _ rfl (V'.map (Value.int .u8)) _ (fun u hu => (FW.out u hu).range KV'.out) Tryz.underlying57 rfl (info_keyl V' KV'.out)) hHeld ?_
          change wpAnyH _ _ _ _ _ _ _ (Act.put _ (some 23) _) _
          simp only [Act.put, List.setIfInBounds_toArray, List.set_cons_zero, List.set_cons_succ]
          refine wpAnyH_take (i := 8) (v := ?_) rfl (by kernel_rfl) (by kernel_rfl) (by kernel_rfl) (fun _ _ _ h => h) (Or.inl ⟨by rfl, ?_⟩) hHeld ?_
          rotate_left
          · intro u hSu
            (go_simp) <;> (with_reducible rfl)
          change wpAnyH _ _ _ _ _ _ _ (Act.put _ (some 24) _) _
          simp only [Act.put, List.setIfInBounds_toArray, List.set_cons_zero, List.set_cons_succ]
          refine wpAnyH_done (by kernel_rfl) ?_ _
          refine NoPanic.normal ?_
          go_wp2
          go_ret
          exact ⟨by rw [E.out]; rfl, HB.out.1.drew⟩
      · have bl : ¬ (i : Int) < (N : Int) := by omega
        obtain rfl : i = N := by omega
        have E : Hid (R = true) := by rw [HR.out]; exact decide_eq_true (in_eq HL.out HL'.out HB.out.2)
        go_wp2
        go_ret
        exact ⟨by rw [E.out]; rfl, HB.out.1⟩
  · have bn : (((N : Nat) : Int) != ((N' : Nat) : Int)) = true := by simp; omega
    have hne : decide (l = l') = false := decide_eq_false (fun e => hnn (by rw [← hl, e, hl']))
    rw [hne]
    clear h h' hl hl'
    go_enter Tryz.func45, Tryz.ntmps45
    go_wp2
    go_ret
    exact ⟨rfl, Below.refl _ _⟩
/-- A list of versions of no key that lies in memory. -/
structure CsAt (w : World) (a : Option Addr) (l : List Ver) : Prop where
  cells : l = [] ∨ ∃ b off, a = some ⟨b, off, none⟩ ∧ ∀ i V, l[i]? = some V → CVerAt w b (off + i * 4) V
  ins : ∀ V ∈ l, VerIn V
theorem CsAt.past {w w' : World} {a : Option Addr} {l : List Ver} (h : CsAt w a l) (hb : Below w.heap.size w w') : CsAt w' a l :=
  ⟨h.cells.imp id (fun ⟨b, off, e, hc⟩ => ⟨b, off, e, fun i V hV => (hc i V hV).past hb⟩), h.ins⟩
theorem CsAt.ver {w : World} {a : Option Addr} {l : List Ver} (h : CsAt w a l) {i : Nat} {V : Ver} (hV : l[i]? = some V) : ∃ b o, a = some ⟨b, o, none⟩ ∧ CVerAt w b (o + i * 4) V ∧ VerIn V := by
  rcases h.cells with rfl | ⟨b, off, e, hc⟩
  · simp at hV
  · exact ⟨b, off, e, hc i V hV, h.ins V (List.mem_of_getElem? hV)⟩
open Classical in
set_option maxHeartbeats 4000000 in
set_option maxRecDepth 4000 in
theorem vequal_any (a a' : Option Addr) (N N' c c' : Nat) (l l' : List Ver) (w : World) (hl : l.length = N) (hl' : l'.length = N') (hN : N ≤ 1000000) (hN' : N' ≤ 1000000) (h : CsAt w a l) (h' : CsAt w a' l') :
    Calls Tryz.prog 46 #[.slice a N c, .slice a' N' c'] w fun e w' => e = .returned (.bool (decide (l = l'))) ∧ Below w.heap.size w w' := by
  have HA : Hid (CsAt w a l) := h
  have HA' : Hid (CsAt w a' l') := h'
  have HL : Hid (l.length = N) := hl
  have HL' : Hid (l'.length = N') := hl'
  by_cases hnn : N = N'
  · subst hnn
    have bn : (((N : Nat) : Int) != ((N : Nat) : Int)) = false := by simp
    obtain ⟨R, hR⟩ : ∃ R, R = decide (l = l') := ⟨_, rfl⟩
    have HR : Hid (R = decide (l = l')) := hR
    rw [← hR]
    clear h h' hl hl' hR
    go_enter Tryz.func46, Tryz.ntmps46
    go_wp2
    go_loopw [13] (fun iv wr => ∃ i : Nat, iv = .int .i64 i ∧ i ≤ N ∧ Hid (Below w.heap.size w wr ∧ ∀ j, j < i → l[j]? = l'[j]?)) (fun iv _ => N - (intOf iv).toNat)
    case atStart => exact ⟨0, rfl, Nat.zero_le _, Below.refl _ _, fun j hj => by omega⟩
    case round =>
      obtain ⟨i, rfl, hi, HB⟩ := hrel
      have hi0 : (0 : Int) ≤ (i : Int) := by omega
      by_cases hlt : i < N
      · have bl : (i : Int) < (N : Int) := by omega
        obtain ⟨V, hV⟩ : ∃ V, l[i]? = some V := ⟨_, List.getElem?_eq_getElem (by rw [HL.out]; exact hlt)⟩
        obtain ⟨V', hV'⟩ : ∃ V, l'[i]? = some V := ⟨_, List.getElem?_eq_getElem (by rw [HL'.out]; exact hlt)⟩
        obtain ⟨g, o, rfl, hva, hvo⟩ := (HA.out.past HB.out.1).ver hV
        obtain ⟨g', o', rfl, hwa, hwo⟩ := (HA'.out.past HB.out.1).ver hV'
        have KV : Hid (VerIn V) := hvo
        have KV' : Hid (VerIn V') := hwo
        have FV : Hid (∀ u, Below wr.heap.size wr u → CVerAt u g (o + i * 4) V) := fun u hb => hva.past hb
        have FW : Hid (∀ u, Below wr.heap.size wr u → CVerAt u g' (o' + i * 4) V') := fun u hb => hwa.past hb
        by_cases hvv : V = V'
        · subst hvv
          have heq := fun u => eq_cver u V V KV.out KV.out
          rw [decide_eq_true (rfl : V = V)] at heq
          have HN1 : Hid (∀ j, j < i + 1 → l[j]? = l'[j]?) := in_next HB.out.2 hV hV'
          clear hV hV' hva hvo hwa hwo
          go_wp2
          refine wp_region_noPanic ?_
          refine wp_region_held_drew (S := fun u => Below wr.heap.size wr u) (by kernel_rfl) ?_ (fun hHeld => ?_)
          · exact (Below.refl _ _).drew
          refine wpAnyH_take (i := 0) (v := ?_) rfl (by kernel_rfl) (by kernel_rfl) (by kernel_rfl) (fun _ _ _ h => h) (Or.inl ⟨by rfl, ?_⟩) hHeld ?_
          rotate_left
          · intro u hSu
            (go_simp) <;> (with_reducible rfl)
          change wpAnyH _ _ _ _ _ _ _ (Act.put _ (some 16) _) _
          simp only [Act.put, List.setIfInBounds_toArray, List.set_cons_zero, List.set_cons_succ]
          refine wpAnyH_take (i := 1) (v := ?_) rfl (by kernel_rfl) (by kernel_rfl) (by kernel_rfl) (fun _ _ _ h => h) (Or.inl ⟨by rfl, ?_⟩) hHeld ?_
          rotate_left
          · intro u hSu
            (go_simp) <;> (with_reducible rfl)
          change wpAnyH _ _ _ _ _ _ _ (Act.put _ (some 17) _) _
          simp only [Act.put, List.setIfInBounds_toArray, List.set_cons_zero, List.set_cons_succ]
          refine wpAnyH_take (i := 2) (v := ?_) rfl (by kernel_rfl) (by kernel_rfl) (by kernel_rfl) (fun _ _ _ h => h) (Or.inl ⟨by rfl, ?_⟩) hHeld ?_
          rotate_left
          · intro u hSu
            (go_simp) <;> (with_reducible rfl)
          change wpAnyH _ _ _ _ _ _ _ (Act.put _ (some 18) _) _
          simp only [Act.put, List.setIfInBounds_toArray, List.set_cons_zero, List.set_cons_succ]
          refine wpAnyH_take (i := 3) (v := ?_) rfl (by kernel_rfl) (by kernel_rfl) (by kernel_rfl) (fun _ _ _ h => h) (Or.inl ⟨by rfl, ?_⟩) hHeld ?_
          rotate_left
          · intro u hSu
            obtain ⟨q0, q1, q2, q3⟩ := FV.out u hSu
            (go_simp) <;> (with_reducible rfl)
          change wpAnyH _ _ _ _ _ _ _ (Act.put _ (some 19) _) _
          simp only [Act.put, List.setIfInBounds_toArray, List.set_cons_zero, List.set_cons_succ]
          refine wpAnyH_take (i := 4) (v := ?_) rfl (by kernel_rfl) (by kernel_rfl) (by kernel_rfl) (fun _ _ _ h => h) (Or.inl ⟨by rfl, ?_⟩) hHeld ?_
          rotate_left
          · intro u hSu
            (go_simp) <;> (with_reducible rfl)
          change wpAnyH _ _ _ _ _ _ _ (Act.put _ (some 20) _) _
          simp only [Act.put, List.setIfInBounds_toArray, List.set_cons_zero, List.set_cons_succ]
          refine wpAnyH_take (i := 5) (v := ?_) rfl (by kernel_rfl) (by kernel_rfl) (by kernel_rfl) (fun _ _ _ h => h) (Or.inl ⟨by rfl, ?_⟩) hHeld ?_
          rotate_left
          · intro u hSu
            (go_simp) <;> (with_reducible rfl)
          change wpAnyH _ _ _ _ _ _ _ (Act.put _ (some 21) _) _
          simp only [Act.put, List.setIfInBounds_toArray, List.set_cons_zero, List.set_cons_succ]
          refine wpAnyH_take (i := 6) (v := ?_) rfl (by kernel_rfl) (by kernel_rfl) (by kernel_rfl) (fun _ _ _ h => h) (Or.inl ⟨by rfl, ?_⟩) hHeld ?_
          rotate_left
          · intro u hSu
            (go_simp) <;> (with_reducible rfl)
          change wpAnyH _ _ _ _ _ _ _ (Act.put _ (some 22) _) _
          simp only [Act.put, List.setIfInBounds_toArray, List.set_cons_zero, List.set_cons_succ]
          refine wpAnyH_take (i := 7) (v := ?_) rfl (by kernel_rfl) (by kernel_rfl) (by kernel_rfl) (fun _ _ _ h => h) (Or.inl ⟨by rfl, ?_⟩) hHeld ?_
          rotate_left
          · intro u hSu
            obtain ⟨q0, q1, q2, q3⟩ := FW.out u hSu
            (go_simp) <;> (with_reducible rfl)
          change wpAnyH _ _ _ _ _ _ _ (Act.put _ (some 23) _) _
          simp only [Act.put, List.setIfInBounds_toArray, List.set_cons_zero, List.set_cons_succ]
          refine wpAnyH_take (i := 8) (v := ?_) rfl (by kernel_rfl) (by kernel_rfl) (by kernel_rfl) (fun _ _ _ h => h) (Or.inl ⟨by rfl, ?_⟩) hHeld ?_
          rotate_left
          · intro u hSu
            (go_simp) <;> (with_reducible rfl)
          change wpAnyH _ _ _ _ _ _ _ (Act.put _ (some 24) _) _
          simp only [Act.put, List.setIfInBounds_toArray, List.set_cons_zero, List.set_cons_succ]
          refine wpAnyH_done (by kernel_rfl) ?_ _
          refine NoPanic.normal ?_
          go_wp2
          go_roundw
          case rel => exact ⟨i + 1, by go_num, by omega, HB.out.1.drew, HN1.out⟩
          case measure => simp [intOf]; omega
        · have heq := fun u => eq_cver u V V' KV.out KV'.out
          rw [decide_eq_false hvv] at heq
          have E : Hid (R = false) := by rw [HR.out]; exact decide_eq_false (in_ne hV hV' hvv)
          clear hV hV' hva hvo hwa hwo hvv
          go_wp2
          refine wp_region_noPanic ?_
          refine wp_region_held_drew (S := fun u => Below wr.heap.size wr u) (by kernel_rfl) ?_ (fun hHeld => ?_)
          · exact (Below.refl _ _).drew
          refine wpAnyH_take (i := 0) (v := ?_) rfl (by kernel_rfl) (by kernel_rfl) (by kernel_rfl) (fun _ _ _ h => h) (Or.inl ⟨by rfl, ?_⟩) hHeld ?_
          rotate_left
          · intro u hSu
            (go_simp) <;> (with_reducible rfl)
          change wpAnyH _ _ _ _ _ _ _ (Act.put _ (some 16) _) _
          simp only [Act.put, List.setIfInBounds_toArray, List.set_cons_zero, List.set_cons_succ]
          refine wpAnyH_take (i := 1) (v := ?_) rfl (by kernel_rfl) (by kernel_rfl) (by kernel_rfl) (fun _ _ _ h => h) (Or.inl ⟨by rfl, ?_⟩) hHeld ?_
          rotate_left
          · intro u hSu
            (go_simp) <;> (with_reducible rfl)
          change wpAnyH _ _ _ _ _ _ _ (Act.put _ (some 17) _) _
          simp only [Act.put, List.setIfInBounds_toArray, List.set_cons_zero, List.set_cons_succ]
          refine wpAnyH_take (i := 2) (v := ?_) rfl (by kernel_rfl) (by kernel_rfl) (by kernel_rfl) (fun _ _ _ h => h) (Or.inl ⟨by rfl, ?_⟩) hHeld ?_
          rotate_left
          · intro u hSu
            (go_simp) <;> (with_reducible rfl)
          change wpAnyH _ _ _ _ _ _ _ (Act.put _ (some 18) _) _
          simp only [Act.put, List.setIfInBounds_toArray, List.set_cons_zero, List.set_cons_succ]
          refine wpAnyH_take (i := 3) (v := ?_) rfl (by kernel_rfl) (by kernel_rfl) (by kernel_rfl) (fun _ _ _ h => h) (Or.inl ⟨by rfl, ?_⟩) hHeld ?_
          rotate_left
          · intro u hSu
            obtain ⟨q0, q1, q2, q3⟩ := FV.out u hSu
            (go_simp) <;> (with_reducible rfl)
          change wpAnyH _ _ _ _ _ _ _ (Act.put _ (some 19) _) _
          simp only [Act.put, List.setIfInBounds_toArray, List.set_cons_zero, List.set_cons_succ]
          refine wpAnyH_take (i := 4) (v := ?_) rfl (by kernel_rfl) (by kernel_rfl) (by kernel_rfl) (fun _ _ _ h => h) (Or.inl ⟨by rfl, ?_⟩) hHeld ?_
          rotate_left
          · intro u hSu
            (go_simp) <;> (with_reducible rfl)
          change wpAnyH _ _ _ _ _ _ _ (Act.put _ (some 20) _) _
          simp only [Act.put, List.setIfInBounds_toArray, List.set_cons_zero, List.set_cons_succ]
          refine wpAnyH_take (i := 5) (v := ?_) rfl (by kernel_rfl) (by kernel_rfl) (by kernel_rfl) (fun _ _ _ h => h) (Or.inl ⟨by rfl, ?_⟩) hHeld ?_
          rotate_left
          · intro u hSu
            (go_simp) <;> (with_reducible rfl)
          change wpAnyH _ _ _ _ _ _ _ (Act.put _ (some 21) _) _
          simp only [Act.put, List.setIfInBounds_toArray, List.set_cons_zero, List.set_cons_succ]
          refine wpAnyH_take (i := 6) (v := ?_) rfl (by kernel_rfl) (by kernel_rfl) (by kernel_rfl) (fun _ _ _ h => h) (Or.inl ⟨by rfl, ?_⟩) hHeld ?_
          rotate_left
          · intro u hSu
            (go_simp) <;> (with_reducible rfl)
          change wpAnyH _ _ _ _ _ _ _ (Act.put _ (some 22) _) _
          simp only [Act.put, List.setIfInBounds_toArray, List.set_cons_zero, List.set_cons_succ]
          refine wpAnyH_take (i := 7) (v := ?_) rfl (by kernel_rfl) (by kernel_rfl) (by kernel_rfl) (fun _ _ _ h => h) (Or.inl ⟨by rfl, ?_⟩) hHeld ?_
          rotate_left
          · intro u hSu
            obtain ⟨q0, q1, q2, q3⟩ := FW.out u hSu
            (go_simp) <;> (with_reducible rfl)
          change wpAnyH _ _ _ _ _ _ _ (Act.put _ (some 23) _) _
          simp only [Act.put, List.setIfInBounds_toArray, List.set_cons_zero, List.set_cons_succ]
          refine wpAnyH_take (i := 8) (v := ?_) rfl (by kernel_rfl) (by kernel_rfl) (by kernel_rfl) (fun _ _ _ h => h) (Or.inl ⟨by rfl, ?_⟩) hHeld ?_
          rotate_left
          · intro u hSu
            (go_simp) <;> (with_reducible rfl)
          change wpAnyH _ _ _ _ _ _ _ (Act.put _ (some 24) _) _
          simp only [Act.put, List.setIfInBounds_toArray, List.set_cons_zero, List.set_cons_succ]
          refine wpAnyH_done (by kernel_rfl) ?_ _
          refine NoPanic.normal ?_
          go_wp2
          go_ret
          exact ⟨by rw [E.out]; rfl, HB.out.1.drew⟩
      · have bl : ¬ (i : Int) < (N : Int) := by omega
        obtain rfl : i = N := by omega
        have E : Hid (R = true) := by rw [HR.out]; exact decide_eq_true (in_eq HL.out HL'.out HB.out.2)
        go_wp2
        go_ret
        exact ⟨by rw [E.out]; rfl, HB.out.1⟩
  · have bn : (((N : Nat) : Int) != ((N' : Nat) : Int)) = true := by simp; omega
    have hne : decide (l = l') = false := decide_eq_false (fun e => hnn (by rw [← hl, e, hl']))
    rw [hne]
    clear h h' hl hl'
    go_enter Tryz.func46, Tryz.ntmps46
    go_wp2
    go_ret
    exact ⟨rfl, Below.refl _ _⟩
end Go.Proofs.YtpnjcflfnoamoaaGreat
