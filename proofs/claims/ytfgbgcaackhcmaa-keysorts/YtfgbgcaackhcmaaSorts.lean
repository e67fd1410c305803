/-
  KeySorts: what is put in order rises, each once, and has just what was there, for every list of at most 40 keys (else the statement asks nothing).
-/
import Derived.Test.YtfgbgcaackhcmaaRows
import Derived.Test.YtfgbgcaackhcmaaKeyKeys
import Derived.Test.YtfgbgcaackhcmaaKeysOpen
import Derived.Test.YtfgbgcaackhcmaaNested
import Derived.WalkKit
import Derived.ProofKit
import Derived.OpenShut
import Derived.ShutString
import Derived.ChangeOld
import Derived.Below
import Derived.Carry
namespace Go.Proofs.Ytfgbgcaackhcmaa.keySorts
open Go.ChangeShapes Go.WideShapes Go.ChangeAt Go.RowKit
open Go.ChangeMaps (open_string shut_string)
set_option linter.unusedVariables false

theorem own : ownKnob Try.prog.godebug = none := by kernel_rfl
theorem laidOut : laidOutB Try.prog = true := by kernel_rfl
/-- A slice of integers that came in: nil, or a row of 'cap' cells, of which the first 'len' are its elements. -/
def IsRow (k : IntKind) (w : World) (a : Option Addr) (len cap : Nat) (zs : List Int) : Prop :=
  (a = none ∧ len = 0 ∧ cap = 0 ∧ zs = []) ∨
  ∃ x, a = some x ∧ len ≤ cap ∧ cap ≤ maxLen ∧ zs.length = cap ∧ (∀ i, i < zs.length → w.cell? (x.add i) = some (.int k (zs.getD i 0))) ∧ ∀ n ∈ zs, (Lit.int k n).wf = true

/-- What the walk holds: the list that came in, its keys in order, the key that is looked for. -/
structure Srt (w u : World) (a0 : Option Addr) (l : List (List Int)) (a : Option Addr) (S : List (List Int)) (k : List Int) : Prop where
  below : Below w.heap.size w u
  src : KeysAt u a0 l
  srt : KeysAt u a S
  key : KeyAt u w.heap.size 0 k
theorem Srt.past {w u v : World} {a0 a : Option Addr} {l S : List (List Int)} {k : List Int} (h : Srt w u a0 l a S k) (hb : Below u.heap.size u v) : Srt w v a0 l a S k :=
  ⟨h.below.trans (hb.mono h.below.size), h.src.past hb, h.srt.past hb, h.key.past hb⟩
theorem rising_at : ∀ {S : List (List Int)} {j : Nat}, Rising S → j + 1 < S.length → lexC (S.getD j []) (S.getD (j + 1) []) < 0
  | [], j, _, h => by simp at h
  | [a], j, _, h => by simp at h
  | a :: b :: r, 0, h, _ => by simpa using h.1
  | a :: b :: r, j + 1, h, hl => by simpa using rising_at (S := b :: r) (j := j) h.2 (by simpa using hl)
theorem mem_next {l : List (List Int)} {i : Nat} (k : List Int) (h : i < l.length) : decide (k ∈ l.take (i + 1)) = (decide (k ∈ l.take i) || decide (l.getD i [] = k)) := by
  have e : l.take (i + 1) = l.take i ++ [l.getD i []] := by rw [List.take_add_one]; simp [List.getD, h]
  rw [e]
  by_cases h1 : k ∈ l.take i
  · simp [h1]
  · by_cases h2 : l.getD i [] = k
    · rw [decide_eq_true h2, Bool.or_true]
      exact decide_eq_true (List.mem_append.2 (.inr (List.mem_singleton.2 h2.symm)))
    · have h3 : ¬ k = l.getD i [] := fun h => h2 h.symm
      rw [decide_eq_false h1, decide_eq_false h2, Bool.or_false]
      refine decide_eq_false fun h => ?_
      rcases List.mem_append.1 h with h | h
      · exact h1 h
      · exact h3 (List.mem_singleton.1 h)
set_option maxRecDepth 8000 in
set_option maxHeartbeats 4000000 in
theorem walk (a0 : Option Addr) (len0 cap0 : Nat) (z0 : List (List Int)) (z1 : List Int) (w : World) (l0 : z0.length = len0) (w0 : KeysAt w a0 z0) (r0 : len0 ≤ cap0) (w1 : IsArr .u8 16 z1) :
    Calls Try.prog 7 #[.slice a0 len0 cap0, .agg (z1.map (Value.int .u8)).toArray] w fun e w' => e = .returned (.bool true) ∧ Below w.heap.size w w' := by
  have HZK : Hid (Ky z1) := w1.ky
  have AW : Hid (∀ u, Calls Try.prog 9 #[] u fun e w' => e = .returned (.bool true) ∧ Below u.heap.size u w') := fun u => awake_any u
  have H0 : Hid (KeyAt (w.alloc (.cells (kcs z1) 24)) w.heap.size 0 z1) := KeyAt.made w 24 z1 w1.ky
  have HB0 : Hid (Below w.heap.size w (w.alloc (.cells (kcs z1) 24))) := (Below.refl _ _).alloc (Nat.le_refl _) _
  have HL : Hid (z0.length = len0) := l0
  have HA : Hid (KeysAt w a0 z0) := w0
  by_cases r1 : 40 < len0
  · have r1' : (40 : Int) < (len0 : Int) := by omega
    clear l0 w0 w1
    go_enter Try.func7, Try.ntmps7
    go_wp2_with (go_at_call 9; refine (AW.out _).mono ?_; rintro e v1 ⟨rfl, hb1⟩; have W1 : Hid (Below w.heap.size w v1) := HB0.out.trans (hb1.mono HB0.out.size); clear hb1)
    go_ret
    exact ⟨rfl, W1.out⟩
  have r1' : ¬ (40 : Int) < (len0 : Int) := by omega
  obtain ⟨S, hS⟩ : ∃ S, S = sortK z0 := ⟨_, rfl⟩
  have HF := sortK_facts z0
  rw [← hS] at HF
  have HRI : Hid (Rising S) := HF.1
  have HME : Hid (decide (z1 ∈ S) = decide (z1 ∈ z0)) := by show _ = _; simp [HF.2.1 z1]
  have HSS : Hid (sortK S = S) := sortK_same HF.1
  have hSl : S.length ≤ len0 := by rw [← l0]; exact HF.2.2
  obtain ⟨M, hM⟩ : ∃ M, M = S.length := ⟨_, rfl⟩
  have HM : Hid (S.length = M) := hM.symm
  rw [← hM] at hSl
  have C1 : Hid (∀ u, KeysAt u a0 z0 → Calls Try.prog 11 #[.slice a0 len0 cap0] u fun e w' => (∃ a' cap', e = .returned (.slice a' M cap') ∧ KeysAt w' a' S ∧ M ≤ cap') ∧ Below u.heap.size u w') := fun u h => by
    have c := ksort_any a0 len0 cap0 z0 u l0 (by omega) r0 h
    rw [← hS, ← hM] at c
    exact c
  have C2 : Hid (∀ u a c, KeysAt u a S → M ≤ c → Calls Try.prog 11 #[.slice a M c] u fun e w' => (∃ a' cap', e = .returned (.slice a' M cap') ∧ KeysAt w' a' S ∧ M ≤ cap') ∧ Below u.heap.size u w') := fun u a c h hc => by
    have c := ksort_any a M c S u hM.symm (by omega) hc h
    rw [HSS.out, ← hM] at c
    exact c
  have CK : Hid (∀ u a c a' c', KeysAt u a S → KeysAt u a' S → Calls Try.prog 23 #[.slice a M c, .slice a' M c'] u fun e w' => e = .returned (.bool true) ∧ Below u.heap.size u w') := fun u a c a' c' h h' => by
    have x := keys_any a M c S a' M c' S u hM.symm hM.symm h h' (by omega)
    rw [decide_eq_true rfl] at x
    exact x
  have CC : Hid (∀ X Y, Ky X → Ky Y → ∀ u, Calls Try.prog 18 #[kv X, kv Y] u fun e w' => e = .returned (.int .i64 (lexC X Y)) ∧ Below u.heap.size u w') := fun X Y hX hY u => kcmp_any X Y hX hY u
  clear l0 w0 w1 hS HF hM
  go_enter Try.func7, Try.ntmps7
  go_wp2_with (first
    | (have hgo := AW.out; clear hgo; go_at_call 9; refine (AW.out _).mono ?_; rintro e v1 ⟨rfl, hb1⟩; have K1 : Hid (KeyAt v1 w.heap.size 0 z1) := H0.out.past hb1; have W1 : Hid (Below w.heap.size w v1) := HB0.out.trans (hb1.mono HB0.out.size); clear hb1 AW)
    | (have hgo := W1.out; clear hgo; go_at_call 11; refine (C1.out _ (HA.out.past W1.out)).mono ?_; rintro e v2 ⟨⟨sa, cs, rfl, hks, hcs⟩, hb2⟩; have H2 : Hid (Srt w v2 a0 z0 sa S z1) := ⟨W1.out.trans (hb2.mono W1.out.size), (HA.out.past W1.out).past hb2, hks, K1.out.past hb2⟩; clear hks hb2))
  go_loopw [6] (fun iv wr => ∃ j : Nat, iv = .int .i64 (j + 1) ∧ j ≤ M ∧ Hid (Srt w wr a0 z0 sa S z1)) (fun iv _ => M + 1 - (intOf iv).toNat)
  case atStart => exact ⟨0, rfl, Nat.zero_le _, H2⟩
  case round =>
    obtain ⟨j, rfl, hj, HW⟩ := hrel
    have j0 : (0 : Int) ≤ (j : Int) := by omega
    have j2 : (j : Int) ≤ 40 := by omega
    by_cases hlt : j + 1 < M
    · have j1 : (j : Int) + 1 < (M : Int) := by omega
      have j3 : (j : Int) < (M : Int) := by omega
      have HJ : Hid (j + 1 < M) := hlt
      have j4 : (0 : Int) ≤ (j : Int) + 1 := by omega
      have hwj : IntKind.i64.wrap (j : Int) = (j : Int) := by rw [IntKind.wrap_i64]; omega
      have hrise := rising_at HRI.out (j := j) (by rw [HM.out]; exact hlt)
      obtain ⟨b, o, rfl, pY, yY⟩ := HW.out.srt.key (i := j) (by rw [HM.out]; omega)
      obtain ⟨b', o', hbo, pX, yX⟩ := HW.out.srt.key (i := j + 1) (by rw [HM.out]; exact hlt)
      obtain ⟨rfl, rfl⟩ : b' = b ∧ o' = o := by injection hbo with h; injection h with h1 h2; exact ⟨h1.symm, h2.symm⟩
      obtain ⟨Y, hY⟩ : ∃ Y, Y = S.getD j [] := ⟨_, rfl⟩
      obtain ⟨X, hX⟩ : ∃ X, X = S.getD (j + 1) [] := ⟨_, rfl⟩
      rw [← hY] at pY yY hrise
      rw [← hX] at pX yX hrise
      obtain ⟨G, hG⟩ : ∃ G, G = lexC Y X := ⟨_, rfl⟩
      have C3 : Hid (∀ u, Calls Try.prog 18 #[kv Y, kv X] u fun e w' => e = .returned (.int .i64 G) ∧ Below u.heap.size u w') := fun u => by rw [hG]; exact CC.out Y X yY yX u
      rw [← hG] at hrise
      have hd : decide (0 ≤ G) = false := decide_eq_false (by omega)
      have KY : Hid (Ky Y) := yY
      have KX : Hid (Ky X) := yX
      have AY : Hid (∀ u, Below wr.heap.size wr u → KeyAt u b' (o' + j * 16) Y) := fun u hb => pY.past hb
      have AX : Hid (∀ u, Below wr.heap.size wr u → KeyAt u b' (o' + (j + 1) * 16) X) := fun u hb => pX.past hb
      clear hY hX hG pY yY pX yX hbo
      go_wp2
      refine wp_region_noPanic ?_
      refine wp_region_held_drew (S := fun u => Below wr.heap.size wr u) (by kernel_rfl) ?_ (fun hHeld => ?_)
      · exact (Below.refl _ _).drew
      refine wpAnyH_take (i := 0) (v := ?_) rfl (by kernel_rfl) (by kernel_rfl) (by kernel_rfl) (fun _ _ _ h => h) (Or.inl ⟨by rfl, ?_⟩) hHeld ?_
      rotate_left
      · intro u hSu
        (go_simp) <;> (with_reducible rfl)
      change wpAnyH _ _ _ _ _ _ _ (Act.put _ (some 24) _) _
      simp only [Act.put, List.setIfInBounds_toArray, List.set_cons_zero, List.set_cons_succ]
      refine wpAnyH_take (i := 1) (v := ?_) rfl (by kernel_rfl) (by kernel_rfl) (by kernel_rfl) (fun _ _ _ h => h) (Or.inl ⟨by rfl, ?_⟩) hHeld ?_
      rotate_left
      · intro u hSu
        (go_simp) <;> (with_reducible rfl)
      change wpAnyH _ _ _ _ _ _ _ (Act.put _ (some 25) _) _
      simp only [Act.put, List.setIfInBounds_toArray, List.set_cons_zero, List.set_cons_succ]
      refine wpAnyH_take (i := 2) (v := ?_) rfl (by kernel_rfl) (by kernel_rfl) (by kernel_rfl) (fun _ _ _ h => h) (Or.inl ⟨by rfl, ?_⟩) hHeld ?_
      rotate_left
      · intro u hSu
        (go_simp) <;> (with_reducible rfl)
      change wpAnyH _ _ _ _ _ _ _ (Act.put _ (some 26) _) _
      simp only [Act.put, List.setIfInBounds_toArray, List.set_cons_zero, List.set_cons_succ]
      refine wpAnyH_take (i := 3) (v := ?_) rfl (by kernel_rfl) (by kernel_rfl) (by kernel_rfl) (fun _ _ _ h => h) (Or.inl ⟨by rfl, ?_⟩) hHeld ?_
      rotate_left
      · intro u hSu
        (go_simp) <;> (with_reducible rfl)
      change wpAnyH _ _ _ _ _ _ _ (Act.put _ (some 27) _) _
      simp only [Act.put, List.setIfInBounds_toArray, List.set_cons_zero, List.set_cons_succ]
      refine wpAnyH_take (i := 4) (v := kv Y) rfl (by kernel_rfl) (by kernel_rfl) (by kernel_rfl) (fun _ _ _ h => h) (yieldsIf_load_mid (by rfl) _ _ rfl _ _ rfl (Y.map (Value.int .u8)) _ (fun u hu => (AY.out u hu).range KY.out) Try.underlying24 rfl (info_keyl Y KY.out)) hHeld ?_
      change wpAnyH _ _ _ _ _ _ _ (Act.put _ (some 28) _) _
      simp only [Act.put, List.setIfInBounds_toArray, List.set_cons_zero, List.set_cons_succ]
      refine wpAnyH_take (i := 5) (v := ?_) rfl (by kernel_rfl) (by kernel_rfl) (by kernel_rfl) (fun _ _ _ h => h) (Or.inl ⟨by rfl, ?_⟩) hHeld ?_
      rotate_left
      · intro u hSu
        (go_simp) <;> (with_reducible rfl)
      change wpAnyH _ _ _ _ _ _ _ (Act.put _ (some 29) _) _
      simp only [Act.put, List.setIfInBounds_toArray, List.set_cons_zero, List.set_cons_succ]
      refine wpAnyH_take (i := 6) (v := ?_) rfl (by kernel_rfl) (by kernel_rfl) (by kernel_rfl) (fun _ _ _ h => h) (Or.inl ⟨by rfl, ?_⟩) hHeld ?_
      rotate_left
      · intro u hSu
        (go_simp) <;> (with_reducible rfl)
      change wpAnyH _ _ _ _ _ _ _ (Act.put _ (some 30) _) _
      simp only [Act.put, List.setIfInBounds_toArray, List.set_cons_zero, List.set_cons_succ]
      refine wpAnyH_take (i := 7) (v := ?_) rfl (by kernel_rfl) (by kernel_rfl) (by kernel_rfl) (fun _ _ _ h => h) (Or.inl ⟨by rfl, ?_⟩) hHeld ?_
      rotate_left
      · intro u hSu
        (go_simp) <;> (with_reducible rfl)
      change wpAnyH _ _ _ _ _ _ _ (Act.put _ (some 31) _) _
      simp only [Act.put, List.setIfInBounds_toArray, List.set_cons_zero, List.set_cons_succ]
      refine wpAnyH_take (i := 8) (v := kv X) rfl (by kernel_rfl) (by kernel_rfl) (by kernel_rfl) (fun _ _ _ h => h) (yieldsIf_load_mid (by rfl) _ _ rfl _ _ rfl (X.map (Value.int .u8)) _ (fun u hu => (AX.out u hu).range KX.out) Try.underlying24 rfl (info_keyl X KX.out)) hHeld ?_
      change wpAnyH _ _ _ _ _ _ _ (Act.put _ (some 32) _) _
      simp only [Act.put, List.setIfInBounds_toArray, List.set_cons_zero, List.set_cons_succ]
      refine wpAnyH_ready (rs := [9]) (by kernel_rfl) (by simp) ?_
      refine AllReadyH.cons rfl (fun K hK => ?_) AllReadyH.nil
      go_simp
      go_at_call 18
      refine (C3.out _).mono ?_
      rintro e v4 ⟨rfl, hbv4⟩
      have B4 : Hid (Below wr.heap.size wr v4) := hHeld.trans (hbv4.mono hHeld.size)
      clear hbv4
      refine hK.out _ _ ?_ (fun hHeld2 => ?_)
      · exact B4.out
      clear hK K hHeld
      have hHeld := hHeld2
      clear hHeld2
      refine wpAnyH_take (i := 10) (v := ?_) rfl (by kernel_rfl) (by kernel_rfl) (by kernel_rfl) (fun _ _ _ h => h) (Or.inl ⟨by rfl, ?_⟩) hHeld ?_
      rotate_left
      · intro u hSu
        (go_simp) <;> (with_reducible rfl)
      change wpAnyH _ _ _ _ _ _ _ (Act.put _ (some 34) _) _
      simp only [Act.put, List.setIfInBounds_toArray, List.set_cons_zero, List.set_cons_succ]
      refine wpAnyH_done (by kernel_rfl) ?_ _
      refine NoPanic.normal ?_
      go_wp2
      go_roundw
      case rel => exact ⟨j + 1, by go_num, by omega, HW.out.past B4.out⟩
      case measure => simp [intOf]; have := HJ.out; omega
    · have j1 : ¬ (j : Int) + 1 < (M : Int) := by omega
      clear hlt
      go_wp2
      go_loopw [7, 9] (fun av iv wr' => ∃ i : Nat, iv = .int .i64 i ∧ i ≤ len0 ∧ av = .bool (decide (z1 ∈ z0.take i)) ∧ Hid (Srt w wr' a0 z0 sa S z1)) (fun _ iv _ => len0 - (intOf iv).toNat)
      case atStart => exact ⟨0, rfl, Nat.zero_le _, by simp, HW⟩
      case round =>
        obtain ⟨i, rfl, hi, rfl, HW2⟩ := hrel
        have i0 : (0 : Int) ≤ (i : Int) := by omega
        have i2 : (i : Int) ≤ 40 := by omega
        by_cases hil : i < len0
        · have i1 : (i : Int) < (len0 : Int) := by omega
          have HI : Hid (i < len0) := hil
          have HN : Hid _ := mem_next z1 (l := z0) (i := i) (by rw [HL.out]; exact hil)
          by_cases hm : z1 ∈ z0.take i
          · rw [decide_eq_true hm] at HN ⊢
            clear hm
            go_wp2
            refine wp_region_noPanic ?_
            refine wp_region_held_drew (S := fun u => Below wr.heap.size wr u) (by kernel_rfl) ?_ (fun hHeld => ?_)
            · exact (Below.refl _ _).drew
            refine wpAnyH_take (i := 0) (v := ?_) rfl (by kernel_rfl) (by kernel_rfl) (by kernel_rfl) (fun _ _ _ h => h) (Or.inl ⟨by rfl, ?_⟩) hHeld ?_
            rotate_left
            · intro u hSu
              (go_simp) <;> (with_reducible rfl)
            change wpAnyH _ _ _ _ _ _ _ (Act.put _ (some 41) _) _
            simp only [Act.put, List.setIfInBounds_toArray, List.set_cons_zero, List.set_cons_succ]
            refine wpAnyH_take (i := 1) (v := ?_) rfl (by kernel_rfl) (by kernel_rfl) (by kernel_rfl) (fun _ _ _ h => h) (Or.inl ⟨by rfl, ?_⟩) hHeld ?_
            rotate_left
            · intro u hSu
              (go_simp) <;> (with_reducible rfl)
            change wpAnyH _ _ _ _ _ _ _ (Act.put _ (some 42) _) _
            simp only [Act.put, List.setIfInBounds_toArray, List.set_cons_zero, List.set_cons_succ]
            refine wpAnyH_take (i := 2) (v := undef) rfl (by kernel_rfl) (by kernel_rfl) (by kernel_rfl) (fun _ _ _ h => h) (Or.inr ⟨by rfl, rfl⟩) hHeld ?_
            change wpAnyH _ _ _ _ _ _ _ (Act.put _ (some 43) _) _
            simp only [Act.put, List.setIfInBounds_toArray, List.set_cons_zero, List.set_cons_succ]
            refine wpAnyH_take (i := 3) (v := undef) rfl (by kernel_rfl) (by kernel_rfl) (by kernel_rfl) (fun _ _ _ h => h) (Or.inr ⟨by rfl, rfl⟩) hHeld ?_
            change wpAnyH _ _ _ _ _ _ _ (Act.put _ (some 44) _) _
            simp only [Act.put, List.setIfInBounds_toArray, List.set_cons_zero, List.set_cons_succ]
            refine wpAnyH_take (i := 4) (v := undef) rfl (by kernel_rfl) (by kernel_rfl) (by kernel_rfl) (fun _ _ _ h => h) (Or.inr ⟨by rfl, rfl⟩) hHeld ?_
            change wpAnyH _ _ _ _ _ _ _ (Act.put _ (some 45) _) _
            simp only [Act.put, List.setIfInBounds_toArray, List.set_cons_zero, List.set_cons_succ]
            refine wpAnyH_take (i := 5) (v := undef) rfl (by kernel_rfl) (by kernel_rfl) (by kernel_rfl) (fun _ _ _ h => h) (Or.inr ⟨by rfl, rfl⟩) hHeld ?_
            change wpAnyH _ _ _ _ _ _ _ (Act.put _ (some 46) _) _
            simp only [Act.put, List.setIfInBounds_toArray, List.set_cons_zero, List.set_cons_succ]
            refine wpAnyH_take (i := 6) (v := undef) rfl (by kernel_rfl) (by kernel_rfl) (by kernel_rfl) (fun _ _ _ h => h) (Or.inr ⟨by rfl, rfl⟩) hHeld ?_
            change wpAnyH _ _ _ _ _ _ _ (Act.put _ (some 47) _) _
            simp only [Act.put, List.setIfInBounds_toArray, List.set_cons_zero, List.set_cons_succ]
            refine wpAnyH_take (i := 7) (v := undef) rfl (by kernel_rfl) (by kernel_rfl) (by kernel_rfl) (fun _ _ _ h => h) (Or.inr ⟨by rfl, rfl⟩) hHeld ?_
            change wpAnyH _ _ _ _ _ _ _ (Act.put _ (some 48) _) _
            simp only [Act.put, List.setIfInBounds_toArray, List.set_cons_zero, List.set_cons_succ]
            refine wpAnyH_take (i := 8) (v := ?_) rfl (by kernel_rfl) (by kernel_rfl) (by kernel_rfl) (fun _ _ _ h => h) (Or.inl ⟨by rfl, ?_⟩) hHeld ?_
            rotate_left
            · intro u hSu
              (go_simp) <;> (with_reducible rfl)
            change wpAnyH _ _ _ _ _ _ _ (Act.put _ (some 49) _) _
            simp only [Act.put, List.setIfInBounds_toArray, List.set_cons_zero, List.set_cons_succ]
            refine wpAnyH_take (i := 9) (v := ?_) rfl (by kernel_rfl) (by kernel_rfl) (by kernel_rfl) (fun _ _ _ h => h) (Or.inl ⟨by rfl, ?_⟩) hHeld ?_
            rotate_left
            · intro u hSu
              (go_simp) <;> (with_reducible rfl)
            change wpAnyH _ _ _ _ _ _ _ (Act.put _ (some 7) _) _
            simp only [Act.put, List.setIfInBounds_toArray, List.set_cons_zero, List.set_cons_succ]
            refine wpAnyH_done (by kernel_rfl) ?_ _
            refine NoPanic.normal ?_
            go_wp2
            go_roundw
            case rel => exact ⟨i + 1, by go_num, HI.out, by rw [HN.out, Bool.true_or], HW2.out.past hHeld⟩
            case measure => simp [intOf]; have := HI.out; omega
          · rw [decide_eq_false hm] at HN ⊢
            obtain ⟨b, o, rfl, pX, yX⟩ := HW2.out.src.key (i := i) (by rw [HL.out]; exact hil)
            obtain ⟨X, hX⟩ : ∃ X, X = z0.getD i [] := ⟨_, rfl⟩
            rw [← hX] at pX yX HN
            have KX : Hid (Ky X) := yX
            have AX : Hid (∀ u, Below wr.heap.size wr u → KeyAt u b (o + i * 16) X) := fun u hb => pX.past hb
            have AZ : Hid (∀ u, Below wr.heap.size wr u → KeyAt u w.heap.size 0 z1) := fun u hb => HW2.out.key.past hb
            have hq := fun u => eq_key u X z1 yX HZK.out
            obtain ⟨D, hD⟩ : ∃ D, D = decide (X = z1) := ⟨_, rfl⟩
            rw [← hD] at HN hq
            clear hm hX pX yX hD
            go_wp2
            refine wp_region_noPanic ?_
            refine wp_region_held_drew (S := fun u => Below wr.heap.size wr u) (by kernel_rfl) ?_ (fun hHeld => ?_)
            · exact (Below.refl _ _).drew
            refine wpAnyH_take (i := 0) (v := ?_) rfl (by kernel_rfl) (by kernel_rfl) (by kernel_rfl) (fun _ _ _ h => h) (Or.inl ⟨by rfl, ?_⟩) hHeld ?_
            rotate_left
            · intro u hSu
              (go_simp) <;> (with_reducible rfl)
            change wpAnyH _ _ _ _ _ _ _ (Act.put _ (some 41) _) _
            simp only [Act.put, List.setIfInBounds_toArray, List.set_cons_zero, List.set_cons_succ]
            refine wpAnyH_take (i := 1) (v := ?_) rfl (by kernel_rfl) (by kernel_rfl) (by kernel_rfl) (fun _ _ _ h => h) (Or.inl ⟨by rfl, ?_⟩) hHeld ?_
            rotate_left
            · intro u hSu
              (go_simp) <;> (with_reducible rfl)
            change wpAnyH _ _ _ _ _ _ _ (Act.put _ (some 42) _) _
            simp only [Act.put, List.setIfInBounds_toArray, List.set_cons_zero, List.set_cons_succ]
            refine wpAnyH_take (i := 2) (v := ?_) rfl (by kernel_rfl) (by kernel_rfl) (by kernel_rfl) (fun _ _ _ h => h) (Or.inl ⟨by rfl, ?_⟩) hHeld ?_
            rotate_left
            · intro u hSu
              (go_simp) <;> (with_reducible rfl)
            change wpAnyH _ _ _ _ _ _ _ (Act.put _ (some 43) _) _
            simp only [Act.put, List.setIfInBounds_toArray, List.set_cons_zero, List.set_cons_succ]
            refine wpAnyH_take (i := 3) (v := ?_) rfl (by kernel_rfl) (by kernel_rfl) (by kernel_rfl) (fun _ _ _ h => h) (Or.inl ⟨by rfl, ?_⟩) hHeld ?_
            rotate_left
            · intro u hSu
              (go_simp) <;> (with_reducible rfl)
            change wpAnyH _ _ _ _ _ _ _ (Act.put _ (some 44) _) _
            simp only [Act.put, List.setIfInBounds_toArray, List.set_cons_zero, List.set_cons_succ]
            refine wpAnyH_take (i := 4) (v := ?_) rfl (by kernel_rfl) (by kernel_rfl) (by kernel_rfl) (fun _ _ _ h => h) (Or.inl ⟨by rfl, ?_⟩) hHeld ?_
            rotate_left
            · intro u hSu
              (go_simp) <;> (with_reducible rfl)
            change wpAnyH _ _ _ _ _ _ _ (Act.put _ (some 45) _) _
            simp only [Act.put, List.setIfInBounds_toArray, List.set_cons_zero, List.set_cons_succ]
            refine wpAnyH_take (i := 5) (v := kv X) rfl (by kernel_rfl) (by kernel_rfl) (by kernel_rfl) (fun _ _ _ h => h) (yieldsIf_load_mid (by rfl) _ _ rfl _ _ rfl (X.map (Value.int .u8)) _ (fun u hu => (AX.out u hu).range KX.out) Try.underlying24 rfl (info_keyl X KX.out)) hHeld ?_
            change wpAnyH _ _ _ _ _ _ _ (Act.put _ (some 46) _) _
            simp only [Act.put, List.setIfInBounds_toArray, List.set_cons_zero, List.set_cons_succ]
            refine wpAnyH_take (i := 6) (v := kv z1) rfl (by kernel_rfl) (by kernel_rfl) (by kernel_rfl) (fun _ _ _ h => h) (yieldsIf_load_mid (by rfl) _ _ rfl _ _ rfl (z1.map (Value.int .u8)) _ (fun u hu => (AZ.out u hu).range HZK.out) Try.underlying24 rfl (info_keyl z1 HZK.out)) hHeld ?_
            change wpAnyH _ _ _ _ _ _ _ (Act.put _ (some 47) _) _
            simp only [Act.put, List.setIfInBounds_toArray, List.set_cons_zero, List.set_cons_succ]
            refine wpAnyH_take (i := 7) (v := ?_) rfl (by kernel_rfl) (by kernel_rfl) (by kernel_rfl) (fun _ _ _ h => h) (Or.inl ⟨by rfl, ?_⟩) hHeld ?_
            rotate_left
            · intro u hSu
              (go_simp) <;> (with_reducible rfl)
            change wpAnyH _ _ _ _ _ _ _ (Act.put _ (some 48) _) _
            simp only [Act.put, List.setIfInBounds_toArray, List.set_cons_zero, List.set_cons_succ]
            refine wpAnyH_take (i := 8) (v := ?_) rfl (by kernel_rfl) (by kernel_rfl) (by kernel_rfl) (fun _ _ _ h => h) (Or.inl ⟨by rfl, ?_⟩) hHeld ?_
            rotate_left
            · intro u hSu
              (go_simp) <;> (with_reducible rfl)
            change wpAnyH _ _ _ _ _ _ _ (Act.put _ (some 49) _) _
            simp only [Act.put, List.setIfInBounds_toArray, List.set_cons_zero, List.set_cons_succ]
            refine wpAnyH_take (i := 9) (v := ?_) rfl (by kernel_rfl) (by kernel_rfl) (by kernel_rfl) (fun _ _ _ h => h) (Or.inl ⟨by rfl, ?_⟩) hHeld ?_
            rotate_left
            · intro u hSu
              (go_simp) <;> (with_reducible rfl)
            change wpAnyH _ _ _ _ _ _ _ (Act.put _ (some 7) _) _
            simp only [Act.put, List.setIfInBounds_toArray, List.set_cons_zero, List.set_cons_succ]
            refine wpAnyH_done (by kernel_rfl) ?_ _
            refine NoPanic.normal ?_
            go_wp2
            go_roundw
            case rel => exact ⟨i + 1, by go_num, HI.out, by rw [HN.out, Bool.false_or], HW2.out.past hHeld⟩
            case measure => simp [intOf]; have := HI.out; omega
        · obtain rfl : i = len0 := by omega
          have i3 : ¬ (i : Int) < (i : Int) := by omega
          have HE1 : Hid (z0.take i = z0) := List.take_of_length_le (by rw [HL.out]; exact Nat.le_refl _)
          rw [HE1.out]
          obtain ⟨P, hP⟩ : ∃ P, P = decide (z1 ∈ z0) := ⟨_, rfl⟩
          rw [← hP]
          rw [← hP] at HME
          clear hP hil
          go_wp2
          go_loopw [8, 10] (fun av iv wr' => ∃ k : Nat, iv = .int .i64 k ∧ k ≤ M ∧ av = .bool (decide (z1 ∈ S.take k)) ∧ Hid (Srt w wr' a0 z0 sa S z1)) (fun _ iv _ => M - (intOf iv).toNat)
          case atStart => exact ⟨0, rfl, Nat.zero_le _, by simp, HW2⟩
          case round =>
            obtain ⟨k, rfl, hk, rfl, HW3⟩ := hrel
            have k0 : (0 : Int) ≤ (k : Int) := by omega
            have k2 : (k : Int) ≤ 40 := by omega
            by_cases hkl : k < M
            · have k1 : (k : Int) < (M : Int) := by omega
              have HK : Hid (k < M) := hkl
              have HN : Hid _ := mem_next z1 (l := S) (i := k) (by rw [HM.out]; exact hkl)
              by_cases hm : z1 ∈ S.take k
              · rw [decide_eq_true hm] at HN ⊢
                clear hm
                go_wp2
                refine wp_region_noPanic ?_
                refine wp_region_held_drew (S := fun u => Below wr.heap.size wr u) (by kernel_rfl) ?_ (fun hHeld => ?_)
                · exact (Below.refl _ _).drew
                refine wpAnyH_take (i := 0) (v := ?_) rfl (by kernel_rfl) (by kernel_rfl) (by kernel_rfl) (fun _ _ _ h => h) (Or.inl ⟨by rfl, ?_⟩) hHeld ?_
                rotate_left
                · intro u hSu
                  (go_simp) <;> (with_reducible rfl)
                change wpAnyH _ _ _ _ _ _ _ (Act.put _ (some 56) _) _
                simp only [Act.put, List.setIfInBounds_toArray, List.set_cons_zero, List.set_cons_succ]
                refine wpAnyH_take (i := 1) (v := ?_) rfl (by kernel_rfl) (by kernel_rfl) (by kernel_rfl) (fun _ _ _ h => h) (Or.inl ⟨by rfl, ?_⟩) hHeld ?_
                rotate_left
                · intro u hSu
                  (go_simp) <;> (with_reducible rfl)
                change wpAnyH _ _ _ _ _ _ _ (Act.put _ (some 57) _) _
                simp only [Act.put, List.setIfInBounds_toArray, List.set_cons_zero, List.set_cons_succ]
                refine wpAnyH_take (i := 2) (v := undef) rfl (by kernel_rfl) (by kernel_rfl) (by kernel_rfl) (fun _ _ _ h => h) (Or.inr ⟨by rfl, rfl⟩) hHeld ?_
                change wpAnyH _ _ _ _ _ _ _ (Act.put _ (some 58) _) _
                simp only [Act.put, List.setIfInBounds_toArray, List.set_cons_zero, List.set_cons_succ]
                refine wpAnyH_take (i := 3) (v := undef) rfl (by kernel_rfl) (by kernel_rfl) (by kernel_rfl) (fun _ _ _ h => h) (Or.inr ⟨by rfl, rfl⟩) hHeld ?_
                change wpAnyH _ _ _ _ _ _ _ (Act.put _ (some 59) _) _
                simp only [Act.put, List.setIfInBounds_toArray, List.set_cons_zero, List.set_cons_succ]
                refine wpAnyH_take (i := 4) (v := undef) rfl (by kernel_rfl) (by kernel_rfl) (by kernel_rfl) (fun _ _ _ h => h) (Or.inr ⟨by rfl, rfl⟩) hHeld ?_
                change wpAnyH _ _ _ _ _ _ _ (Act.put _ (some 60) _) _
                simp only [Act.put, List.setIfInBounds_toArray, List.set_cons_zero, List.set_cons_succ]
                refine wpAnyH_take (i := 5) (v := undef) rfl (by kernel_rfl) (by kernel_rfl) (by kernel_rfl) (fun _ _ _ h => h) (Or.inr ⟨by rfl, rfl⟩) hHeld ?_
                change wpAnyH _ _ _ _ _ _ _ (Act.put _ (some 61) _) _
                simp only [Act.put, List.setIfInBounds_toArray, List.set_cons_zero, List.set_cons_succ]
                refine wpAnyH_take (i := 6) (v := undef) rfl (by kernel_rfl) (by kernel_rfl) (by kernel_rfl) (fun _ _ _ h => h) (Or.inr ⟨by rfl, rfl⟩) hHeld ?_
                change wpAnyH _ _ _ _ _ _ _ (Act.put _ (some 62) _) _
                simp only [Act.put, List.setIfInBounds_toArray, List.set_cons_zero, List.set_cons_succ]
                refine wpAnyH_take (i := 7) (v := undef) rfl (by kernel_rfl) (by kernel_rfl) (by kernel_rfl) (fun _ _ _ h => h) (Or.inr ⟨by rfl, rfl⟩) hHeld ?_
                change wpAnyH _ _ _ _ _ _ _ (Act.put _ (some 63) _) _
                simp only [Act.put, List.setIfInBounds_toArray, List.set_cons_zero, List.set_cons_succ]
                refine wpAnyH_take (i := 8) (v := ?_) rfl (by kernel_rfl) (by kernel_rfl) (by kernel_rfl) (fun _ _ _ h => h) (Or.inl ⟨by rfl, ?_⟩) hHeld ?_
                rotate_left
                · intro u hSu
                  (go_simp) <;> (with_reducible rfl)
                change wpAnyH _ _ _ _ _ _ _ (Act.put _ (some 64) _) _
                simp only [Act.put, List.setIfInBounds_toArray, List.set_cons_zero, List.set_cons_succ]
                refine wpAnyH_take (i := 9) (v := ?_) rfl (by kernel_rfl) (by kernel_rfl) (by kernel_rfl) (fun _ _ _ h => h) (Or.inl ⟨by rfl, ?_⟩) hHeld ?_
                rotate_left
                · intro u hSu
                  (go_simp) <;> (with_reducible rfl)
                change wpAnyH _ _ _ _ _ _ _ (Act.put _ (some 8) _) _
                simp only [Act.put, List.setIfInBounds_toArray, List.set_cons_zero, List.set_cons_succ]
                refine wpAnyH_done (by kernel_rfl) ?_ _
                refine NoPanic.normal ?_
                go_wp2
                go_roundw
                case rel => exact ⟨k + 1, by go_num, HK.out, by rw [HN.out, Bool.true_or], HW3.out.past hHeld⟩
                case measure => simp [intOf]; have := HK.out; omega
              · rw [decide_eq_false hm] at HN ⊢
                obtain ⟨b, o, rfl, pX, yX⟩ := HW3.out.srt.key (i := k) (by rw [HM.out]; exact hkl)
                obtain ⟨X, hX⟩ : ∃ X, X = S.getD k [] := ⟨_, rfl⟩
                rw [← hX] at pX yX HN
                have KX : Hid (Ky X) := yX
                have AX : Hid (∀ u, Below wr.heap.size wr u → KeyAt u b (o + k * 16) X) := fun u hb => pX.past hb
                have AZ : Hid (∀ u, Below wr.heap.size wr u → KeyAt u w.heap.size 0 z1) := fun u hb => HW3.out.key.past hb
                have hq := fun u => eq_key u X z1 yX HZK.out
                obtain ⟨D, hD⟩ : ∃ D, D = decide (X = z1) := ⟨_, rfl⟩
                rw [← hD] at HN hq
                clear hm hX pX yX hD
                go_wp2
                refine wp_region_noPanic ?_
                refine wp_region_held_drew (S := fun u => Below wr.heap.size wr u) (by kernel_rfl) ?_ (fun hHeld => ?_)
                · exact (Below.refl _ _).drew
                refine wpAnyH_take (i := 0) (v := ?_) rfl (by kernel_rfl) (by kernel_rfl) (by kernel_rfl) (fun _ _ _ h => h) (Or.inl ⟨by rfl, ?_⟩) hHeld ?_
                rotate_left
                · intro u hSu
                  (go_simp) <;> (with_reducible rfl)
                change wpAnyH _ _ _ _ _ _ _ (Act.put _ (some 56) _) _
                simp only [Act.put, List.setIfInBounds_toArray, List.set_cons_zero, List.set_cons_succ]
                refine wpAnyH_take (i := 1) (v := ?_) rfl (by kernel_rfl) (by kernel_rfl) (by kernel_rfl) (fun _ _ _ h => h) (Or.inl ⟨by rfl, ?_⟩) hHeld ?_
                rotate_left
                · intro u hSu
                  (go_simp) <;> (with_reducible rfl)
                change wpAnyH _ _ _ _ _ _ _ (Act.put _ (some 57) _) _
                simp only [Act.put, List.setIfInBounds_toArray, List.set_cons_zero, List.set_cons_succ]
                refine wpAnyH_take (i := 2) (v := ?_) rfl (by kernel_rfl) (by kernel_rfl) (by kernel_rfl) (fun _ _ _ h => h) (Or.inl ⟨by rfl, ?_⟩) hHeld ?_
                rotate_left
                · intro u hSu
                  (go_simp) <;> (with_reducible rfl)
                change wpAnyH _ _ _ _ _ _ _ (Act.put _ (some 58) _) _
                simp only [Act.put, List.setIfInBounds_toArray, List.set_cons_zero, List.set_cons_succ]
                refine wpAnyH_take (i := 3) (v := ?_) rfl (by kernel_rfl) (by kernel_rfl) (by kernel_rfl) (fun _ _ _ h => h) (Or.inl ⟨by rfl, ?_⟩) hHeld ?_
                rotate_left
                · intro u hSu
                  (go_simp) <;> (with_reducible rfl)
                change wpAnyH _ _ _ _ _ _ _ (Act.put _ (some 59) _) _
                simp only [Act.put, List.setIfInBounds_toArray, List.set_cons_zero, List.set_cons_succ]
                refine wpAnyH_take (i := 4) (v := ?_) rfl (by kernel_rfl) (by kernel_rfl) (by kernel_rfl) (fun _ _ _ h => h) (Or.inl ⟨by rfl, ?_⟩) hHeld ?_
                rotate_left
                · intro u hSu
                  (go_simp) <;> (with_reducible rfl)
                change wpAnyH _ _ _ _ _ _ _ (Act.put _ (some 60) _) _
                simp only [Act.put, List.setIfInBounds_toArray, List.set_cons_zero, List.set_cons_succ]
                refine wpAnyH_take (i := 5) (v := kv X) rfl (by kernel_rfl) (by kernel_rfl) (by kernel_rfl) (fun _ _ _ h => h) (yieldsIf_load_mid (by rfl) _ _ rfl _ _ rfl (X.map (Value.int .u8)) _ (fun u hu => (AX.out u hu).range KX.out) Try.underlying24 rfl (info_keyl X KX.out)) hHeld ?_
                change wpAnyH _ _ _ _ _ _ _ (Act.put _ (some 61) _) _
                simp only [Act.put, List.setIfInBounds_toArray, List.set_cons_zero, List.set_cons_succ]
                refine wpAnyH_take (i := 6) (v := kv z1) rfl (by kernel_rfl) (by kernel_rfl) (by kernel_rfl) (fun _ _ _ h => h) (yieldsIf_load_mid (by rfl) _ _ rfl _ _ rfl (z1.map (Value.int .u8)) _ (fun u hu => (AZ.out u hu).range HZK.out) Try.underlying24 rfl (info_keyl z1 HZK.out)) hHeld ?_
                change wpAnyH _ _ _ _ _ _ _ (Act.put _ (some 62) _) _
                simp only [Act.put, List.setIfInBounds_toArray, List.set_cons_zero, List.set_cons_succ]
                refine wpAnyH_take (i := 7) (v := ?_) rfl (by kernel_rfl) (by kernel_rfl) (by kernel_rfl) (fun _ _ _ h => h) (Or.inl ⟨by rfl, ?_⟩) hHeld ?_
                rotate_left
                · intro u hSu
                  (go_simp) <;> (with_reducible rfl)
                change wpAnyH _ _ _ _ _ _ _ (Act.put _ (some 63) _) _
                simp only [Act.put, List.setIfInBounds_toArray, List.set_cons_zero, List.set_cons_succ]
                refine wpAnyH_take (i := 8) (v := ?_) rfl (by kernel_rfl) (by kernel_rfl) (by kernel_rfl) (fun _ _ _ h => h) (Or.inl ⟨by rfl, ?_⟩) hHeld ?_
                rotate_left
                · intro u hSu
                  (go_simp) <;> (with_reducible rfl)
                change wpAnyH _ _ _ _ _ _ _ (Act.put _ (some 64) _) _
                simp only [Act.put, List.setIfInBounds_toArray, List.set_cons_zero, List.set_cons_succ]
                refine wpAnyH_take (i := 9) (v := ?_) rfl (by kernel_rfl) (by kernel_rfl) (by kernel_rfl) (fun _ _ _ h => h) (Or.inl ⟨by rfl, ?_⟩) hHeld ?_
                rotate_left
                · intro u hSu
                  (go_simp) <;> (with_reducible rfl)
                change wpAnyH _ _ _ _ _ _ _ (Act.put _ (some 8) _) _
                simp only [Act.put, List.setIfInBounds_toArray, List.set_cons_zero, List.set_cons_succ]
                refine wpAnyH_done (by kernel_rfl) ?_ _
                refine NoPanic.normal ?_
                go_wp2
                go_roundw
                case rel => exact ⟨k + 1, by go_num, HK.out, by rw [HN.out, Bool.false_or], HW3.out.past hHeld⟩
                case measure => simp [intOf]; have := HK.out; omega
            · obtain rfl : k = M := by omega
              have k3 : ¬ (k : Int) < (k : Int) := by omega
              have HE2 : Hid (S.take k = S) := List.take_of_length_le (by rw [HM.out]; exact Nat.le_refl _)
              rw [HE2.out, HME.out]
              have hb1 : (P == P) = true := by simp
              have hb2 : (k : Int) ≤ (i : Int) := by omega
              have hcs' : k ≤ cs := hcs
              clear hkl
              go_wp2_with (first
                | (go_at_call 11; refine (C2.out _ _ _ HW3.out.srt hcs').mono ?_; rintro e v6 ⟨⟨at6, c6, rfl, hk6, -⟩, hb6⟩; have K6 : Hid (KeysAt v6 at6 S) := hk6; have H6 : Hid (Srt w v6 a0 z0 sa S z1) := HW3.out.past hb6; clear hk6 hb6)
                | (go_at_call 23; refine (CK.out _ _ _ _ _ K6.out H6.out.srt).mono ?_; rintro e v7 ⟨rfl, hb7⟩; have H7 : Hid (Srt w v7 a0 z0 sa S z1) := H6.out.past hb7; clear hb7))
              go_ret
              exact ⟨rfl, H7.out.below⟩

set_option maxRecDepth 100000 in
theorem lifted (os : Os) (started : os.Started) (H : Type) (enc : TypeId × Value → H) :
    ReturnsInHanded {} Try.checked os 7 .any (Rows.keySortsSpec.pre6 enc Try.prog Try.f7 Rows.keySortsRow.domain false) (Rows.keySortsSpec.post enc Try.prog Try.f7 false true false false) := by
  refine returnsInHanded_of_change (C := Try.checked) own started (by kernel_rfl) Try.func7
    (ChangeSpec.witness6 (enc := enc) (C := Try.checked) false ⟨#[], #[.slice none 0 0, .agg #[.int .u8 0, .int .u8 0, .int .u8 0, .int .u8 0, .int .u8 0, .int .u8 0, .int .u8 0, .int .u8 0, .int .u8 0, .int .u8 0, .int .u8 0, .int .u8 0, .int .u8 0, .int .u8 0, .int .u8 0, .int .u8 0]], []⟩ 8 (by kernel_rfl) (by kernel_rfl) (by kernel_rfl) (by kernel_rfl)) ?_
  intro W base args ds gs before hval0 hW hcnd _
  have hval : ∀ (j : Nat) t v, Try.f7.params[j]? = some t → args[j]? = some v → Value.okWide Try.prog W .any base t v := hval0
  have hW' := hW
  obtain ⟨p, q, hA0, hV, rfl, hfz, hnd⟩ := hW
  have hA : DataW.TrodAll enc Try.prog W 0 (fun _ => true) true Try.f7.params.toList args.toList ds p := hA0
  rw [Try.params7] at hA hval
  obtain ⟨v0, vs0, d0, ds0, p0, q0, hargs, rfl, rfl, h0, r0⟩ := trodAll_cons hA
  obtain ⟨v1, vs1, d1, ds1, p1, q1, rfl, rfl, rfl, h1, r1⟩ := trodAll_cons r0
  obtain ⟨rfl, rfl, rfl⟩ := trodAll_nil r1
  obtain rfl : args = #[v0, v1] := by cases args; simp_all
  obtain ⟨rfl, rfl⟩ := trodVars_none hV
  obtain ⟨a0, len0, cap0, rfl⟩ := okWide_slice Try.underlying28 (hval 0 28 v0 rfl rfl)
  have k0 := h0
  have lt0 : ∀ x ∈ p0, x.block < W.heap.size := by obtain ⟨m, hm⟩ := k0; exact DataW.trod_lt m _ _ _ hm
  obtain ⟨z0, l0, w0, rm0⟩ : ∃ ls : List (List Int), ls.length = len0 ∧ KeysAt W a0 ls ∧ len0 ≤ cap0 := by
    obtain ⟨fuel, hf⟩ := h0
    exact keys_open Try.underlying28 Try.underlying24 Try.underlying5 (by kernel_rfl) (by kernel_rfl) hf
  have k1 := h1
  have lt1 : ∀ x ∈ p1, x.block < W.heap.size := by obtain ⟨m, hm⟩ := k1; exact DataW.trod_lt m _ _ _ hm
  obtain ⟨z1, rfl, w1⟩ := arr_open Try.underlying24 Try.underlying5 (by kernel_rfl) (by kernel_rfl) (hval 1 24 v1 rfl rfl) h1
  clear hA0 hval0
  refine (walk a0 len0 cap0 z0 z1 W l0 w0 rm0 w1).mono fun e W' ⟨he, bel⟩ => ?_
  subst he
  exact ⟨_, rfl, _, _, _, [], _, [], hW', trodAll_mk1 (shut_bool Try.underlying4 _), (trodAll_cons_mk (Below.trod laidOut (by kernel_rfl) (of_decide_eq_true (by kernel_rfl)) k0 bel lt0) (trodAll_cons_mk (Below.trod laidOut (by kernel_rfl) (of_decide_eq_true (by kernel_rfl)) k1 bel lt1) trodAll_mk0)), rfl, bel.frame _, fun h => by cases h⟩

theorem over : Rows.keySortsRow.holds Try.pinned (OpenSpec.ofChange Rows.keySortsSpec) :=
  OpenClaim.holds_of_wide 7 Try.f7 rfl rfl rfl rfl rfl rfl rfl ⟨rfl, rfl, rfl, rfl, rfl⟩ rfl rfl rfl rfl rfl (by kernel_rfl) Try.func7 (by kernel_rfl)
    (of_decide_eq_true (by kernel_rfl)) (by unfold Func.isWrapper; first | (rw [if_pos (by decide +kernel)]; kernel_rfl) | (rw [if_neg (by decide +kernel)]; exact ⟨rfl, rfl⟩))
    (fun os started H enc _ => lifted os started H enc)
theorem proved : Rows.KeySortsSaid := over
#print axioms proved
end Go.Proofs.Ytfgbgcaackhcmaa.keySorts
namespace Go.Proofs.Ytfgbgcaackhcmaa
/-- KeySorts, as given. -/
theorem keySorts_holds : Rows.KeySortsSaid := keySorts.proved
end Go.Proofs.Ytfgbgcaackhcmaa
