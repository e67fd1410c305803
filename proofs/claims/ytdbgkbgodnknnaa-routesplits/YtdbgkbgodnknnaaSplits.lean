/-
  RouteSplits: the nodes' writes are all of the writes, each its own node's, in their order (of points that may not be, of more than 20 writes, of values of more than 250 bytes the statement asks nothing).
-/
import Derived.Test.YtdbgkbgodnknnaaRows
import Derived.Test.YtdbgkbgodnknnaaRouL2
import Derived.Test.YtdbgkbgodnknnaaKeysOpen
import Derived.Test.YtdbgkbgodnknnaaSActs
import Derived.WalkKit
import Derived.ProofKit
import Derived.OpenShut
import Derived.ShutString
import Derived.ChangeOld
import Derived.Below
import Derived.Carry
namespace Go.Proofs.Ytdbgkbgodnknnaa.routeSplits
open Go.ChangeShapes Go.WideShapes Go.ChangeAt Go.RowKit
open Go.ChangeMaps (open_string shut_string)
set_option linter.unusedVariables false

theorem own : ownKnob Try.prog.godebug = none := by kernel_rfl
theorem laidOut : laidOutB Try.prog = true := by kernel_rfl
/-- A slice of integers that came in: nil, or a row of 'cap' cells, of which the first 'len' are its elements. -/
def IsRow (k : IntKind) (w : World) (a : Option Addr) (len cap : Nat) (zs : List Int) : Prop :=
  (a = none ∧ len = 0 ∧ cap = 0 ∧ zs = []) ∨
  ∃ x, a = some x ∧ len ≤ cap ∧ cap ≤ maxLen ∧ zs.length = cap ∧ (∀ i, i < zs.length → w.cell? (x.add i) = some (.int k (zs.getD i 0))) ∧ ∀ n ∈ zs, (Lit.int k n).wf = true

set_option maxHeartbeats 16000000 in
set_option maxRecDepth 8000 in
theorem walk (a0 : Option Addr) (len0 cap0 : Nat) (z0 : List (List Int)) (a1 : Option Addr) (len1 cap1 : Nat) (z1 : List Wrt) (w : World) (l0 : z0.length = len0) (w0 : KeysAt w a0 z0) (r0 : len0 ≤ cap0) (n0 : a0 = none → cap0 = 0) (l1 : z1.length = len1) (w1 : WrtsOf w a1 cap1 z1) :
    Calls Try.prog 6 #[.slice a0 len0 cap0, .slice a1 len1 cap1] w fun e w' => e = .returned (.bool true) ∧ Below w.heap.size w w' := by
  have AW : Hid (∀ u, Calls Try.prog 7 #[] u fun e w' => e = .returned (.bool true) ∧ Below u.heap.size u w') := fun u => rawake_any u
  have HN : Hid (z0.length = len0) := l0
  have HM : Hid (z1.length = len1) := l1
  have HA : Hid (WrtsAt w a1 z1) := w1.at_
  have CN : Hid (∀ u, Below w.heap.size w u → Calls Try.prog 8 #[.slice a0 len0 cap0] u fun e w' => NewRt z0 e w' ∧ Below u.heap.size u w') := fun u hu => ronew_any a0 cap0 len0 z0 u l0 r0 (w0.past hu) n0
  have hM9 : len1 ≤ 9223372036854775807 := by rw [← l1]; exact w1.few
  have hMc : len1 ≤ cap1 := by rw [← l1]; exact w1.room
  obtain ⟨lg, hlg⟩ : ∃ x, x = longQ z1 := ⟨_, rfl⟩
  have CL : Hid (∀ u, Below w.heap.size w u → Calls Try.prog 15 #[.slice a1 len1 cap1] u fun e w' => e = .returned (.bool lg) ∧ w' = u) := fun u hu => by rw [hlg]; exact rlong17_any a1 len1 cap1 z1 u HM.out hMc hM9 (HA.out.past hu)
  have HLG : Hid (lg = longQ z1) := hlg
  clear l0 w0 n0 l1 w1 r0 hlg
  by_cases h7 : 7 < len0
  · have d7 : decide (7 < len0) = true := decide_eq_true h7
    have d7' : decide ((7 : Int) < (len0 : Int)) = true := decide_eq_true (by omega)
    go_enter Try.func6, Try.ntmps6
    go_wp2_with (go_at_call 7; refine (AW.out _).mono ?_; rintro e v1 ⟨rfl, hb⟩; have B1 : Hid (Below w.heap.size w v1) := hb; clear hb)
    go_ret
    exact ⟨rfl, B1.out⟩
  have d7' : decide ((7 : Int) < (len0 : Int)) = false := decide_eq_false (by omega)
  cases lg with
  | true =>
    go_enter Try.func6, Try.ntmps6
    go_wp2_with (first
      | (go_at_call 15; refine (CL.out _ B1.out).mono ?_; rintro e v2 ⟨rfl, hw⟩; obtain rfl := hw.symm; clear hw)
      | (go_at_call 7; refine (AW.out _).mono ?_; rintro e v1 ⟨rfl, hb⟩; have B1 : Hid (Below w.heap.size w v1) := hb; clear hb))
    go_ret
    exact ⟨rfl, B1.out⟩
  | false =>
  have hM20 : len1 ≤ 20 := by rw [← HM.out]; exact longQ_few HLG.out.symm
  cases hmay : mayR z0 with
  | false =>
    have CN2 : Hid (∀ u, Below w.heap.size w u → Calls Try.prog 8 #[.slice a0 len0 cap0] u fun e w' => e = .returned (.tuple #[.pointer none, .int .i64 1]) ∧ Below u.heap.size u w') := fun u hu => (CN.out u hu).mono fun e w' ⟨h1, h2⟩ => ⟨h1.no hmay, h2⟩
    clear CN hmay
    go_enter Try.func6, Try.ntmps6
    go_wp2_with (first
      | (go_at_call 8; refine (CN2.out _ B1.out).mono ?_; rintro e v3 ⟨rfl, hb⟩; have B3 : Hid (Below w.heap.size w v3) := B1.out.trans (hb.mono B1.out.size); clear hb)
      | (go_at_call 15; refine (CL.out _ B1.out).mono ?_; rintro e v2 ⟨rfl, hw⟩; obtain rfl := hw.symm; clear hw)
      | (go_at_call 7; refine (AW.out _).mono ?_; rintro e v1 ⟨rfl, hb⟩; have B1 : Hid (Below w.heap.size w v1) := hb; clear hb))
    go_ret
    exact ⟨rfl, B3.out⟩
  | true =>
  have CN2 : Hid (∀ u, Below w.heap.size w u → Calls Try.prog 8 #[.slice a0 len0 cap0] u fun e w' => (∃ q, e = .returned (.tuple #[.pointer (some ⟨q, 0, none⟩), .int .i64 0]) ∧ RtAt w' q z0) ∧ Below u.heap.size u w') := fun u hu => (CN.out u hu).mono fun e w' ⟨h1, h2⟩ => ⟨h1.yes hmay, h2⟩
  have CSP : Hid (∀ q u, RtAt u q z0 → Below w.heap.size w u → Calls Try.prog 10 #[.pointer (some ⟨q, 0, none⟩), .slice a1 len1 cap1] u fun e w' => ∃ g, e = .returned (.slice (some ⟨g, 0, none⟩) (len0 + 1) (len0 + 1)) ∧ SpAt w' g (splitR z0 z1) ∧ Below u.heap.size u w') := fun q u h hu => by
    have := rosplit_any a1 len1 cap1 z1 u h (by rw [HN.out]; omega) HM.out hMc (by omega) (HA.out.past hu)
    rw [HN.out] at this
    exact this
  have COF : Hid (∀ (q : Nat) (W : Wrt), Ky W.k → ∀ u, RtAt u q z0 → Calls Try.prog 11 #[.pointer (some ⟨q, 0, none⟩), kv W.k] u fun e w' => e = .returned (.int .i64 (ofR z0 W.k)) ∧ Below u.heap.size u w') := fun q W hW u h => roof_any W.k hW u h (by rw [HN.out]; omega)
  have hmk := run_make_intsR len0 (by omega)
  clear CN hmay HLG
  go_enter Try.func6, Try.ntmps6
  go_wp2_with (first
    | (have hgo := R3.out; clear hgo; go_at_call 10; refine (CSP.out q _ R3.out B3.out).mono ?_; rintro e v4 ⟨g, rfl, hs, hb⟩; have S4 : Hid (SpAt v4 g (splitR z0 z1)) := hs; have R4 : Hid (RtAt v4 q z0) := R3.out.past hb; have B4 : Hid (Below w.heap.size w v4) := B3.out.trans (hb.mono B3.out.size); clear hs hb)
    | (go_at_call 8; refine (CN2.out _ B1.out).mono ?_; rintro e v3 ⟨⟨q, rfl, hr⟩, hb⟩; have R3 : Hid (RtAt v3 q z0) := hr; have B3 : Hid (Below w.heap.size w v3) := B1.out.trans (hb.mono B1.out.size); clear hr hb)
    | (go_at_call 15; refine (CL.out _ B1.out).mono ?_; rintro e v2 ⟨rfl, hw⟩; obtain rfl := hw.symm; clear hw)
    | (go_at_call 7; refine (AW.out _).mono ?_; rintro e v1 ⟨rfl, hb⟩; have B1 : Hid (Below w.heap.size w v1) := hb; clear hb))
  have HC0 : Hid (CntR (v4.alloc (.cells (madeCells #[Value.int .i64 0] (len0 + 1)) 3)) v4.heap.size z0 (z1.take 0)) := by rw [← HN.out]; exact CntR.made v4 z0 z1
  have HBA : Hid (Below v4.heap.size v4 (v4.alloc (.cells (madeCells #[Value.int .i64 0] (len0 + 1)) 3))) := (Below.refl _ _).alloc (Nat.le_refl _) _
  have HA4 : Hid (WrtsAt v4 a1 z1) := HA.out.past B4.out
  obtain ⟨h, hh⟩ : ∃ x, x = v4.heap.size := ⟨_, rfl⟩
  have HH : Hid (h = v4.heap.size) := hh
  rw [← hh] at HC0
  simp only [← hh]
  clear hh hmk CN2 CSP CL AW R3 B3 B1 HA
  go_loopw [9] (fun iv wr => ∃ i : Nat, iv = .int .i64 i ∧ i ≤ len1 ∧ Hid (Below v4.heap.size v4 wr) ∧ Hid (CntR wr h z0 (z1.take i))) (fun iv _ => len1 - (intOf iv).toNat)
  case atStart => exact ⟨0, rfl, Nat.zero_le _, HBA.out, HC0.out⟩
  case round =>
    obtain ⟨i, rfl, hi, HBR, HCR⟩ := hrel
    have hi0 : (0 : Int) ≤ (i : Int) := by omega
    by_cases hlt : i < len1
    · have h1 : (i : Int) < (len1 : Int) := by omega
      obtain ⟨W, hW⟩ : ∃ W, z1[i]? = some W := ⟨_, List.getElem?_eq_getElem (by rw [HM.out]; exact hlt)⟩
      obtain ⟨b, o, hao, hwa, hwo⟩ := HA4.out.wrt hW
      subst hao
      have HW : Hid (z1[i]? = some W) := hW
      have FW : Hid (∀ u, Below v4.heap.size v4 u → WrtAt u b (o + i * 18) W) := fun u hu => hwa.past hu
      have KW : Hid (Ky W.k) := hwo.key
      have OK : Hid (WrtOk W) := hwo
      obtain ⟨m, hm⟩ : ∃ x, x = ofR z0 W.k := ⟨_, rfl⟩
      have HMM : Hid (m = ofR z0 W.k) := hm
      have hr := ofR_range z0 W.k
      rw [← hm, HN.out] at hr
      obtain ⟨hr1, hr2⟩ := hr
      have CO1 : Hid (∀ u, RtAt u q z0 → Calls Try.prog 11 #[.pointer (some ⟨q, 0, none⟩), kv W.k] u fun e w' => e = .returned (.int .i64 m) ∧ Below u.heap.size u w') := by rw [hm]; exact COF.out q W hwo.key
      clear hW hwa hwo hm
      by_cases hm0 : m < 0
      · have d0 : decide (m < 0) = true := decide_eq_true hm0
        have CG : Hid (∀ u, Calls Try.prog 23 #[kv W.k] u fun e w' => e = .returned (.bool false) ∧ Below u.heap.size u w') := fun u => by
          have := rgood_any W.k KW.out u
          rw [ofR_neg (P := z0) (by rw [← HMM.out]; exact hm0)] at this
          exact this
        have HS : Hid (∀ u, CntR u h z0 (z1.take i) → CntR u h z0 (z1.take (i + 1))) := fun u c => c.skip HW.out (by rw [← HMM.out]; exact hm0)
        go_wp2_with (first
          | ((with_reducible show wpList _ _ _ (Oper.mk (some 45) _ _ _ _ _ :: _) _ _); refine wpList_load_keyD 45 (by rfl) (by rfl) _ (by rfl) b (o + i * 18) (by rfl) W.k KW.out ((FW.out _ HBR.out).key KW.out) ?_)
          | ((with_reducible show wpList _ _ _ (Oper.mk (some 53) _ _ _ _ _ :: _) _ _); refine wpList_load_keyD 53 (by rfl) (by rfl) _ (by rfl) b (o + i * 18) (by rfl) W.k KW.out ((FW.out _ B6.out).key KW.out) ?_)
          | (go_at_call 23; refine (CG.out _).mono ?_; rintro e v7 ⟨rfl, hb⟩; have B7 : Hid (Below v4.heap.size v4 v7) := B6.out.trans (hb.mono B6.out.size); have C7 : Hid (CntR v7 h z0 (z1.take i)) := C6.out.past hb; clear hb)
          | (go_at_call 11; refine (CO1.out _ (R4.out.past HBR.out)).mono ?_; rintro e v6 ⟨rfl, hb⟩; have B6 : Hid (Below v4.heap.size v4 v6) := HBR.out.trans (hb.mono HBR.out.size); have C6 : Hid (CntR v6 h z0 (z1.take i)) := HCR.out.past hb; clear hb))
        go_roundw
        case rel => exact ⟨i + 1, by go_num, by omega, B7.out, HS.out _ C7.out⟩
        case measure => simp [intOf]; omega
      · obtain ⟨m, rfl⟩ : ∃ x : Nat, m = (x : Int) := ⟨m.toNat, by omega⟩
        have d0 : decide ((m : Int) < 0) = false := decide_eq_false hm0
        have hml : m < len0 + 1 := by omega
        have hml2 : (m : Int) < (len0 : Int) + 1 := by omega
        have d1 : decide ((len0 : Int) + 1 ≤ (m : Int)) = false := decide_eq_false (by omega)
        have d1' : decide (len0 + 1 ≤ m) = false := decide_eq_false (by omega)
        obtain ⟨n, hn⟩ : ∃ x, (nodeW z0 (z1.take i) m).length = x := ⟨_, rfl⟩
        obtain ⟨K, hK⟩ : ∃ x, (nodeW z0 z1 m).length = x := ⟨_, rfl⟩
        have HNn : Hid ((nodeW z0 (z1.take i) m).length = n) := hn
        have hnK : n < K := by rw [← hn, ← hK]; exact nodeW_more HW.out HMM.out.symm
        have hK9 : K ≤ 20 := by rw [← hK]; exact Nat.le_trans (nodeW_len z0 z1 m) (by rw [HM.out]; exact hM20)
        have hn0 : (0 : Int) ≤ (n : Int) := by omega
        have hn1 : (n : Int) < (K : Int) := by omega
        have hn2 : (n : Int) + 1 ≤ 21 := by omega
        have d2 : decide ((K : Int) ≤ (n : Int)) = false := decide_eq_false (by omega)
        have d2' : decide (K ≤ n) = false := decide_eq_false (by omega)
        have hmz : m < z0.length + 1 := by rw [HN.out]; exact hml
        obtain ⟨la, lc, hcl, hlc, hat⟩ := S4.out.each m _ (split_at (P := z0) (l := z1) hmz)
        rw [hK] at hcl hlc
        have hget : (nodeW z0 z1 m)[n]? = some W := by rw [← hn]; exact nodeW_at HW.out (show mineR z0 m W = true from decide_eq_true HMM.out.symm)
        obtain ⟨b2, o2, hla, hw2, _⟩ := hat.wrt hget
        subst hla
        have FC : Hid (∀ u, Below v4.heap.size v4 u → u.cell? ⟨g, m, none⟩ = some (.slice (some ⟨b2, o2, none⟩) K lc)) := fun u hu => (hu.cell (p := ⟨g, m, none⟩) (lt_of_cell hcl)).trans hcl
        have FW2 : Hid (∀ u, Below v4.heap.size v4 u → WrtAt u b2 (o2 + n * 18) W) := fun u hu => hw2.past hu
        have he : ∀ u, (Op.equalIn 10000 32 (wv W) (wv W)).run Try.prog u = .ok true u := fun u => eq_wrt_yes u W OK.out
        clear hn hK hcl hat hget hw2
        go_wp2_with (first
          | ((with_reducible show wpList _ _ _ (Oper.mk (some 45) _ _ _ _ _ :: _) _ _); refine wpList_load_keyD 45 (by rfl) (by rfl) _ (by rfl) b (o + i * 18) (by rfl) W.k KW.out ((FW.out _ HBR.out).key KW.out) ?_)
          | (go_at_call 11; refine (CO1.out _ (R4.out.past HBR.out)).mono ?_; rintro e v6 ⟨rfl, hb⟩; have B6 : Hid (Below v4.heap.size v4 v6) := HBR.out.trans (hb.mono HBR.out.size); have C6 : Hid (CntR v6 h z0 (z1.take i)) := HCR.out.past hb; clear hb))
        have F6 : Hid (∀ u, Below v6.heap.size v6 u → u.cell? ⟨h, m, none⟩ = some (.int .i64 (n : Int)) ∧ u.frozen? ⟨h, m, none⟩ = false ∧ u.cell? ⟨g, m, none⟩ = some (.slice (some ⟨b2, o2, none⟩) K lc)) := fun u hu => by
          have h3 := (C6.out.past hu).each m hmz
          rw [HNn.out] at h3
          exact ⟨h3.1, h3.2, FC.out u (B6.out.trans (hu.mono B6.out.size))⟩
        have G2 : Hid (∀ u, Below v6.heap.size v6 u → WrtAt u b2 (o2 + n * 18) W) := fun u hu => FW2.out u (B6.out.trans (hu.mono B6.out.size))
        have G1 : Hid (∀ u, Below v6.heap.size v6 u → WrtAt u b (o + i * 18) W) := fun u hu => FW.out u (B6.out.trans (hu.mono B6.out.size))
        refine wp_region_noPanic ?_
        refine wp_region_held_drew (S := fun u => Below v6.heap.size v6 u) (by kernel_rfl) ?_ (fun hHeld => ?_)
        · exact (Below.refl _ _).drew
        refine wpAnyH_take (i := 0) (v := ?_) rfl (by kernel_rfl) (by kernel_rfl) (by kernel_rfl) (fun _ _ _ h => h) (Or.inl ⟨by rfl, ?_⟩) hHeld ?_
        rotate_left
        · intro u hSu
          (go_simp) <;> (with_reducible rfl)
        change wpAnyH _ _ _ _ _ _ _ (Act.put _ (some 55) _) _
        simp only [Act.put, List.setIfInBounds_toArray, List.set_cons_zero, List.set_cons_succ]
        refine wpAnyH_take (i := 1) (v := ?_) rfl (by kernel_rfl) (by kernel_rfl) (by kernel_rfl) (fun _ _ _ h => h) (Or.inl ⟨by rfl, ?_⟩) hHeld ?_
        rotate_left
        · intro u hSu
          (go_simp) <;> (with_reducible rfl)
        change wpAnyH _ _ _ _ _ _ _ (Act.put _ (some 56) _) _
        simp only [Act.put, List.setIfInBounds_toArray, List.set_cons_zero, List.set_cons_succ]
        refine wpAnyH_take (i := 2) (v := ?_) rfl (by kernel_rfl) (by kernel_rfl) (by kernel_rfl) (fun _ _ _ h => h) (Or.inl ⟨by rfl, ?_⟩) hHeld ?_
        rotate_left
        · intro u hSu
          (go_simp) <;> (with_reducible rfl)
        change wpAnyH _ _ _ _ _ _ _ (Act.put _ (some 57) _) _
        simp only [Act.put, List.setIfInBounds_toArray, List.set_cons_zero, List.set_cons_succ]
        refine wpAnyH_take (i := 3) (v := ?_) rfl (by kernel_rfl) (by kernel_rfl) (by kernel_rfl) (fun _ _ _ h => h) (Or.inl ⟨by rfl, ?_⟩) hHeld ?_
        rotate_left
        · intro u hSu
          (go_simp) <;> (with_reducible rfl)
        change wpAnyH _ _ _ _ _ _ _ (Act.put _ (some 58) _) _
        simp only [Act.put, List.setIfInBounds_toArray, List.set_cons_zero, List.set_cons_succ]
        refine wpAnyH_take (i := 4) (v := ?_) rfl (by kernel_rfl) (by kernel_rfl) (by kernel_rfl) (fun _ _ _ h => h) (Or.inl ⟨by rfl, ?_⟩) hHeld ?_
        rotate_left
        · intro u hSu
          (go_simp) <;> (with_reducible rfl)
        change wpAnyH _ _ _ _ _ _ _ (Act.put _ (some 59) _) _
        simp only [Act.put, List.setIfInBounds_toArray, List.set_cons_zero, List.set_cons_succ]
        refine wpAnyH_take (i := 5) (v := ?_) rfl (by kernel_rfl) (by kernel_rfl) (by kernel_rfl) (fun _ _ _ h => h) (Or.inl ⟨by rfl, ?_⟩) hHeld ?_
        rotate_left
        · intro u hSu
          (go_simp) <;> (with_reducible rfl)
        change wpAnyH _ _ _ _ _ _ _ (Act.put _ (some 60) _) _
        simp only [Act.put, List.setIfInBounds_toArray, List.set_cons_zero, List.set_cons_succ]
        refine wpAnyH_take (i := 6) (v := ?_) rfl (by kernel_rfl) (by kernel_rfl) (by kernel_rfl) (fun _ _ _ h => h) (Or.inl ⟨by rfl, ?_⟩) hHeld ?_
        rotate_left
        · intro u hSu
          (go_simp) <;> (with_reducible rfl)
        change wpAnyH _ _ _ _ _ _ _ (Act.put _ (some 61) _) _
        simp only [Act.put, List.setIfInBounds_toArray, List.set_cons_zero, List.set_cons_succ]
        refine wpAnyH_take (i := 7) (v := ?_) rfl (by kernel_rfl) (by kernel_rfl) (by kernel_rfl) (fun _ _ _ h => h) (Or.inl ⟨by rfl, ?_⟩) hHeld ?_
        rotate_left
        · intro u hSu
          (go_simp) <;> (with_reducible rfl)
        change wpAnyH _ _ _ _ _ _ _ (Act.put _ (some 62) _) _
        simp only [Act.put, List.setIfInBounds_toArray, List.set_cons_zero, List.set_cons_succ]
        refine wpAnyH_take (i := 8) (v := ?_) rfl (by kernel_rfl) (by kernel_rfl) (by kernel_rfl) (fun _ _ _ h => h) (Or.inl ⟨by rfl, ?_⟩) hHeld ?_
        rotate_left
        · intro u hSu
          obtain ⟨f1, f2, f3⟩ := F6.out u hSu
          (go_simp) <;> (with_reducible rfl)
        change wpAnyH _ _ _ _ _ _ _ (Act.put _ (some 63) _) _
        simp only [Act.put, List.setIfInBounds_toArray, List.set_cons_zero, List.set_cons_succ]
        refine wpAnyH_take (i := 9) (v := ?_) rfl (by kernel_rfl) (by kernel_rfl) (by kernel_rfl) (fun _ _ _ h => h) (Or.inl ⟨by rfl, ?_⟩) hHeld ?_
        rotate_left
        · intro u hSu
          (go_simp) <;> (with_reducible rfl)
        change wpAnyH _ _ _ _ _ _ _ (Act.put _ (some 64) _) _
        simp only [Act.put, List.setIfInBounds_toArray, List.set_cons_zero, List.set_cons_succ]
        refine wpAnyH_take (i := 10) (v := ?_) rfl (by kernel_rfl) (by kernel_rfl) (by kernel_rfl) (fun _ _ _ h => h) (Or.inl ⟨by rfl, ?_⟩) hHeld ?_
        rotate_left
        · intro u hSu
          (go_simp) <;> (with_reducible rfl)
        change wpAnyH _ _ _ _ _ _ _ (Act.put _ (some 65) _) _
        simp only [Act.put, List.setIfInBounds_toArray, List.set_cons_zero, List.set_cons_succ]
        refine wpAnyH_take (i := 11) (v := ?_) rfl (by kernel_rfl) (by kernel_rfl) (by kernel_rfl) (fun _ _ _ h => h) (Or.inl ⟨by rfl, ?_⟩) hHeld ?_
        rotate_left
        · intro u hSu
          (go_simp) <;> (with_reducible rfl)
        change wpAnyH _ _ _ _ _ _ _ (Act.put _ (some 66) _) _
        simp only [Act.put, List.setIfInBounds_toArray, List.set_cons_zero, List.set_cons_succ]
        refine wpAnyH_take (i := 12) (v := ?_) rfl (by kernel_rfl) (by kernel_rfl) (by kernel_rfl) (fun _ _ _ h => h) (Or.inl ⟨by rfl, ?_⟩) hHeld ?_
        rotate_left
        · intro u hSu
          obtain ⟨f1, f2, f3⟩ := F6.out u hSu
          (go_simp) <;> (with_reducible rfl)
        change wpAnyH _ _ _ _ _ _ _ (Act.put _ (some 67) _) _
        simp only [Act.put, List.setIfInBounds_toArray, List.set_cons_zero, List.set_cons_succ]
        refine wpAnyH_take (i := 13) (v := ?_) rfl (by kernel_rfl) (by kernel_rfl) (by kernel_rfl) (fun _ _ _ h => h) (Or.inl ⟨by rfl, ?_⟩) hHeld ?_
        rotate_left
        · intro u hSu
          (go_simp) <;> (with_reducible rfl)
        change wpAnyH _ _ _ _ _ _ _ (Act.put _ (some 68) _) _
        simp only [Act.put, List.setIfInBounds_toArray, List.set_cons_zero, List.set_cons_succ]
        refine wpAnyH_take (i := 14) (v := ?_) rfl (by kernel_rfl) (by kernel_rfl) (by kernel_rfl) (fun _ _ _ h => h) (Or.inl ⟨by rfl, ?_⟩) hHeld ?_
        rotate_left
        · intro u hSu
          (go_simp) <;> (with_reducible rfl)
        change wpAnyH _ _ _ _ _ _ _ (Act.put _ (some 69) _) _
        simp only [Act.put, List.setIfInBounds_toArray, List.set_cons_zero, List.set_cons_succ]
        refine wpAnyH_take (i := 15) (v := ?_) rfl (by kernel_rfl) (by kernel_rfl) (by kernel_rfl) (fun _ _ _ h => h) (Or.inl ⟨by rfl, ?_⟩) hHeld ?_
        rotate_left
        · intro u hSu
          (go_simp) <;> (with_reducible rfl)
        change wpAnyH _ _ _ _ _ _ _ (Act.put _ (some 70) _) _
        simp only [Act.put, List.setIfInBounds_toArray, List.set_cons_zero, List.set_cons_succ]
        refine wpAnyH_take (i := 16) (v := ?_) rfl (by kernel_rfl) (by kernel_rfl) (by kernel_rfl) (fun _ _ _ h => h) (Or.inl ⟨by rfl, ?_⟩) hHeld ?_
        rotate_left
        · intro u hSu
          (go_simp) <;> (with_reducible rfl)
        change wpAnyH _ _ _ _ _ _ _ (Act.put _ (some 71) _) _
        simp only [Act.put, List.setIfInBounds_toArray, List.set_cons_zero, List.set_cons_succ]
        refine wpAnyH_take (i := 17) (v := ?_) rfl (by kernel_rfl) (by kernel_rfl) (by kernel_rfl) (fun _ _ _ h => h) (Or.inl ⟨by rfl, ?_⟩) hHeld ?_
        rotate_left
        · intro u hSu
          (go_simp) <;> (with_reducible rfl)
        change wpAnyH _ _ _ _ _ _ _ (Act.put _ (some 72) _) _
        simp only [Act.put, List.setIfInBounds_toArray, List.set_cons_zero, List.set_cons_succ]
        refine wpAnyH_take (i := 18) (v := ?_) rfl (by kernel_rfl) (by kernel_rfl) (by kernel_rfl) (fun _ _ _ h => h) (Or.inl ⟨by rfl, ?_⟩) hHeld ?_
        rotate_left
        · intro u hSu
          (go_simp) <;> (with_reducible rfl)
        change wpAnyH _ _ _ _ _ _ _ (Act.put _ (some 73) _) _
        simp only [Act.put, List.setIfInBounds_toArray, List.set_cons_zero, List.set_cons_succ]
        refine wpAnyH_take (i := 19) (v := ?_) rfl (by kernel_rfl) (by kernel_rfl) (by kernel_rfl) (fun _ _ _ h => h) (Or.inl ⟨by rfl, ?_⟩) hHeld ?_
        rotate_left
        · intro u hSu
          (go_simp) <;> (with_reducible rfl)
        change wpAnyH _ _ _ _ _ _ _ (Act.put _ (some 74) _) _
        simp only [Act.put, List.setIfInBounds_toArray, List.set_cons_zero, List.set_cons_succ]
        refine wpAnyH_take (i := 20) (v := ?_) rfl (by kernel_rfl) (by kernel_rfl) (by kernel_rfl) (fun _ _ _ h => h) (Or.inl ⟨by rfl, ?_⟩) hHeld ?_
        rotate_left
        · intro u hSu
          obtain ⟨f1, f2, f3⟩ := F6.out u hSu
          (go_simp) <;> (with_reducible rfl)
        change wpAnyH _ _ _ _ _ _ _ (Act.put _ (some 75) _) _
        simp only [Act.put, List.setIfInBounds_toArray, List.set_cons_zero, List.set_cons_succ]
        refine wpAnyH_take (i := 21) (v := ?_) rfl (by kernel_rfl) (by kernel_rfl) (by kernel_rfl) (fun _ _ _ h => h) (Or.inl ⟨by rfl, ?_⟩) hHeld ?_
        rotate_left
        · intro u hSu
          (go_simp) <;> (with_reducible rfl)
        change wpAnyH _ _ _ _ _ _ _ (Act.put _ (some 76) _) _
        simp only [Act.put, List.setIfInBounds_toArray, List.set_cons_zero, List.set_cons_succ]
        refine wpAnyH_take (i := 22) (v := ?_) rfl (by kernel_rfl) (by kernel_rfl) (by kernel_rfl) (fun _ _ _ h => h) (Or.inl ⟨by rfl, ?_⟩) hHeld ?_
        rotate_left
        · intro u hSu
          (go_simp) <;> (with_reducible rfl)
        change wpAnyH _ _ _ _ _ _ _ (Act.put _ (some 77) _) _
        simp only [Act.put, List.setIfInBounds_toArray, List.set_cons_zero, List.set_cons_succ]
        refine wpAnyH_take (i := 23) (v := ?_) rfl (by kernel_rfl) (by kernel_rfl) (by kernel_rfl) (fun _ _ _ h => h) (Or.inl ⟨by rfl, ?_⟩) hHeld ?_
        rotate_left
        · intro u hSu
          (go_simp) <;> (with_reducible rfl)
        change wpAnyH _ _ _ _ _ _ _ (Act.put _ (some 78) _) _
        simp only [Act.put, List.setIfInBounds_toArray, List.set_cons_zero, List.set_cons_succ]
        refine wpAnyH_take (i := 24) (v := ?_) rfl (by kernel_rfl) (by kernel_rfl) (by kernel_rfl) (fun _ _ _ h => h) (Or.inl ⟨by rfl, ?_⟩) hHeld ?_
        rotate_left
        · intro u hSu
          obtain ⟨f1, f2, f3⟩ := F6.out u hSu
          (go_simp) <;> (with_reducible rfl)
        change wpAnyH _ _ _ _ _ _ _ (Act.put _ (some 79) _) _
        simp only [Act.put, List.setIfInBounds_toArray, List.set_cons_zero, List.set_cons_succ]
        refine wpAnyH_take (i := 25) (v := ?_) rfl (by kernel_rfl) (by kernel_rfl) (by kernel_rfl) (fun _ _ _ h => h) (Or.inl ⟨by rfl, ?_⟩) hHeld ?_
        rotate_left
        · intro u hSu
          (go_simp) <;> (with_reducible rfl)
        change wpAnyH _ _ _ _ _ _ _ (Act.put _ (some 80) _) _
        simp only [Act.put, List.setIfInBounds_toArray, List.set_cons_zero, List.set_cons_succ]
        refine wpAnyH_take (i := 26) (v := wv W) rfl (by kernel_rfl) (by kernel_rfl) (by kernel_rfl) (fun _ _ _ h => h) (yieldsIf_load_mid (by rfl) _ _ rfl _ _ rfl (encW W) _ (fun u hu => (G2.out u hu).range) Try.underlying32 rfl (info_wrtR W KW.out)) hHeld ?_
        change wpAnyH _ _ _ _ _ _ _ (Act.put _ (some 81) _) _
        simp only [Act.put, List.setIfInBounds_toArray, List.set_cons_zero, List.set_cons_succ]
        refine wpAnyH_take (i := 27) (v := ?_) rfl (by kernel_rfl) (by kernel_rfl) (by kernel_rfl) (fun _ _ _ h => h) (Or.inl ⟨by rfl, ?_⟩) hHeld ?_
        rotate_left
        · intro u hSu
          (go_simp) <;> (with_reducible rfl)
        change wpAnyH _ _ _ _ _ _ _ (Act.put _ (some 82) _) _
        simp only [Act.put, List.setIfInBounds_toArray, List.set_cons_zero, List.set_cons_succ]
        refine wpAnyH_take (i := 28) (v := ?_) rfl (by kernel_rfl) (by kernel_rfl) (by kernel_rfl) (fun _ _ _ h => h) (Or.inl ⟨by rfl, ?_⟩) hHeld ?_
        rotate_left
        · intro u hSu
          (go_simp) <;> (with_reducible rfl)
        change wpAnyH _ _ _ _ _ _ _ (Act.put _ (some 83) _) _
        simp only [Act.put, List.setIfInBounds_toArray, List.set_cons_zero, List.set_cons_succ]
        refine wpAnyH_take (i := 29) (v := ?_) rfl (by kernel_rfl) (by kernel_rfl) (by kernel_rfl) (fun _ _ _ h => h) (Or.inl ⟨by rfl, ?_⟩) hHeld ?_
        rotate_left
        · intro u hSu
          (go_simp) <;> (with_reducible rfl)
        change wpAnyH _ _ _ _ _ _ _ (Act.put _ (some 84) _) _
        simp only [Act.put, List.setIfInBounds_toArray, List.set_cons_zero, List.set_cons_succ]
        refine wpAnyH_take (i := 30) (v := wv W) rfl (by kernel_rfl) (by kernel_rfl) (by kernel_rfl) (fun _ _ _ h => h) (yieldsIf_load_mid (by rfl) _ _ rfl _ _ rfl (encW W) _ (fun u hu => (G1.out u hu).range) Try.underlying32 rfl (info_wrtR W KW.out)) hHeld ?_
        change wpAnyH _ _ _ _ _ _ _ (Act.put _ (some 85) _) _
        simp only [Act.put, List.setIfInBounds_toArray, List.set_cons_zero, List.set_cons_succ]
        refine wpAnyH_take (i := 31) (v := ?_) rfl (by kernel_rfl) (by kernel_rfl) (by kernel_rfl) (fun _ _ _ h => h) (Or.inl ⟨by rfl, ?_⟩) hHeld ?_
        rotate_left
        · intro u hSu
          (go_simp) <;> (with_reducible rfl)
        change wpAnyH _ _ _ _ _ _ _ (Act.put _ (some 86) _) _
        simp only [Act.put, List.setIfInBounds_toArray, List.set_cons_zero, List.set_cons_succ]
        refine wpAnyH_take (i := 32) (v := ?_) rfl (by kernel_rfl) (by kernel_rfl) (by kernel_rfl) (fun _ _ _ h => h) (Or.inl ⟨by rfl, ?_⟩) hHeld ?_
        rotate_left
        · intro u hSu
          (go_simp) <;> (with_reducible rfl)
        change wpAnyH _ _ _ _ _ _ _ (Act.put _ (some 87) _) _
        simp only [Act.put, List.setIfInBounds_toArray, List.set_cons_zero, List.set_cons_succ]
        refine wpAnyH_done (by kernel_rfl) ?_ _
        refine NoPanic.normal ?_
        obtain ⟨q1, q2, -⟩ := F6.out v6.drew (Below.refl _ _).drew
        have C8 : Hid (CntR (v6.drew.setCell ⟨h, m, none⟩ (.int .i64 ((n : Int) + 1))) h z0 (z1.take (i + 1))) := (C6.out.past (Below.refl _ _).drew).next HW.out HMM.out.symm hmz HNn.out
        have B8 : Hid (Below v4.heap.size v4 (v6.drew.setCell ⟨h, m, none⟩ (.int .i64 ((n : Int) + 1)))) := B6.out.drew.setCell (p := ⟨h, m, none⟩) (by show v4.heap.size ≤ h; rw [HH.out]; exact Nat.le_refl _) _
        go_wp2
        go_roundw
        case rel => exact ⟨i + 1, by go_num, by omega, B8.out, C8.out⟩
        case measure => simp [intOf]; omega
    · obtain rfl : i = len1 := by omega
      have HX : Hid (z1.take i = z1) := List.take_of_length_le (by rw [HM.out]; exact Nat.le_refl _)
      have HCE : Hid (CntR wr h z0 z1) := by have := HCR.out; rw [HX.out] at this; exact this
      clear HCR
      go_wp2
      obtain ⟨ve, rfl⟩ : ∃ v : World, v = wr := ⟨wr, rfl⟩
      go_loopw [11] (fun iv ws => ∃ j : Nat, iv = .int .i64 j ∧ j ≤ len0 + 1 ∧ Hid (Below ve.heap.size ve ws)) (fun iv _ => len0 + 1 - (intOf iv).toNat)
      case atStart => exact ⟨0, rfl, Nat.zero_le _, Below.refl _ _⟩
      case round =>
        obtain ⟨j, rfl, hj, HBS⟩ := hrel
        have hj0 : (0 : Int) ≤ (j : Int) := by omega
        have BW : Hid (Below v4.heap.size v4 wr) := HBR.out.trans (HBS.out.mono HBR.out.size)
        by_cases hjl : j < len0 + 1
        · have hj1 : (j : Int) < (len0 : Int) + 1 := by omega
          have hjz : j < z0.length + 1 := by rw [HN.out]; exact hjl
          obtain ⟨K, hK⟩ : ∃ x, (nodeW z0 z1 j).length = x := ⟨_, rfl⟩
          obtain ⟨la, lc, hcl, hlc, -⟩ := S4.out.each j _ (split_at (P := z0) (l := z1) hjz)
          rw [hK] at hcl hlc
          have F6 : Hid (∀ u, Below wr.heap.size wr u → u.cell? ⟨h, j, none⟩ = some (.int .i64 (K : Int)) ∧ u.cell? ⟨g, j, none⟩ = some (.slice la K lc)) := fun u hu => by
            have h3 := (HCE.out.past (HBS.out.trans (hu.mono HBS.out.size))).each j hjz
            rw [hK] at h3
            have hu4 := BW.out.trans (hu.mono BW.out.size)
            exact ⟨h3.1, (hu4.cell (p := ⟨g, j, none⟩) (lt_of_cell hcl)).trans hcl⟩
          have hne : (((K : Nat) : Int) != ((K : Nat) : Int)) = false := by simp
          clear hK hcl
          go_wp2
          refine wp_region_noPanic ?_
          refine wp_region_held_drew (S := fun u => Below wr.heap.size wr u) (by kernel_rfl) ?_ (fun hHeld => ?_)
          · exact (Below.refl _ _).drew
          refine wpAnyH_take (i := 0) (v := ?_) rfl (by kernel_rfl) (by kernel_rfl) (by kernel_rfl) (fun _ _ _ h => h) (Or.inl ⟨by rfl, ?_⟩) hHeld ?_
          rotate_left
          · intro u hSu
            (go_simp) <;> (with_reducible rfl)
          change wpAnyH _ _ _ _ _ _ _ (Act.put _ (some 100) _) _
          simp only [Act.put, List.setIfInBounds_toArray, List.set_cons_zero, List.set_cons_succ]
          refine wpAnyH_take (i := 1) (v := ?_) rfl (by kernel_rfl) (by kernel_rfl) (by kernel_rfl) (fun _ _ _ h => h) (Or.inl ⟨by rfl, ?_⟩) hHeld ?_
          rotate_left
          · intro u hSu
            (go_simp) <;> (with_reducible rfl)
          change wpAnyH _ _ _ _ _ _ _ (Act.put _ (some 101) _) _
          simp only [Act.put, List.setIfInBounds_toArray, List.set_cons_zero, List.set_cons_succ]
          refine wpAnyH_take (i := 2) (v := ?_) rfl (by kernel_rfl) (by kernel_rfl) (by kernel_rfl) (fun _ _ _ h => h) (Or.inl ⟨by rfl, ?_⟩) hHeld ?_
          rotate_left
          · intro u hSu
            (go_simp) <;> (with_reducible rfl)
          change wpAnyH _ _ _ _ _ _ _ (Act.put _ (some 102) _) _
          simp only [Act.put, List.setIfInBounds_toArray, List.set_cons_zero, List.set_cons_succ]
          refine wpAnyH_take (i := 3) (v := ?_) rfl (by kernel_rfl) (by kernel_rfl) (by kernel_rfl) (fun _ _ _ h => h) (Or.inl ⟨by rfl, ?_⟩) hHeld ?_
          rotate_left
          · intro u hSu
            obtain ⟨f1, f2⟩ := F6.out u hSu
            (go_simp) <;> (with_reducible rfl)
          change wpAnyH _ _ _ _ _ _ _ (Act.put _ (some 103) _) _
          simp only [Act.put, List.setIfInBounds_toArray, List.set_cons_zero, List.set_cons_succ]
          refine wpAnyH_take (i := 4) (v := ?_) rfl (by kernel_rfl) (by kernel_rfl) (by kernel_rfl) (fun _ _ _ h => h) (Or.inl ⟨by rfl, ?_⟩) hHeld ?_
          rotate_left
          · intro u hSu
            (go_simp) <;> (with_reducible rfl)
          change wpAnyH _ _ _ _ _ _ _ (Act.put _ (some 104) _) _
          simp only [Act.put, List.setIfInBounds_toArray, List.set_cons_zero, List.set_cons_succ]
          refine wpAnyH_take (i := 5) (v := ?_) rfl (by kernel_rfl) (by kernel_rfl) (by kernel_rfl) (fun _ _ _ h => h) (Or.inl ⟨by rfl, ?_⟩) hHeld ?_
          rotate_left
          · intro u hSu
            (go_simp) <;> (with_reducible rfl)
          change wpAnyH _ _ _ _ _ _ _ (Act.put _ (some 105) _) _
          simp only [Act.put, List.setIfInBounds_toArray, List.set_cons_zero, List.set_cons_succ]
          refine wpAnyH_take (i := 6) (v := ?_) rfl (by kernel_rfl) (by kernel_rfl) (by kernel_rfl) (fun _ _ _ h => h) (Or.inl ⟨by rfl, ?_⟩) hHeld ?_
          rotate_left
          · intro u hSu
            (go_simp) <;> (with_reducible rfl)
          change wpAnyH _ _ _ _ _ _ _ (Act.put _ (some 106) _) _
          simp only [Act.put, List.setIfInBounds_toArray, List.set_cons_zero, List.set_cons_succ]
          refine wpAnyH_take (i := 7) (v := ?_) rfl (by kernel_rfl) (by kernel_rfl) (by kernel_rfl) (fun _ _ _ h => h) (Or.inl ⟨by rfl, ?_⟩) hHeld ?_
          rotate_left
          · intro u hSu
            obtain ⟨f1, f2⟩ := F6.out u hSu
            (go_simp) <;> (with_reducible rfl)
          change wpAnyH _ _ _ _ _ _ _ (Act.put _ (some 107) _) _
          simp only [Act.put, List.setIfInBounds_toArray, List.set_cons_zero, List.set_cons_succ]
          refine wpAnyH_take (i := 8) (v := ?_) rfl (by kernel_rfl) (by kernel_rfl) (by kernel_rfl) (fun _ _ _ h => h) (Or.inl ⟨by rfl, ?_⟩) hHeld ?_
          rotate_left
          · intro u hSu
            (go_simp) <;> (with_reducible rfl)
          change wpAnyH _ _ _ _ _ _ _ (Act.put _ (some 108) _) _
          simp only [Act.put, List.setIfInBounds_toArray, List.set_cons_zero, List.set_cons_succ]
          refine wpAnyH_take (i := 9) (v := ?_) rfl (by kernel_rfl) (by kernel_rfl) (by kernel_rfl) (fun _ _ _ h => h) (Or.inl ⟨by rfl, ?_⟩) hHeld ?_
          rotate_left
          · intro u hSu
            (go_simp) <;> (with_reducible rfl)
          change wpAnyH _ _ _ _ _ _ _ (Act.put _ (some 109) _) _
          simp only [Act.put, List.setIfInBounds_toArray, List.set_cons_zero, List.set_cons_succ]
          refine wpAnyH_done (by kernel_rfl) ?_ _
          refine NoPanic.normal ?_
          go_wp2
          go_roundw
          case rel => exact ⟨j + 1, by go_num, by omega, HBS.out.drew⟩
          case measure => simp [intOf]; omega
        · obtain rfl : j = len0 + 1 := by omega
          have hj2 : ¬ ((len0 : Int) + 1 < (len0 : Int) + 1) := by omega
          go_wp2
          go_ret
          exact ⟨rfl, B4.out.trans (BW.out.mono B4.out.size)⟩

set_option maxRecDepth 100000 in
theorem lifted (os : Os) (started : os.Started) (H : Type) (enc : TypeId × Value → H) :
    ReturnsInHanded {} Try.checked os 6 .any (Rows.routeSplitsSpec.pre6 enc Try.prog Try.f6 Rows.routeSplitsRow.domain false) (Rows.routeSplitsSpec.post enc Try.prog Try.f6 false true false false) := by
  refine returnsInHanded_of_change (C := Try.checked) own started (by kernel_rfl) Try.func6
    (ChangeSpec.witness6 (enc := enc) (C := Try.checked) false ⟨#[], #[.slice none 0 0, .slice none 0 0], []⟩ 8 (by kernel_rfl) (by kernel_rfl) (by kernel_rfl) (by kernel_rfl)) ?_
  intro W base args ds gs before hval0 hW hcnd _
  have hval : ∀ (j : Nat) t v, Try.f6.params[j]? = some t → args[j]? = some v → Value.okWide Try.prog W .any base t v := hval0
  have hW' := hW
  obtain ⟨p, q, hA0, hV, rfl, hfz, hnd⟩ := hW
  have hA : DataW.TrodAll enc Try.prog W 0 (fun _ => true) true Try.f6.params.toList args.toList ds p := hA0
  rw [Try.params6] at hA hval
  obtain ⟨v0, vs0, d0, ds0, p0, q0, hargs, rfl, rfl, h0, r0⟩ := trodAll_cons hA
  obtain ⟨v1, vs1, d1, ds1, p1, q1, rfl, rfl, rfl, h1, r1⟩ := trodAll_cons r0
  obtain ⟨rfl, rfl, rfl⟩ := trodAll_nil r1
  obtain rfl : args = #[v0, v1] := by cases args; simp_all
  obtain ⟨rfl, rfl⟩ := trodVars_none hV
  obtain ⟨a0, len0, cap0, rfl⟩ := okWide_slice Try.underlying30 (hval 0 30 v0 rfl rfl)
  have k0 := h0
  have lt0 : ∀ x ∈ p0, x.block < W.heap.size := by obtain ⟨m, hm⟩ := k0; exact DataW.trod_lt m _ _ _ hm
  obtain ⟨z0, l0, w0, rm0, rn0⟩ : ∃ ls : List (List Int), ls.length = len0 ∧ KeysAt W a0 ls ∧ len0 ≤ cap0 ∧ (a0 = none → cap0 = 0) := by
    obtain ⟨fuel, hf⟩ := h0
    exact keys_openR Try.underlying30 Try.underlying28 Try.underlying5 (by kernel_rfl) (by kernel_rfl) hf
  obtain ⟨a1, len1, cap1, rfl⟩ := okWide_slice Try.underlying33 (hval 1 33 v1 rfl rfl)
  have k1 := h1
  have lt1 : ∀ x ∈ p1, x.block < W.heap.size := by obtain ⟨m, hm⟩ := k1; exact DataW.trod_lt m _ _ _ hm
  obtain ⟨z1, l1, w1⟩ : ∃ xs : List Wrt, xs.length = len1 ∧ WrtsOf W a1 cap1 xs := by
    obtain ⟨fuel, hf⟩ := h1
    exact wrts_open Try.underlying33 Try.underlying32 Try.underlying28 Try.underlying5 Try.underlying9 Try.underlying4 rfl rfl rfl (by kernel_rfl) (by kernel_rfl) (by kernel_rfl) (by kernel_rfl) (by kernel_rfl) hf
  clear hA0 hval0
  refine (walk a0 len0 cap0 z0 a1 len1 cap1 z1 W l0 w0 rm0 rn0 l1 w1).mono fun e W' ⟨he, bel⟩ => ?_
  subst he
  exact ⟨_, rfl, _, _, _, [], _, [], hW', trodAll_mk1 (shut_bool Try.underlying4 _), (trodAll_cons_mk (Below.trod laidOut (by kernel_rfl) (of_decide_eq_true (by kernel_rfl)) k0 bel lt0) (trodAll_cons_mk (Below.trod laidOut (by kernel_rfl) (of_decide_eq_true (by kernel_rfl)) k1 bel lt1) trodAll_mk0)), rfl, bel.frame _, fun h => by cases h⟩

theorem over : Rows.routeSplitsRow.holds Try.pinned (OpenSpec.ofChange Rows.routeSplitsSpec) :=
  OpenClaim.holds_of_wide 6 Try.f6 rfl rfl rfl rfl rfl rfl rfl ⟨rfl, rfl, rfl, rfl, rfl⟩ rfl rfl rfl rfl rfl (by kernel_rfl) Try.func6 (by kernel_rfl)
    (of_decide_eq_true (by kernel_rfl)) (by unfold Func.isWrapper; first | (rw [if_pos (by decide +kernel)]; kernel_rfl) | (rw [if_neg (by decide +kernel)]; exact ⟨rfl, rfl⟩))
    (fun os started H enc _ => lifted os started H enc)
theorem proved : Rows.RouteSplitsSaid := over
#print axioms proved
end Go.Proofs.Ytdbgkbgodnknnaa.routeSplits
namespace Go.Proofs.Ytdbgkbgodnknnaa
/-- RouteSplits, as given. -/
theorem routeSplits_holds : Rows.RouteSplitsSaid := routeSplits.proved
end Go.Proofs.Ytdbgkbgodnknnaa
