/-
  RouteSays: any points, keys, writes, stretches: whose they are is as the document says (of more than 12 points, of more than 20 writes, of values of more than 250 bytes the statement asks nothing).
-/
import Derived.Test.YtdbgkbgodnknnaaRows
import Derived.Test.YtdbgkbgodnknnaaRouL2
import Derived.Test.YtdbgkbgodnknnaaNested
import Derived.Test.YtdbgkbgodnknnaaKeysOpen
import Derived.Test.YtdbgkbgodnknnaaSActs
import Derived.WalkKit
import Derived.ProofKit
import Derived.OpenShut
import Derived.ShutString
import Derived.ChangeOld
import Derived.Below
import Derived.Carry
namespace Go.Proofs.Ytdbgkbgodnknnaa.routeSays
open Go.ChangeShapes Go.WideShapes Go.ChangeAt Go.RowKit
open Go.ChangeMaps (open_string shut_string)
set_option linter.unusedVariables false

theorem own : ownKnob Try.prog.godebug = none := by kernel_rfl
theorem laidOut : laidOutB Try.prog = true := by kernel_rfl
/-- A slice of integers that came in: nil, or a row of 'cap' cells, of which the first 'len' are its elements. -/
def IsRow (k : IntKind) (w : World) (a : Option Addr) (len cap : Nat) (zs : List Int) : Prop :=
  (a = none ∧ len = 0 ∧ cap = 0 ∧ zs = []) ∨
  ∃ x, a = some x ∧ len ≤ cap ∧ cap ≤ maxLen ∧ zs.length = cap ∧ (∀ i, i < zs.length → w.cell? (x.add i) = some (.int k (zs.getD i 0))) ∧ ∀ n ∈ zs, (Lit.int k n).wf = true

set_option maxHeartbeats 16000000 in
set_option maxRecDepth 8000 in
theorem walk (a0 : Option Addr) (len0 cap0 : Nat) (z0 : List (List Int)) (z1 : List Int) (a2 : Option Addr) (len2 cap2 : Nat) (z2 : List Wrt) (z3 : List Int) (z4 : List Int) (w : World) (l0 : z0.length = len0) (w0 : KeysAt w a0 z0) (r0 : len0 ≤ cap0) (n0 : a0 = none → cap0 = 0) (w1 : IsArr .u8 16 z1) (l2 : z2.length = len2) (w2 : WrtsOf w a2 cap2 z2) (w3 : IsArr .u8 16 z3) (w4 : IsArr .u8 16 z4) :
    Calls Try.prog 4 #[.slice a0 len0 cap0, .agg (z1.map (Value.int .u8)).toArray, .slice a2 len2 cap2, .agg (z3.map (Value.int .u8)).toArray, .agg (z4.map (Value.int .u8)).toArray] w fun e w' => e = .returned (.bool true) ∧ Below w.heap.size w w' := by
  have K1 : Hid (Ky z1) := w1.ky
  have K3 : Hid (Ky z3) := w3.ky
  have K4 : Hid (Ky z4) := w4.ky
  obtain ⟨W0, hW0⟩ : ∃ u, u = ((w.alloc (.cells (kcs z1) 28)).alloc (.cells (kcs z3) 28)).alloc (.cells (kcs z4) 28) := ⟨_, rfl⟩
  have HW0 : Hid (((w.alloc (.cells (kcs z1) 28)).alloc (.cells (kcs z3) 28)).alloc (.cells (kcs z4) 28) = W0) := hW0.symm
  have HB : Hid (Below w.heap.size w W0) := by rw [hW0]; exact (((Below.refl _ _).alloc (Nat.le_refl _) _).alloc (by simp) _).alloc (by simp; omega) _
  have HK : Hid (∀ u, Below W0.heap.size W0 u → KeyAt u w.heap.size 0 z1 ∧ KeyAt u (w.heap.size + 1) 0 z3 ∧ KeyAt u (w.heap.size + 2) 0 z4) := fun u hu => by rw [hW0] at hu; exact boxes3R w w1.ky w3.ky w4.ky u hu
  have AW : Hid (∀ u, Calls Try.prog 7 #[] u fun e w' => e = .returned (.bool true) ∧ Below u.heap.size u w') := fun u => rawake_any u
  have HN : Hid (z0.length = len0) := l0
  have HM : Hid (z2.length = len2) := l2
  have HA : Hid (WrtsAt W0 a2 z2) := w2.at_.past HB.out
  have CN : Hid (∀ u, Below W0.heap.size W0 u → Calls Try.prog 8 #[.slice a0 len0 cap0] u fun e w' => NewRt z0 e w' ∧ Below u.heap.size u w') := fun u hu => ronew_any a0 cap0 len0 z0 u l0 r0 (w0.past (HB.out.trans (hu.mono HB.out.size))) n0
  have CR : Hid (∀ u, Below W0.heap.size W0 u → Calls Try.prog 16 #[.slice a0 len0 cap0] u fun e w' => NewRr z0 e w' ∧ Below u.heap.size u w') := fun u hu => rrnew_any a0 cap0 len0 z0 u l0 r0 (w0.past (HB.out.trans (hu.mono HB.out.size))) n0
  have hM9 : len2 ≤ 9223372036854775807 := by rw [← l2]; exact w2.few
  have hMc : len2 ≤ cap2 := by rw [← l2]; exact w2.room
  obtain ⟨lg, hlg⟩ : ∃ x, x = longQ z2 := ⟨_, rfl⟩
  have CL : Hid (∀ u, Below W0.heap.size W0 u → Calls Try.prog 15 #[.slice a2 len2 cap2] u fun e w' => e = .returned (.bool lg) ∧ w' = u) := fun u hu => by rw [hlg]; exact rlong17_any a2 len2 cap2 z2 u HM.out hMc hM9 (HA.out.past hu)
  have HLG : Hid (lg = longQ z2) := hlg
  clear l0 w0 n0 l2 w2 r0 hlg w1 w3 w4 hW0
  by_cases h12 : 12 < len0
  · have d12 : decide (12 < len0) = true := decide_eq_true h12
    have d12' : decide ((12 : Int) < (len0 : Int)) = true := decide_eq_true (by omega)
    go_enter Try.func4, Try.ntmps4
    go_wp2_with (go_at_call 7; rw [HW0.out]; refine (AW.out _).mono ?_; rintro e v1 ⟨rfl, hb⟩; have B1 : Hid (Below W0.heap.size W0 v1) := hb; clear hb)
    go_ret
    exact ⟨rfl, HB.out.trans (B1.out.mono HB.out.size)⟩
  have d12' : decide ((12 : Int) < (len0 : Int)) = false := decide_eq_false (by omega)
  cases lg with
  | true =>
    go_enter Try.func4, Try.ntmps4
    go_wp2_with (first
      | (go_at_call 15; refine (CL.out _ B1.out).mono ?_; rintro e v2 ⟨rfl, hw⟩; obtain rfl := hw.symm; clear hw)
      | (go_at_call 7; rw [HW0.out]; refine (AW.out _).mono ?_; rintro e v1 ⟨rfl, hb⟩; have B1 : Hid (Below W0.heap.size W0 v1) := hb; clear hb))
    go_ret
    exact ⟨rfl, HB.out.trans (B1.out.mono HB.out.size)⟩
  | false =>
  have hM20 : len2 ≤ 20 := by rw [← HM.out]; exact longQ_few HLG.out.symm
  cases hmay : mayR z0 with
  | false =>
    have CN2 : Hid (∀ u, Below W0.heap.size W0 u → Calls Try.prog 8 #[.slice a0 len0 cap0] u fun e w' => e = .returned (.tuple #[.pointer none, .int .i64 1]) ∧ Below u.heap.size u w') := fun u hu => (CN.out u hu).mono fun e w' ⟨h1, h2⟩ => ⟨h1.no hmay, h2⟩
    have CR2 : Hid (∀ u, Below W0.heap.size W0 u → Calls Try.prog 16 #[.slice a0 len0 cap0] u fun e w' => e = .returned (.tuple #[.pointer none, .bool false]) ∧ Below u.heap.size u w') := fun u hu => (CR.out u hu).mono fun e w' ⟨h1, h2⟩ => ⟨h1.no hmay, h2⟩
    clear CN CR hmay
    go_enter Try.func4, Try.ntmps4
    go_wp2_with (first
      | (have hgo := B3.out; clear hgo; go_at_call 16; refine (CR2.out _ B3.out).mono ?_; rintro e v4 ⟨rfl, hb⟩; have B4 : Hid (Below W0.heap.size W0 v4) := B3.out.trans (hb.mono B3.out.size); clear hb)
      | (go_at_call 8; refine (CN2.out _ B1.out).mono ?_; rintro e v3 ⟨rfl, hb⟩; have B3 : Hid (Below W0.heap.size W0 v3) := B1.out.trans (hb.mono B1.out.size); clear hb)
      | (go_at_call 15; refine (CL.out _ B1.out).mono ?_; rintro e v2 ⟨rfl, hw⟩; obtain rfl := hw.symm; clear hw)
      | (go_at_call 7; rw [HW0.out]; refine (AW.out _).mono ?_; rintro e v1 ⟨rfl, hb⟩; have B1 : Hid (Below W0.heap.size W0 v1) := hb; clear hb))
    go_ret
    exact ⟨rfl, HB.out.trans (B4.out.mono HB.out.size)⟩
  | true =>
  have CN2 : Hid (∀ u, Below W0.heap.size W0 u → Calls Try.prog 8 #[.slice a0 len0 cap0] u fun e w' => (∃ q, e = .returned (.tuple #[.pointer (some ⟨q, 0, none⟩), .int .i64 0]) ∧ RtAt w' q z0) ∧ Below u.heap.size u w') := fun u hu => (CN.out u hu).mono fun e w' ⟨h1, h2⟩ => ⟨h1.yes hmay, h2⟩
  have CR2 : Hid (∀ u, Below W0.heap.size W0 u → Calls Try.prog 16 #[.slice a0 len0 cap0] u fun e w' => (∃ q, e = .returned (.tuple #[.pointer (some ⟨q, 0, none⟩), .bool true]) ∧ RtAt w' q z0) ∧ Below u.heap.size u w') := fun u hu => (CR.out u hu).mono fun e w' ⟨h1, h2⟩ => ⟨h1.yes hmay, h2⟩
  obtain ⟨h7, hrise⟩ := mayR_few hmay
  have HF : Hid (z0.length ≤ 7 ∧ riseR z0 = true) := ⟨h7, hrise⟩
  have CSP : Hid (∀ q u, RtAt u q z0 → Below W0.heap.size W0 u → Calls Try.prog 10 #[.pointer (some ⟨q, 0, none⟩), .slice a2 len2 cap2] u fun e w' => ∃ g, e = .returned (.slice (some ⟨g, 0, none⟩) (len0 + 1) (len0 + 1)) ∧ SpAt w' g (splitR z0 z2) ∧ Below u.heap.size u w') := fun q u h hu => by
    have := rosplit_any a2 len2 cap2 z2 u h (by have := HF.out.1; omega) HM.out hMc (by omega) (HA.out.past hu)
    rw [HN.out] at this
    exact this
  have CSR : Hid (∀ q u, RtAt u q z0 → Below W0.heap.size W0 u → Calls Try.prog 17 #[.pointer (some ⟨q, 0, none⟩), .slice a2 len2 cap2] u fun e w' => ∃ g, e = .returned (.slice (some ⟨g, 0, none⟩) (len0 + 1) (len0 + 1)) ∧ SpAt w' g (splitR z0 z2) ∧ Below u.heap.size u w') := fun q u h hu => by
    have := rrsplit_any a2 len2 cap2 z2 u h HF.out.2 (by have := HF.out.1; omega) HM.out hMc (by omega) (HA.out.past hu)
    rw [HN.out] at this
    exact this
  have CNN : Hid (∀ q u, RtAt u q z0 → Calls Try.prog 18 #[.pointer (some ⟨q, 0, none⟩)] u fun e w' => e = .returned (.int .i64 ((len0 : Int) + 1)) ∧ w' = u) := fun q u h => by
    have := ronodes_any u h (by have := HF.out.1; omega)
    rw [HN.out] at this
    exact this
  have hne1 : (((len0 : Int) + 1) != ((len0 : Int) + 1)) = false := by simp
  have h7' : len0 ≤ 7 := by rw [← HN.out]; exact h7
  have hl0 : (0 : Int) ≤ (len0 : Int) := by omega
  clear CN CR hmay h7 hrise HLG
  go_enter Try.func4, Try.ntmps4
  go_wp2_with (first
    | (have hgo := S6.out; clear hgo; go_at_call 18; refine (CNN.out q _ R6.out).mono ?_; rintro e vn ⟨rfl, hw⟩; obtain rfl := hw.symm; clear hw)
    | (have hgo := S5.out; clear hgo; go_at_call 17; refine (CSR.out p _ P5.out B5.out).mono ?_; rintro e v6 ⟨g2, rfl, hs, hb⟩; have S6 : Hid (SpAt v6 g2 (splitR z0 z2) ∧ SpAt v6 g1 (splitR z0 z2)) := ⟨hs, S5.out.past hb⟩; have R6 : Hid (RtAt v6 q z0) := R5.out.past hb; have P6 : Hid (RtAt v6 p z0) := P5.out.past hb; have B6 : Hid (Below W0.heap.size W0 v6) := B5.out.trans (hb.mono B5.out.size); clear hs hb)
    | (have hgo := B4.out; clear hgo; go_at_call 10; refine (CSP.out q _ R4.out B4.out).mono ?_; rintro e v5 ⟨g1, rfl, hs, hb⟩; have S5 : Hid (SpAt v5 g1 (splitR z0 z2)) := hs; have R5 : Hid (RtAt v5 q z0) := R4.out.past hb; have P5 : Hid (RtAt v5 p z0) := P4.out.past hb; have B5 : Hid (Below W0.heap.size W0 v5) := B4.out.trans (hb.mono B4.out.size); clear hs hb)
    | (have hgo := B3.out; clear hgo; go_at_call 16; refine (CR2.out _ B3.out).mono ?_; rintro e v4 ⟨⟨p, rfl, hr⟩, hb⟩; have P4 : Hid (RtAt v4 p z0) := hr; have R4 : Hid (RtAt v4 q z0) := R3.out.past hb; have B4 : Hid (Below W0.heap.size W0 v4) := B3.out.trans (hb.mono B3.out.size); clear hr hb)
    | (go_at_call 8; refine (CN2.out _ B1.out).mono ?_; rintro e v3 ⟨⟨q, rfl, hr⟩, hb⟩; have R3 : Hid (RtAt v3 q z0) := hr; have B3 : Hid (Below W0.heap.size W0 v3) := B1.out.trans (hb.mono B1.out.size); clear hr hb)
    | (go_at_call 15; refine (CL.out _ B1.out).mono ?_; rintro e v2 ⟨rfl, hw⟩; obtain rfl := hw.symm; clear hw)
    | (go_at_call 7; rw [HW0.out]; refine (AW.out _).mono ?_; rintro e v1 ⟨rfl, hb⟩; have B1 : Hid (Below W0.heap.size W0 v1) := hb; clear hb))
  clear CN2 CR2 CSP CSR CL AW R3 B3 B1 P4 R4 B4 S5 R5 P5 B5 CNN
  go_loopw [17] (fun iv wr => ∃ i : Nat, iv = .int .i64 i ∧ i ≤ len0 + 1 ∧ Hid (Below v6.heap.size v6 wr)) (fun iv _ => len0 + 1 - (intOf iv).toNat)
  case atStart => exact ⟨0, rfl, Nat.zero_le _, Below.refl _ _⟩
  case round =>
    obtain ⟨i, rfl, hi, HBR⟩ := hrel
    have hi0 : (0 : Int) ≤ (i : Int) := by omega
    by_cases hlt : i < len0 + 1
    · have h1 : (i : Int) < (len0 : Int) + 1 := by omega
      have hiz : i < z0.length + 1 := by rw [HN.out]; exact hlt
      obtain ⟨L, hL⟩ : ∃ x, nodeW z0 z2 i = x := ⟨_, rfl⟩
      obtain ⟨K, hK⟩ : ∃ x, L.length = x := ⟨_, rfl⟩
      have hK9 : K ≤ 1000000 := by
        have := nodeW_len z0 z2 i
        rw [hL, hK, HM.out] at this
        omega
      obtain ⟨la, lc, hcl, hlc, hat⟩ := S6.out.2.each i _ (split_at (P := z0) (l := z2) hiz)
      obtain ⟨lb, ld, hcl2, hlc2, hat2⟩ := S6.out.1.each i _ (split_at (P := z0) (l := z2) hiz)
      rw [hL, hK] at hcl hlc hcl2 hlc2
      rw [hL] at hat hat2
      have F6 : Hid (∀ u, Below wr.heap.size wr u → u.cell? ⟨g1, i, none⟩ = some (.slice la K lc) ∧ u.cell? ⟨g2, i, none⟩ = some (.slice lb K ld)) := fun u hu => by
        have hu6 := HBR.out.trans (hu.mono HBR.out.size)
        exact ⟨(hu6.cell (p := ⟨g1, i, none⟩) (lt_of_cell hcl)).trans hcl, (hu6.cell (p := ⟨g2, i, none⟩) (lt_of_cell hcl2)).trans hcl2⟩
      have CW : Hid (∀ u, Below wr.heap.size wr u → Calls Try.prog 19 #[.slice la K lc, .slice lb K ld] u fun e w' => e = .returned (.bool true) ∧ Below u.heap.size u w') := fun u hu => by
        have hu6 := HBR.out.trans (hu.mono HBR.out.size)
        exact rwrites_yes la lb K lc ld L u hK hlc hlc2 hK9 (hat.past hu6) (hat2.past hu6)
      clear hL hK hcl hcl2 hat hat2
      go_wp2
      refine wp_region_noPanic ?_
      refine wp_region_held_drew (S := fun u => Below wr.heap.size wr u) (by kernel_rfl) ?_ (fun hHeld => ?_)
      · exact (Below.refl _ _).drew
      refine wpAnyH_take (i := 0) (v := ?_) rfl (by kernel_rfl) (by kernel_rfl) (by kernel_rfl) (fun _ _ _ h => h) (Or.inl ⟨by rfl, ?_⟩) hHeld ?_
      rotate_left
      · intro u hSu
        (go_simp) <;> (with_reducible rfl)
      change wpAnyH _ _ _ _ _ _ _ (Act.put _ (some 80) _) _
      simp only [Act.put, List.setIfInBounds_toArray, List.set_cons_zero, List.set_cons_succ]
      refine wpAnyH_take (i := 1) (v := ?_) rfl (by kernel_rfl) (by kernel_rfl) (by kernel_rfl) (fun _ _ _ h => h) (Or.inl ⟨by rfl, ?_⟩) hHeld ?_
      rotate_left
      · intro u hSu
        (go_simp) <;> (with_reducible rfl)
      change wpAnyH _ _ _ _ _ _ _ (Act.put _ (some 81) _) _
      simp only [Act.put, List.setIfInBounds_toArray, List.set_cons_zero, List.set_cons_succ]
      refine wpAnyH_take (i := 2) (v := ?_) rfl (by kernel_rfl) (by kernel_rfl) (by kernel_rfl) (fun _ _ _ h => h) (Or.inl ⟨by rfl, ?_⟩) hHeld ?_
      rotate_left
      · intro u hSu
        (go_simp) <;> (with_reducible rfl)
      change wpAnyH _ _ _ _ _ _ _ (Act.put _ (some 82) _) _
      simp only [Act.put, List.setIfInBounds_toArray, List.set_cons_zero, List.set_cons_succ]
      refine wpAnyH_take (i := 3) (v := ?_) rfl (by kernel_rfl) (by kernel_rfl) (by kernel_rfl) (fun _ _ _ h => h) (Or.inl ⟨by rfl, ?_⟩) hHeld ?_
      rotate_left
      · intro u hSu
        obtain ⟨f1, f2⟩ := F6.out u hSu
        (go_simp) <;> (with_reducible rfl)
      change wpAnyH _ _ _ _ _ _ _ (Act.put _ (some 83) _) _
      simp only [Act.put, List.setIfInBounds_toArray, List.set_cons_zero, List.set_cons_succ]
      refine wpAnyH_take (i := 4) (v := ?_) rfl (by kernel_rfl) (by kernel_rfl) (by kernel_rfl) (fun _ _ _ h => h) (Or.inl ⟨by rfl, ?_⟩) hHeld ?_
      rotate_left
      · intro u hSu
        (go_simp) <;> (with_reducible rfl)
      change wpAnyH _ _ _ _ _ _ _ (Act.put _ (some 84) _) _
      simp only [Act.put, List.setIfInBounds_toArray, List.set_cons_zero, List.set_cons_succ]
      refine wpAnyH_take (i := 5) (v := ?_) rfl (by kernel_rfl) (by kernel_rfl) (by kernel_rfl) (fun _ _ _ h => h) (Or.inl ⟨by rfl, ?_⟩) hHeld ?_
      rotate_left
      · intro u hSu
        (go_simp) <;> (with_reducible rfl)
      change wpAnyH _ _ _ _ _ _ _ (Act.put _ (some 85) _) _
      simp only [Act.put, List.setIfInBounds_toArray, List.set_cons_zero, List.set_cons_succ]
      refine wpAnyH_take (i := 6) (v := ?_) rfl (by kernel_rfl) (by kernel_rfl) (by kernel_rfl) (fun _ _ _ h => h) (Or.inl ⟨by rfl, ?_⟩) hHeld ?_
      rotate_left
      · intro u hSu
        (go_simp) <;> (with_reducible rfl)
      change wpAnyH _ _ _ _ _ _ _ (Act.put _ (some 86) _) _
      simp only [Act.put, List.setIfInBounds_toArray, List.set_cons_zero, List.set_cons_succ]
      refine wpAnyH_take (i := 7) (v := ?_) rfl (by kernel_rfl) (by kernel_rfl) (by kernel_rfl) (fun _ _ _ h => h) (Or.inl ⟨by rfl, ?_⟩) hHeld ?_
      rotate_left
      · intro u hSu
        obtain ⟨f1, f2⟩ := F6.out u hSu
        (go_simp) <;> (with_reducible rfl)
      change wpAnyH _ _ _ _ _ _ _ (Act.put _ (some 87) _) _
      simp only [Act.put, List.setIfInBounds_toArray, List.set_cons_zero, List.set_cons_succ]
      refine wpAnyH_ready (rs := [8]) (by kernel_rfl) (by simp) ?_
      refine AllReadyH.cons rfl (fun K hK => ?_) AllReadyH.nil
      go_simp
      go_at_call 19
      refine (CW.out _ hHeld).mono ?_
      rintro e v7 ⟨rfl, hb7⟩
      have B7 : Hid (Below wr.heap.size wr v7) := hHeld.trans (hb7.mono hHeld.size); clear hb7
      refine hK.out _ _ ?_ (fun hHeld2 => ?_)
      · exact B7.out
      clear hK K hHeld
      have hHeld := hHeld2
      clear hHeld2
      refine wpAnyH_take (i := 9) (v := ?_) rfl (by kernel_rfl) (by kernel_rfl) (by kernel_rfl) (fun _ _ _ h => h) (Or.inl ⟨by rfl, ?_⟩) hHeld ?_
      rotate_left
      · intro u hSu
        (go_simp) <;> (with_reducible rfl)
      change wpAnyH _ _ _ _ _ _ _ (Act.put _ (some 89) _) _
      simp only [Act.put, List.setIfInBounds_toArray, List.set_cons_zero, List.set_cons_succ]
      refine wpAnyH_done (by kernel_rfl) ?_ _
      refine NoPanic.normal ?_
      go_wp2
      go_roundw
      case rel => exact ⟨i + 1, by go_num, by omega, HBR.out.trans (B7.out.mono HBR.out.size)⟩
      case measure => simp [intOf]; omega
    · obtain rfl : i = len0 + 1 := by omega
      have hj2 : ¬ ((len0 : Int) + 1 < (len0 : Int) + 1) := by omega
      obtain ⟨ve, rfl⟩ : ∃ v : World, v = wr := ⟨wr, rfl⟩
      have VB : Hid (Below W0.heap.size W0 ve) := B6.out.trans (HBR.out.mono B6.out.size)
      have RQ : Hid (RtAt ve q z0 ∧ RtAt ve p z0 ∧ WrtsAt ve a2 z2) := ⟨R6.out.past HBR.out, P6.out.past HBR.out, HA.out.past VB.out⟩
      have hf7 : z0.length ≤ 1000 := by have := HF.out.1; omega
      have hf8 : z0.length ≤ 1000000 := by have := HF.out.1; omega
      obtain ⟨m, hm⟩ : ∃ x, ofR z0 z1 = x := ⟨_, rfl⟩
      obtain ⟨A, hA⟩ : ∃ x, partsR z0 z2 = x := ⟨_, rfl⟩
      obtain ⟨C, hC⟩ : ∃ x, coverR z0 z3 z4 = x := ⟨_, rfl⟩
      have hA9 : A.length ≤ 1000000 := by
        have := numsR_len (hasR z0 z2) (z0.length + 1)
        rw [show numsR (hasR z0 z2) (z0.length + 1) = A from hA] at this
        omega
      have hC9 : C.length ≤ 1000000 := by
        have := cover_len z0 z3 z4
        rw [hC] at this
        omega
      have C1 : Hid (∀ u, Below ve.heap.size ve u → Calls Try.prog 11 #[.pointer (some ⟨q, 0, none⟩), kv z1] u fun e w' => e = .returned (.int .i64 m) ∧ Below u.heap.size u w') := fun u hu => by rw [← hm]; exact roof_any z1 K1.out u (RQ.out.1.past hu) hf8
      have C2 : Hid (∀ u, Below ve.heap.size ve u → Calls Try.prog 20 #[.pointer (some ⟨p, 0, none⟩), kv z1] u fun e w' => e = .returned (.int .i64 m) ∧ Below u.heap.size u w') := fun u hu => by rw [← hm]; exact rrof_any z1 K1.out u (RQ.out.2.1.past hu) HF.out.2 hf8
      have C3 : Hid (∀ u, Below ve.heap.size ve u → Calls Try.prog 13 #[.pointer (some ⟨q, 0, none⟩), .slice a2 len2 cap2] u fun e w' => ∃ ra m rc, e = .returned (.slice ra m rc) ∧ A.length = m ∧ m ≤ rc ∧ NumsR w' ra A ∧ Below u.heap.size u w') := fun u hu => by rw [← hA]; exact roparts_any a2 len2 cap2 z2 u (RQ.out.1.past hu) hf7 HM.out hMc (by omega) (RQ.out.2.2.past hu)
      have C4 : Hid (∀ u, Below ve.heap.size ve u → Calls Try.prog 21 #[.pointer (some ⟨p, 0, none⟩), .slice a2 len2 cap2] u fun e w' => ∃ ra m rc, e = .returned (.slice ra m rc) ∧ A.length = m ∧ m ≤ rc ∧ NumsR w' ra A ∧ Below u.heap.size u w') := fun u hu => by rw [← hA]; exact rrparts_any a2 len2 cap2 z2 u (RQ.out.2.1.past hu) HF.out.2 hf7 HM.out hMc (by omega) (RQ.out.2.2.past hu)
      have C5 : Hid (∀ u, Below ve.heap.size ve u → Calls Try.prog 14 #[.pointer (some ⟨q, 0, none⟩), kv z3, kv z4] u fun e w' => ∃ ra m rc, e = .returned (.slice ra m rc) ∧ C.length = m ∧ m ≤ rc ∧ NumsR w' ra C ∧ Below u.heap.size u w') := fun u hu => by rw [← hC]; exact rocover_any z3 z4 K3.out K4.out u (RQ.out.1.past hu) hf7
      have C6 : Hid (∀ u, Below ve.heap.size ve u → Calls Try.prog 22 #[.pointer (some ⟨p, 0, none⟩), kv z3, kv z4] u fun e w' => ∃ ra m rc, e = .returned (.slice ra m rc) ∧ C.length = m ∧ m ≤ rc ∧ NumsR w' ra C ∧ Below u.heap.size u w') := fun u hu => by rw [← hC]; exact rrcover_any z3 z4 K3.out K4.out u (RQ.out.2.1.past hu) hf7
      have CS : Hid (∀ (zs : List Int) (a b : Option Addr) (N c d : Nat), zs.length = N → zs.length ≤ 1000000 → N ≤ c → N ≤ d → ∀ u, NumsR u a zs → NumsR u b zs → Calls Try.prog 12 #[.slice a N c, .slice b N d] u fun e w' => e = .returned (.bool true) ∧ Below u.heap.size u w') := fun zs a b N c d h1 h2 h3 h4 u h5 h6 => rsame17_any a b N c d zs u h1 h3 h4 (by omega) h5 h6
      have hb : (m == m) = true := by simp
      have F1 : Hid (∀ u, Below ve.heap.size ve u → KeyAt u w.heap.size 0 z1) := fun u hu => (HK.out u (VB.out.trans (hu.mono VB.out.size))).1
      have F3 : Hid (∀ u, Below ve.heap.size ve u → KeyAt u (w.heap.size + 1) 0 z3) := fun u hu => (HK.out u (VB.out.trans (hu.mono VB.out.size))).2.1
      have F4 : Hid (∀ u, Below ve.heap.size ve u → KeyAt u (w.heap.size + 2) 0 z4) := fun u hu => (HK.out u (VB.out.trans (hu.mono VB.out.size))).2.2
      have HA9 : Hid (A.length ≤ 1000000) := hA9
      have HC9 : Hid (C.length ≤ 1000000) := hC9
      clear hm hA hC hA9 hC9
      go_wp2
      refine wp_region_noPanic ?_
      refine wp_region_held_drew (S := fun u => Below ve.heap.size ve u) (by kernel_rfl) ?_ (fun hHeld => ?_)
      · exact (Below.refl _ _).drew
      refine wpAnyH_take (i := 0) (v := ?_) rfl (by kernel_rfl) (by kernel_rfl) (by kernel_rfl) (fun _ _ _ h => h) (Or.inl ⟨by rfl, ?_⟩) hHeld ?_
      rotate_left
      · intro u hSu
        (go_simp) <;> (with_reducible rfl)
      change wpAnyH _ _ _ _ _ _ _ (Act.put _ (some 90) _) _
      simp only [Act.put, List.setIfInBounds_toArray, List.set_cons_zero, List.set_cons_succ]
      refine wpAnyH_take (i := 1) (v := kv z1) rfl (by kernel_rfl) (by kernel_rfl) (by kernel_rfl) (fun _ _ _ h => h) (yieldsIf_load_mid (by rfl) _ _ rfl _ _ rfl (z1.map (Value.int .u8)) _ (fun u hu => (F1.out u hu).range K1.out) Try.underlying28 rfl (info_keyl z1 K1.out)) hHeld ?_
      change wpAnyH _ _ _ _ _ _ _ (Act.put _ (some 91) _) _
      simp only [Act.put, List.setIfInBounds_toArray, List.set_cons_zero, List.set_cons_succ]
      refine wpAnyH_take (i := 3) (v := ?_) rfl (by kernel_rfl) (by kernel_rfl) (by kernel_rfl) (fun _ _ _ h => h) (Or.inl ⟨by rfl, ?_⟩) hHeld ?_
      rotate_left
      · intro u hSu
        (go_simp) <;> (with_reducible rfl)
      change wpAnyH _ _ _ _ _ _ _ (Act.put _ (some 93) _) _
      simp only [Act.put, List.setIfInBounds_toArray, List.set_cons_zero, List.set_cons_succ]
      refine wpAnyH_take (i := 4) (v := kv z1) rfl (by kernel_rfl) (by kernel_rfl) (by kernel_rfl) (fun _ _ _ h => h) (yieldsIf_load_mid (by rfl) _ _ rfl _ _ rfl (z1.map (Value.int .u8)) _ (fun u hu => (F1.out u hu).range K1.out) Try.underlying28 rfl (info_keyl z1 K1.out)) hHeld ?_
      change wpAnyH _ _ _ _ _ _ _ (Act.put _ (some 94) _) _
      simp only [Act.put, List.setIfInBounds_toArray, List.set_cons_zero, List.set_cons_succ]
      refine wpAnyH_ready (rs := [2]) (by kernel_rfl) (by simp) ?_
      refine AllReadyH.cons rfl (fun K hK => ?_) AllReadyH.nil
      go_simp
      go_at_call 11
      refine (C1.out _ hHeld).mono ?_
      rintro e x1 ⟨rfl, hb1⟩
      have E1 : Hid (Below ve.heap.size ve x1) := hHeld.trans (hb1.mono hHeld.size); clear hb1
      refine hK.out _ _ ?_ (fun hHeld2 => ?_)
      · exact E1.out
      clear hK K hHeld
      have hHeld := hHeld2
      clear hHeld2
      refine wpAnyH_ready (rs := [5]) (by kernel_rfl) (by simp) ?_
      refine AllReadyH.cons rfl (fun K hK => ?_) AllReadyH.nil
      go_simp
      go_at_call 20
      refine (C2.out _ hHeld).mono ?_
      rintro e x2 ⟨rfl, hb2⟩
      have E2 : Hid (Below ve.heap.size ve x2) := hHeld.trans (hb2.mono hHeld.size); clear hb2
      refine hK.out _ _ ?_ (fun hHeld2 => ?_)
      · exact E2.out
      clear hK K hHeld
      have hHeld := hHeld2
      clear hHeld2
      refine wpAnyH_take (i := 6) (v := ?_) rfl (by kernel_rfl) (by kernel_rfl) (by kernel_rfl) (fun _ _ _ h => h) (Or.inl ⟨by rfl, ?_⟩) hHeld ?_
      rotate_left
      · intro u hSu
        (go_simp) <;> (with_reducible rfl)
      change wpAnyH _ _ _ _ _ _ _ (Act.put _ (some 96) _) _
      simp only [Act.put, List.setIfInBounds_toArray, List.set_cons_zero, List.set_cons_succ]
      refine wpAnyH_take (i := 7) (v := ?_) rfl (by kernel_rfl) (by kernel_rfl) (by kernel_rfl) (fun _ _ _ h => h) (Or.inl ⟨by rfl, ?_⟩) hHeld ?_
      rotate_left
      · intro u hSu
        (go_simp) <;> (with_reducible rfl)
      change wpAnyH _ _ _ _ _ _ _ (Act.put _ (some 97) _) _
      simp only [Act.put, List.setIfInBounds_toArray, List.set_cons_zero, List.set_cons_succ]
      refine wpAnyH_take (i := 8) (v := ?_) rfl (by kernel_rfl) (by kernel_rfl) (by kernel_rfl) (fun _ _ _ h => h) (Or.inl ⟨by rfl, ?_⟩) hHeld ?_
      rotate_left
      · intro u hSu
        (go_simp) <;> (with_reducible rfl)
      change wpAnyH _ _ _ _ _ _ _ (Act.put _ (some 98) _) _
      simp only [Act.put, List.setIfInBounds_toArray, List.set_cons_zero, List.set_cons_succ]
      refine wpAnyH_take (i := 9) (v := ?_) rfl (by kernel_rfl) (by kernel_rfl) (by kernel_rfl) (fun _ _ _ h => h) (Or.inl ⟨by rfl, ?_⟩) hHeld ?_
      rotate_left
      · intro u hSu
        (go_simp) <;> (with_reducible rfl)
      change wpAnyH _ _ _ _ _ _ _ (Act.put _ (some 99) _) _
      simp only [Act.put, List.setIfInBounds_toArray, List.set_cons_zero, List.set_cons_succ]
      refine wpAnyH_take (i := 11) (v := ?_) rfl (by kernel_rfl) (by kernel_rfl) (by kernel_rfl) (fun _ _ _ h => h) (Or.inl ⟨by rfl, ?_⟩) hHeld ?_
      rotate_left
      · intro u hSu
        (go_simp) <;> (with_reducible rfl)
      change wpAnyH _ _ _ _ _ _ _ (Act.put _ (some 101) _) _
      simp only [Act.put, List.setIfInBounds_toArray, List.set_cons_zero, List.set_cons_succ]
      refine wpAnyH_take (i := 12) (v := ?_) rfl (by kernel_rfl) (by kernel_rfl) (by kernel_rfl) (fun _ _ _ h => h) (Or.inl ⟨by rfl, ?_⟩) hHeld ?_
      rotate_left
      · intro u hSu
        (go_simp) <;> (with_reducible rfl)
      change wpAnyH _ _ _ _ _ _ _ (Act.put _ (some 102) _) _
      simp only [Act.put, List.setIfInBounds_toArray, List.set_cons_zero, List.set_cons_succ]
      refine wpAnyH_ready (rs := [10]) (by kernel_rfl) (by simp) ?_
      refine AllReadyH.cons rfl (fun K hK => ?_) AllReadyH.nil
      go_simp
      go_at_call 13
      refine (C3.out _ hHeld).mono ?_
      rintro e x3 ⟨ra, n1, rc, rfl, hn1, hc1, hr1, hb3⟩
      have E3 : Hid (Below ve.heap.size ve x3) := hHeld.trans (hb3.mono hHeld.size); have N3 : Hid (A.length = n1 ∧ n1 ≤ rc ∧ NumsR x3 ra A) := ⟨hn1, hc1, hr1⟩; clear hb3 hn1 hc1 hr1
      refine hK.out _ _ ?_ (fun hHeld2 => ?_)
      · exact E3.out
      clear hK K hHeld
      have hHeld := hHeld2
      clear hHeld2
      refine wpAnyH_ready (rs := [13]) (by kernel_rfl) (by simp) ?_
      refine AllReadyH.cons rfl (fun K hK => ?_) AllReadyH.nil
      go_simp
      go_at_call 21
      refine (C4.out _ hHeld).mono ?_
      rintro e x4 ⟨rb, n2, rd, rfl, hn2, hc2, hr2, hb4⟩
      have E4 : Hid (Below ve.heap.size ve x4) := hHeld.trans (hb4.mono hHeld.size); obtain rfl : n1 = n2 := N3.out.1.symm.trans hn2; have N4 : Hid (n1 ≤ rd ∧ NumsR x4 rb A ∧ NumsR x4 ra A) := ⟨hc2, hr2, N3.out.2.2.past hb4⟩; clear hb4 hn2 hc2 hr2
      refine hK.out _ _ ?_ (fun hHeld2 => ?_)
      · exact E4.out
      clear hK K hHeld
      have hHeld := hHeld2
      clear hHeld2
      refine wpAnyH_ready (rs := [14]) (by kernel_rfl) (by simp) ?_
      refine AllReadyH.cons rfl (fun K hK => ?_) AllReadyH.nil
      go_simp
      go_at_call 12
      refine ((CS.out A ra rb n1 rc rd N3.out.1 HA9.out N3.out.2.1 N4.out.1 _ N4.out.2.2 N4.out.2.1)).mono ?_
      rintro e x5 ⟨rfl, hb5⟩
      have E5 : Hid (Below ve.heap.size ve x5) := hHeld.trans (hb5.mono hHeld.size); clear hb5
      refine hK.out _ _ ?_ (fun hHeld2 => ?_)
      · exact E5.out
      clear hK K hHeld
      have hHeld := hHeld2
      clear hHeld2
      refine wpAnyH_take (i := 15) (v := ?_) rfl (by kernel_rfl) (by kernel_rfl) (by kernel_rfl) (fun _ _ _ h => h) (Or.inl ⟨by rfl, ?_⟩) hHeld ?_
      rotate_left
      · intro u hSu
        (go_simp) <;> (with_reducible rfl)
      change wpAnyH _ _ _ _ _ _ _ (Act.put _ (some 105) _) _
      simp only [Act.put, List.setIfInBounds_toArray, List.set_cons_zero, List.set_cons_succ]
      refine wpAnyH_take (i := 16) (v := ?_) rfl (by kernel_rfl) (by kernel_rfl) (by kernel_rfl) (fun _ _ _ h => h) (Or.inl ⟨by rfl, ?_⟩) hHeld ?_
      rotate_left
      · intro u hSu
        (go_simp) <;> (with_reducible rfl)
      change wpAnyH _ _ _ _ _ _ _ (Act.put _ (some 106) _) _
      simp only [Act.put, List.setIfInBounds_toArray, List.set_cons_zero, List.set_cons_succ]
      refine wpAnyH_take (i := 17) (v := ?_) rfl (by kernel_rfl) (by kernel_rfl) (by kernel_rfl) (fun _ _ _ h => h) (Or.inl ⟨by rfl, ?_⟩) hHeld ?_
      rotate_left
      · intro u hSu
        (go_simp) <;> (with_reducible rfl)
      change wpAnyH _ _ _ _ _ _ _ (Act.put _ (some 107) _) _
      simp only [Act.put, List.setIfInBounds_toArray, List.set_cons_zero, List.set_cons_succ]
      refine wpAnyH_take (i := 18) (v := kv z3) rfl (by kernel_rfl) (by kernel_rfl) (by kernel_rfl) (fun _ _ _ h => h) (yieldsIf_load_mid (by rfl) _ _ rfl _ _ rfl (z3.map (Value.int .u8)) _ (fun u hu => (F3.out u hu).range K3.out) Try.underlying28 rfl (info_keyl z3 K3.out)) hHeld ?_
      change wpAnyH _ _ _ _ _ _ _ (Act.put _ (some 108) _) _
      simp only [Act.put, List.setIfInBounds_toArray, List.set_cons_zero, List.set_cons_succ]
      refine wpAnyH_take (i := 19) (v := kv z4) rfl (by kernel_rfl) (by kernel_rfl) (by kernel_rfl) (fun _ _ _ h => h) (yieldsIf_load_mid (by rfl) _ _ rfl _ _ rfl (z4.map (Value.int .u8)) _ (fun u hu => (F4.out u hu).range K4.out) Try.underlying28 rfl (info_keyl z4 K4.out)) hHeld ?_
      change wpAnyH _ _ _ _ _ _ _ (Act.put _ (some 109) _) _
      simp only [Act.put, List.setIfInBounds_toArray, List.set_cons_zero, List.set_cons_succ]
      refine wpAnyH_take (i := 21) (v := ?_) rfl (by kernel_rfl) (by kernel_rfl) (by kernel_rfl) (fun _ _ _ h => h) (Or.inl ⟨by rfl, ?_⟩) hHeld ?_
      rotate_left
      · intro u hSu
        (go_simp) <;> (with_reducible rfl)
      change wpAnyH _ _ _ _ _ _ _ (Act.put _ (some 111) _) _
      simp only [Act.put, List.setIfInBounds_toArray, List.set_cons_zero, List.set_cons_succ]
      refine wpAnyH_take (i := 22) (v := kv z3) rfl (by kernel_rfl) (by kernel_rfl) (by kernel_rfl) (fun _ _ _ h => h) (yieldsIf_load_mid (by rfl) _ _ rfl _ _ rfl (z3.map (Value.int .u8)) _ (fun u hu => (F3.out u hu).range K3.out) Try.underlying28 rfl (info_keyl z3 K3.out)) hHeld ?_
      change wpAnyH _ _ _ _ _ _ _ (Act.put _ (some 112) _) _
      simp only [Act.put, List.setIfInBounds_toArray, List.set_cons_zero, List.set_cons_succ]
      refine wpAnyH_take (i := 23) (v := kv z4) rfl (by kernel_rfl) (by kernel_rfl) (by kernel_rfl) (fun _ _ _ h => h) (yieldsIf_load_mid (by rfl) _ _ rfl _ _ rfl (z4.map (Value.int .u8)) _ (fun u hu => (F4.out u hu).range K4.out) Try.underlying28 rfl (info_keyl z4 K4.out)) hHeld ?_
      change wpAnyH _ _ _ _ _ _ _ (Act.put _ (some 113) _) _
      simp only [Act.put, List.setIfInBounds_toArray, List.set_cons_zero, List.set_cons_succ]
      refine wpAnyH_ready (rs := [20]) (by kernel_rfl) (by simp) ?_
      refine AllReadyH.cons rfl (fun K hK => ?_) AllReadyH.nil
      go_simp
      go_at_call 14
      refine (C5.out _ hHeld).mono ?_
      rintro e x6 ⟨sa, n3, sc, rfl, hn3, hc3, hr3, hb6⟩
      have E6 : Hid (Below ve.heap.size ve x6) := hHeld.trans (hb6.mono hHeld.size); have N6 : Hid (C.length = n3 ∧ n3 ≤ sc ∧ NumsR x6 sa C) := ⟨hn3, hc3, hr3⟩; clear hb6 hn3 hc3 hr3
      refine hK.out _ _ ?_ (fun hHeld2 => ?_)
      · exact E6.out
      clear hK K hHeld
      have hHeld := hHeld2
      clear hHeld2
      refine wpAnyH_ready (rs := [24]) (by kernel_rfl) (by simp) ?_
      refine AllReadyH.cons rfl (fun K hK => ?_) AllReadyH.nil
      go_simp
      go_at_call 22
      refine (C6.out _ hHeld).mono ?_
      rintro e x7 ⟨sb, n4, sd, rfl, hn4, hc4, hr4, hb7⟩
      have E7 : Hid (Below ve.heap.size ve x7) := hHeld.trans (hb7.mono hHeld.size); obtain rfl : n3 = n4 := N6.out.1.symm.trans hn4; have N7 : Hid (n3 ≤ sd ∧ NumsR x7 sb C ∧ NumsR x7 sa C) := ⟨hc4, hr4, N6.out.2.2.past hb7⟩; clear hb7 hn4 hc4 hr4
      refine hK.out _ _ ?_ (fun hHeld2 => ?_)
      · exact E7.out
      clear hK K hHeld
      have hHeld := hHeld2
      clear hHeld2
      refine wpAnyH_ready (rs := [25]) (by kernel_rfl) (by simp) ?_
      refine AllReadyH.cons rfl (fun K hK => ?_) AllReadyH.nil
      go_simp
      go_at_call 12
      refine ((CS.out C sa sb n3 sc sd N6.out.1 HC9.out N6.out.2.1 N7.out.1 _ N7.out.2.2 N7.out.2.1)).mono ?_
      rintro e x8 ⟨rfl, hb8⟩
      have E8 : Hid (Below ve.heap.size ve x8) := hHeld.trans (hb8.mono hHeld.size); clear hb8
      refine hK.out _ _ ?_ (fun hHeld2 => ?_)
      · exact E8.out
      clear hK K hHeld
      have hHeld := hHeld2
      clear hHeld2
      refine wpAnyH_take (i := 26) (v := ?_) rfl (by kernel_rfl) (by kernel_rfl) (by kernel_rfl) (fun _ _ _ h => h) (Or.inl ⟨by rfl, ?_⟩) hHeld ?_
      rotate_left
      · intro u hSu
        (go_simp) <;> (with_reducible rfl)
      change wpAnyH _ _ _ _ _ _ _ (Act.put _ (some 116) _) _
      simp only [Act.put, List.setIfInBounds_toArray, List.set_cons_zero, List.set_cons_succ]
      refine wpAnyH_take (i := 27) (v := ?_) rfl (by kernel_rfl) (by kernel_rfl) (by kernel_rfl) (fun _ _ _ h => h) (Or.inl ⟨by rfl, ?_⟩) hHeld ?_
      rotate_left
      · intro u hSu
        (go_simp) <;> (with_reducible rfl)
      change wpAnyH _ _ _ _ _ _ _ (Act.put _ (some 10) _) _
      simp only [Act.put, List.setIfInBounds_toArray, List.set_cons_zero, List.set_cons_succ]
      refine wpAnyH_done (by kernel_rfl) ?_ _
      refine NoPanic.normal ?_
      go_wp2
      go_ret
      exact ⟨rfl, HB.out.trans ((VB.out.trans (E8.out.mono VB.out.size)).mono HB.out.size)⟩

set_option maxRecDepth 100000 in
theorem lifted (os : Os) (started : os.Started) (H : Type) (enc : TypeId × Value → H) :
    ReturnsInHanded {} Try.checked os 4 .any (Rows.routeSaysSpec.pre6 enc Try.prog Try.f4 Rows.routeSaysRow.domain false) (Rows.routeSaysSpec.post enc Try.prog Try.f4 false true false false) := by
  refine returnsInHanded_of_change (C := Try.checked) own started (by kernel_rfl) Try.func4
    (ChangeSpec.witness6 (enc := enc) (C := Try.checked) false ⟨#[], #[.slice none 0 0, .agg #[.int .u8 0, .int .u8 0, .int .u8 0, .int .u8 0, .int .u8 0, .int .u8 0, .int .u8 0, .int .u8 0, .int .u8 0, .int .u8 0, .int .u8 0, .int .u8 0, .int .u8 0, .int .u8 0, .int .u8 0, .int .u8 0], .slice none 0 0, .agg #[.int .u8 0, .int .u8 0, .int .u8 0, .int .u8 0, .int .u8 0, .int .u8 0, .int .u8 0, .int .u8 0, .int .u8 0, .int .u8 0, .int .u8 0, .int .u8 0, .int .u8 0, .int .u8 0, .int .u8 0, .int .u8 0], .agg #[.int .u8 0, .int .u8 0, .int .u8 0, .int .u8 0, .int .u8 0, .int .u8 0, .int .u8 0, .int .u8 0, .int .u8 0, .int .u8 0, .int .u8 0, .int .u8 0, .int .u8 0, .int .u8 0, .int .u8 0, .int .u8 0]], []⟩ 8 (by kernel_rfl) (by kernel_rfl) (by kernel_rfl) (by kernel_rfl)) ?_
  intro W base args ds gs before hval0 hW hcnd _
  have hval : ∀ (j : Nat) t v, Try.f4.params[j]? = some t → args[j]? = some v → Value.okWide Try.prog W .any base t v := hval0
  have hW' := hW
  obtain ⟨p, q, hA0, hV, rfl, hfz, hnd⟩ := hW
  have hA : DataW.TrodAll enc Try.prog W 0 (fun _ => true) true Try.f4.params.toList args.toList ds p := hA0
  rw [Try.params4] at hA hval
  obtain ⟨v0, vs0, d0, ds0, p0, q0, hargs, rfl, rfl, h0, r0⟩ := trodAll_cons hA
  obtain ⟨v1, vs1, d1, ds1, p1, q1, rfl, rfl, rfl, h1, r1⟩ := trodAll_cons r0
  obtain ⟨v2, vs2, d2, ds2, p2, q2, rfl, rfl, rfl, h2, r2⟩ := trodAll_cons r1
  obtain ⟨v3, vs3, d3, ds3, p3, q3, rfl, rfl, rfl, h3, r3⟩ := trodAll_cons r2
  obtain ⟨v4, vs4, d4, ds4, p4, q4, rfl, rfl, rfl, h4, r4⟩ := trodAll_cons r3
  obtain ⟨rfl, rfl, rfl⟩ := trodAll_nil r4
  obtain rfl : args = #[v0, v1, v2, v3, v4] := by cases args; simp_all
  obtain ⟨rfl, rfl⟩ := trodVars_none hV
  obtain ⟨a0, len0, cap0, rfl⟩ := okWide_slice Try.underlying30 (hval 0 30 v0 rfl rfl)
  have k0 := h0
  have lt0 : ∀ x ∈ p0, x.block < W.heap.size := by obtain ⟨m, hm⟩ := k0; exact DataW.trod_lt m _ _ _ hm
  obtain ⟨z0, l0, w0, rm0, rn0⟩ : ∃ ls : List (List Int), ls.length = len0 ∧ KeysAt W a0 ls ∧ len0 ≤ cap0 ∧ (a0 = none → cap0 = 0) := by
    obtain ⟨fuel, hf⟩ := h0
    exact keys_openR Try.underlying30 Try.underlying28 Try.underlying5 (by kernel_rfl) (by kernel_rfl) hf
  have k1 := h1
  have lt1 : ∀ x ∈ p1, x.block < W.heap.size := by obtain ⟨m, hm⟩ := k1; exact DataW.trod_lt m _ _ _ hm
  obtain ⟨z1, rfl, w1⟩ := arr_open Try.underlying28 Try.underlying5 (by kernel_rfl) (by kernel_rfl) (hval 1 28 v1 rfl rfl) h1
  obtain ⟨a2, len2, cap2, rfl⟩ := okWide_slice Try.underlying33 (hval 2 33 v2 rfl rfl)
  have k2 := h2
  have lt2 : ∀ x ∈ p2, x.block < W.heap.size := by obtain ⟨m, hm⟩ := k2; exact DataW.trod_lt m _ _ _ hm
  obtain ⟨z2, l2, w2⟩ : ∃ xs : List Wrt, xs.length = len2 ∧ WrtsOf W a2 cap2 xs := by
    obtain ⟨fuel, hf⟩ := h2
    exact wrts_open Try.underlying33 Try.underlying32 Try.underlying28 Try.underlying5 Try.underlying9 Try.underlying4 rfl rfl rfl (by kernel_rfl) (by kernel_rfl) (by kernel_rfl) (by kernel_rfl) (by kernel_rfl) hf
  have k3 := h3
  have lt3 : ∀ x ∈ p3, x.block < W.heap.size := by obtain ⟨m, hm⟩ := k3; exact DataW.trod_lt m _ _ _ hm
  obtain ⟨z3, rfl, w3⟩ := arr_open Try.underlying28 Try.underlying5 (by kernel_rfl) (by kernel_rfl) (hval 3 28 v3 rfl rfl) h3
  have k4 := h4
  have lt4 : ∀ x ∈ p4, x.block < W.heap.size := by obtain ⟨m, hm⟩ := k4; exact DataW.trod_lt m _ _ _ hm
  obtain ⟨z4, rfl, w4⟩ := arr_open Try.underlying28 Try.underlying5 (by kernel_rfl) (by kernel_rfl) (hval 4 28 v4 rfl rfl) h4
  clear hA0 hval0
  refine (walk a0 len0 cap0 z0 z1 a2 len2 cap2 z2 z3 z4 W l0 w0 rm0 rn0 w1 l2 w2 w3 w4).mono fun e W' ⟨he, bel⟩ => ?_
  subst he
  exact ⟨_, rfl, _, _, _, [], _, [], hW', trodAll_mk1 (shut_bool Try.underlying4 _), (trodAll_cons_mk (Below.trod laidOut (by kernel_rfl) (of_decide_eq_true (by kernel_rfl)) k0 bel lt0) (trodAll_cons_mk (Below.trod laidOut (by kernel_rfl) (of_decide_eq_true (by kernel_rfl)) k1 bel lt1) (trodAll_cons_mk (Below.trod laidOut (by kernel_rfl) (of_decide_eq_true (by kernel_rfl)) k2 bel lt2) (trodAll_cons_mk (Below.trod laidOut (by kernel_rfl) (of_decide_eq_true (by kernel_rfl)) k3 bel lt3) (trodAll_cons_mk (Below.trod laidOut (by kernel_rfl) (of_decide_eq_true (by kernel_rfl)) k4 bel lt4) trodAll_mk0))))), rfl, bel.frame _, fun h => by cases h⟩

theorem over : Rows.routeSaysRow.holds Try.pinned (OpenSpec.ofChange Rows.routeSaysSpec) :=
  OpenClaim.holds_of_wide 4 Try.f4 rfl rfl rfl rfl rfl rfl rfl ⟨rfl, rfl, rfl, rfl, rfl⟩ rfl rfl rfl rfl rfl (by kernel_rfl) Try.func4 (by kernel_rfl)
    (of_decide_eq_true (by kernel_rfl)) (by unfold Func.isWrapper; first | (rw [if_pos (by decide +kernel)]; kernel_rfl) | (rw [if_neg (by decide +kernel)]; exact ⟨rfl, rfl⟩))
    (fun os started H enc _ => lifted os started H enc)
theorem proved : Rows.RouteSaysSaid := over
#print axioms proved
end Go.Proofs.Ytdbgkbgodnknnaa.routeSays
namespace Go.Proofs.Ytdbgkbgodnknnaa
/-- RouteSays, as given. -/
theorem routeSays_holds : Rows.RouteSaysSaid := routeSays.proved
end Go.Proofs.Ytdbgkbgodnknnaa
