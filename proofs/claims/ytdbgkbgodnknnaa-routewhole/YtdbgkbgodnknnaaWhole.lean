/-
  RouteWhole: each key is just one node's, nodes have their keys side by side, whoever has a key between two is told (of points and of keys that may not be the statement asks nothing).
-/
import Derived.Test.YtdbgkbgodnknnaaRows
import Derived.Test.YtdbgkbgodnknnaaRouL1
import Derived.Test.YtdbgkbgodnknnaaNested
import Derived.Test.YtdbgkbgodnknnaaKeysOpen
import Derived.WalkKit
import Derived.ProofKit
import Derived.OpenShut
import Derived.ShutString
import Derived.ChangeOld
import Derived.Below
import Derived.Carry
namespace Go.Proofs.Ytdbgkbgodnknnaa.routeWhole
open Go.ChangeShapes Go.WideShapes Go.ChangeAt Go.RowKit
open Go.ChangeMaps (open_string shut_string)
set_option linter.unusedVariables false

theorem own : ownKnob Try.prog.godebug = none := by kernel_rfl
theorem laidOut : laidOutB Try.prog = true := by kernel_rfl
/-- A slice of integers that came in: nil, or a row of 'cap' cells, of which the first 'len' are its elements. -/
def IsRow (k : IntKind) (w : World) (a : Option Addr) (len cap : Nat) (zs : List Int) : Prop :=
  (a = none ∧ len = 0 ∧ cap = 0 ∧ zs = []) ∨
  ∃ x, a = some x ∧ len ≤ cap ∧ cap ≤ maxLen ∧ zs.length = cap ∧ (∀ i, i < zs.length → w.cell? (x.add i) = some (.int k (zs.getD i 0))) ∧ ∀ n ∈ zs, (Lit.int k n).wf = true

/-- Four keys in boxes. -/
theorem boxes4R (w : World) {a b c d : List Int} (ha : Ky a) (hb : Ky b) (hc : Ky c) (hd : Ky d) (u : World) (hu : Below ((((w.alloc (.cells (kcs a) 28)).alloc (.cells (kcs b) 28)).alloc (.cells (kcs c) 28)).alloc (.cells (kcs d) 28)).heap.size ((((w.alloc (.cells (kcs a) 28)).alloc (.cells (kcs b) 28)).alloc (.cells (kcs c) 28)).alloc (.cells (kcs d) 28)) u) : KeyAt u w.heap.size 0 a ∧ KeyAt u (w.heap.size + 1) 0 b ∧ KeyAt u (w.heap.size + 2) 0 c ∧ KeyAt u (w.heap.size + 3) 0 d := by
  have hbel := (Below.refl (((w.alloc (.cells (kcs a) 28)).alloc (.cells (kcs b) 28)).alloc (.cells (kcs c) 28)).heap.size _).alloc (Nat.le_refl _) (.cells (kcs d) 28)
  obtain ⟨h1, h2, h3⟩ := boxes3R w ha hb hc _ hbel
  have h4 := KeyAt.made (((w.alloc (.cells (kcs a) 28)).alloc (.cells (kcs b) 28)).alloc (.cells (kcs c) 28)) 28 d hd
  rw [World.size_alloc, World.size_alloc, World.size_alloc] at h4
  exact ⟨h1.past hu, h2.past hu, h3.past hu, h4.past hu⟩
set_option maxHeartbeats 16000000 in
set_option maxRecDepth 8000 in
theorem walk (a0 : Option Addr) (len0 cap0 : Nat) (z0 : List (List Int)) (z1 : List Int) (z2 : List Int) (z3 : List Int) (z4 : List Int) (w : World) (l0 : z0.length = len0) (w0 : KeysAt w a0 z0) (r0 : len0 ≤ cap0) (n0 : a0 = none → cap0 = 0) (w1 : IsArr .u8 16 z1) (w2 : IsArr .u8 16 z2) (w3 : IsArr .u8 16 z3) (w4 : IsArr .u8 16 z4) :
    Calls Try.prog 5 #[.slice a0 len0 cap0, .agg (z1.map (Value.int .u8)).toArray, .agg (z2.map (Value.int .u8)).toArray, .agg (z3.map (Value.int .u8)).toArray, .agg (z4.map (Value.int .u8)).toArray] w fun e w' => e = .returned (.bool true) ∧ Below w.heap.size w w' := by
  have KA : Hid (Ky z1) := w1.ky
  have KB : Hid (Ky z2) := w2.ky
  have KF : Hid (Ky z3) := w3.ky
  have KT : Hid (Ky z4) := w4.ky
  obtain ⟨W0, hW0⟩ : ∃ u, u = (((w.alloc (.cells (kcs z1) 28)).alloc (.cells (kcs z2) 28)).alloc (.cells (kcs z3) 28)).alloc (.cells (kcs z4) 28) := ⟨_, rfl⟩
  have HW0 : Hid ((((w.alloc (.cells (kcs z1) 28)).alloc (.cells (kcs z2) 28)).alloc (.cells (kcs z3) 28)).alloc (.cells (kcs z4) 28) = W0) := hW0.symm
  have HB : Hid (Below w.heap.size w W0) := by rw [hW0]; exact ((((Below.refl _ _).alloc (Nat.le_refl _) _).alloc (by simp) _).alloc (by simp; omega) _).alloc (by simp; omega) _
  have HK : Hid (∀ u, Below W0.heap.size W0 u → KeyAt u w.heap.size 0 z1 ∧ KeyAt u (w.heap.size + 1) 0 z2 ∧ KeyAt u (w.heap.size + 2) 0 z3 ∧ KeyAt u (w.heap.size + 3) 0 z4) := fun u hu => by rw [hW0] at hu; exact boxes4R w w1.ky w2.ky w3.ky w4.ky u hu
  have AW : Hid (∀ u, Calls Try.prog 7 #[] u fun e w' => e = .returned (.bool true) ∧ Below u.heap.size u w') := fun u => rawake_any u
  have CN : Hid (∀ u, Below W0.heap.size W0 u → Calls Try.prog 8 #[.slice a0 len0 cap0] u fun e w' => NewRt z0 e w' ∧ Below u.heap.size u w') := fun u hu => ronew_any a0 cap0 len0 z0 u l0 r0 (w0.past (HB.out.trans (hu.mono HB.out.size))) n0
  have HN : Hid (z0.length = len0) := l0
  clear w1 w2 w3 w4 hW0 l0 w0 n0 r0
  cases hmay : mayR z0 with
  | false =>
    have CN2 : Hid (∀ u, Below W0.heap.size W0 u → Calls Try.prog 8 #[.slice a0 len0 cap0] u fun e w' => e = .returned (.tuple #[.pointer none, .int .i64 1]) ∧ Below u.heap.size u w') := fun u hu => (CN.out u hu).mono fun e w' ⟨h1, h2⟩ => ⟨h1.no hmay, h2⟩
    clear CN hmay
    go_enter Try.func5, Try.ntmps5
    go_wp2_with (first
      | (go_at_call 8; refine (CN2.out _ B1.out).mono ?_; rintro e v2 ⟨rfl, hb⟩; have B2 : Hid (Below W0.heap.size W0 v2) := B1.out.trans (hb.mono B1.out.size); clear hb)
      | (go_at_call 7; rw [HW0.out]; refine (AW.out _).mono ?_; rintro e v1 ⟨rfl, hb⟩; have B1 : Hid (Below W0.heap.size W0 v1) := hb; clear hb))
    go_ret
    exact ⟨rfl, HB.out.trans (B2.out.mono HB.out.size)⟩
  | true =>
  have CN2 : Hid (∀ u, Below W0.heap.size W0 u → Calls Try.prog 8 #[.slice a0 len0 cap0] u fun e w' => (∃ q, e = .returned (.tuple #[.pointer (some ⟨q, 0, none⟩), .int .i64 0]) ∧ RtAt w' q z0) ∧ Below u.heap.size u w') := fun u hu => (CN.out u hu).mono fun e w' ⟨h1, h2⟩ => ⟨h1.yes hmay, h2⟩
  obtain ⟨h7, hrise⟩ := mayR_few hmay
  rw [HN.out] at h7
  have d7 : decide ((7 : Int) < (len0 : Int)) = false := decide_eq_false (by omega)
  have hl0 : (0 : Int) ≤ (len0 : Int) := by omega
  have HRS : Hid (riseR z0 = true) := hrise
  obtain ⟨ga, hga⟩ : ∃ x, x = goodK z1 := ⟨_, rfl⟩
  obtain ⟨gb, hgb⟩ : ∃ x, x = goodK z2 := ⟨_, rfl⟩
  have CGA : Hid (∀ u, Calls Try.prog 23 #[kv z1] u fun e w' => e = .returned (.bool ga) ∧ Below u.heap.size u w') := fun u => by rw [hga]; exact rgood_any z1 KA.out u
  have CGB : Hid (∀ u, Calls Try.prog 23 #[kv z2] u fun e w' => e = .returned (.bool gb) ∧ Below u.heap.size u w') := fun u => by rw [hgb]; exact rgood_any z2 KB.out u
  obtain ⟨X, hX⟩ : ∃ n, n = ofN z0 z1 := ⟨_, rfl⟩
  obtain ⟨Y, hY⟩ : ∃ n, n = ofN z0 z2 := ⟨_, rfl⟩
  obtain ⟨C, hC⟩ : ∃ l, l = coverR z0 z3 z4 := ⟨_, rfl⟩
  obtain ⟨r, hr⟩ : ∃ x, x = lexC z1 z2 := ⟨_, rfl⟩
  obtain ⟨wi, hwi⟩ : ∃ x, x = withinK z1 z3 z4 := ⟨_, rfl⟩
  have COA : Hid (ga = true → ∀ q, ∀ u, RtAt u q z0 → Calls Try.prog 11 #[.pointer (some ⟨q, 0, none⟩), kv z1] u fun e w' => e = .returned (.int .i64 (X : Int)) ∧ Below u.heap.size u w') := fun hg q u h => by
    have := roof_any z1 KA.out u h (by rw [HN.out]; omega)
    unfold ofR at this
    rw [← hga, hg, if_pos rfl, ← hX] at this
    exact this
  have COB : Hid (gb = true → ∀ q, ∀ u, RtAt u q z0 → Calls Try.prog 11 #[.pointer (some ⟨q, 0, none⟩), kv z2] u fun e w' => e = .returned (.int .i64 (Y : Int)) ∧ Below u.heap.size u w') := fun hg q u h => by
    have := roof_any z2 KB.out u h (by rw [HN.out]; omega)
    unfold ofR at this
    rw [← hgb, hg, if_pos rfl, ← hY] at this
    exact this
  have CNN : Hid (∀ q u, RtAt u q z0 → Calls Try.prog 18 #[.pointer (some ⟨q, 0, none⟩)] u fun e w' => e = .returned (.int .i64 ((len0 : Int) + 1)) ∧ w' = u) := fun q u h => by
    have := ronodes_any u h (by rw [HN.out]; omega)
    rw [HN.out] at this
    exact this
  have CCM : Hid (∀ u, Calls Try.prog 24 #[kv z1, kv z2] u fun e w' => e = .returned (.int .i64 r) ∧ Below u.heap.size u w') := fun u => by rw [hr]; exact rcmp_any z1 z2 KA.out KB.out u
  have CCV : Hid (∀ q u, RtAt u q z0 → Calls Try.prog 14 #[.pointer (some ⟨q, 0, none⟩), kv z3, kv z4] u fun e w' => ∃ ra m rc, e = .returned (.slice ra m rc) ∧ C.length = m ∧ m ≤ rc ∧ NumsR w' ra C ∧ Below u.heap.size u w') := fun q u h => by rw [hC]; exact rocover_any z3 z4 KF.out KT.out u h (by rw [HN.out]; omega)
  have CWI : Hid (∀ u, Calls Try.prog 25 #[kv z1, kv z3, kv z4] u fun e w' => e = .returned (.bool wi) ∧ Below u.heap.size u w') := fun u => by rw [hwi]; exact rwithin_any z1 z3 z4 KA.out KF.out KT.out u
  have HXL : X ≤ len0 := by rw [hX, ← HN.out]; exact ofN_le _ _
  have HMO : Hid (r ≤ 0 → X ≤ Y) := fun h => by rw [hX, hY]; exact ofN_mono z0 (by rw [← hr]; exact h)
  have HSD : Hid (∀ (t : Nat) (x y : Int), C[t]? = some x → C[t + 1]? = some y → y = x + 1) := by rw [hC]; exact cover_side hrise z3 z4
  have HHS : Hid (wi = true → (X : Int) ∈ C) := fun h => by rw [hX, hC]; exact cover_has hrise (by rw [← hwi]; exact h)
  have HCM : Hid (∀ z ∈ C, 0 ≤ z ∧ z ≤ (len0 : Int)) := fun z hz => by rw [hC] at hz; rw [← HN.out]; exact cover_mem hz
  have HCL : Hid (C.length ≤ 8) := by
    have := cover_len z0 z3 z4
    rw [← hC, HN.out] at this
    exact Nat.le_trans this (by omega)
  clear hga hgb hX hY hC hr hwi CN hmay hrise HRS
  have h0x : (0 : Int) ≤ (X : Int) := by omega
  have h1x : decide ((X : Int) < 0) = false := decide_eq_false (by omega)
  have h2x : decide ((len0 : Int) + 1 ≤ (X : Int)) = false := decide_eq_false (by omega)
  go_enter Try.func5, Try.ntmps5
  cases ga with
  | false =>
    go_wp2_with (first
      | (have hgo := B2.out; clear hgo; go_at_call 23; refine (CGA.out _).mono ?_; rintro e v3 ⟨rfl, hb⟩; have B3 : Hid (Below W0.heap.size W0 v3) := B2.out.trans (hb.mono B2.out.size); have R3 : Hid (RtAt v3 q z0) := R2.out.past hb; clear hb)
      | ((with_reducible show wpList _ _ _ (Oper.mk (some 33) _ _ _ _ _ :: _) _ _); refine wpList_load_keyD 33 (by rfl) (by rfl) _ (by rfl) w.heap.size 0 (by rfl) z1 KA.out (HK.out _ B2.out).1 ?_)
      | (have hgo := B1.out; clear hgo; go_at_call 8; refine (CN2.out _ B1.out).mono ?_; rintro e v2 ⟨⟨q, rfl, hr2⟩, hb⟩; have R2 : Hid (RtAt v2 q z0) := hr2; have B2 : Hid (Below W0.heap.size W0 v2) := B1.out.trans (hb.mono B1.out.size); clear hb hr2)
      | (go_at_call 7; rw [HW0.out]; refine (AW.out _).mono ?_; rintro e v1 ⟨rfl, hb⟩; have B1 : Hid (Below W0.heap.size W0 v1) := hb; clear hb))
    go_ret
    exact ⟨rfl, HB.out.trans (B3.out.mono HB.out.size)⟩
  | true =>
  cases gb with
  | false =>
    go_wp2_with (first
      | (have hgo := B3.out; clear hgo; go_at_call 23; refine (CGB.out _).mono ?_; rintro e v4 ⟨rfl, hb⟩; have B4 : Hid (Below W0.heap.size W0 v4) := B3.out.trans (hb.mono B3.out.size); have R4 : Hid (RtAt v4 q z0) := R3.out.past hb; clear hb)
      | ((with_reducible show wpList _ _ _ (Oper.mk (some 38) _ _ _ _ _ :: _) _ _); refine wpList_load_keyD 38 (by rfl) (by rfl) _ (by rfl) (w.heap.size + 1) 0 (by rfl) z2 KB.out (HK.out _ B3.out).2.1 ?_)
      | (have hgo := B2.out; clear hgo; go_at_call 23; refine (CGA.out _).mono ?_; rintro e v3 ⟨rfl, hb⟩; have B3 : Hid (Below W0.heap.size W0 v3) := B2.out.trans (hb.mono B2.out.size); have R3 : Hid (RtAt v3 q z0) := R2.out.past hb; clear hb)
      | ((with_reducible show wpList _ _ _ (Oper.mk (some 33) _ _ _ _ _ :: _) _ _); refine wpList_load_keyD 33 (by rfl) (by rfl) _ (by rfl) w.heap.size 0 (by rfl) z1 KA.out (HK.out _ B2.out).1 ?_)
      | (have hgo := B1.out; clear hgo; go_at_call 8; refine (CN2.out _ B1.out).mono ?_; rintro e v2 ⟨⟨q, rfl, hr2⟩, hb⟩; have R2 : Hid (RtAt v2 q z0) := hr2; have B2 : Hid (Below W0.heap.size W0 v2) := B1.out.trans (hb.mono B1.out.size); clear hb hr2)
      | (go_at_call 7; rw [HW0.out]; refine (AW.out _).mono ?_; rintro e v1 ⟨rfl, hb⟩; have B1 : Hid (Below W0.heap.size W0 v1) := hb; clear hb))
    go_ret
    exact ⟨rfl, HB.out.trans (B4.out.mono HB.out.size)⟩
  | true =>
    have COA1 : Hid (∀ (q : Nat) (u : World), RtAt u q z0 → Calls Try.prog 11 #[.pointer (some ⟨q, 0, none⟩), kv z1] u fun e w' => e = .returned (.int .i64 (X : Int)) ∧ Below u.heap.size u w') := COA.out rfl
    have COB1 : Hid (∀ (q : Nat) (u : World), RtAt u q z0 → Calls Try.prog 11 #[.pointer (some ⟨q, 0, none⟩), kv z2] u fun e w' => e = .returned (.int .i64 (Y : Int)) ∧ Below u.heap.size u w') := COB.out rfl
    clear COA COB
    go_wp2_with (first
      | (have hgo := B3.out; clear hgo; go_at_call 23; refine (CGB.out _).mono ?_; rintro e v4 ⟨rfl, hb⟩; have B4 : Hid (Below W0.heap.size W0 v4) := B3.out.trans (hb.mono B3.out.size); have R4 : Hid (RtAt v4 q z0) := R3.out.past hb; clear hb)
      | ((with_reducible show wpList _ _ _ (Oper.mk (some 38) _ _ _ _ _ :: _) _ _); refine wpList_load_keyD 38 (by rfl) (by rfl) _ (by rfl) (w.heap.size + 1) 0 (by rfl) z2 KB.out (HK.out _ B3.out).2.1 ?_)
      | (have hgo := B2.out; clear hgo; go_at_call 23; refine (CGA.out _).mono ?_; rintro e v3 ⟨rfl, hb⟩; have B3 : Hid (Below W0.heap.size W0 v3) := B2.out.trans (hb.mono B2.out.size); have R3 : Hid (RtAt v3 q z0) := R2.out.past hb; clear hb)
      | ((with_reducible show wpList _ _ _ (Oper.mk (some 33) _ _ _ _ _ :: _) _ _); refine wpList_load_keyD 33 (by rfl) (by rfl) _ (by rfl) w.heap.size 0 (by rfl) z1 KA.out (HK.out _ B2.out).1 ?_)
      | (have hgo := B1.out; clear hgo; go_at_call 8; refine (CN2.out _ B1.out).mono ?_; rintro e v2 ⟨⟨q, rfl, hr2⟩, hb⟩; have R2 : Hid (RtAt v2 q z0) := hr2; have B2 : Hid (Below W0.heap.size W0 v2) := B1.out.trans (hb.mono B1.out.size); clear hb hr2)
      | (go_at_call 7; rw [HW0.out]; refine (AW.out _).mono ?_; rintro e v1 ⟨rfl, hb⟩; have B1 : Hid (Below W0.heap.size W0 v1) := hb; clear hb))
    have FA : Hid (∀ u, Below v4.heap.size v4 u → KeyAt u w.heap.size 0 z1) := fun u hu => (HK.out u (B4.out.trans (hu.mono B4.out.size))).1
    have FB : Hid (∀ u, Below v4.heap.size v4 u → KeyAt u (w.heap.size + 1) 0 z2) := fun u hu => (HK.out u (B4.out.trans (hu.mono B4.out.size))).2.1
    refine wp_region_noPanic ?_
    refine wp_region_held_drew (S := fun u => Below v4.heap.size v4 u) (by kernel_rfl) ?_ (fun hHeld => ?_)
    · exact (Below.refl _ _).drew
    refine wpAnyH_take (i := 0) (v := ?_) rfl (by kernel_rfl) (by kernel_rfl) (by kernel_rfl) (fun _ _ _ h => h) (Or.inl ⟨by rfl, ?_⟩) hHeld ?_
    rotate_left
    · intro u hSu
      (go_simp) <;> (with_reducible rfl)
    change wpAnyH _ _ _ _ _ _ _ (Act.put _ (some 42) _) _
    simp only [Act.put, List.setIfInBounds_toArray, List.set_cons_zero, List.set_cons_succ]
    refine wpAnyH_take (i := 1) (v := kv z1) rfl (by kernel_rfl) (by kernel_rfl) (by kernel_rfl) (fun _ _ _ h => h) (yieldsIf_load_mid (by rfl) _ _ rfl _ _ rfl (z1.map (Value.int .u8)) _ (fun u hu => (FA.out u hu).range KA.out) Try.underlying28 rfl (info_keyl z1 KA.out)) hHeld ?_
    change wpAnyH _ _ _ _ _ _ _ (Act.put _ (some 43) _) _
    simp only [Act.put, List.setIfInBounds_toArray, List.set_cons_zero, List.set_cons_succ]
    refine wpAnyH_take (i := 3) (v := ?_) rfl (by kernel_rfl) (by kernel_rfl) (by kernel_rfl) (fun _ _ _ h => h) (Or.inl ⟨by rfl, ?_⟩) hHeld ?_
    rotate_left
    · intro u hSu
      (go_simp) <;> (with_reducible rfl)
    change wpAnyH _ _ _ _ _ _ _ (Act.put _ (some 45) _) _
    simp only [Act.put, List.setIfInBounds_toArray, List.set_cons_zero, List.set_cons_succ]
    refine wpAnyH_take (i := 4) (v := kv z2) rfl (by kernel_rfl) (by kernel_rfl) (by kernel_rfl) (fun _ _ _ h => h) (yieldsIf_load_mid (by rfl) _ _ rfl _ _ rfl (z2.map (Value.int .u8)) _ (fun u hu => (FB.out u hu).range KB.out) Try.underlying28 rfl (info_keyl z2 KB.out)) hHeld ?_
    change wpAnyH _ _ _ _ _ _ _ (Act.put _ (some 46) _) _
    simp only [Act.put, List.setIfInBounds_toArray, List.set_cons_zero, List.set_cons_succ]
    refine wpAnyH_ready (rs := [2]) (by kernel_rfl) (by simp) ?_
    refine AllReadyH.cons rfl (fun K hK => ?_) AllReadyH.nil
    go_simp
    go_at_call 11
    refine (COA1.out q _ (R4.out.past hHeld)).mono ?_
    rintro e v5 ⟨rfl, hb5⟩
    have B5 : Hid (Below v4.heap.size v4 v5) := hHeld.trans (hb5.mono hHeld.size); clear hb5
    refine hK.out _ _ ?_ (fun hHeld2 => ?_)
    · exact B5.out
    clear hK K hHeld
    have hHeld := hHeld2
    clear hHeld2
    refine wpAnyH_ready (rs := [5]) (by kernel_rfl) (by simp) ?_
    refine AllReadyH.cons rfl (fun K hK => ?_) AllReadyH.nil
    go_simp
    go_at_call 11
    refine (COB1.out q _ (R4.out.past hHeld)).mono ?_
    rintro e v6 ⟨rfl, hb6⟩
    have B6 : Hid (Below v4.heap.size v4 v6) := hHeld.trans (hb6.mono hHeld.size); clear hb6
    refine hK.out _ _ ?_ (fun hHeld2 => ?_)
    · exact B6.out
    clear hK K hHeld
    have hHeld := hHeld2
    clear hHeld2
    refine wpAnyH_take (i := 6) (v := ?_) rfl (by kernel_rfl) (by kernel_rfl) (by kernel_rfl) (fun _ _ _ h => h) (Or.inl ⟨by rfl, ?_⟩) hHeld ?_
    rotate_left
    · intro u hSu
      (go_simp) <;> (with_reducible rfl)
    change wpAnyH _ _ _ _ _ _ _ (Act.put _ (some 13) _) _
    simp only [Act.put, List.setIfInBounds_toArray, List.set_cons_zero, List.set_cons_succ]
    refine wpAnyH_take (i := 7) (v := ?_) rfl (by kernel_rfl) (by kernel_rfl) (by kernel_rfl) (fun _ _ _ h => h) (Or.inl ⟨by rfl, ?_⟩) hHeld ?_
    rotate_left
    · intro u hSu
      (go_simp) <;> (with_reducible rfl)
    change wpAnyH _ _ _ _ _ _ _ (Act.put _ (some 14) _) _
    simp only [Act.put, List.setIfInBounds_toArray, List.set_cons_zero, List.set_cons_succ]
    refine wpAnyH_done (by kernel_rfl) ?_ _
    refine NoPanic.normal ?_
    have V6 : Hid (Below W0.heap.size W0 v6) := B4.out.trans (B6.out.mono B4.out.size)
    have R6 : Hid (RtAt v6 q z0) := R4.out.past B6.out
    clear B1 B2 B3 R2 R3 B4 R4 B5 B6 FA FB AW CN2 CGA CGB COA1 COB1
    by_cases hr0 : r ≤ 0
    · have d1 : decide (r ≤ 0) = true := decide_eq_true hr0
      have hxy : decide (Y < X) = false := decide_eq_false (by have := HMO.out hr0; omega)
      go_wp2_with (first
        | (go_at_call 14; refine (CCV.out q _ R7.out).mono ?_; rintro e v8 ⟨ra, m, rc, rfl, hm, hmc, hn, hb⟩; have B8 : Hid (Below W0.heap.size W0 v8) := B7.out.trans (hb.mono B7.out.size); have HM : Hid (C.length = m) := hm; have HMC : Hid (m ≤ rc) := hmc; have HNU : Hid (NumsR v8 ra C) := hn; clear hm hmc hn hb)
        | ((with_reducible show wpList _ _ _ (Oper.mk (some 68) _ _ _ _ _ :: _) _ _); refine wpList_load_keyD 68 (by rfl) (by rfl) _ (by rfl) (w.heap.size + 2) 0 (by rfl) z3 KF.out (HK.out _ B7.out).2.2.1 ?_)
        | ((with_reducible show wpList _ _ _ (Oper.mk (some 69) _ _ _ _ _ :: _) _ _); refine wpList_load_keyD 69 (by rfl) (by rfl) _ (by rfl) (w.heap.size + 3) 0 (by rfl) z4 KT.out (HK.out _ B7.out).2.2.2 ?_)
        | (go_at_call 24; refine (CCM.out _).mono ?_; rintro e v7 ⟨rfl, hb⟩; have B7 : Hid (Below W0.heap.size W0 v7) := V6.out.trans (hb.mono V6.out.size); have R7 : Hid (RtAt v7 q z0) := R6.out.past hb; clear hb)
        | ((with_reducible show wpList _ _ _ (Oper.mk (some 57) _ _ _ _ _ :: _) _ _); refine wpList_load_keyD 57 (by rfl) (by rfl) _ (by rfl) w.heap.size 0 (by rfl) z1 KA.out (HK.out _ V6.out).1 ?_)
        | ((with_reducible show wpList _ _ _ (Oper.mk (some 58) _ _ _ _ _ :: _) _ _); refine wpList_load_keyD 58 (by rfl) (by rfl) _ (by rfl) (w.heap.size + 1) 0 (by rfl) z2 KB.out (HK.out _ V6.out).2.1 ?_)
        | (go_at_call 18; refine (CNN.out q _ R6.out).mono ?_; rintro e vn ⟨rfl, hw⟩; obtain rfl := hw.symm; clear hw))
      have hm8 : m ≤ 8 := by have := HCL.out; have h2 := HM.out; omega
      go_loopw [16, 17] (fun bv iv wr => ∃ (i : Nat) (t : Bool), iv = .int .i64 i ∧ bv = .bool t ∧ i ≤ m ∧ Hid (t = true ↔ (X : Int) ∈ C.take i) ∧ Hid (Below v8.heap.size v8 wr)) (fun _ iv _ => m - (intOf iv).toNat)
      case atStart => exact ⟨0, false, rfl, rfl, Nat.zero_le _, by show _ ↔ _; simp, Below.refl _ _⟩
      case round =>
        obtain ⟨i, t, rfl, rfl, hi, HTI, HBR⟩ := hrel
        have hi0 : (0 : Int) ≤ (i : Int) := by omega
        by_cases hlt : i < m
        · have h1 : (i : Int) < (m : Int) := by omega
          obtain ⟨z, hz⟩ : ∃ z, C[i]? = some z := ⟨_, List.getElem?_eq_getElem (by rw [HM.out]; exact hlt)⟩
          obtain ⟨g, hag, hcl⟩ := HNU.out i z hz
          subst hag
          have HZ : Hid (C[i]? = some z) := hz
          have FZ : Hid (∀ u, Below v8.heap.size v8 u → u.cell? ⟨g, i, none⟩ = some (.int .i64 z)) := fun u hu => (hu.cell (p := ⟨g, i, none⟩) (lt_of_cell hcl)).trans hcl
          have HNX : Hid ((X : Int) ∈ C.take (i + 1) ↔ (X : Int) ∈ C.take i ∨ z = (X : Int)) := mem_take_next hz _
          have q0 := FZ.out wr HBR.out
          obtain ⟨hz1, hz2⟩ := HCM.out z (List.mem_of_getElem? hz)
          clear hz hcl
          obtain ⟨T, HT, hb⟩ : ∃ T : Bool, Hid (T = true ↔ (X : Int) ∈ C.take (i + 1)) ∧ T = (t || (z == (X : Int))) := ⟨t || (z == (X : Int)), by
            show _ ↔ _
            rw [Bool.or_eq_true, HNX.out, HTI.out, beq_iff_eq], rfl⟩
          clear HNX
          go_upto_region 14 with (fail)
          go_cut [16] from 77 to 85 (fun bv wx => bv = .bool T ∧ wx = wr)
          case first =>
            cases t with
            | true =>
              have hT : T = true := by rw [hb]; rfl
              subst hT
              clear hb
              go_wp2
              go_meet
              exact ⟨rfl, rfl⟩
            | false =>
              rw [Bool.false_or] at hb
              subst hb
              go_wp2
              go_meet
              exact ⟨rfl, rfl⟩
          case rest =>
            obtain ⟨rfl, rfl⟩ := hcut
            clear hb q0
            cases i with
            | zero =>
              go_wp2
              refine wp_region_noPanic ?_
              refine wp_region_held_drew (S := fun u => Below wc.heap.size wc u) (by kernel_rfl) ?_ (fun hHeld => ?_)
              · exact (Below.refl _ _).drew
              refine wpAnyH_take (i := 0) (v := ?_) rfl (by kernel_rfl) (by kernel_rfl) (by kernel_rfl) (fun _ _ _ h => h) (Or.inl ⟨by rfl, ?_⟩) hHeld ?_
              rotate_left
              · intro u hSu
                (go_simp) <;> (with_reducible rfl)
              change wpAnyH _ _ _ _ _ _ _ (Act.put _ (some 86) _) _
              simp only [Act.put, List.setIfInBounds_toArray, List.set_cons_zero, List.set_cons_succ]
              refine wpAnyH_take (i := 1) (v := ?_) rfl (by kernel_rfl) (by kernel_rfl) (by kernel_rfl) (fun _ _ _ h => h) (Or.inl ⟨by rfl, ?_⟩) hHeld ?_
              rotate_left
              · intro u hSu
                (go_simp) <;> (with_reducible rfl)
              change wpAnyH _ _ _ _ _ _ _ (Act.put _ (some 87) _) _
              simp only [Act.put, List.setIfInBounds_toArray, List.set_cons_zero, List.set_cons_succ]
              refine wpAnyH_take (i := 2) (v := ?_) rfl (by kernel_rfl) (by kernel_rfl) (by kernel_rfl) (fun _ _ _ h => h) (Or.inl ⟨by rfl, ?_⟩) hHeld ?_
              rotate_left
              · intro u hSu
                (go_simp) <;> (with_reducible rfl)
              change wpAnyH _ _ _ _ _ _ _ (Act.put _ (some 88) _) _
              simp only [Act.put, List.setIfInBounds_toArray, List.set_cons_zero, List.set_cons_succ]
              refine wpAnyH_take (i := 3) (v := undef) rfl (by kernel_rfl) (by kernel_rfl) (by kernel_rfl) (fun _ _ _ h => h) (Or.inr ⟨by rfl, rfl⟩) hHeld ?_
              change wpAnyH _ _ _ _ _ _ _ (Act.put _ (some 89) _) _
              simp only [Act.put, List.setIfInBounds_toArray, List.set_cons_zero, List.set_cons_succ]
              refine wpAnyH_take (i := 4) (v := undef) rfl (by kernel_rfl) (by kernel_rfl) (by kernel_rfl) (fun _ _ _ h => h) (Or.inr ⟨by rfl, rfl⟩) hHeld ?_
              change wpAnyH _ _ _ _ _ _ _ (Act.put _ (some 90) _) _
              simp only [Act.put, List.setIfInBounds_toArray, List.set_cons_zero, List.set_cons_succ]
              refine wpAnyH_take (i := 5) (v := undef) rfl (by kernel_rfl) (by kernel_rfl) (by kernel_rfl) (fun _ _ _ h => h) (Or.inr ⟨by rfl, rfl⟩) hHeld ?_
              change wpAnyH _ _ _ _ _ _ _ (Act.put _ (some 91) _) _
              simp only [Act.put, List.setIfInBounds_toArray, List.set_cons_zero, List.set_cons_succ]
              refine wpAnyH_take (i := 6) (v := undef) rfl (by kernel_rfl) (by kernel_rfl) (by kernel_rfl) (fun _ _ _ h => h) (Or.inr ⟨by rfl, rfl⟩) hHeld ?_
              change wpAnyH _ _ _ _ _ _ _ (Act.put _ (some 92) _) _
              simp only [Act.put, List.setIfInBounds_toArray, List.set_cons_zero, List.set_cons_succ]
              refine wpAnyH_take (i := 7) (v := undef) rfl (by kernel_rfl) (by kernel_rfl) (by kernel_rfl) (fun _ _ _ h => h) (Or.inr ⟨by rfl, rfl⟩) hHeld ?_
              change wpAnyH _ _ _ _ _ _ _ (Act.put _ (some 93) _) _
              simp only [Act.put, List.setIfInBounds_toArray, List.set_cons_zero, List.set_cons_succ]
              refine wpAnyH_take (i := 8) (v := undef) rfl (by kernel_rfl) (by kernel_rfl) (by kernel_rfl) (fun _ _ _ h => h) (Or.inr ⟨by rfl, rfl⟩) hHeld ?_
              change wpAnyH _ _ _ _ _ _ _ (Act.put _ (some 94) _) _
              simp only [Act.put, List.setIfInBounds_toArray, List.set_cons_zero, List.set_cons_succ]
              refine wpAnyH_take (i := 9) (v := undef) rfl (by kernel_rfl) (by kernel_rfl) (by kernel_rfl) (fun _ _ _ h => h) (Or.inr ⟨by rfl, rfl⟩) hHeld ?_
              change wpAnyH _ _ _ _ _ _ _ (Act.put _ (some 95) _) _
              simp only [Act.put, List.setIfInBounds_toArray, List.set_cons_zero, List.set_cons_succ]
              refine wpAnyH_take (i := 10) (v := undef) rfl (by kernel_rfl) (by kernel_rfl) (by kernel_rfl) (fun _ _ _ h => h) (Or.inr ⟨by rfl, rfl⟩) hHeld ?_
              change wpAnyH _ _ _ _ _ _ _ (Act.put _ (some 96) _) _
              simp only [Act.put, List.setIfInBounds_toArray, List.set_cons_zero, List.set_cons_succ]
              refine wpAnyH_take (i := 11) (v := undef) rfl (by kernel_rfl) (by kernel_rfl) (by kernel_rfl) (fun _ _ _ h => h) (Or.inr ⟨by rfl, rfl⟩) hHeld ?_
              change wpAnyH _ _ _ _ _ _ _ (Act.put _ (some 97) _) _
              simp only [Act.put, List.setIfInBounds_toArray, List.set_cons_zero, List.set_cons_succ]
              refine wpAnyH_take (i := 12) (v := undef) rfl (by kernel_rfl) (by kernel_rfl) (by kernel_rfl) (fun _ _ _ h => h) (Or.inr ⟨by rfl, rfl⟩) hHeld ?_
              change wpAnyH _ _ _ _ _ _ _ (Act.put _ (some 98) _) _
              simp only [Act.put, List.setIfInBounds_toArray, List.set_cons_zero, List.set_cons_succ]
              refine wpAnyH_take (i := 13) (v := undef) rfl (by kernel_rfl) (by kernel_rfl) (by kernel_rfl) (fun _ _ _ h => h) (Or.inr ⟨by rfl, rfl⟩) hHeld ?_
              change wpAnyH _ _ _ _ _ _ _ (Act.put _ (some 99) _) _
              simp only [Act.put, List.setIfInBounds_toArray, List.set_cons_zero, List.set_cons_succ]
              refine wpAnyH_take (i := 14) (v := ?_) rfl (by kernel_rfl) (by kernel_rfl) (by kernel_rfl) (fun _ _ _ h => h) (Or.inl ⟨by rfl, ?_⟩) hHeld ?_
              rotate_left
              · intro u hSu
                (go_simp) <;> (with_reducible rfl)
              change wpAnyH _ _ _ _ _ _ _ (Act.put _ (some 100) _) _
              simp only [Act.put, List.setIfInBounds_toArray, List.set_cons_zero, List.set_cons_succ]
              refine wpAnyH_done (by kernel_rfl) ?_ _
              refine NoPanic.normal ?_
              go_wp2
              go_roundw
              case rel => exact ⟨1, T, by go_num, rfl, by omega, HT, HBR.out.drew⟩
              case measure => simp [intOf]; omega
            | succ j =>
              have hj0 : (0 : Int) ≤ (j : Int) := by omega
              have hj1 : (j : Int) < (m : Int) := by omega
              have hj2 : (0 : Int) ≤ (j : Int) + 1 := by omega
              have hj3 : (0 : Int) < (j : Int) + 1 := by omega
              have hj4 : (j : Int) + 1 < (m : Int) := by omega
              have hwj : IntKind.i64.wrap (j : Int) = (j : Int) := by rw [IntKind.wrap_i64]; omega
              obtain ⟨y, hy⟩ : ∃ y, C[j]? = some y := ⟨_, List.getElem?_eq_getElem (by rw [HM.out]; omega)⟩
              obtain ⟨g2, hag2, hcl2⟩ := HNU.out j y hy
              injection hag2 with hag2
              injection hag2 with hag2 _
              subst hag2
              have FY : Hid (∀ u, Below v8.heap.size v8 u → u.cell? ⟨g, j, none⟩ = some (.int .i64 y)) := fun u hu => (hu.cell (p := ⟨g, j, none⟩) (lt_of_cell hcl2)).trans hcl2
              obtain rfl := HSD.out j y z hy HZ.out
              obtain ⟨hy1, hy2⟩ := HCM.out y (List.mem_of_getElem? hy)
              have hwy : IntKind.i64.wrap (y + 1) = y + 1 := by rw [IntKind.wrap_i64]; omega
              have hne : ((y + 1) != (y + 1)) = false := by simp
              have F2 : Hid (∀ u, Below wc.heap.size wc u → u.cell? ⟨g, j + 1, none⟩ = some (.int .i64 (y + 1)) ∧ u.cell? ⟨g, j, none⟩ = some (.int .i64 y)) := fun u hu => ⟨FZ.out u (HBR.out.trans (hu.mono HBR.out.size)), FY.out u (HBR.out.trans (hu.mono HBR.out.size))⟩
              clear hy hcl2 FY FZ HZ
              go_wp2
              refine wp_region_noPanic ?_
              refine wp_region_held_drew (S := fun u => Below wc.heap.size wc u) (by kernel_rfl) ?_ (fun hHeld => ?_)
              · exact (Below.refl _ _).drew
              refine wpAnyH_take (i := 0) (v := ?_) rfl (by kernel_rfl) (by kernel_rfl) (by kernel_rfl) (fun _ _ _ h => h) (Or.inl ⟨by rfl, ?_⟩) hHeld ?_
              rotate_left
              · intro u hSu
                (go_simp) <;> (with_reducible rfl)
              change wpAnyH _ _ _ _ _ _ _ (Act.put _ (some 86) _) _
              simp only [Act.put, List.setIfInBounds_toArray, List.set_cons_zero, List.set_cons_succ]
              refine wpAnyH_take (i := 1) (v := ?_) rfl (by kernel_rfl) (by kernel_rfl) (by kernel_rfl) (fun _ _ _ h => h) (Or.inl ⟨by rfl, ?_⟩) hHeld ?_
              rotate_left
              · intro u hSu
                (go_simp) <;> (with_reducible rfl)
              change wpAnyH _ _ _ _ _ _ _ (Act.put _ (some 87) _) _
              simp only [Act.put, List.setIfInBounds_toArray, List.set_cons_zero, List.set_cons_succ]
              refine wpAnyH_take (i := 2) (v := ?_) rfl (by kernel_rfl) (by kernel_rfl) (by kernel_rfl) (fun _ _ _ h => h) (Or.inl ⟨by rfl, ?_⟩) hHeld ?_
              rotate_left
              · intro u hSu
                (go_simp) <;> (with_reducible rfl)
              change wpAnyH _ _ _ _ _ _ _ (Act.put _ (some 88) _) _
              simp only [Act.put, List.setIfInBounds_toArray, List.set_cons_zero, List.set_cons_succ]
              refine wpAnyH_take (i := 3) (v := ?_) rfl (by kernel_rfl) (by kernel_rfl) (by kernel_rfl) (fun _ _ _ h => h) (Or.inl ⟨by rfl, ?_⟩) hHeld ?_
              rotate_left
              · intro u hSu
                (go_simp) <;> (with_reducible rfl)
              change wpAnyH _ _ _ _ _ _ _ (Act.put _ (some 89) _) _
              simp only [Act.put, List.setIfInBounds_toArray, List.set_cons_zero, List.set_cons_succ]
              refine wpAnyH_take (i := 4) (v := ?_) rfl (by kernel_rfl) (by kernel_rfl) (by kernel_rfl) (fun _ _ _ h => h) (Or.inl ⟨by rfl, ?_⟩) hHeld ?_
              rotate_left
              · intro u hSu
                (go_simp) <;> (with_reducible rfl)
              change wpAnyH _ _ _ _ _ _ _ (Act.put _ (some 90) _) _
              simp only [Act.put, List.setIfInBounds_toArray, List.set_cons_zero, List.set_cons_succ]
              refine wpAnyH_take (i := 5) (v := ?_) rfl (by kernel_rfl) (by kernel_rfl) (by kernel_rfl) (fun _ _ _ h => h) (Or.inl ⟨by rfl, ?_⟩) hHeld ?_
              rotate_left
              · intro u hSu
                (go_simp) <;> (with_reducible rfl)
              change wpAnyH _ _ _ _ _ _ _ (Act.put _ (some 91) _) _
              simp only [Act.put, List.setIfInBounds_toArray, List.set_cons_zero, List.set_cons_succ]
              refine wpAnyH_take (i := 6) (v := ?_) rfl (by kernel_rfl) (by kernel_rfl) (by kernel_rfl) (fun _ _ _ h => h) (Or.inl ⟨by rfl, ?_⟩) hHeld ?_
              rotate_left
              · intro u hSu
                obtain ⟨f1, f2⟩ := F2.out u hSu
                (go_simp) <;> (with_reducible rfl)
              change wpAnyH _ _ _ _ _ _ _ (Act.put _ (some 92) _) _
              simp only [Act.put, List.setIfInBounds_toArray, List.set_cons_zero, List.set_cons_succ]
              refine wpAnyH_take (i := 7) (v := ?_) rfl (by kernel_rfl) (by kernel_rfl) (by kernel_rfl) (fun _ _ _ h => h) (Or.inl ⟨by rfl, ?_⟩) hHeld ?_
              rotate_left
              · intro u hSu
                (go_simp) <;> (with_reducible rfl)
              change wpAnyH _ _ _ _ _ _ _ (Act.put _ (some 93) _) _
              simp only [Act.put, List.setIfInBounds_toArray, List.set_cons_zero, List.set_cons_succ]
              refine wpAnyH_take (i := 8) (v := ?_) rfl (by kernel_rfl) (by kernel_rfl) (by kernel_rfl) (fun _ _ _ h => h) (Or.inl ⟨by rfl, ?_⟩) hHeld ?_
              rotate_left
              · intro u hSu
                (go_simp) <;> (with_reducible rfl)
              change wpAnyH _ _ _ _ _ _ _ (Act.put _ (some 94) _) _
              simp only [Act.put, List.setIfInBounds_toArray, List.set_cons_zero, List.set_cons_succ]
              refine wpAnyH_take (i := 9) (v := ?_) rfl (by kernel_rfl) (by kernel_rfl) (by kernel_rfl) (fun _ _ _ h => h) (Or.inl ⟨by rfl, ?_⟩) hHeld ?_
              rotate_left
              · intro u hSu
                (go_simp) <;> (with_reducible rfl)
              change wpAnyH _ _ _ _ _ _ _ (Act.put _ (some 95) _) _
              simp only [Act.put, List.setIfInBounds_toArray, List.set_cons_zero, List.set_cons_succ]
              refine wpAnyH_take (i := 10) (v := ?_) rfl (by kernel_rfl) (by kernel_rfl) (by kernel_rfl) (fun _ _ _ h => h) (Or.inl ⟨by rfl, ?_⟩) hHeld ?_
              rotate_left
              · intro u hSu
                (go_simp) <;> (with_reducible rfl)
              change wpAnyH _ _ _ _ _ _ _ (Act.put _ (some 96) _) _
              simp only [Act.put, List.setIfInBounds_toArray, List.set_cons_zero, List.set_cons_succ]
              refine wpAnyH_take (i := 11) (v := ?_) rfl (by kernel_rfl) (by kernel_rfl) (by kernel_rfl) (fun _ _ _ h => h) (Or.inl ⟨by rfl, ?_⟩) hHeld ?_
              rotate_left
              · intro u hSu
                obtain ⟨f1, f2⟩ := F2.out u hSu
                (go_simp) <;> (with_reducible rfl)
              change wpAnyH _ _ _ _ _ _ _ (Act.put _ (some 97) _) _
              simp only [Act.put, List.setIfInBounds_toArray, List.set_cons_zero, List.set_cons_succ]
              refine wpAnyH_take (i := 12) (v := ?_) rfl (by kernel_rfl) (by kernel_rfl) (by kernel_rfl) (fun _ _ _ h => h) (Or.inl ⟨by rfl, ?_⟩) hHeld ?_
              rotate_left
              · intro u hSu
                (go_simp) <;> (with_reducible rfl)
              change wpAnyH _ _ _ _ _ _ _ (Act.put _ (some 98) _) _
              simp only [Act.put, List.setIfInBounds_toArray, List.set_cons_zero, List.set_cons_succ]
              refine wpAnyH_take (i := 13) (v := ?_) rfl (by kernel_rfl) (by kernel_rfl) (by kernel_rfl) (fun _ _ _ h => h) (Or.inl ⟨by rfl, ?_⟩) hHeld ?_
              rotate_left
              · intro u hSu
                (go_simp) <;> (with_reducible rfl)
              change wpAnyH _ _ _ _ _ _ _ (Act.put _ (some 99) _) _
              simp only [Act.put, List.setIfInBounds_toArray, List.set_cons_zero, List.set_cons_succ]
              refine wpAnyH_take (i := 14) (v := ?_) rfl (by kernel_rfl) (by kernel_rfl) (by kernel_rfl) (fun _ _ _ h => h) (Or.inl ⟨by rfl, ?_⟩) hHeld ?_
              rotate_left
              · intro u hSu
                (go_simp) <;> (with_reducible rfl)
              change wpAnyH _ _ _ _ _ _ _ (Act.put _ (some 100) _) _
              simp only [Act.put, List.setIfInBounds_toArray, List.set_cons_zero, List.set_cons_succ]
              refine wpAnyH_done (by kernel_rfl) ?_ _
              refine NoPanic.normal ?_
              go_wp2
              go_roundw
              case rel => exact ⟨j + 1 + 1, T, by go_num, rfl, by omega, HT, HBR.out.drew⟩
              case measure => simp [intOf]; omega
        · obtain rfl : i = m := by omega
          have HT2 : Hid (C.take i = C) := List.take_of_length_le (by rw [HM.out]; exact Nat.le_refl _)
          have VB : Hid (Below W0.heap.size W0 wr) := B8.out.trans (HBR.out.mono B8.out.size)
          cases t with
          | true =>
            go_wp2
            go_ret
            exact ⟨rfl, HB.out.trans (VB.out.mono HB.out.size)⟩
          | false =>
            have hwf : wi = false := by
              cases hw : wi with
              | false => rfl
              | true =>
                have h3 := HHS.out hw
                rw [← HT2.out] at h3
                exact absurd (HTI.out.2 h3) (by decide)
            subst hwf
            go_wp2_with (first
              | ((with_reducible show wpList _ _ _ (Oper.mk (some 103) _ _ _ _ _ :: _) _ _); refine wpList_load_keyD 103 (by rfl) (by rfl) _ (by rfl) w.heap.size 0 (by rfl) z1 KA.out (HK.out _ VB.out).1 ?_)
              | ((with_reducible show wpList _ _ _ (Oper.mk (some 104) _ _ _ _ _ :: _) _ _); refine wpList_load_keyD 104 (by rfl) (by rfl) _ (by rfl) (w.heap.size + 2) 0 (by rfl) z3 KF.out (HK.out _ VB.out).2.2.1 ?_)
              | ((with_reducible show wpList _ _ _ (Oper.mk (some 105) _ _ _ _ _ :: _) _ _); refine wpList_load_keyD 105 (by rfl) (by rfl) _ (by rfl) (w.heap.size + 3) 0 (by rfl) z4 KT.out (HK.out _ VB.out).2.2.2 ?_)
              | (go_at_call 25; refine (CWI.out _).mono ?_; rintro e v9 ⟨rfl, hb⟩; have V9 : Hid (Below W0.heap.size W0 v9) := VB.out.trans (hb.mono VB.out.size); clear hb))
            go_ret
            exact ⟨rfl, HB.out.trans (V9.out.mono HB.out.size)⟩
    · have d1 : decide (r ≤ 0) = false := decide_eq_false hr0
      go_wp2_with (first
        | (go_at_call 14; refine (CCV.out q _ R7.out).mono ?_; rintro e v8 ⟨ra, m, rc, rfl, hm, hmc, hn, hb⟩; have B8 : Hid (Below W0.heap.size W0 v8) := B7.out.trans (hb.mono B7.out.size); have HM : Hid (C.length = m) := hm; have HMC : Hid (m ≤ rc) := hmc; have HNU : Hid (NumsR v8 ra C) := hn; clear hm hmc hn hb)
        | ((with_reducible show wpList _ _ _ (Oper.mk (some 68) _ _ _ _ _ :: _) _ _); refine wpList_load_keyD 68 (by rfl) (by rfl) _ (by rfl) (w.heap.size + 2) 0 (by rfl) z3 KF.out (HK.out _ B7.out).2.2.1 ?_)
        | ((with_reducible show wpList _ _ _ (Oper.mk (some 69) _ _ _ _ _ :: _) _ _); refine wpList_load_keyD 69 (by rfl) (by rfl) _ (by rfl) (w.heap.size + 3) 0 (by rfl) z4 KT.out (HK.out _ B7.out).2.2.2 ?_)
        | (go_at_call 24; refine (CCM.out _).mono ?_; rintro e v7 ⟨rfl, hb⟩; have B7 : Hid (Below W0.heap.size W0 v7) := V6.out.trans (hb.mono V6.out.size); have R7 : Hid (RtAt v7 q z0) := R6.out.past hb; clear hb)
        | ((with_reducible show wpList _ _ _ (Oper.mk (some 57) _ _ _ _ _ :: _) _ _); refine wpList_load_keyD 57 (by rfl) (by rfl) _ (by rfl) w.heap.size 0 (by rfl) z1 KA.out (HK.out _ V6.out).1 ?_)
        | ((with_reducible show wpList _ _ _ (Oper.mk (some 58) _ _ _ _ _ :: _) _ _); refine wpList_load_keyD 58 (by rfl) (by rfl) _ (by rfl) (w.heap.size + 1) 0 (by rfl) z2 KB.out (HK.out _ V6.out).2.1 ?_)
        | (go_at_call 18; refine (CNN.out q _ R6.out).mono ?_; rintro e vn ⟨rfl, hw⟩; obtain rfl := hw.symm; clear hw))
      have hm8 : m ≤ 8 := by have := HCL.out; have h2 := HM.out; omega
      go_loopw [16, 17] (fun bv iv wr => ∃ (i : Nat) (t : Bool), iv = .int .i64 i ∧ bv = .bool t ∧ i ≤ m ∧ Hid (t = true ↔ (X : Int) ∈ C.take i) ∧ Hid (Below v8.heap.size v8 wr)) (fun _ iv _ => m - (intOf iv).toNat)
      case atStart => exact ⟨0, false, rfl, rfl, Nat.zero_le _, by show _ ↔ _; simp, Below.refl _ _⟩
      case round =>
        obtain ⟨i, t, rfl, rfl, hi, HTI, HBR⟩ := hrel
        have hi0 : (0 : Int) ≤ (i : Int) := by omega
        by_cases hlt : i < m
        · have h1 : (i : Int) < (m : Int) := by omega
          obtain ⟨z, hz⟩ : ∃ z, C[i]? = some z := ⟨_, List.getElem?_eq_getElem (by rw [HM.out]; exact hlt)⟩
          obtain ⟨g, hag, hcl⟩ := HNU.out i z hz
          subst hag
          have HZ : Hid (C[i]? = some z) := hz
          have FZ : Hid (∀ u, Below v8.heap.size v8 u → u.cell? ⟨g, i, none⟩ = some (.int .i64 z)) := fun u hu => (hu.cell (p := ⟨g, i, none⟩) (lt_of_cell hcl)).trans hcl
          have HNX : Hid ((X : Int) ∈ C.take (i + 1) ↔ (X : Int) ∈ C.take i ∨ z = (X : Int)) := mem_take_next hz _
          have q0 := FZ.out wr HBR.out
          obtain ⟨hz1, hz2⟩ := HCM.out z (List.mem_of_getElem? hz)
          clear hz hcl
          obtain ⟨T, HT, hb⟩ : ∃ T : Bool, Hid (T = true ↔ (X : Int) ∈ C.take (i + 1)) ∧ T = (t || (z == (X : Int))) := ⟨t || (z == (X : Int)), by
            show _ ↔ _
            rw [Bool.or_eq_true, HNX.out, HTI.out, beq_iff_eq], rfl⟩
          clear HNX
          go_upto_region 14 with (fail)
          go_cut [16] from 77 to 85 (fun bv wx => bv = .bool T ∧ wx = wr)
          case first =>
            cases t with
            | true =>
              have hT : T = true := by rw [hb]; rfl
              subst hT
              clear hb
              go_wp2
              go_meet
              exact ⟨rfl, rfl⟩
            | false =>
              rw [Bool.false_or] at hb
              subst hb
              go_wp2
              go_meet
              exact ⟨rfl, rfl⟩
          case rest =>
            obtain ⟨rfl, rfl⟩ := hcut
            clear hb q0
            cases i with
            | zero =>
              go_wp2
              refine wp_region_noPanic ?_
              refine wp_region_held_drew (S := fun u => Below wc.heap.size wc u) (by kernel_rfl) ?_ (fun hHeld => ?_)
              · exact (Below.refl _ _).drew
              refine wpAnyH_take (i := 0) (v := ?_) rfl (by kernel_rfl) (by kernel_rfl) (by kernel_rfl) (fun _ _ _ h => h) (Or.inl ⟨by rfl, ?_⟩) hHeld ?_
              rotate_left
              · intro u hSu
                (go_simp) <;> (with_reducible rfl)
              change wpAnyH _ _ _ _ _ _ _ (Act.put _ (some 86) _) _
              simp only [Act.put, List.setIfInBounds_toArray, List.set_cons_zero, List.set_cons_succ]
              refine wpAnyH_take (i := 1) (v := ?_) rfl (by kernel_rfl) (by kernel_rfl) (by kernel_rfl) (fun _ _ _ h => h) (Or.inl ⟨by rfl, ?_⟩) hHeld ?_
              rotate_left
              · intro u hSu
                (go_simp) <;> (with_reducible rfl)
              change wpAnyH _ _ _ _ _ _ _ (Act.put _ (some 87) _) _
              simp only [Act.put, List.setIfInBounds_toArray, List.set_cons_zero, List.set_cons_succ]
              refine wpAnyH_take (i := 2) (v := ?_) rfl (by kernel_rfl) (by kernel_rfl) (by kernel_rfl) (fun _ _ _ h => h) (Or.inl ⟨by rfl, ?_⟩) hHeld ?_
              rotate_left
              · intro u hSu
                (go_simp) <;> (with_reducible rfl)
              change wpAnyH _ _ _ _ _ _ _ (Act.put _ (some 88) _) _
              simp only [Act.put, List.setIfInBounds_toArray, List.set_cons_zero, List.set_cons_succ]
              refine wpAnyH_take (i := 3) (v := undef) rfl (by kernel_rfl) (by kernel_rfl) (by kernel_rfl) (fun _ _ _ h => h) (Or.inr ⟨by rfl, rfl⟩) hHeld ?_
              change wpAnyH _ _ _ _ _ _ _ (Act.put _ (some 89) _) _
              simp only [Act.put, List.setIfInBounds_toArray, List.set_cons_zero, List.set_cons_succ]
              refine wpAnyH_take (i := 4) (v := undef) rfl (by kernel_rfl) (by kernel_rfl) (by kernel_rfl) (fun _ _ _ h => h) (Or.inr ⟨by rfl, rfl⟩) hHeld ?_
              change wpAnyH _ _ _ _ _ _ _ (Act.put _ (some 90) _) _
              simp only [Act.put, List.setIfInBounds_toArray, List.set_cons_zero, List.set_cons_succ]
              refine wpAnyH_take (i := 5) (v := undef) rfl (by kernel_rfl) (by kernel_rfl) (by kernel_rfl) (fun _ _ _ h => h) (Or.inr ⟨by rfl, rfl⟩) hHeld ?_
              change wpAnyH _ _ _ _ _ _ _ (Act.put _ (some 91) _) _
              simp only [Act.put, List.setIfInBounds_toArray, List.set_cons_zero, List.set_cons_succ]
              refine wpAnyH_take (i := 6) (v := undef) rfl (by kernel_rfl) (by kernel_rfl) (by kernel_rfl) (fun _ _ _ h => h) (Or.inr ⟨by rfl, rfl⟩) hHeld ?_
              change wpAnyH _ _ _ _ _ _ _ (Act.put _ (some 92) _) _
              simp only [Act.put, List.setIfInBounds_toArray, List.set_cons_zero, List.set_cons_succ]
              refine wpAnyH_take (i := 7) (v := undef) rfl (by kernel_rfl) (by kernel_rfl) (by kernel_rfl) (fun _ _ _ h => h) (Or.inr ⟨by rfl, rfl⟩) hHeld ?_
              change wpAnyH _ _ _ _ _ _ _ (Act.put _ (some 93) _) _
              simp only [Act.put, List.setIfInBounds_toArray, List.set_cons_zero, List.set_cons_succ]
              refine wpAnyH_take (i := 8) (v := undef) rfl (by kernel_rfl) (by kernel_rfl) (by kernel_rfl) (fun _ _ _ h => h) (Or.inr ⟨by rfl, rfl⟩) hHeld ?_
              change wpAnyH _ _ _ _ _ _ _ (Act.put _ (some 94) _) _
              simp only [Act.put, List.setIfInBounds_toArray, List.set_cons_zero, List.set_cons_succ]
              refine wpAnyH_take (i := 9) (v := undef) rfl (by kernel_rfl) (by kernel_rfl) (by kernel_rfl) (fun _ _ _ h => h) (Or.inr ⟨by rfl, rfl⟩) hHeld ?_
              change wpAnyH _ _ _ _ _ _ _ (Act.put _ (some 95) _) _
              simp only [Act.put, List.setIfInBounds_toArray, List.set_cons_zero, List.set_cons_succ]
              refine wpAnyH_take (i := 10) (v := undef) rfl (by kernel_rfl) (by kernel_rfl) (by kernel_rfl) (fun _ _ _ h => h) (Or.inr ⟨by rfl, rfl⟩) hHeld ?_
              change wpAnyH _ _ _ _ _ _ _ (Act.put _ (some 96) _) _
              simp only [Act.put, List.setIfInBounds_toArray, List.set_cons_zero, List.set_cons_succ]
              refine wpAnyH_take (i := 11) (v := undef) rfl (by kernel_rfl) (by kernel_rfl) (by kernel_rfl) (fun _ _ _ h => h) (Or.inr ⟨by rfl, rfl⟩) hHeld ?_
              change wpAnyH _ _ _ _ _ _ _ (Act.put _ (some 97) _) _
              simp only [Act.put, List.setIfInBounds_toArray, List.set_cons_zero, List.set_cons_succ]
              refine wpAnyH_take (i := 12) (v := undef) rfl (by kernel_rfl) (by kernel_rfl) (by kernel_rfl) (fun _ _ _ h => h) (Or.inr ⟨by rfl, rfl⟩) hHeld ?_
              change wpAnyH _ _ _ _ _ _ _ (Act.put _ (some 98) _) _
              simp only [Act.put, List.setIfInBounds_toArray, List.set_cons_zero, List.set_cons_succ]
              refine wpAnyH_take (i := 13) (v := undef) rfl (by kernel_rfl) (by kernel_rfl) (by kernel_rfl) (fun _ _ _ h => h) (Or.inr ⟨by rfl, rfl⟩) hHeld ?_
              change wpAnyH _ _ _ _ _ _ _ (Act.put _ (some 99) _) _
              simp only [Act.put, List.setIfInBounds_toArray, List.set_cons_zero, List.set_cons_succ]
              refine wpAnyH_take (i := 14) (v := ?_) rfl (by kernel_rfl) (by kernel_rfl) (by kernel_rfl) (fun _ _ _ h => h) (Or.inl ⟨by rfl, ?_⟩) hHeld ?_
              rotate_left
              · intro u hSu
                (go_simp) <;> (with_reducible rfl)
              change wpAnyH _ _ _ _ _ _ _ (Act.put _ (some 100) _) _
              simp only [Act.put, List.setIfInBounds_toArray, List.set_cons_zero, List.set_cons_succ]
              refine wpAnyH_done (by kernel_rfl) ?_ _
              refine NoPanic.normal ?_
              go_wp2
              go_roundw
              case rel => exact ⟨1, T, by go_num, rfl, by omega, HT, HBR.out.drew⟩
              case measure => simp [intOf]; omega
            | succ j =>
              have hj0 : (0 : Int) ≤ (j : Int) := by omega
              have hj1 : (j : Int) < (m : Int) := by omega
              have hj2 : (0 : Int) ≤ (j : Int) + 1 := by omega
              have hj3 : (0 : Int) < (j : Int) + 1 := by omega
              have hj4 : (j : Int) + 1 < (m : Int) := by omega
              have hwj : IntKind.i64.wrap (j : Int) = (j : Int) := by rw [IntKind.wrap_i64]; omega
              obtain ⟨y, hy⟩ : ∃ y, C[j]? = some y := ⟨_, List.getElem?_eq_getElem (by rw [HM.out]; omega)⟩
              obtain ⟨g2, hag2, hcl2⟩ := HNU.out j y hy
              injection hag2 with hag2
              injection hag2 with hag2 _
              subst hag2
              have FY : Hid (∀ u, Below v8.heap.size v8 u → u.cell? ⟨g, j, none⟩ = some (.int .i64 y)) := fun u hu => (hu.cell (p := ⟨g, j, none⟩) (lt_of_cell hcl2)).trans hcl2
              obtain rfl := HSD.out j y z hy HZ.out
              obtain ⟨hy1, hy2⟩ := HCM.out y (List.mem_of_getElem? hy)
              have hwy : IntKind.i64.wrap (y + 1) = y + 1 := by rw [IntKind.wrap_i64]; omega
              have hne : ((y + 1) != (y + 1)) = false := by simp
              have F2 : Hid (∀ u, Below wc.heap.size wc u → u.cell? ⟨g, j + 1, none⟩ = some (.int .i64 (y + 1)) ∧ u.cell? ⟨g, j, none⟩ = some (.int .i64 y)) := fun u hu => ⟨FZ.out u (HBR.out.trans (hu.mono HBR.out.size)), FY.out u (HBR.out.trans (hu.mono HBR.out.size))⟩
              clear hy hcl2 FY FZ HZ
              go_wp2
              refine wp_region_noPanic ?_
              refine wp_region_held_drew (S := fun u => Below wc.heap.size wc u) (by kernel_rfl) ?_ (fun hHeld => ?_)
              · exact (Below.refl _ _).drew
              refine wpAnyH_take (i := 0) (v := ?_) rfl (by kernel_rfl) (by kernel_rfl) (by kernel_rfl) (fun _ _ _ h => h) (Or.inl ⟨by rfl, ?_⟩) hHeld ?_
              rotate_left
              · intro u hSu
                (go_simp) <;> (with_reducible rfl)
              change wpAnyH _ _ _ _ _ _ _ (Act.put _ (some 86) _) _
              simp only [Act.put, List.setIfInBounds_toArray, List.set_cons_zero, List.set_cons_succ]
              refine wpAnyH_take (i := 1) (v := ?_) rfl (by kernel_rfl) (by kernel_rfl) (by kernel_rfl) (fun _ _ _ h => h) (Or.inl ⟨by rfl, ?_⟩) hHeld ?_
              rotate_left
              · intro u hSu
                (go_simp) <;> (with_reducible rfl)
              change wpAnyH _ _ _ _ _ _ _ (Act.put _ (some 87) _) _
              simp only [Act.put, List.setIfInBounds_toArray, List.set_cons_zero, List.set_cons_succ]
              refine wpAnyH_take (i := 2) (v := ?_) rfl (by kernel_rfl) (by kernel_rfl) (by kernel_rfl) (fun _ _ _ h => h) (Or.inl ⟨by rfl, ?_⟩) hHeld ?_
              rotate_left
              · intro u hSu
                (go_simp) <;> (with_reducible rfl)
              change wpAnyH _ _ _ _ _ _ _ (Act.put _ (some 88) _) _
              simp only [Act.put, List.setIfInBounds_toArray, List.set_cons_zero, List.set_cons_succ]
              refine wpAnyH_take (i := 3) (v := ?_) rfl (by kernel_rfl) (by kernel_rfl) (by kernel_rfl) (fun _ _ _ h => h) (Or.inl ⟨by rfl, ?_⟩) hHeld ?_
              rotate_left
              · intro u hSu
                (go_simp) <;> (with_reducible rfl)
              change wpAnyH _ _ _ _ _ _ _ (Act.put _ (some 89) _) _
              simp only [Act.put, List.setIfInBounds_toArray, List.set_cons_zero, List.set_cons_succ]
              refine wpAnyH_take (i := 4) (v := ?_) rfl (by kernel_rfl) (by kernel_rfl) (by kernel_rfl) (fun _ _ _ h => h) (Or.inl ⟨by rfl, ?_⟩) hHeld ?_
              rotate_left
              · intro u hSu
                (go_simp) <;> (with_reducible rfl)
              change wpAnyH _ _ _ _ _ _ _ (Act.put _ (some 90) _) _
              simp only [Act.put, List.setIfInBounds_toArray, List.set_cons_zero, List.set_cons_succ]
              refine wpAnyH_take (i := 5) (v := ?_) rfl (by kernel_rfl) (by kernel_rfl) (by kernel_rfl) (fun _ _ _ h => h) (Or.inl ⟨by rfl, ?_⟩) hHeld ?_
              rotate_left
              · intro u hSu
                (go_simp) <;> (with_reducible rfl)
              change wpAnyH _ _ _ _ _ _ _ (Act.put _ (some 91) _) _
              simp only [Act.put, List.setIfInBounds_toArray, List.set_cons_zero, List.set_cons_succ]
              refine wpAnyH_take (i := 6) (v := ?_) rfl (by kernel_rfl) (by kernel_rfl) (by kernel_rfl) (fun _ _ _ h => h) (Or.inl ⟨by rfl, ?_⟩) hHeld ?_
              rotate_left
              · intro u hSu
                obtain ⟨f1, f2⟩ := F2.out u hSu
                (go_simp) <;> (with_reducible rfl)
              change wpAnyH _ _ _ _ _ _ _ (Act.put _ (some 92) _) _
              simp only [Act.put, List.setIfInBounds_toArray, List.set_cons_zero, List.set_cons_succ]
              refine wpAnyH_take (i := 7) (v := ?_) rfl (by kernel_rfl) (by kernel_rfl) (by kernel_rfl) (fun _ _ _ h => h) (Or.inl ⟨by rfl, ?_⟩) hHeld ?_
              rotate_left
              · intro u hSu
                (go_simp) <;> (with_reducible rfl)
              change wpAnyH _ _ _ _ _ _ _ (Act.put _ (some 93) _) _
              simp only [Act.put, List.setIfInBounds_toArray, List.set_cons_zero, List.set_cons_succ]
              refine wpAnyH_take (i := 8) (v := ?_) rfl (by kernel_rfl) (by kernel_rfl) (by kernel_rfl) (fun _ _ _ h => h) (Or.inl ⟨by rfl, ?_⟩) hHeld ?_
              rotate_left
              · intro u hSu
                (go_simp) <;> (with_reducible rfl)
              change wpAnyH _ _ _ _ _ _ _ (Act.put _ (some 94) _) _
              simp only [Act.put, List.setIfInBounds_toArray, List.set_cons_zero, List.set_cons_succ]
              refine wpAnyH_take (i := 9) (v := ?_) rfl (by kernel_rfl) (by kernel_rfl) (by kernel_rfl) (fun _ _ _ h => h) (Or.inl ⟨by rfl, ?_⟩) hHeld ?_
              rotate_left
              · intro u hSu
                (go_simp) <;> (with_reducible rfl)
              change wpAnyH _ _ _ _ _ _ _ (Act.put _ (some 95) _) _
              simp only [Act.put, List.setIfInBounds_toArray, List.set_cons_zero, List.set_cons_succ]
              refine wpAnyH_take (i := 10) (v := ?_) rfl (by kernel_rfl) (by kernel_rfl) (by kernel_rfl) (fun _ _ _ h => h) (Or.inl ⟨by rfl, ?_⟩) hHeld ?_
              rotate_left
              · intro u hSu
                (go_simp) <;> (with_reducible rfl)
              change wpAnyH _ _ _ _ _ _ _ (Act.put _ (some 96) _) _
              simp only [Act.put, List.setIfInBounds_toArray, List.set_cons_zero, List.set_cons_succ]
              refine wpAnyH_take (i := 11) (v := ?_) rfl (by kernel_rfl) (by kernel_rfl) (by kernel_rfl) (fun _ _ _ h => h) (Or.inl ⟨by rfl, ?_⟩) hHeld ?_
              rotate_left
              · intro u hSu
                obtain ⟨f1, f2⟩ := F2.out u hSu
                (go_simp) <;> (with_reducible rfl)
              change wpAnyH _ _ _ _ _ _ _ (Act.put _ (some 97) _) _
              simp only [Act.put, List.setIfInBounds_toArray, List.set_cons_zero, List.set_cons_succ]
              refine wpAnyH_take (i := 12) (v := ?_) rfl (by kernel_rfl) (by kernel_rfl) (by kernel_rfl) (fun _ _ _ h => h) (Or.inl ⟨by rfl, ?_⟩) hHeld ?_
              rotate_left
              · intro u hSu
                (go_simp) <;> (with_reducible rfl)
              change wpAnyH _ _ _ _ _ _ _ (Act.put _ (some 98) _) _
              simp only [Act.put, List.setIfInBounds_toArray, List.set_cons_zero, List.set_cons_succ]
              refine wpAnyH_take (i := 13) (v := ?_) rfl (by kernel_rfl) (by kernel_rfl) (by kernel_rfl) (fun _ _ _ h => h) (Or.inl ⟨by rfl, ?_⟩) hHeld ?_
              rotate_left
              · intro u hSu
                (go_simp) <;> (with_reducible rfl)
              change wpAnyH _ _ _ _ _ _ _ (Act.put _ (some 99) _) _
              simp only [Act.put, List.setIfInBounds_toArray, List.set_cons_zero, List.set_cons_succ]
              refine wpAnyH_take (i := 14) (v := ?_) rfl (by kernel_rfl) (by kernel_rfl) (by kernel_rfl) (fun _ _ _ h => h) (Or.inl ⟨by rfl, ?_⟩) hHeld ?_
              rotate_left
              · intro u hSu
                (go_simp) <;> (with_reducible rfl)
              change wpAnyH _ _ _ _ _ _ _ (Act.put _ (some 100) _) _
              simp only [Act.put, List.setIfInBounds_toArray, List.set_cons_zero, List.set_cons_succ]
              refine wpAnyH_done (by kernel_rfl) ?_ _
              refine NoPanic.normal ?_
              go_wp2
              go_roundw
              case rel => exact ⟨j + 1 + 1, T, by go_num, rfl, by omega, HT, HBR.out.drew⟩
              case measure => simp [intOf]; omega
        · obtain rfl : i = m := by omega
          have HT2 : Hid (C.take i = C) := List.take_of_length_le (by rw [HM.out]; exact Nat.le_refl _)
          have VB : Hid (Below W0.heap.size W0 wr) := B8.out.trans (HBR.out.mono B8.out.size)
          cases t with
          | true =>
            go_wp2
            go_ret
            exact ⟨rfl, HB.out.trans (VB.out.mono HB.out.size)⟩
          | false =>
            have hwf : wi = false := by
              cases hw : wi with
              | false => rfl
              | true =>
                have h3 := HHS.out hw
                rw [← HT2.out] at h3
                exact absurd (HTI.out.2 h3) (by decide)
            subst hwf
            go_wp2_with (first
              | ((with_reducible show wpList _ _ _ (Oper.mk (some 103) _ _ _ _ _ :: _) _ _); refine wpList_load_keyD 103 (by rfl) (by rfl) _ (by rfl) w.heap.size 0 (by rfl) z1 KA.out (HK.out _ VB.out).1 ?_)
              | ((with_reducible show wpList _ _ _ (Oper.mk (some 104) _ _ _ _ _ :: _) _ _); refine wpList_load_keyD 104 (by rfl) (by rfl) _ (by rfl) (w.heap.size + 2) 0 (by rfl) z3 KF.out (HK.out _ VB.out).2.2.1 ?_)
              | ((with_reducible show wpList _ _ _ (Oper.mk (some 105) _ _ _ _ _ :: _) _ _); refine wpList_load_keyD 105 (by rfl) (by rfl) _ (by rfl) (w.heap.size + 3) 0 (by rfl) z4 KT.out (HK.out _ VB.out).2.2.2 ?_)
              | (go_at_call 25; refine (CWI.out _).mono ?_; rintro e v9 ⟨rfl, hb⟩; have V9 : Hid (Below W0.heap.size W0 v9) := VB.out.trans (hb.mono VB.out.size); clear hb))
            go_ret
            exact ⟨rfl, HB.out.trans (V9.out.mono HB.out.size)⟩

set_option maxRecDepth 100000 in
theorem lifted (os : Os) (started : os.Started) (H : Type) (enc : TypeId × Value → H) :
    ReturnsInHanded {} Try.checked os 5 .any (Rows.routeWholeSpec.pre6 enc Try.prog Try.f5 Rows.routeWholeRow.domain false) (Rows.routeWholeSpec.post enc Try.prog Try.f5 false true false false) := by
  refine returnsInHanded_of_change (C := Try.checked) own started (by kernel_rfl) Try.func5
    (ChangeSpec.witness6 (enc := enc) (C := Try.checked) false ⟨#[], #[.slice none 0 0, .agg #[.int .u8 0, .int .u8 0, .int .u8 0, .int .u8 0, .int .u8 0, .int .u8 0, .int .u8 0, .int .u8 0, .int .u8 0, .int .u8 0, .int .u8 0, .int .u8 0, .int .u8 0, .int .u8 0, .int .u8 0, .int .u8 0], .agg #[.int .u8 0, .int .u8 0, .int .u8 0, .int .u8 0, .int .u8 0, .int .u8 0, .int .u8 0, .int .u8 0, .int .u8 0, .int .u8 0, .int .u8 0, .int .u8 0, .int .u8 0, .int .u8 0, .int .u8 0, .int .u8 0], .agg #[.int .u8 0, .int .u8 0, .int .u8 0, .int .u8 0, .int .u8 0, .int .u8 0, .int .u8 0, .int .u8 0, .int .u8 0, .int .u8 0, .int .u8 0, .int .u8 0, .int .u8 0, .int .u8 0, .int .u8 0, .int .u8 0], .agg #[.int .u8 0, .int .u8 0, .int .u8 0, .int .u8 0, .int .u8 0, .int .u8 0, .int .u8 0, .int .u8 0, .int .u8 0, .int .u8 0, .int .u8 0, .int .u8 0, .int .u8 0, .int .u8 0, .int .u8 0, .int .u8 0]], []⟩ 8 (by kernel_rfl) (by kernel_rfl) (by kernel_rfl) (by kernel_rfl)) ?_
  intro W base args ds gs before hval0 hW hcnd _
  have hval : ∀ (j : Nat) t v, Try.f5.params[j]? = some t → args[j]? = some v → Value.okWide Try.prog W .any base t v := hval0
  have hW' := hW
  obtain ⟨p, q, hA0, hV, rfl, hfz, hnd⟩ := hW
  have hA : DataW.TrodAll enc Try.prog W 0 (fun _ => true) true Try.f5.params.toList args.toList ds p := hA0
  rw [Try.params5] at hA hval
  obtain ⟨v0, vs0, d0, ds0, p0, q0, hargs, rfl, rfl, h0, r0⟩ := trodAll_cons hA
  obtain ⟨v1, vs1, d1, ds1, p1, q1, rfl, rfl, rfl, h1, r1⟩ := trodAll_cons r0
  obtain ⟨v2, vs2, d2, ds2, p2, q2, rfl, rfl, rfl, h2, r2⟩ := trodAll_cons r1
  obtain ⟨v3, vs3, d3, ds3, p3, q3, rfl, rfl, rfl, h3, r3⟩ := trodAll_cons r2
  obtain ⟨v4, vs4, d4, ds4, p4, q4, rfl, rfl, rfl, h4, r4⟩ := trodAll_cons r3
  obtain ⟨rfl, rfl, rfl⟩ := trodAll_nil r4
  obtain rfl : args = #[v0, v1, v2, v3, v4] := by cases args; simp_all
  obtain ⟨rfl, rfl⟩ := trodVars_none hV
  obtain ⟨a0, len0, cap0, rfl⟩ := okWide_slice Try.underlying30 (hval 0 30 v0 rfl rfl)
  have k0 := h0
  have lt0 : ∀ x ∈ p0, x.block < W.heap.size := by obtain ⟨m, hm⟩ := k0; exact DataW.trod_lt m _ _ _ hm
  obtain ⟨z0, l0, w0, rm0, rn0⟩ : ∃ ls : List (List Int), ls.length = len0 ∧ KeysAt W a0 ls ∧ len0 ≤ cap0 ∧ (a0 = none → cap0 = 0) := by
    obtain ⟨fuel, hf⟩ := h0
    exact keys_openR Try.underlying30 Try.underlying28 Try.underlying5 (by kernel_rfl) (by kernel_rfl) hf
  have k1 := h1
  have lt1 : ∀ x ∈ p1, x.block < W.heap.size := by obtain ⟨m, hm⟩ := k1; exact DataW.trod_lt m _ _ _ hm
  obtain ⟨z1, rfl, w1⟩ := arr_open Try.underlying28 Try.underlying5 (by kernel_rfl) (by kernel_rfl) (hval 1 28 v1 rfl rfl) h1
  have k2 := h2
  have lt2 : ∀ x ∈ p2, x.block < W.heap.size := by obtain ⟨m, hm⟩ := k2; exact DataW.trod_lt m _ _ _ hm
  obtain ⟨z2, rfl, w2⟩ := arr_open Try.underlying28 Try.underlying5 (by kernel_rfl) (by kernel_rfl) (hval 2 28 v2 rfl rfl) h2
  have k3 := h3
  have lt3 : ∀ x ∈ p3, x.block < W.heap.size := by obtain ⟨m, hm⟩ := k3; exact DataW.trod_lt m _ _ _ hm
  obtain ⟨z3, rfl, w3⟩ := arr_open Try.underlying28 Try.underlying5 (by kernel_rfl) (by kernel_rfl) (hval 3 28 v3 rfl rfl) h3
  have k4 := h4
  have lt4 : ∀ x ∈ p4, x.block < W.heap.size := by obtain ⟨m, hm⟩ := k4; exact DataW.trod_lt m _ _ _ hm
  obtain ⟨z4, rfl, w4⟩ := arr_open Try.underlying28 Try.underlying5 (by kernel_rfl) (by kernel_rfl) (hval 4 28 v4 rfl rfl) h4
  clear hA0 hval0
  refine (walk a0 len0 cap0 z0 z1 z2 z3 z4 W l0 w0 rm0 rn0 w1 w2 w3 w4).mono fun e W' ⟨he, bel⟩ => ?_
  subst he
  exact ⟨_, rfl, _, _, _, [], _, [], hW', trodAll_mk1 (shut_bool Try.underlying4 _), (trodAll_cons_mk (Below.trod laidOut (by kernel_rfl) (of_decide_eq_true (by kernel_rfl)) k0 bel lt0) (trodAll_cons_mk (Below.trod laidOut (by kernel_rfl) (of_decide_eq_true (by kernel_rfl)) k1 bel lt1) (trodAll_cons_mk (Below.trod laidOut (by kernel_rfl) (of_decide_eq_true (by kernel_rfl)) k2 bel lt2) (trodAll_cons_mk (Below.trod laidOut (by kernel_rfl) (of_decide_eq_true (by kernel_rfl)) k3 bel lt3) (trodAll_cons_mk (Below.trod laidOut (by kernel_rfl) (of_decide_eq_true (by kernel_rfl)) k4 bel lt4) trodAll_mk0))))), rfl, bel.frame _, fun h => by cases h⟩

theorem over : Rows.routeWholeRow.holds Try.pinned (OpenSpec.ofChange Rows.routeWholeSpec) :=
  OpenClaim.holds_of_wide 5 Try.f5 rfl rfl rfl rfl rfl rfl rfl ⟨rfl, rfl, rfl, rfl, rfl⟩ rfl rfl rfl rfl rfl (by kernel_rfl) Try.func5 (by kernel_rfl)
    (of_decide_eq_true (by kernel_rfl)) (by unfold Func.isWrapper; first | (rw [if_pos (by decide +kernel)]; kernel_rfl) | (rw [if_neg (by decide +kernel)]; exact ⟨rfl, rfl⟩))
    (fun os started H enc _ => lifted os started H enc)
theorem proved : Rows.RouteWholeSaid := over
#print axioms proved
end Go.Proofs.Ytdbgkbgodnknnaa.routeWhole
namespace Go.Proofs.Ytdbgkbgodnknnaa
/-- RouteWhole, as given. -/
theorem routeWhole_holds : Rows.RouteWholeSaid := routeWhole.proved
end Go.Proofs.Ytdbgkbgodnknnaa
