/-
  KeyWithin: between two is who is not below the first and below the second, and stretches side by side have each key once, for every four keys.
-/
import Derived.Test.YtfgbgcaackhcmaaRows
import Derived.Test.YtfgbgcaackhcmaaKeyAwake
import Derived.Test.YtfgbgcaackhcmaaKeysOpen
import Derived.Test.YtfgbgcaackhcmaaNested
import Derived.WalkKit
import Derived.ProofKit
import Derived.OpenShut
import Derived.ShutString
import Derived.ChangeOld
import Derived.Below
import Derived.Carry
namespace Go.Proofs.Ytfgbgcaackhcmaa.keyWithin
open Go.ChangeShapes Go.WideShapes Go.ChangeAt Go.RowKit
open Go.ChangeMaps (open_string shut_string)
set_option linter.unusedVariables false

theorem own : ownKnob Try.prog.godebug = none := by kernel_rfl
theorem laidOut : laidOutB Try.prog = true := by kernel_rfl
/-- A slice of integers that came in: nil, or a row of 'cap' cells, of which the first 'len' are its elements. -/
def IsRow (k : IntKind) (w : World) (a : Option Addr) (len cap : Nat) (zs : List Int) : Prop :=
  (a = none ∧ len = 0 ∧ cap = 0 ∧ zs = []) ∨
  ∃ x, a = some x ∧ len ≤ cap ∧ cap ≤ maxLen ∧ zs.length = cap ∧ (∀ i, i < zs.length → w.cell? (x.add i) = some (.int k (zs.getD i 0))) ∧ ∀ n ∈ zs, (Lit.int k n).wf = true

/-- Four keys, each in a block of its own. -/
structure Quad (w u : World) (k a b c : List Int) : Prop where
  below : Below w.heap.size w u
  k : KeyAt u w.heap.size 0 k
  a : KeyAt u (w.heap.size + 1) 0 a
  b : KeyAt u (w.heap.size + 2) 0 b
  c : KeyAt u (w.heap.size + 3) 0 c
theorem Quad.made (w : World) (T : TypeId) {k a b c : List Int} (hk : Ky k) (ha : Ky a) (hb : Ky b) (hc : Ky c) : Quad w ((((w.alloc (.cells (kcs k) T)).alloc (.cells (kcs a) T)).alloc (.cells (kcs b) T)).alloc (.cells (kcs c) T)) k a b c := by
  have e1 := KeyAt.made w T k hk
  have e2 := KeyAt.made (w.alloc (.cells (kcs k) T)) T a ha
  have e3 := KeyAt.made ((w.alloc (.cells (kcs k) T)).alloc (.cells (kcs a) T)) T b hb
  have e4 := KeyAt.made (((w.alloc (.cells (kcs k) T)).alloc (.cells (kcs a) T)).alloc (.cells (kcs b) T)) T c hc
  rw [World.size_alloc] at e2
  rw [World.size_alloc, World.size_alloc] at e3
  rw [World.size_alloc, World.size_alloc, World.size_alloc] at e4
  exact ⟨((((Below.refl _ _).alloc (Nat.le_refl _) _).alloc (by simp) _).alloc (by simp; omega) _).alloc (by simp; omega) _, ((e1.alloc _).alloc _).alloc _, (e2.alloc _).alloc _, e3.alloc _, e4⟩
theorem Quad.past {w u v : World} {k a b c : List Int} (h : Quad w u k a b c) (hb : Below u.heap.size u v) : Quad w v k a b c :=
  ⟨h.below.trans (hb.mono h.below.size), h.k.past hb, h.a.past hb, h.b.past hb, h.c.past hb⟩
set_option maxRecDepth 4000 in
set_option maxHeartbeats 2000000 in
theorem walk (z0 : List Int) (z1 : List Int) (z2 : List Int) (z3 : List Int) (w : World) (w0 : IsArr .u8 16 z0) (w1 : IsArr .u8 16 z1) (w2 : IsArr .u8 16 z2) (w3 : IsArr .u8 16 z3) :
    Calls Try.prog 8 #[.agg (z0.map (Value.int .u8)).toArray, .agg (z1.map (Value.int .u8)).toArray, .agg (z2.map (Value.int .u8)).toArray, .agg (z3.map (Value.int .u8)).toArray] w fun e w' => e = .returned (.bool true) ∧ Below w.heap.size w w' := by
  have KK : Hid (Ky z0) := w0.ky
  have KA : Hid (Ky z1) := w1.ky
  have KB : Hid (Ky z2) := w2.ky
  have KC : Hid (Ky z3) := w3.ky
  have AW : Hid (∀ u, Calls Try.prog 9 #[] u fun e w' => e = .returned (.bool true) ∧ Below u.heap.size u w') := fun u => awake_any u
  have H0 : Hid (Quad w ((((w.alloc (.cells (kcs z0) 24)).alloc (.cells (kcs z1) 24)).alloc (.cells (kcs z2) 24)).alloc (.cells (kcs z3) 24)) z0 z1 z2 z3) := Quad.made w 24 w0.ky w1.ky w2.ky w3.ky
  obtain ⟨X1, hX1⟩ : ∃ X, X = lexC z1 z2 := ⟨_, rfl⟩
  obtain ⟨X2, hX2⟩ : ∃ X, X = lexC z2 z3 := ⟨_, rfl⟩
  have C1 : Hid (∀ u, Calls Try.prog 18 #[kv z1, kv z2] u fun e w' => e = .returned (.int .i64 X1) ∧ Below u.heap.size u w') := fun u => by rw [hX1]; exact kcmp_any z1 z2 w1.ky w2.ky u
  have C2 : Hid (∀ u, Calls Try.prog 18 #[kv z2, kv z3] u fun e w' => e = .returned (.int .i64 X2) ∧ Below u.heap.size u w') := fun u => by rw [hX2]; exact kcmp_any z2 z3 w2.ky w3.ky u
  have hq : ∀ u, (Op.equalIn 10000 24 (kv z2) (kv zeroK)).run Try.prog u = .ok (decide (z2 = zeroK)) u := fun u => eq_key u z2 zeroK w2.ky zeroK_ky
  rw [show (kv zeroK) = .agg #[.int .u8 0, .int .u8 0, .int .u8 0, .int .u8 0, .int .u8 0, .int .u8 0, .int .u8 0, .int .u8 0, .int .u8 0, .int .u8 0, .int .u8 0, .int .u8 0, .int .u8 0, .int .u8 0, .int .u8 0, .int .u8 0] from rfl] at hq
  have HX1 : Hid (X1 = lexC z1 z2) := hX1
  have HX2 : Hid (X2 = lexC z2 z3) := hX2
  clear w0 w1 w2 w3 hX1 hX2
  by_cases h1 : 0 < X1
  · have d1 : decide (0 < X1) = true := decide_eq_true h1
    go_enter Try.func8, Try.ntmps8
    go_wp2_with (first | (have hgo := AW.out; clear hgo; go_at_call 9; refine (AW.out _).mono ?_; rintro e v1 ⟨rfl, hb1⟩; have H1 : Hid (Quad w v1 z0 z1 z2 z3) := H0.out.past hb1; clear hb1 AW) | (have hgo := H1.out; clear hgo; refine wpList_load_key (by rfl) _ (by rfl) (w.heap.size + 1) 0 (by rfl) z1 KA.out H1.out.a ?_) | (have hgo := H1.out; clear hgo; refine wpList_load_key (by rfl) _ (by rfl) (w.heap.size + 2) 0 (by rfl) z2 KB.out H1.out.b ?_) | (have hgo := H1.out; clear hgo; go_at_call 18; refine (C1.out _).mono ?_; rintro e v2 ⟨rfl, hb2⟩; have H2 : Hid (Quad w v2 z0 z1 z2 z3) := H1.out.past hb2; clear hb2 H1))
    go_ret
    exact ⟨rfl, H2.out.below⟩
  · have d1 : decide (0 < X1) = false := decide_eq_false h1
    by_cases h2 : 0 < X2
    · have d2 : decide (0 < X2) = true := decide_eq_true h2
      go_enter Try.func8, Try.ntmps8
      go_wp2_with (first | (have hgo := AW.out; clear hgo; go_at_call 9; refine (AW.out _).mono ?_; rintro e v1 ⟨rfl, hb1⟩; have H1 : Hid (Quad w v1 z0 z1 z2 z3) := H0.out.past hb1; clear hb1 AW) | (have hgo := H1.out; clear hgo; refine wpList_load_key (by rfl) _ (by rfl) (w.heap.size + 1) 0 (by rfl) z1 KA.out H1.out.a ?_) | (have hgo := H1.out; clear hgo; refine wpList_load_key (by rfl) _ (by rfl) (w.heap.size + 2) 0 (by rfl) z2 KB.out H1.out.b ?_) | (have hgo := H1.out; clear hgo; go_at_call 18; refine (C1.out _).mono ?_; rintro e v2 ⟨rfl, hb2⟩; have H2 : Hid (Quad w v2 z0 z1 z2 z3) := H1.out.past hb2; clear hb2 H1) | (have hgo := H2.out; clear hgo; refine wpList_load_keyG (by rfl) _ (by rfl) (w.heap.size + 2) 0 (by rfl) z2 KB.out H2.out.b ?_) | (have hgo := H2.out; clear hgo; refine wpList_load_keyG (by rfl) _ (by rfl) (w.heap.size + 3) 0 (by rfl) z3 KC.out H2.out.c ?_) | (have hgo := H2.out; clear hgo; go_at_call 18; refine (C2.out _).mono ?_; rintro e v3 ⟨rfl, hb3⟩; have H3 : Hid (Quad w v3 z0 z1 z2 z3) := H2.out.past hb3; clear hb3 H2))
      go_ret
      exact ⟨rfl, H3.out.below⟩
    · have d2 : decide (0 < X2) = false := decide_eq_false h2
      by_cases h3 : z2 = zeroK
      · rw [decide_eq_true h3] at hq
        clear h3
        go_enter Try.func8, Try.ntmps8
        go_wp2_with (first | (have hgo := AW.out; clear hgo; go_at_call 9; refine (AW.out _).mono ?_; rintro e v1 ⟨rfl, hb1⟩; have H1 : Hid (Quad w v1 z0 z1 z2 z3) := H0.out.past hb1; clear hb1 AW) | (have hgo := H1.out; clear hgo; refine wpList_load_key (by rfl) _ (by rfl) (w.heap.size + 1) 0 (by rfl) z1 KA.out H1.out.a ?_) | (have hgo := H1.out; clear hgo; refine wpList_load_key (by rfl) _ (by rfl) (w.heap.size + 2) 0 (by rfl) z2 KB.out H1.out.b ?_) | (have hgo := H1.out; clear hgo; go_at_call 18; refine (C1.out _).mono ?_; rintro e v2 ⟨rfl, hb2⟩; have H2 : Hid (Quad w v2 z0 z1 z2 z3) := H1.out.past hb2; clear hb2 H1) | (have hgo := H2.out; clear hgo; refine wpList_load_keyG (by rfl) _ (by rfl) (w.heap.size + 2) 0 (by rfl) z2 KB.out H2.out.b ?_) | (have hgo := H2.out; clear hgo; refine wpList_load_keyG (by rfl) _ (by rfl) (w.heap.size + 3) 0 (by rfl) z3 KC.out H2.out.c ?_) | (have hgo := H2.out; clear hgo; go_at_call 18; refine (C2.out _).mono ?_; rintro e v3 ⟨rfl, hb3⟩; have H3 : Hid (Quad w v3 z0 z1 z2 z3) := H2.out.past hb3; clear hb3 H2) | (have hgo := H3.out; clear hgo; refine wpList_load_keyG (by rfl) _ (by rfl) (w.heap.size + 2) 0 (by rfl) z2 KB.out H3.out.b ?_))
        go_ret
        exact ⟨rfl, H3.out.below⟩
      · have hp := within_parts (k := z0) (a := z1) (b := z2) (c := z3) KB.out KK.out (by rw [← HX1.out]; exact h1) (by rw [← HX2.out]; exact h2) h3
        rw [decide_eq_false h3] at hq
        obtain ⟨b1, hb1⟩ : ∃ b, b = withinK z0 z1 z2 := ⟨_, rfl⟩
        obtain ⟨b2, hb2⟩ : ∃ b, b = withinK z0 z2 z3 := ⟨_, rfl⟩
        obtain ⟨b3, hb3⟩ : ∃ b, b = withinK z0 z1 z3 := ⟨_, rfl⟩
        rw [← hb1, ← hb2, ← hb3] at hp
        have W1 : Hid (∀ u, Calls Try.prog 14 #[kv z0, kv z1, kv z2] u fun e w' => e = .returned (.bool b1) ∧ Below u.heap.size u w') := fun u => by rw [hb1]; exact kwithin_any z0 z1 z2 KK.out KA.out KB.out u
        have W2 : Hid (∀ u, Calls Try.prog 14 #[kv z0, kv z2, kv z3] u fun e w' => e = .returned (.bool b2) ∧ Below u.heap.size u w') := fun u => by rw [hb2]; exact kwithin_any z0 z2 z3 KK.out KB.out KC.out u
        have W3 : Hid (∀ u, Calls Try.prog 14 #[kv z0, kv z1, kv z3] u fun e w' => e = .returned (.bool b3) ∧ Below u.heap.size u w') := fun u => by rw [hb3]; exact kwithin_any z0 z1 z3 KK.out KA.out KC.out u
        obtain ⟨hp1, hp2⟩ := hp
        clear h3 hb1 hb2 hb3
        go_enter Try.func8, Try.ntmps8
        go_wp2_with (first | (have hgo := AW.out; clear hgo; go_at_call 9; refine (AW.out _).mono ?_; rintro e v1 ⟨rfl, hb1⟩; have H1 : Hid (Quad w v1 z0 z1 z2 z3) := H0.out.past hb1; clear hb1 AW) | (have hgo := H1.out; clear hgo; refine wpList_load_key (by rfl) _ (by rfl) (w.heap.size + 1) 0 (by rfl) z1 KA.out H1.out.a ?_) | (have hgo := H1.out; clear hgo; refine wpList_load_key (by rfl) _ (by rfl) (w.heap.size + 2) 0 (by rfl) z2 KB.out H1.out.b ?_) | (have hgo := H1.out; clear hgo; go_at_call 18; refine (C1.out _).mono ?_; rintro e v2 ⟨rfl, hb2⟩; have H2 : Hid (Quad w v2 z0 z1 z2 z3) := H1.out.past hb2; clear hb2 H1) | (have hgo := H2.out; clear hgo; refine wpList_load_keyG (by rfl) _ (by rfl) (w.heap.size + 2) 0 (by rfl) z2 KB.out H2.out.b ?_) | (have hgo := H2.out; clear hgo; refine wpList_load_keyG (by rfl) _ (by rfl) (w.heap.size + 3) 0 (by rfl) z3 KC.out H2.out.c ?_) | (have hgo := H2.out; clear hgo; go_at_call 18; refine (C2.out _).mono ?_; rintro e v3 ⟨rfl, hb3⟩; have H3 : Hid (Quad w v3 z0 z1 z2 z3) := H2.out.past hb3; clear hb3 H2) | (have hgo := H3.out; clear hgo; refine wpList_load_keyG (by rfl) _ (by rfl) (w.heap.size + 2) 0 (by rfl) z2 KB.out H3.out.b ?_))
        have A0 : Hid (∀ u, Below v3.heap.size v3 u → KeyAt u w.heap.size 0 z0) := fun u hb => H3.out.k.past hb
        have A1 : Hid (∀ u, Below v3.heap.size v3 u → KeyAt u (w.heap.size + 1) 0 z1) := fun u hb => H3.out.a.past hb
        have A2 : Hid (∀ u, Below v3.heap.size v3 u → KeyAt u (w.heap.size + 2) 0 z2) := fun u hb => H3.out.b.past hb
        have A3 : Hid (∀ u, Below v3.heap.size v3 u → KeyAt u (w.heap.size + 3) 0 z3) := fun u hb => H3.out.c.past hb
        refine wp_region_noPanic ?_
        refine wp_region_held_drew (S := fun u => Below v3.heap.size v3 u) (by kernel_rfl) ?_ (fun hHeld => ?_)
        · exact (Below.refl _ _).drew
        refine wpAnyH_take (i := 0) (v := kv z0) rfl (by kernel_rfl) (by kernel_rfl) (by kernel_rfl) (fun _ _ _ h => h) (yieldsIf_load_mid (by rfl) _ _ rfl _ _ rfl (z0.map (Value.int .u8)) _ (fun u hu => (A0.out u hu).range KK.out) Try.underlying24 rfl (info_keyl z0 KK.out)) hHeld ?_
        change wpAnyH _ _ _ _ _ _ _ (Act.put _ (some 29) _) _
        simp only [Act.put, List.setIfInBounds_toArray, List.set_cons_zero, List.set_cons_succ]
        refine wpAnyH_take (i := 1) (v := kv z1) rfl (by kernel_rfl) (by kernel_rfl) (by kernel_rfl) (fun _ _ _ h => h) (yieldsIf_load_mid (by rfl) _ _ rfl _ _ rfl (z1.map (Value.int .u8)) _ (fun u hu => (A1.out u hu).range KA.out) Try.underlying24 rfl (info_keyl z1 KA.out)) hHeld ?_
        change wpAnyH _ _ _ _ _ _ _ (Act.put _ (some 30) _) _
        simp only [Act.put, List.setIfInBounds_toArray, List.set_cons_zero, List.set_cons_succ]
        refine wpAnyH_take (i := 2) (v := kv z2) rfl (by kernel_rfl) (by kernel_rfl) (by kernel_rfl) (fun _ _ _ h => h) (yieldsIf_load_mid (by rfl) _ _ rfl _ _ rfl (z2.map (Value.int .u8)) _ (fun u hu => (A2.out u hu).range KB.out) Try.underlying24 rfl (info_keyl z2 KB.out)) hHeld ?_
        change wpAnyH _ _ _ _ _ _ _ (Act.put _ (some 31) _) _
        simp only [Act.put, List.setIfInBounds_toArray, List.set_cons_zero, List.set_cons_succ]
        refine wpAnyH_take (i := 4) (v := kv z0) rfl (by kernel_rfl) (by kernel_rfl) (by kernel_rfl) (fun _ _ _ h => h) (yieldsIf_load_mid (by rfl) _ _ rfl _ _ rfl (z0.map (Value.int .u8)) _ (fun u hu => (A0.out u hu).range KK.out) Try.underlying24 rfl (info_keyl z0 KK.out)) hHeld ?_
        change wpAnyH _ _ _ _ _ _ _ (Act.put _ (some 33) _) _
        simp only [Act.put, List.setIfInBounds_toArray, List.set_cons_zero, List.set_cons_succ]
        refine wpAnyH_take (i := 5) (v := kv z2) rfl (by kernel_rfl) (by kernel_rfl) (by kernel_rfl) (fun _ _ _ h => h) (yieldsIf_load_mid (by rfl) _ _ rfl _ _ rfl (z2.map (Value.int .u8)) _ (fun u hu => (A2.out u hu).range KB.out) Try.underlying24 rfl (info_keyl z2 KB.out)) hHeld ?_
        change wpAnyH _ _ _ _ _ _ _ (Act.put _ (some 34) _) _
        simp only [Act.put, List.setIfInBounds_toArray, List.set_cons_zero, List.set_cons_succ]
        refine wpAnyH_take (i := 6) (v := kv z3) rfl (by kernel_rfl) (by kernel_rfl) (by kernel_rfl) (fun _ _ _ h => h) (yieldsIf_load_mid (by rfl) _ _ rfl _ _ rfl (z3.map (Value.int .u8)) _ (fun u hu => (A3.out u hu).range KC.out) Try.underlying24 rfl (info_keyl z3 KC.out)) hHeld ?_
        change wpAnyH _ _ _ _ _ _ _ (Act.put _ (some 35) _) _
        simp only [Act.put, List.setIfInBounds_toArray, List.set_cons_zero, List.set_cons_succ]
        refine wpAnyH_take (i := 8) (v := kv z0) rfl (by kernel_rfl) (by kernel_rfl) (by kernel_rfl) (fun _ _ _ h => h) (yieldsIf_load_mid (by rfl) _ _ rfl _ _ rfl (z0.map (Value.int .u8)) _ (fun u hu => (A0.out u hu).range KK.out) Try.underlying24 rfl (info_keyl z0 KK.out)) hHeld ?_
        change wpAnyH _ _ _ _ _ _ _ (Act.put _ (some 37) _) _
        simp only [Act.put, List.setIfInBounds_toArray, List.set_cons_zero, List.set_cons_succ]
        refine wpAnyH_take (i := 9) (v := kv z1) rfl (by kernel_rfl) (by kernel_rfl) (by kernel_rfl) (fun _ _ _ h => h) (yieldsIf_load_mid (by rfl) _ _ rfl _ _ rfl (z1.map (Value.int .u8)) _ (fun u hu => (A1.out u hu).range KA.out) Try.underlying24 rfl (info_keyl z1 KA.out)) hHeld ?_
        change wpAnyH _ _ _ _ _ _ _ (Act.put _ (some 38) _) _
        simp only [Act.put, List.setIfInBounds_toArray, List.set_cons_zero, List.set_cons_succ]
        refine wpAnyH_take (i := 10) (v := kv z3) rfl (by kernel_rfl) (by kernel_rfl) (by kernel_rfl) (fun _ _ _ h => h) (yieldsIf_load_mid (by rfl) _ _ rfl _ _ rfl (z3.map (Value.int .u8)) _ (fun u hu => (A3.out u hu).range KC.out) Try.underlying24 rfl (info_keyl z3 KC.out)) hHeld ?_
        change wpAnyH _ _ _ _ _ _ _ (Act.put _ (some 39) _) _
        simp only [Act.put, List.setIfInBounds_toArray, List.set_cons_zero, List.set_cons_succ]
        refine wpAnyH_ready (rs := [3]) (by kernel_rfl) (by simp) ?_
        refine AllReadyH.cons rfl (fun K hK => ?_) AllReadyH.nil
        go_simp
        go_at_call 14
        refine (W1.out _).mono ?_
        rintro e v4 ⟨rfl, hbv4⟩
        have B4 : Hid (Below v3.heap.size v3 v4) := hHeld.trans (hbv4.mono hHeld.size)
        clear hbv4
        refine hK.out _ _ ?_ (fun hHeld2 => ?_)
        · exact B4.out
        clear hK K hHeld
        have hHeld := hHeld2
        clear hHeld2
        refine wpAnyH_ready (rs := [7]) (by kernel_rfl) (by simp) ?_
        refine AllReadyH.cons rfl (fun K hK => ?_) AllReadyH.nil
        go_simp
        go_at_call 14
        refine (W2.out _).mono ?_
        rintro e v5 ⟨rfl, hbv5⟩
        have B5 : Hid (Below v3.heap.size v3 v5) := hHeld.trans (hbv5.mono hHeld.size)
        clear hbv5
        refine hK.out _ _ ?_ (fun hHeld2 => ?_)
        · exact B5.out
        clear hK K hHeld
        have hHeld := hHeld2
        clear hHeld2
        refine wpAnyH_ready (rs := [11]) (by kernel_rfl) (by simp) ?_
        refine AllReadyH.cons rfl (fun K hK => ?_) AllReadyH.nil
        go_simp
        go_at_call 14
        refine (W3.out _).mono ?_
        rintro e v6 ⟨rfl, hbv6⟩
        have B6 : Hid (Below v3.heap.size v3 v6) := hHeld.trans (hbv6.mono hHeld.size)
        clear hbv6
        refine hK.out _ _ ?_ (fun hHeld2 => ?_)
        · exact B6.out
        clear hK K hHeld
        have hHeld := hHeld2
        clear hHeld2
        refine wpAnyH_take (i := 12) (v := ?_) rfl (by kernel_rfl) (by kernel_rfl) (by kernel_rfl) (fun _ _ _ h => h) (Or.inl ⟨by rfl, ?_⟩) hHeld ?_
        rotate_left
        · intro u hSu
          (go_simp) <;> (with_reducible rfl)
        change wpAnyH _ _ _ _ _ _ _ (Act.put _ (some 9) _) _
        simp only [Act.put, List.setIfInBounds_toArray, List.set_cons_zero, List.set_cons_succ]
        refine wpAnyH_take (i := 13) (v := ?_) rfl (by kernel_rfl) (by kernel_rfl) (by kernel_rfl) (fun _ _ _ h => h) (Or.inl ⟨by rfl, ?_⟩) hHeld ?_
        rotate_left
        · intro u hSu
          (go_simp) <;> (with_reducible rfl)
        change wpAnyH _ _ _ _ _ _ _ (Act.put _ (some 10) _) _
        simp only [Act.put, List.setIfInBounds_toArray, List.set_cons_zero, List.set_cons_succ]
        refine wpAnyH_take (i := 14) (v := ?_) rfl (by kernel_rfl) (by kernel_rfl) (by kernel_rfl) (fun _ _ _ h => h) (Or.inl ⟨by rfl, ?_⟩) hHeld ?_
        rotate_left
        · intro u hSu
          (go_simp) <;> (with_reducible rfl)
        change wpAnyH _ _ _ _ _ _ _ (Act.put _ (some 11) _) _
        simp only [Act.put, List.setIfInBounds_toArray, List.set_cons_zero, List.set_cons_succ]
        refine wpAnyH_done (by kernel_rfl) ?_ _
        refine NoPanic.normal ?_
        cases b1 <;> cases b2
        all_goals first | (exfalso; revert hp1; decide) | skip
        all_goals
          simp at hp2
          subst hp2
          go_wp2
          go_ret
          exact ⟨rfl, H3.out.below.trans (B6.out.mono H3.out.below.size)⟩

set_option maxRecDepth 100000 in
theorem lifted (os : Os) (started : os.Started) (H : Type) (enc : TypeId × Value → H) :
    ReturnsInHanded {} Try.checked os 8 .any (Rows.keyWithinSpec.pre6 enc Try.prog Try.f8 Rows.keyWithinRow.domain false) (Rows.keyWithinSpec.post enc Try.prog Try.f8 false true false false) := by
  refine returnsInHanded_of_change (C := Try.checked) own started (by kernel_rfl) Try.func8
    (ChangeSpec.witness6 (enc := enc) (C := Try.checked) false ⟨#[], #[.agg #[.int .u8 0, .int .u8 0, .int .u8 0, .int .u8 0, .int .u8 0, .int .u8 0, .int .u8 0, .int .u8 0, .int .u8 0, .int .u8 0, .int .u8 0, .int .u8 0, .int .u8 0, .int .u8 0, .int .u8 0, .int .u8 0], .agg #[.int .u8 0, .int .u8 0, .int .u8 0, .int .u8 0, .int .u8 0, .int .u8 0, .int .u8 0, .int .u8 0, .int .u8 0, .int .u8 0, .int .u8 0, .int .u8 0, .int .u8 0, .int .u8 0, .int .u8 0, .int .u8 0], .agg #[.int .u8 0, .int .u8 0, .int .u8 0, .int .u8 0, .int .u8 0, .int .u8 0, .int .u8 0, .int .u8 0, .int .u8 0, .int .u8 0, .int .u8 0, .int .u8 0, .int .u8 0, .int .u8 0, .int .u8 0, .int .u8 0], .agg #[.int .u8 0, .int .u8 0, .int .u8 0, .int .u8 0, .int .u8 0, .int .u8 0, .int .u8 0, .int .u8 0, .int .u8 0, .int .u8 0, .int .u8 0, .int .u8 0, .int .u8 0, .int .u8 0, .int .u8 0, .int .u8 0]], []⟩ 8 (by kernel_rfl) (by kernel_rfl) (by kernel_rfl) (by kernel_rfl)) ?_
  intro W base args ds gs before hval0 hW hcnd _
  have hval : ∀ (j : Nat) t v, Try.f8.params[j]? = some t → args[j]? = some v → Value.okWide Try.prog W .any base t v := hval0
  have hW' := hW
  obtain ⟨p, q, hA0, hV, rfl, hfz, hnd⟩ := hW
  have hA : DataW.TrodAll enc Try.prog W 0 (fun _ => true) true Try.f8.params.toList args.toList ds p := hA0
  rw [Try.params8] at hA hval
  obtain ⟨v0, vs0, d0, ds0, p0, q0, hargs, rfl, rfl, h0, r0⟩ := trodAll_cons hA
  obtain ⟨v1, vs1, d1, ds1, p1, q1, rfl, rfl, rfl, h1, r1⟩ := trodAll_cons r0
  obtain ⟨v2, vs2, d2, ds2, p2, q2, rfl, rfl, rfl, h2, r2⟩ := trodAll_cons r1
  obtain ⟨v3, vs3, d3, ds3, p3, q3, rfl, rfl, rfl, h3, r3⟩ := trodAll_cons r2
  obtain ⟨rfl, rfl, rfl⟩ := trodAll_nil r3
  obtain rfl : args = #[v0, v1, v2, v3] := by cases args; simp_all
  obtain ⟨rfl, rfl⟩ := trodVars_none hV
  have k0 := h0
  have lt0 : ∀ x ∈ p0, x.block < W.heap.size := by obtain ⟨m, hm⟩ := k0; exact DataW.trod_lt m _ _ _ hm
  obtain ⟨z0, rfl, w0⟩ := arr_open Try.underlying24 Try.underlying5 (by kernel_rfl) (by kernel_rfl) (hval 0 24 v0 rfl rfl) h0
  have k1 := h1
  have lt1 : ∀ x ∈ p1, x.block < W.heap.size := by obtain ⟨m, hm⟩ := k1; exact DataW.trod_lt m _ _ _ hm
  obtain ⟨z1, rfl, w1⟩ := arr_open Try.underlying24 Try.underlying5 (by kernel_rfl) (by kernel_rfl) (hval 1 24 v1 rfl rfl) h1
  have k2 := h2
  have lt2 : ∀ x ∈ p2, x.block < W.heap.size := by obtain ⟨m, hm⟩ := k2; exact DataW.trod_lt m _ _ _ hm
  obtain ⟨z2, rfl, w2⟩ := arr_open Try.underlying24 Try.underlying5 (by kernel_rfl) (by kernel_rfl) (hval 2 24 v2 rfl rfl) h2
  have k3 := h3
  have lt3 : ∀ x ∈ p3, x.block < W.heap.size := by obtain ⟨m, hm⟩ := k3; exact DataW.trod_lt m _ _ _ hm
  obtain ⟨z3, rfl, w3⟩ := arr_open Try.underlying24 Try.underlying5 (by kernel_rfl) (by kernel_rfl) (hval 3 24 v3 rfl rfl) h3
  clear hA0 hval0
  refine (walk z0 z1 z2 z3 W w0 w1 w2 w3).mono fun e W' ⟨he, bel⟩ => ?_
  subst he
  exact ⟨_, rfl, _, _, _, [], _, [], hW', trodAll_mk1 (shut_bool Try.underlying4 _), (trodAll_cons_mk (Below.trod laidOut (by kernel_rfl) (of_decide_eq_true (by kernel_rfl)) k0 bel lt0) (trodAll_cons_mk (Below.trod laidOut (by kernel_rfl) (of_decide_eq_true (by kernel_rfl)) k1 bel lt1) (trodAll_cons_mk (Below.trod laidOut (by kernel_rfl) (of_decide_eq_true (by kernel_rfl)) k2 bel lt2) (trodAll_cons_mk (Below.trod laidOut (by kernel_rfl) (of_decide_eq_true (by kernel_rfl)) k3 bel lt3) trodAll_mk0)))), rfl, bel.frame _, fun h => by cases h⟩

theorem over : Rows.keyWithinRow.holds Try.pinned (OpenSpec.ofChange Rows.keyWithinSpec) :=
  OpenClaim.holds_of_wide 8 Try.f8 rfl rfl rfl rfl rfl rfl rfl ⟨rfl, rfl, rfl, rfl, rfl⟩ rfl rfl rfl rfl rfl (by kernel_rfl) Try.func8 (by kernel_rfl)
    (of_decide_eq_true (by kernel_rfl)) (by unfold Func.isWrapper; first | (rw [if_pos (by decide +kernel)]; kernel_rfl) | (rw [if_neg (by decide +kernel)]; exact ⟨rfl, rfl⟩))
    (fun os started H enc _ => lifted os started H enc)
theorem proved : Rows.KeyWithinSaid := over
#print axioms proved
end Go.Proofs.Ytfgbgcaackhcmaa.keyWithin
namespace Go.Proofs.Ytfgbgcaackhcmaa
/-- KeyWithin, as given. -/
theorem keyWithin_holds : Rows.KeyWithinSaid := keyWithin.proved
end Go.Proofs.Ytfgbgcaackhcmaa
