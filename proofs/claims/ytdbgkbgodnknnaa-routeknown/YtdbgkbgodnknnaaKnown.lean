/-
  RouteKnown: the examples of chapter 17 answer as told (a closed statement).
-/
import Derived.Test.YtdbgkbgodnknnaaRows
import Derived.Test.YtdbgkbgodnknnaaRouL4
import Derived.WalkKit
import Derived.ProofKit
import Derived.OpenShut
import Derived.ShutString
import Derived.ChangeOld
import Derived.Below
import Derived.Carry
namespace Go.Proofs.Ytdbgkbgodnknnaa.routeKnown
open Go.ChangeShapes Go.WideShapes Go.ChangeAt Go.RowKit
open Go.ChangeMaps (open_string shut_string)
set_option linter.unusedVariables false

theorem own : ownKnob Try.prog.godebug = none := by kernel_rfl
theorem laidOut : laidOutB Try.prog = true := by kernel_rfl
/-- A slice of integers that came in: nil, or a row of 'cap' cells, of which the first 'len' are its elements. -/
def IsRow (k : IntKind) (w : World) (a : Option Addr) (len cap : Nat) (zs : List Int) : Prop :=
  (a = none ∧ len = 0 ∧ cap = 0 ∧ zs = []) ∨
  ∃ x, a = some x ∧ len ≤ cap ∧ cap ≤ maxLen ∧ zs.length = cap ∧ (∀ i, i < zs.length → w.cell? (x.add i) = some (.int k (zs.getD i 0))) ∧ ∀ n ∈ zs, (Lit.int k n).wf = true

structure KnB (w u : World) (q : Nat) : Prop where
  below : Below w.heap.size w u
  tab : RtAt u q pgR
theorem KnB.past {w u u' : World} {q : Nat} (h : KnB w u q) (hb : Below u.heap.size u u') : KnB w u' q := ⟨h.below.trans (hb.mono h.below.size), h.tab.past hb⟩
structure KnC (w u : World) (q wb : Nat) : Prop where
  kb : KnB w u q
  wr : WrtsAt u (some ⟨wb, 0, none⟩) lgR
theorem KnC.past {w u u' : World} {q wb : Nat} (h : KnC w u q wb) (hb : Below u.heap.size u u') : KnC w u' q wb := ⟨h.kb.past hb, h.wr.past hb⟩
theorem kn_new {P : List (List Int)} {n : Nat} (hn : P.length = n) (hm : mayR P = false) (u : World) (g : Nat) (hk : KeysAt u (some ⟨g, 0, none⟩) P) : Calls Try.prog 8 #[.slice (some ⟨g, 0, none⟩) n n] u fun e w' => e = .returned (.tuple #[.pointer none, .int .i64 1]) ∧ Below u.heap.size u w' :=
  (ronew_any (some ⟨g, 0, none⟩) n n P u hn (Nat.le_refl _) hk (fun h => by cases h)).mono fun e w' ⟨h1, h2⟩ => ⟨h1.no hm, h2⟩
theorem kn_cover {a b : List Int} {C : List Int} {n : Nat} (ha : Ky a) (hb : Ky b) (hC : coverR pgR a b = C) (hn : C.length = n) (u : World) (q : Nat) (h : RtAt u q pgR) : Calls Try.prog 14 #[.pointer (some ⟨q, 0, none⟩), kv a, kv b] u fun e w' => ∃ ra rc, e = .returned (.slice ra n rc) ∧ (n ≤ rc ∧ NumsR w' ra C) ∧ Below u.heap.size u w' :=
  (rocover_any a b ha hb u h (by decide)).mono fun e w' ⟨ra, m, rc, h1, h2, h3, h4, h5⟩ => by
    rw [hC] at h2 h4
    obtain rfl : n = m := hn.symm.trans h2
    exact ⟨ra, rc, h1, ⟨h3, h4⟩, h5⟩
set_option maxHeartbeats 32000000 in
set_option maxRecDepth 16000 in
theorem walk  (w : World)  :
    Calls Try.prog 3 #[] w fun e w' => e = .returned (.bool true) ∧ Below w.heap.size w w' := by
  have AW : Hid (∀ u, Calls Try.prog 7 #[] u fun e w' => e = .returned (.bool true) ∧ Below u.heap.size u w') := fun u => rawake_any u
  have KO : Hid (Ky zeroK) := zeroK_ky
  have CKa : Hid (∀ u, Calls Try.prog 9 #[.string ⟨#[97]⟩] u fun e w' => e = .returned (kv (kR 97)) ∧ Below u.heap.size u w') := fun u => k17_any 97 (by omega) _ rfl u
  have Ka : Hid (Ky (kR 97)) := kR_ky 97 (by omega)
  have CKb : Hid (∀ u, Calls Try.prog 9 #[.string ⟨#[98]⟩] u fun e w' => e = .returned (kv (kR 98)) ∧ Below u.heap.size u w') := fun u => k17_any 98 (by omega) _ rfl u
  have Kb : Hid (Ky (kR 98)) := kR_ky 98 (by omega)
  have CKg : Hid (∀ u, Calls Try.prog 9 #[.string ⟨#[103]⟩] u fun e w' => e = .returned (kv (kR 103)) ∧ Below u.heap.size u w') := fun u => k17_any 103 (by omega) _ rfl u
  have Kg : Hid (Ky (kR 103)) := kR_ky 103 (by omega)
  have CKp : Hid (∀ u, Calls Try.prog 9 #[.string ⟨#[112]⟩] u fun e w' => e = .returned (kv (kR 112)) ∧ Below u.heap.size u w') := fun u => k17_any 112 (by omega) _ rfl u
  have Kp : Hid (Ky (kR 112)) := kR_ky 112 (by omega)
  have CKz : Hid (∀ u, Calls Try.prog 9 #[.string ⟨#[122]⟩] u fun e w' => e = .returned (kv (kR 122)) ∧ Below u.heap.size u w') := fun u => k17_any 122 (by omega) _ rfl u
  have Kz : Hid (Ky (kR 122)) := kR_ky 122 (by omega)
  have CKh : Hid (∀ u, Calls Try.prog 9 #[.string ⟨#[104]⟩] u fun e w' => e = .returned (kv (kR 104)) ∧ Below u.heap.size u w') := fun u => k17_any 104 (by omega) _ rfl u
  have Kh : Hid (Ky (kR 104)) := kR_ky 104 (by omega)
  have HK1 : Hid (Kys [kR 98, kR 97]) := fun x hx => by
    rcases List.mem_cons.1 hx with rfl | hx
    · exact Kb.out
    · rw [List.mem_singleton.1 hx]; exact Ka.out
  have HK2 : Hid (Kys [zeroK]) := fun x hx => by rw [List.mem_singleton.1 hx]; exact zeroK_ky
  have HK3 : Hid (Kys (List.replicate 8 zeroK)) := fun x hx => by rw [List.eq_of_mem_replicate hx]; exact zeroK_ky
  have HK4 : Hid (Kys [kR 103, kR 112]) := fun x hx => by
    rcases List.mem_cons.1 hx with rfl | hx
    · exact Kg.out
    · rw [List.mem_singleton.1 hx]; exact Kp.out
  have CN1 : Hid (∀ u g, KeysAt u (some ⟨g, 0, none⟩) [kR 98, kR 97] → Calls Try.prog 8 #[.slice (some ⟨g, 0, none⟩) 2 2] u fun e w' => e = .returned (.tuple #[.pointer none, .int .i64 1]) ∧ Below u.heap.size u w') := fun u g hk => kn_new rfl kn_may1 u g hk
  have CN2 : Hid (∀ u g, KeysAt u (some ⟨g, 0, none⟩) [zeroK] → Calls Try.prog 8 #[.slice (some ⟨g, 0, none⟩) 1 1] u fun e w' => e = .returned (.tuple #[.pointer none, .int .i64 1]) ∧ Below u.heap.size u w') := fun u g hk => kn_new rfl kn_may2 u g hk
  have CN3 : Hid (∀ u g, KeysAt u (some ⟨g, 0, none⟩) (List.replicate 8 zeroK) → Calls Try.prog 8 #[.slice (some ⟨g, 0, none⟩) 8 8] u fun e w' => e = .returned (.tuple #[.pointer none, .int .i64 1]) ∧ Below u.heap.size u w') := fun u g hk => kn_new (by simp) kn_may3 u g hk
  have CN4 : Hid (∀ u g, KeysAt u (some ⟨g, 0, none⟩) [kR 103, kR 112] → Calls Try.prog 8 #[.slice (some ⟨g, 0, none⟩) 2 2] u fun e w' => (∃ q, e = .returned (.tuple #[.pointer (some ⟨q, 0, none⟩), .int .i64 0]) ∧ RtAt w' q pgR) ∧ Below u.heap.size u w') := fun u g hk => (ronew_any (some ⟨g, 0, none⟩) 2 2 [kR 103, kR 112] u rfl (Nat.le_refl _) hk (fun h => by cases h)).mono fun e w' ⟨h1, h2⟩ => ⟨h1.yes kn_may4, h2⟩
  have HWM : Hid (∀ u : World, WrtsAt (u.alloc (.cells ([⟨kR 122, [], false⟩, ⟨kR 97, [], false⟩, zeroW, ⟨kR 98, [], false⟩].flatMap encW).toArray 32)) (some ⟨u.heap.size, 0, none⟩) lgR) := fun u => wrts_made u lgR lgR_ok
  have CSP : Hid (∀ u q wb, RtAt u q pgR → WrtsAt u (some ⟨wb, 0, none⟩) lgR → Calls Try.prog 10 #[.pointer (some ⟨q, 0, none⟩), .slice (some ⟨wb, 0, none⟩) 4 4] u fun e w' => (∃ g b o lc lb ld, e = .returned (.slice (some ⟨g, 0, none⟩) 3 3) ∧ KnS w' g b o lc lb ld (kR 97)) ∧ Below u.heap.size u w') := fun u q wb h hw => (rosplit_any (some ⟨wb, 0, none⟩) 4 4 lgR u h (by decide) rfl (Nat.le_refl _) (by omega) hw).mono fun e w' ⟨g, h1, h2, h3⟩ => by
    obtain ⟨b, o, lc, lb, ld, h4, _⟩ := KnS.of h2
    exact ⟨⟨g, b, o, lc, lb, ld, h1, h4⟩, h3⟩
  have COF : Hid (∀ u q, RtAt u q pgR → Calls Try.prog 11 #[.pointer (some ⟨q, 0, none⟩), kv zeroK] u fun e w' => e = .returned (.int .i64 (-1)) ∧ Below u.heap.size u w') := fun u q h => by
    have := roof_any zeroK zeroK_ky u h (by decide)
    rw [kn_of] at this
    exact this
  have CPA : Hid (∀ u q wb, RtAt u q pgR → WrtsAt u (some ⟨wb, 0, none⟩) lgR → Calls Try.prog 13 #[.pointer (some ⟨q, 0, none⟩), .slice (some ⟨wb, 0, none⟩) 4 4] u fun e w' => ∃ ra rc, e = .returned (.slice ra 2 rc) ∧ (2 ≤ rc ∧ NumsR w' ra [0, 2]) ∧ Below u.heap.size u w') := fun u q wb h hw => (roparts_any (some ⟨wb, 0, none⟩) 4 4 lgR u h (by decide) rfl (Nat.le_refl _) (by omega) hw).mono fun e w' ⟨ra, m, rc, h1, h2, h3, h4, h5⟩ => by
    rw [kn_parts] at h2 h4
    obtain rfl : 2 = m := h2
    exact ⟨ra, rc, h1, ⟨h3, h4⟩, h5⟩
  have CC1 : Hid (∀ u q, RtAt u q pgR → Calls Try.prog 14 #[.pointer (some ⟨q, 0, none⟩), kv (kR 97), kv (kR 103)] u fun e w' => ∃ ra rc, e = .returned (.slice ra 1 rc) ∧ (1 ≤ rc ∧ NumsR w' ra [0]) ∧ Below u.heap.size u w') := fun u q h => by
    have := kn_cover Ka.out Kg.out kn_cover1 rfl u q h
    exact this
  have CC2 : Hid (∀ u q, RtAt u q pgR → Calls Try.prog 14 #[.pointer (some ⟨q, 0, none⟩), kv (kR 97), kv (kR 104)] u fun e w' => ∃ ra rc, e = .returned (.slice ra 2 rc) ∧ (2 ≤ rc ∧ NumsR w' ra [0, 1]) ∧ Below u.heap.size u w') := fun u q h => by
    have := kn_cover Ka.out Kh.out kn_cover2 rfl u q h
    exact this
  have CC3 : Hid (∀ u q, RtAt u q pgR → Calls Try.prog 14 #[.pointer (some ⟨q, 0, none⟩), kv (kR 104), kv (zeroK)] u fun e w' => ∃ ra rc, e = .returned (.slice ra 2 rc) ∧ (2 ≤ rc ∧ NumsR w' ra [1, 2]) ∧ Below u.heap.size u w') := fun u q h => by
    have := kn_cover Kh.out zeroK_ky kn_cover3 rfl u q h
    exact this
  have CC4 : Hid (∀ u q, RtAt u q pgR → Calls Try.prog 14 #[.pointer (some ⟨q, 0, none⟩), kv (kR 104), kv (kR 104)] u fun e w' => ∃ ra rc, e = .returned (.slice ra 0 rc) ∧ (0 ≤ rc ∧ NumsR w' ra []) ∧ Below u.heap.size u w') := fun u q h => by
    have := kn_cover Kh.out Kh.out kn_cover4 rfl u q h
    exact this
  have CC5 : Hid (∀ u q, RtAt u q pgR → Calls Try.prog 14 #[.pointer (some ⟨q, 0, none⟩), kv (zeroK), kv (zeroK)] u fun e w' => ∃ ra rc, e = .returned (.slice ra 3 rc) ∧ (3 ≤ rc ∧ NumsR w' ra [0, 1, 2]) ∧ Below u.heap.size u w') := fun u q h => by
    have := kn_cover zeroK_ky zeroK_ky kn_cover5 rfl u q h
    exact this
  have he : ∀ u, (Op.equalIn 10000 28 (kv (kR 97)) (kv (kR 97))).run Try.prog u = .ok true u := fun u => by
    have := eq_key u (kR 97) (kR 97) Ka.out Ka.out
    rw [decide_eq_true rfl] at this
    exact this
  have hmk8 := run_make_keys8
  generalize kR 97 = ka at *
  generalize kR 98 = kb at *
  generalize kR 103 = kg at *
  generalize kR 112 = kp at *
  generalize kR 122 = kz at *
  generalize kR 104 = kh at *
  go_enter Try.func3, Try.ntmps3
  go_wp2_with (first
    | (have hgo := T16.out; clear hgo; go_at_call 10; refine (CSP.out _ q _ T16.out.kb.tab T16.out.wr).mono ?_; rintro e v17 ⟨⟨gs, b, o, lc, lb, ld, rfl, hs⟩, hb⟩; have T17 : Hid (KnC w v17 q v15.heap.size) := T16.out.past hb; have SS : Hid (KnS v17 gs b o lc lb ld ka) := hs; clear hs; clear hb T16)
    | ((with_reducible show wpList _ _ _ (Oper.mk (some 47) _ _ _ _ _ :: _) _ _); refine wpList_build_ws4R 47 (by rfl) (by rfl) _ _ _ _ (by rfl) ⟨kz, [], false⟩ ⟨ka, [], false⟩ zeroW ⟨kb, [], false⟩ Kz.out Ka.out zeroW_ky Kb.out (by rfl) (by rfl) (by rfl) (by rfl) ?_; intro v16 hv; have T16 : Hid (KnC w v16 q v15.heap.size) := (by rw [hv]; exact ⟨T15.out.past ((Below.refl _ _).alloc (Nat.le_refl _) _), HWM.out _⟩); clear hv T15)
    | ((with_reducible show wpList _ _ _ (Oper.mk (some 46) _ _ _ _ _ :: _) _ _); refine wpList_build_w1 46 (by rfl) (by rfl) _ (by rfl) kb Kb.out (by rfl) ?_)
    | ((with_reducible show wpList _ _ _ (Oper.mk (some 43) _ _ _ _ _ :: _) _ _); refine wpList_build_w1 43 (by rfl) (by rfl) _ (by rfl) ka Ka.out (by rfl) ?_)
    | ((with_reducible show wpList _ _ _ (Oper.mk (some 41) _ _ _ _ _ :: _) _ _); refine wpList_build_w1 41 (by rfl) (by rfl) _ (by rfl) kz Kz.out (by rfl) ?_)
    | (have hgo := T14.out; clear hgo; go_at_call 9; refine (CKb.out _).mono ?_; rintro e v15 ⟨rfl, hb⟩; have T15 : Hid (KnB w v15 q) := T14.out.past hb; clear hb T14)
    | (have hgo := T13.out; clear hgo; go_at_call 9; refine (CKa.out _).mono ?_; rintro e v14 ⟨rfl, hb⟩; have T14 : Hid (KnB w v14 q) := T13.out.past hb; clear hb T13)
    | (have hgo := T12.out; clear hgo; go_at_call 9; refine (CKz.out _).mono ?_; rintro e v13 ⟨rfl, hb⟩; have T13 : Hid (KnB w v13 q) := T12.out.past hb; clear hb T12)
    | (have hgo := T11.out; clear hgo; go_at_call 8; refine (CN4.out _ _ T11.out.2).mono ?_; rintro e v12 ⟨⟨q, rfl, hr⟩, hb⟩; have T12 : Hid (KnB w v12 q) := ⟨T11.out.1.trans (hb.mono T11.out.1.size), hr⟩; clear hr; clear hb T11)
    | ((with_reducible show wpList _ _ _ (Oper.mk (some 34) _ _ _ _ _ :: _) _ _); refine wpList_build_keys2R 34 (by rfl) (by rfl) _ _ (by rfl) kg kp Kg.out Kp.out (by rfl) (by rfl) ?_; intro v11 hv; have T11 : Hid (Below w.heap.size w v11 ∧ KeysAt v11 (some ⟨v10.heap.size, 0, none⟩) [kg, kp]) := (by rw [hv]; exact ⟨T10.out.alloc T10.out.size _, keys_made v10 _ HK4.out⟩); clear hv T10)
    | (have hgo := T9.out; clear hgo; go_at_call 9; refine (CKp.out _).mono ?_; rintro e v10 ⟨rfl, hb⟩; have T10 : Hid (Below w.heap.size w v10) := T9.out.trans (hb.mono T9.out.size); clear hb T9)
    | (have hgo := T8.out; clear hgo; go_at_call 9; refine (CKg.out _).mono ?_; rintro e v9 ⟨rfl, hb⟩; have T9 : Hid (Below w.heap.size w v9) := T8.out.trans (hb.mono T8.out.size); clear hb T8)
    | (have hgo := T7.out; clear hgo; go_at_call 8; refine (CN3.out _ _ (keys_made v7 (List.replicate 8 zeroK) HK3.out)).mono ?_; rintro e v8 ⟨rfl, hb⟩; have h9 := T7.out.alloc T7.out.size (Obj.cells ((List.replicate 8 zeroK).flatMap kc).toArray 28); have T8 : Hid (Below w.heap.size w v8) := h9.trans (hb.mono h9.size); clear h9; clear hb T7)
    | (have hgo := T6.out; clear hgo; go_at_call 8; refine (CN2.out _ _ T6.out.2).mono ?_; rintro e v7 ⟨rfl, hb⟩; have T7 : Hid (Below w.heap.size w v7) := T6.out.1.trans (hb.mono T6.out.1.size); clear hb T6)
    | ((with_reducible show wpList _ _ _ (Oper.mk (some 22) _ _ _ _ _ :: _) _ _); refine wpList_build_key1W 22 (by rfl) (by rfl) _ (by rfl) zeroK KO.out (by rfl) ?_; intro v6 hv; have T6 : Hid (Below w.heap.size w v6 ∧ KeysAt v6 (some ⟨v5.heap.size, 0, none⟩) [zeroK]) := (by rw [hv]; exact ⟨T5.out.alloc T5.out.size _, keys_made v5 _ HK2.out⟩); clear hv T5)
    | (have hgo := T4.out; clear hgo; go_at_call 8; refine (CN1.out _ _ T4.out.2).mono ?_; rintro e v5 ⟨rfl, hb⟩; have T5 : Hid (Below w.heap.size w v5) := T4.out.1.trans (hb.mono T4.out.1.size); clear hb T4)
    | ((with_reducible show wpList _ _ _ (Oper.mk (some 16) _ _ _ _ _ :: _) _ _); refine wpList_build_keys2R 16 (by rfl) (by rfl) _ _ (by rfl) kb ka Kb.out Ka.out (by rfl) (by rfl) ?_; intro v4 hv; have T4 : Hid (Below w.heap.size w v4 ∧ KeysAt v4 (some ⟨v3.heap.size, 0, none⟩) [kb, ka]) := (by rw [hv]; exact ⟨T3.out.alloc T3.out.size _, keys_made v3 _ HK1.out⟩); clear hv T3)
    | (have hgo := T2.out; clear hgo; go_at_call 9; refine (CKa.out _).mono ?_; rintro e v3 ⟨rfl, hb⟩; have T3 : Hid (Below w.heap.size w v3) := T2.out.trans (hb.mono T2.out.size); clear hb T2)
    | (have hgo := T1.out; clear hgo; go_at_call 9; refine (CKb.out _).mono ?_; rintro e v2 ⟨rfl, hb⟩; have T2 : Hid (Below w.heap.size w v2) := T1.out.trans (hb.mono T1.out.size); clear hb T1)
    | (go_at_call 7; refine (AW.out _).mono ?_; rintro e v1 ⟨rfl, hb⟩; have T1 : Hid (Below w.heap.size w v1) := hb; clear hb))
  have ENV : Hid (EnvK v17 q v15.heap.size gs b o lc lb ld ka kg kh) := ⟨fun u hu => SS.out.past hu, Ka.out, he, CKa.out, CKg.out, CKh.out, fun u hu => COF.out u q (T17.out.past hu).kb.tab, fun u hu => CPA.out u q _ (T17.out.past hu).kb.tab (T17.out.past hu).wr, fun u hu => CC1.out u q (T17.out.past hu).kb.tab, fun u hu => CC2.out u q (T17.out.past hu).kb.tab, fun u hu => CC3.out u q (T17.out.past hu).kb.tab, fun u hu => CC4.out u q (T17.out.past hu).kb.tab, fun u hu => CC5.out u q (T17.out.past hu).kb.tab⟩
  refine known_reg ENV ?_
  intros
  rename_i u hu
  have HU : Hid (Below w.heap.size w u) := T17.out.kb.below.trans (hu.mono T17.out.kb.below.size)
  clear hu
  go_wp2
  go_ret
  exact ⟨rfl, HU.out⟩

set_option maxRecDepth 100000 in
theorem lifted (os : Os) (started : os.Started) (H : Type) (enc : TypeId × Value → H) :
    ReturnsInHanded {} Try.checked os 3 .any (Rows.routeKnownSpec.pre6 enc Try.prog Try.f3 Rows.routeKnownRow.domain false) (Rows.routeKnownSpec.post enc Try.prog Try.f3 false true false false) := by
  refine returnsInHanded_of_change (C := Try.checked) own started (by kernel_rfl) Try.func3
    (ChangeSpec.witness6 (enc := enc) (C := Try.checked) false ⟨#[], #[], []⟩ 8 (by kernel_rfl) (by kernel_rfl) (by kernel_rfl) (by kernel_rfl)) ?_
  intro W base args ds gs before hval0 hW hcnd _
  have hval : ∀ (j : Nat) t v, Try.f3.params[j]? = some t → args[j]? = some v → Value.okWide Try.prog W .any base t v := hval0
  have hW' := hW
  obtain ⟨p, q, hA0, hV, rfl, hfz, hnd⟩ := hW
  have hA : DataW.TrodAll enc Try.prog W 0 (fun _ => true) true Try.f3.params.toList args.toList ds p := hA0
  rw [Try.params3] at hA hval
  obtain ⟨hargs, rfl, rfl⟩ := trodAll_nil hA
  obtain rfl : args = #[] := by cases args; simp_all
  obtain ⟨rfl, rfl⟩ := trodVars_none hV
  clear hA0 hval0
  refine (walk  W ).mono fun e W' ⟨he, bel⟩ => ?_
  subst he
  exact ⟨_, rfl, _, _, _, [], _, [], hW', trodAll_mk1 (shut_bool Try.underlying4 _), trodAll_mk0, rfl, bel.frame _, fun h => by cases h⟩

theorem over : Rows.routeKnownRow.holds Try.pinned (OpenSpec.ofChange Rows.routeKnownSpec) :=
  OpenClaim.holds_of_wide 3 Try.f3 rfl rfl rfl rfl rfl rfl rfl ⟨rfl, rfl, rfl, rfl, rfl⟩ rfl rfl rfl rfl rfl (by kernel_rfl) Try.func3 (by kernel_rfl)
    (of_decide_eq_true (by kernel_rfl)) (by unfold Func.isWrapper; first | (rw [if_pos (by decide +kernel)]; kernel_rfl) | (rw [if_neg (by decide +kernel)]; exact ⟨rfl, rfl⟩))
    (fun os started H enc _ => lifted os started H enc)
theorem proved : Rows.RouteKnownSaid := over
#print axioms proved
end Go.Proofs.Ytdbgkbgodnknnaa.routeKnown
namespace Go.Proofs.Ytdbgkbgodnknnaa
/-- RouteKnown, as given. -/
theorem routeKnown_holds : Rows.RouteKnownSaid := routeKnown.proved
end Go.Proofs.Ytdbgkbgodnknnaa
