/-
  What layer 17's own helpers answer: same, long, k, awake.
-/
import Derived.Test.YtdbgkbgodnknnaaAu2
import Derived.Test.YtdbgkbgodnknnaaPaL1
namespace Go.Proofs.Ytdbgkbgodnknnaa
open Go.RowKit
set_option linter.unusedVariables false
set_option linter.unusedSimpArgs false

set_option maxHeartbeats 2000000 in
theorem rsame17_any (a b : Option Addr) (N c d : Nat) (zs : List Int) (w : World) (hl : zs.length = N) (hc : N ≤ c) (hd : N ≤ d) (hN : N ≤ 1000000) (ha : NumsR w a zs) (hb : NumsR w b zs) :
    Calls Try.prog 12 #[.slice a N c, .slice b N d] w fun e w' => e = .returned (.bool true) ∧ Below w.heap.size w w' := by
  have HL : Hid (zs.length = N) := hl
  have HA : Hid (∀ u, Below w.heap.size w u → NumsR u a zs) := fun u h => ha.past h
  have HB : Hid (∀ u, Below w.heap.size w u → NumsR u b zs) := fun u h => hb.past h
  clear ha hb hl
  go_enter Try.func12, Try.ntmps12
  go_wp2
  go_loopw [5] (fun iv wr => ∃ i : Nat, iv = .int .i64 i ∧ i ≤ N ∧ Hid (Below w.heap.size w wr)) (fun iv _ => N - (intOf iv).toNat)
  case atStart => exact ⟨0, rfl, Nat.zero_le _, Below.refl _ _⟩
  case round =>
    obtain ⟨i, rfl, hi, HW⟩ := hrel
    have h0 : (0 : Int) ≤ (i : Int) := by omega
    by_cases hlt : i < N
    · have h1 : (i : Int) < (N : Int) := by omega
      obtain ⟨z, hz⟩ : ∃ z, zs[i]? = some z := ⟨_, List.getElem?_eq_getElem (by rw [HL.out]; exact hlt)⟩
      obtain ⟨g, rfl, _⟩ := HA.out wr HW.out i z hz
      obtain ⟨g2, rfl, _⟩ := HB.out wr HW.out i z hz
      have FA : Hid (∀ u, Below wr.heap.size wr u → u.cell? ⟨g, i, none⟩ = some (.int .i64 z) ∧ u.cell? ⟨g2, i, none⟩ = some (.int .i64 z)) := fun u hu => by
        have hb := HW.out.trans (hu.mono HW.out.size)
        obtain ⟨g', e1, h2⟩ := HA.out u hb i z hz
        obtain ⟨g2', e2, h3⟩ := HB.out u hb i z hz
        cases e1
        cases e2
        exact ⟨h2, h3⟩
      clear hz
      go_wp2
      refine wp_region_noPanic ?_
      refine wp_region_held_drew (S := fun u => Below wr.heap.size wr u) (by kernel_rfl) ?_ (fun hHeld => ?_)
      · exact (Below.refl _ _).drew
      refine wpAnyH_take (i := 0) (v := ?_) rfl (by kernel_rfl) (by kernel_rfl) (by kernel_rfl) (fun _ _ _ h => h) (Or.inl ⟨by rfl, ?_⟩) hHeld ?_
      rotate_left
      · intro u hSu
        (go_simp) <;> (with_reducible rfl)
      change wpAnyH _ _ _ _ _ _ _ (Act.put _ (some 17) _) _
      simp only [Act.put, List.setIfInBounds_toArray, List.set_cons_zero, List.set_cons_succ]
      refine wpAnyH_take (i := 1) (v := ?_) rfl (by kernel_rfl) (by kernel_rfl) (by kernel_rfl) (fun _ _ _ h => h) (Or.inl ⟨by rfl, ?_⟩) hHeld ?_
      rotate_left
      · intro u hSu
        (go_simp) <;> (with_reducible rfl)
      change wpAnyH _ _ _ _ _ _ _ (Act.put _ (some 18) _) _
      simp only [Act.put, List.setIfInBounds_toArray, List.set_cons_zero, List.set_cons_succ]
      refine wpAnyH_take (i := 2) (v := ?_) rfl (by kernel_rfl) (by kernel_rfl) (by kernel_rfl) (fun _ _ _ h => h) (Or.inl ⟨by rfl, ?_⟩) hHeld ?_
      rotate_left
      · intro u hSu
        (go_simp) <;> (with_reducible rfl)
      change wpAnyH _ _ _ _ _ _ _ (Act.put _ (some 19) _) _
      simp only [Act.put, List.setIfInBounds_toArray, List.set_cons_zero, List.set_cons_succ]
      refine wpAnyH_take (i := 3) (v := ?_) rfl (by kernel_rfl) (by kernel_rfl) (by kernel_rfl) (fun _ _ _ h => h) (Or.inl ⟨by rfl, ?_⟩) hHeld ?_
      rotate_left
      · intro u hSu
        obtain ⟨f1, f2⟩ := FA.out u hSu
        (go_simp) <;> (with_reducible rfl)
      change wpAnyH _ _ _ _ _ _ _ (Act.put _ (some 20) _) _
      simp only [Act.put, List.setIfInBounds_toArray, List.set_cons_zero, List.set_cons_succ]
      refine wpAnyH_take (i := 4) (v := ?_) rfl (by kernel_rfl) (by kernel_rfl) (by kernel_rfl) (fun _ _ _ h => h) (Or.inl ⟨by rfl, ?_⟩) hHeld ?_
      rotate_left
      · intro u hSu
        (go_simp) <;> (with_reducible rfl)
      change wpAnyH _ _ _ _ _ _ _ (Act.put _ (some 21) _) _
      simp only [Act.put, List.setIfInBounds_toArray, List.set_cons_zero, List.set_cons_succ]
      refine wpAnyH_take (i := 5) (v := ?_) rfl (by kernel_rfl) (by kernel_rfl) (by kernel_rfl) (fun _ _ _ h => h) (Or.inl ⟨by rfl, ?_⟩) hHeld ?_
      rotate_left
      · intro u hSu
        (go_simp) <;> (with_reducible rfl)
      change wpAnyH _ _ _ _ _ _ _ (Act.put _ (some 22) _) _
      simp only [Act.put, List.setIfInBounds_toArray, List.set_cons_zero, List.set_cons_succ]
      refine wpAnyH_take (i := 6) (v := ?_) rfl (by kernel_rfl) (by kernel_rfl) (by kernel_rfl) (fun _ _ _ h => h) (Or.inl ⟨by rfl, ?_⟩) hHeld ?_
      rotate_left
      · intro u hSu
        (go_simp) <;> (with_reducible rfl)
      change wpAnyH _ _ _ _ _ _ _ (Act.put _ (some 23) _) _
      simp only [Act.put, List.setIfInBounds_toArray, List.set_cons_zero, List.set_cons_succ]
      refine wpAnyH_take (i := 7) (v := ?_) rfl (by kernel_rfl) (by kernel_rfl) (by kernel_rfl) (fun _ _ _ h => h) (Or.inl ⟨by rfl, ?_⟩) hHeld ?_
      rotate_left
      · intro u hSu
        obtain ⟨f1, f2⟩ := FA.out u hSu
        (go_simp) <;> (with_reducible rfl)
      change wpAnyH _ _ _ _ _ _ _ (Act.put _ (some 24) _) _
      simp only [Act.put, List.setIfInBounds_toArray, List.set_cons_zero, List.set_cons_succ]
      refine wpAnyH_take (i := 8) (v := ?_) rfl (by kernel_rfl) (by kernel_rfl) (by kernel_rfl) (fun _ _ _ h => h) (Or.inl ⟨by rfl, ?_⟩) hHeld ?_
      rotate_left
      · intro u hSu
        (go_simp) <;> (with_reducible rfl)
      change wpAnyH _ _ _ _ _ _ _ (Act.put _ (some 25) _) _
      simp only [Act.put, List.setIfInBounds_toArray, List.set_cons_zero, List.set_cons_succ]
      refine wpAnyH_done (by kernel_rfl) ?_ _
      refine NoPanic.normal ?_
      go_wp2
      go_roundw
      case rel => exact ⟨i + 1, by go_num, by omega, HW.out.drew⟩
      case measure => simp [intOf]; omega
    · obtain rfl : i = N := by omega
      go_wp2
      go_ret
      exact ⟨rfl, HW.out⟩
set_option maxHeartbeats 1000000 in
theorem rk17_any (s : List Int) (hs : ∀ z ∈ s, 0 ≤ z ∧ z ≤ 255) (hm : s.length ≤ 140737488351232) (S : ByteArray) (hS : S = strOfNums s) (K : List Int) (hK : K = ofK s) (w : World) :
    Calls Try.prog 9 #[.string S] w fun e w' => e = .returned (kv K) ∧ Below w.heap.size w w' := by
  have KY : Hid (Ky K) := by rw [hK]; exact ofK_ky hs
  obtain ⟨mk, hmk⟩ : ∃ x, x = mayK s := ⟨_, rfl⟩
  have CO : Hid (∀ u, Calls Try.prog 29 #[.string S] u fun e w' => e = .returned (.tuple #[kv K, .bool mk]) ∧ Below u.heap.size u w') := fun u => by rw [hS, hK, hmk]; exact rof_any s hs hm u
  have HM0 : Hid (KeyMine (w.alloc (.cells (kcs zeroK) 28)) w.heap.size 0 zeroK) := KeyMine.made w 28 zeroK zeroK_ky
  have HB0 : Hid (Below w.heap.size w (w.alloc (.cells (kcs zeroK) 28))) := (Below.refl _ _).alloc (Nat.le_refl _) _
  rw [zero_cells] at HM0 HB0
  clear hS hK hmk hs
  go_enter Try.func9, Try.ntmps9
  go_wp2_with (first | (go_at_call 29; refine (CO.out _).mono ?_; rintro e w1 ⟨rfl, hb1⟩; have HM1 : Hid (KeyMine w1 w.heap.size 0 zeroK) := HM0.out.below hb1 HM0.out.lies.lt; have HB1 : Hid (Below w.heap.size w w1) := HB0.out.trans (hb1.mono HB0.out.size); have hmine := KeyMine.made w1 28 zeroK zeroK_ky; obtain ⟨hk1, hb2, hz1⟩ := laid_keyQ w1 28 KY.out; rw [zero_cells] at hmine hk1 hb2 hz1; have HMI : Hid _ := hmine; have HK1 : Hid _ := hk1; have HB2 : Hid _ := hb2; clear hb1 hmine hk1 hb2 hz1) | (have hgo := HMI.out; clear hgo; refine wpList_store_keyU (by rfl) _ _ (by rfl) w1.heap.size 0 zeroK K (by rfl) (by rfl) KY.out HMI.out ?_; intro u2 hu; rw [← hu] at HK1 HB2; have HM2 : Hid (KeyMine u2 w.heap.size 0 zeroK) := HM1.out.below HB2.out HM1.out.lies.lt; clear hu HMI) | (have hgo := HM2.out; clear hgo; refine wpList_load_keyD 10 (by rfl) (by rfl) _ (by rfl) w1.heap.size 0 (by rfl) K KY.out HK1.out.lies ?_) | (have hgo := HM2.out; clear hgo; refine wpList_store_keyU (by rfl) _ _ (by rfl) w.heap.size 0 zeroK K (by rfl) (by rfl) KY.out HM2.out ?_; intro u3 hu3; have HM3 : Hid (KeyMine u3 w.heap.size 0 K) := hu3 ▸ HM2.out.store KY.out; have HB3 : Hid (Below w.heap.size w u3) := hu3 ▸ below_cells (Nat.le_refl _) (HB1.out.trans (HB2.out.mono HB1.out.size)); clear hu3))
  refine bodyPost_ret (results_rowQ rfl _ _ w.heap.size 0 (K.map (Value.int .u8)) _ rfl (HM3.out.lies.range KY.out) Try.underlying28 rfl (info_keyl K KY.out)) rfl ?_
  exact ⟨rfl, HB3.out⟩
theorem run_build_key1R (w : World) (k : List Int) (hk : Ky k) :
    (Instr.buildSlice 30 1 #[(0, kv k)]).run Try.prog w = .ok (.slice (some ⟨w.heap.size, 0, none⟩) 1 1) (w.alloc (.cells (kc k).toArray 28)) := by
  have hl := kc_len hk
  have hf : Instr.fill (fun i => some (i * 16, 16)) (List.replicate 16 (Value.int .u8 0)).toArray [(0, kv k)] = some (kc k).toArray := by
    show Instr.fill _ _ [(0, .agg (kc k).toArray)] = _
    rw [fill_step _ (List.replicate 16 (Value.int .u8 0)) 0 0 16 (kc k) rfl hl (by rw [List.length_replicate]; omega)]
    show some _ = some _
    congr 2
    rw [List.drop_eq_nil_of_le (by rw [List.length_replicate]; omega)]
    simp
  simp [Instr.buildSlice, run_underlying Try.underlying30]
  generalize hz : Array.map _ (Array.range 16) = Z
  have hz2 : Z = (List.replicate 16 (Value.int .u8 0)).toArray := by rw [← hz]; kernel_rfl
  rw [hz2, hf]
  simp [newRow]
theorem wpList_build_key1R (d : Tmp) {ops : Array Oper} {rest : List Oper} {op : Oper} {a : Act} {w : World} {Q : Exit → Act → World → Prop} (hd : op.dst = some d) (hgd : op.guard = none) (x : Operand) (ho : op.op = .buildSlice 30 1 #[(0, x)])
    (k : List Int) (hk : Ky k) (hx : a.eval x = kv k)
    (h : wpList Try.prog ops Q rest (a.put op.dst (.slice (some ⟨w.heap.size, 0, none⟩) 1 1)) (w.alloc (.cells (kc k).toArray 28))) : wpList Try.prog ops Q (op :: rest) a w := by
  refine wpList_plain hgd fun K hK => ?_
  have hrun := run_build_key1R w k hk
  unfold Oper.wp
  simp [execOp, ho, hx, hrun, Result.andThen]
  exact hK _ _ h
/-- One key in a list of the call's own. -/
theorem keys_one (w : World) {k : List Int} (hk : Ky k) : KeysAt (w.alloc (.cells (kc k).toArray 28)) (some ⟨w.heap.size, 0, none⟩) [k] := by
  refine ⟨?_, fun x hx => by rw [List.mem_singleton.1 hx]; exact hk, fun h => by cases h⟩
  have h := lies_made w (kc k).toArray 28
  rw [List.toList_toArray] at h
  simpa using h
def kR (z : Int) : List Int := ofK [z]
theorem kR_ky (z : Int) (h : 0 ≤ z ∧ z ≤ 255) : Ky (kR z) := ofK_ky (fun y hy => by rw [List.mem_singleton.1 hy]; exact h)
theorem k17_any (z : Int) (h : 0 ≤ z ∧ z ≤ 255) (S : ByteArray) (hS : S = strOfNums [z]) (u : World) : Calls Try.prog 9 #[.string S] u fun e w' => e = .returned (kv (kR z)) ∧ Below u.heap.size u w' :=
  rk17_any [z] (fun y hy => by rw [List.mem_singleton.1 hy]; exact h) (by simp) S hS _ rfl u
theorem awake_may : mayR [kR 109] = true := by decide +kernel
theorem awake_of : ofR [kR 109] (kR 97) = 0 ∧ ofR [kR 109] (kR 109) = 1 := by decide +kernel
set_option maxHeartbeats 4000000 in
set_option maxRecDepth 8000 in
theorem rawake_any (w : World) : Calls Try.prog 7 #[] w fun e w' => e = .returned (.bool true) ∧ Below w.heap.size w w' := by
  have CKM : Hid (∀ u, Calls Try.prog 9 #[.string ⟨#[109]⟩] u fun e w' => e = .returned (kv (kR 109)) ∧ Below u.heap.size u w') := fun u => k17_any 109 (by omega) _ rfl u
  have CKA : Hid (∀ u, Calls Try.prog 9 #[.string ⟨#[97]⟩] u fun e w' => e = .returned (kv (kR 97)) ∧ Below u.heap.size u w') := fun u => k17_any 97 (by omega) _ rfl u
  have KM : Hid (Ky (kR 109)) := kR_ky 109 (by omega)
  have KA : Hid (Ky (kR 97)) := kR_ky 97 (by omega)
  have CN : Hid (∀ u g, KeysAt u (some ⟨g, 0, none⟩) [kR 109] → Calls Try.prog 8 #[.slice (some ⟨g, 0, none⟩) 1 1] u fun e w' => (∃ q, e = .returned (.tuple #[.pointer (some ⟨q, 0, none⟩), .int .i64 0]) ∧ RtAt w' q [kR 109]) ∧ Below u.heap.size u w') := fun u g hk => (ronew_any (some ⟨g, 0, none⟩) 1 1 [kR 109] u rfl (Nat.le_refl _) hk (fun h => by cases h)).mono fun e w' ⟨h1, h2⟩ => ⟨h1.yes awake_may, h2⟩
  have CO1 : Hid (∀ u q, RtAt u q [kR 109] → Calls Try.prog 11 #[.pointer (some ⟨q, 0, none⟩), kv (kR 97)] u fun e w' => e = .returned (.int .i64 0) ∧ Below u.heap.size u w') := fun u q h => by
    have := roof_any (kR 97) KA.out u h (by simp)
    rw [awake_of.1] at this
    exact this
  have CO2 : Hid (∀ u q, RtAt u q [kR 109] → Calls Try.prog 11 #[.pointer (some ⟨q, 0, none⟩), kv (kR 109)] u fun e w' => e = .returned (.int .i64 1) ∧ Below u.heap.size u w') := fun u q h => by
    have := roof_any (kR 109) KM.out u h (by simp)
    rw [awake_of.2] at this
    exact this
  have CNN : Hid (∀ u q, RtAt u q [kR 109] → Calls Try.prog 18 #[.pointer (some ⟨q, 0, none⟩)] u fun e w' => e = .returned (.int .i64 2) ∧ w' = u) := fun u q h => by
    have := ronodes_any u h (by simp)
    exact this
  generalize kR 109 = km at *
  generalize kR 97 = ka at *
  go_enter Try.func7, Try.ntmps7
  go_wp2_with (first
    | (have hgo := R7.out; clear hgo; go_at_call 18; refine (CNN.out _ _ R7.out).mono ?_; rintro e w8 ⟨rfl, hw⟩; obtain rfl := hw.symm; clear hw)
    | (have hgo := R6.out; clear hgo; go_at_call 11; refine (CO2.out _ _ R6.out).mono ?_; rintro e w7 ⟨rfl, hb⟩; have R7 : Hid (RtAt w7 q [km]) := R6.out.past hb; have B7 : Hid (Below w.heap.size w w7) := B6.out.trans (hb.mono B6.out.size); clear hb)
    | (have hgo := R5.out; clear hgo; go_at_call 9; refine (CKM.out _).mono ?_; rintro e w6 ⟨rfl, hb⟩; have R6 : Hid (RtAt w6 q [km]) := R5.out.past hb; have B6 : Hid (Below w.heap.size w w6) := B5.out.trans (hb.mono B5.out.size); clear hb)
    | (have hgo := R4.out; clear hgo; go_at_call 11; refine (CO1.out _ _ R4.out).mono ?_; rintro e w5 ⟨rfl, hb⟩; have R5 : Hid (RtAt w5 q [km]) := R4.out.past hb; have B5 : Hid (Below w.heap.size w w5) := B4.out.trans (hb.mono B4.out.size); clear hb)
    | (have hgo := R3.out; clear hgo; go_at_call 9; refine (CKA.out _).mono ?_; rintro e w4 ⟨rfl, hb⟩; have R4 : Hid (RtAt w4 q [km]) := R3.out.past hb; have B4 : Hid (Below w.heap.size w w4) := B3.out.trans (hb.mono B3.out.size); clear hb)
    | (have hgo := HK2.out; clear hgo; go_at_call 8; refine (CN.out _ _ HK2.out).mono ?_; rintro e w3 ⟨⟨q, rfl, hr⟩, hb⟩; have R3 : Hid (RtAt w3 q [km]) := hr; have B3 : Hid (Below w.heap.size w w3) := B2.out.trans (hb.mono B2.out.size); clear hb hr)
    | ((with_reducible show wpList _ _ _ (Oper.mk (some 5) _ _ _ _ _ :: _) _ _); refine wpList_build_key1R 5 (by rfl) (by rfl) _ (by rfl) km KM.out (by rfl) ?_; have HK2 : Hid (KeysAt (w1.alloc (.cells (kc km).toArray 28)) (some ⟨w1.heap.size, 0, none⟩) [km]) := keys_one w1 KM.out; have B2 : Hid (Below w.heap.size w (w1.alloc (.cells (kc km).toArray 28))) := B1.out.alloc B1.out.size _)
    | (go_at_call 9; refine (CKM.out _).mono ?_; rintro e w1 ⟨rfl, hb⟩; have B1 : Hid (Below w.heap.size w w1) := hb; clear hb))
  go_ret
  exact ⟨rfl, B7.out⟩
end Go.Proofs.Ytdbgkbgodnknnaa
