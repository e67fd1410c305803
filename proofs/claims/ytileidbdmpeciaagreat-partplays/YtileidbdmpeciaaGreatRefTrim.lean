/-
  What nobody sees from a stamp on goes (hourglassref10: Store.Trim).
-/
import Derived.Test.YtileidbdmpeciaaGreatRefVPut
namespace Go.Proofs.YtileidbdmpeciaaGreat
open Go.RowKit
set_option linter.unusedVariables false

/-- The list of a store in p lies where it lay, or in a block that is new. -/
def Rowed (w w' : World) (p : Nat) : Prop := ∀ v, w'.cell? ⟨p, 0, none⟩ = some v → ∀ g, v.ownBlock = some g → w.heap.size ≤ g ∨ ∃ v0, w.cell? ⟨p, 0, none⟩ = some v0 ∧ v0.ownBlock = some g
theorem Rowed.of_below {w w' : World} {p : Nat} (h : Below w.heap.size w w') (hp : p < w.heap.size) : Rowed w w' p := fun v hv g hg => .inr ⟨v, (h.cell (p := ⟨p, 0, none⟩) hp).symm.trans hv, hg⟩
theorem rest_next {L : List Ver} {t n : Int} {i : Nat} {V : Ver} (h : L[i]? = some V) : (L.take (i + 1)).filter (fun V => !goesV L t n V) = (L.take i).filter (fun V => !goesV L t n V) ++ if goesV L t n V = true then [] else [V] := by
  rw [List.take_add_one, h, List.filter_append]
  congr 1
  cases hg : goesV L t n V <;> simp [hg]
set_option maxHeartbeats 8000000 in
set_option maxRecDepth 8000 in
theorem rtrim10_row (B p : Nat) (L : List Ver) (t n : Int) (w : World) (h : StoreR w B p L) (hB : B ≤ w.heap.size) :
    Calls Tryz.prog 30 #[.pointer (some ⟨p, 0, none⟩), .agg #[.int .i64 t, .int .u8 n]] w fun e w' => e = .returned (.int .i64 ((L.length : Int) - ((restV L t n).length : Int))) ∧ StoreR w' B p (restV L t n) ∧ Chg w w' (fun k => k = p) ∧ Rowed w w' p := by
  obtain ⟨V0, hV0⟩ : ∃ V0, V0 = w.alloc (.cells #[.int .i64 t, .int .u8 n] 28) := ⟨_, rfl⟩
  have HBW : Hid (Below w.heap.size w V0) := by rw [hV0]; exact (Below.refl _ _).alloc (Nat.le_refl _) _
  have HT0 : Hid (V0.cell? ⟨w.heap.size, 0, none⟩ = some (.int .i64 t) ∧ V0.cell? ⟨w.heap.size, 1, none⟩ = some (.int .u8 n)) := by
    show _ ∧ _
    rw [hV0, World.cell?_alloc_new, World.cell?_alloc_new]
    exact ⟨rfl, rfl⟩
  have HV0 : Hid (w.alloc (.cells #[.int .i64 t, .int .u8 n] 28) = V0) := hV0.symm
  obtain ⟨N, hN⟩ : ∃ N, N = L.length := ⟨_, rfl⟩
  obtain ⟨a0, c0, hcap, hcell, hs⟩ := h.open
  have hfew := h.few
  rw [← hN] at hcap hcell hfew
  have HST : Hid (StoreR w B p L) := h
  have HCE : Hid (∀ v, Below w.heap.size w v → v.cell? ⟨p, 0, none⟩ = some (.slice a0 N c0)) := hcell
  have HOK : Hid (OkL L) := h.oks
  have HN : Hid (L.length = N) := hN.symm
  have HS : Hid (L ≠ [] → ∃ g, a0 = some ⟨g, 0, none⟩ ∧ Hid (∀ v, Below w.heap.size w v → ∀ i V, L[i]? = some V → VerAt v g (i * 20) V)) := fun hne => by
    rcases hs with e | ⟨g, e1, _, _, e4⟩
    · exact absurd e hne
    · exact ⟨g, e1, e4⟩
  clear h hs hcell hV0
  rw [← hN]
  clear hN
  go_enter Tryz.func30, Tryz.ntmps30
  go_wp2
  rw [HV0.out]
  go_loopw [5, 6] (fun rv iv wr => ∃ (i m : Nat) (ra : Option Addr) (rc : Nat), iv = .int .i64 i ∧ rv = .slice ra m rc ∧ i ≤ N ∧ m ≤ i ∧ Hid (OwnB 127 20 V0 wr (.slice ra m rc) m (((L.take i).filter (fun V => !goesV L t n V)).flatMap encV)) ∧ Hid (((L.take i).filter (fun V => !goesV L t n V)).length = m)) (fun _ iv _ => N - (intOf iv).toNat)
  case atStart => exact ⟨0, 0, none, 0, rfl, rfl, Nat.zero_le _, Nat.le_refl _, ⟨World.ownsRow_nil _ _ _ _, Below.refl _ _⟩, rfl⟩
  case round =>
    obtain ⟨i, m, ra, rc, rfl, rfl, hi, hmi, HO, HML⟩ := hrel
    have HBR : Hid (Below w.heap.size w wr) := HBW.out.trans (HO.out.below.mono HBW.out.size)
    by_cases hlt : i < N
    · have bl : decide ((i : Int) < (N : Int)) = true := decide_eq_true (by omega)
      obtain ⟨V1, hV1⟩ : ∃ V, L[i]? = some V := ⟨_, List.getElem?_eq_getElem (by rw [HN.out]; exact hlt)⟩
      have HV1 : Hid (L[i]? = some V1) := hV1
      have HVO : Hid (VerOk V1) := HOK.out V1 (List.mem_of_getElem? hV1)
      obtain ⟨g, hag, HG⟩ := HS.out (by intro e; rw [e] at hV1; simp at hV1)
      have HC0 : Hid (∀ u, Below wr.heap.size wr u → u.cell? ⟨p, 0, none⟩ = some (.slice (some ⟨g, 0, none⟩) N c0)) := fun u hb => by rw [← hag]; exact HCE.out u (HBR.out.trans (hb.mono HBR.out.size))
      have FV : Hid (∀ u, Below wr.heap.size wr u → VerAt u g (i * 20) V1) := fun u hb => HG.out u (HBR.out.trans (hb.mono HBR.out.size)) _ _ hV1
      obtain ⟨K1, hK1⟩ : ∃ K, K = V1.k := ⟨_, rfl⟩
      have HK1 : Hid (Ky K1) := by rw [hK1]; exact HVO.out.key
      have FK : Hid (∀ u, Below wr.heap.size wr u → KeyAt u g (i * 20) K1) := fun u hb => by rw [hK1]; exact (FV.out u hb).key HVO.out.key
      have FT : Hid (∀ u, Below wr.heap.size wr u → u.cell? ⟨w.heap.size, 0, none⟩ = some (.int .i64 t) ∧ u.cell? ⟨w.heap.size, 1, none⟩ = some (.int .u8 n)) := fun u hb => by
        have hb2 := HO.out.below.trans (hb.mono HO.out.below.size)
        exact ⟨(hb2.cell (p := ⟨w.heap.size, 0, none⟩) (cell_lt HT0.out.1)).trans HT0.out.1, (hb2.cell (p := ⟨w.heap.size, 1, none⟩) (cell_lt HT0.out.2)).trans HT0.out.2⟩
      obtain ⟨t1, n1, ht1, hn1⟩ : ∃ t1 n1, t1 = V1.t ∧ n1 = V1.n := ⟨_, _, rfl, rfl⟩
      have FZ : Hid (∀ u, Below wr.heap.size wr u → u.cell? ⟨g, i * 20 + 16, none⟩ = some (.int .i64 t1) ∧ u.cell? ⟨g, i * 20 + 17, none⟩ = some (.int .u8 n1)) := fun u hb => by
        have := (FV.out u hb).cells HVO.out.key
        rw [ht1, hn1]
        exact ⟨this.1, this.2.1⟩
      obtain ⟨R, hR⟩ : ∃ R, R = atV L K1 t n := ⟨_, rfl⟩
      obtain ⟨Z, hZ⟩ : ∃ Z, Z = orZero R := ⟨_, rfl⟩
      obtain ⟨ok, hok⟩ : ∃ ok, ok = R.isSome := ⟨_, rfl⟩
      have CA : Hid (∀ u, Below wr.heap.size wr u → Calls Tryz.prog 73 #[.pointer (some ⟨p, 0, none⟩), kv K1, .agg #[.int .i64 t, .int .u8 n]] u fun e w' => e = .returned (.tuple #[vv Z, .bool ok]) ∧ Below u.heap.size u w') := fun u hb => by
        rw [hZ, hok, hR]; exact rat10_any B p L K1 t n HK1.out u (HST.out.past (HBR.out.trans (hb.mono HBR.out.size)))
      have HZK : Hid (Ky Z.k) := by
        rw [hZ]
        cases hRR : R with
        | none => exact zeroV_ky
        | some X =>
          have hX : X ∈ chainV L K1 := by
            rw [hR] at hRR
            unfold atV at hRR
            exact List.mem_reverse.1 (List.mem_of_find?_eq_some hRR)
          exact (HOK.out X (List.mem_of_mem_drop (List.mem_of_mem_take hX))).key
      obtain ⟨c1, hc1⟩ : ∃ c, c = cmpS t1 n1 Z.t Z.n := ⟨_, rfl⟩
      have CC1 : Hid (∀ u, Calls Tryz.prog 39 #[.agg #[.int .i64 t1, .int .u8 n1], .agg #[.int .i64 Z.t, .int .u8 Z.n]] u fun e w' => e = .returned (.int .i64 c1) ∧ Below u.heap.size u w') := fun u => by rw [hc1]; exact rcmp6_any t1 n1 Z.t Z.n u
      have HGO : Hid (goesV L t n V1 = (ok && (decide (c1 < 0) || (decide (c1 = 0) && Z.g)))) := by
        show _ = _
        unfold goesV
        rw [← hK1, ← hR, hc1, ht1, hn1, hZ, hok]
        cases R <;> rfl
      have HZM : Hid (∀ (u : World) T, VerMine (u.alloc (.cells (encV zeroV).toArray T)) u.heap.size 0 zeroV) := fun u T => VerMine.made u T zeroV zeroV_ky
      obtain ⟨zt, zn, zg, hzt, hzn, hzg⟩ : ∃ zt zn zg, zt = Z.t ∧ zn = Z.n ∧ zg = Z.g := ⟨_, _, _, rfl, rfl, rfl⟩
      have HZC : Hid (∀ u b, VerMine u b 0 Z → u.cell? ⟨b, 16, none⟩ = some (.int .i64 zt) ∧ u.cell? ⟨b, 17, none⟩ = some (.int .u8 zn) ∧ u.cell? ⟨b, 19, none⟩ = some (.bool zg)) := fun u b hm => by
        have := hm.at_.cells0 hm.key
        rw [hzt, hzn, hzg]
        exact ⟨this.1, this.2.1, this.2.2.2⟩
      rw [← hzt, ← hzn] at CC1
      rw [← hzg] at HGO
      clear hV1 hag hK1 ht1 hn1 hR hZ hok hc1 hzt hzn hzg
      have q0 := HC0.out wr (Below.refl _ _)
      go_wp2
      refine wp_region_noPanic ?_
      refine wp_region_held_drew (S := fun u => Below wr.heap.size wr u) (by kernel_rfl) ?_ (fun hHeld => ?_)
      · exact (Below.refl _ _).drew
      refine wpAnyH_take (i := 0) (v := ?_) rfl (by kernel_rfl) (by kernel_rfl) (by kernel_rfl) (fun _ _ _ h => h) (Or.inl ⟨by rfl, ?_⟩) hHeld ?_
      rotate_left
      · intro u hSu
        (go_simp) <;> (with_reducible rfl)
      change wpAnyH _ _ _ _ _ _ _ (Act.put _ (some 21) _) _
      simp only [Act.put, List.setIfInBounds_toArray, List.set_cons_zero, List.set_cons_succ]
      refine wpAnyH_take (i := 1) (v := ?_) rfl (by kernel_rfl) (by kernel_rfl) (by kernel_rfl) (fun _ _ _ h => h) (Or.inl ⟨by rfl, ?_⟩) hHeld ?_
      rotate_left
      · intro u hSu
        (go_simp) <;> (with_reducible rfl)
      change wpAnyH _ _ _ _ _ _ _ (Act.put _ (some 22) _) _
      simp only [Act.put, List.setIfInBounds_toArray, List.set_cons_zero, List.set_cons_succ]
      refine wpAnyH_take (i := 2) (v := ?_) rfl (by kernel_rfl) (by kernel_rfl) (by kernel_rfl) (fun _ _ _ h => h) (Or.inl ⟨by rfl, ?_⟩) hHeld ?_
      rotate_left
      · intro u hSu
        (go_simp) <;> (with_reducible rfl)
      change wpAnyH _ _ _ _ _ _ _ (Act.put _ (some 23) _) _
      simp only [Act.put, List.setIfInBounds_toArray, List.set_cons_zero, List.set_cons_succ]
      refine wpAnyH_take (i := 3) (v := ?_) rfl (by kernel_rfl) (by kernel_rfl) (by kernel_rfl) (fun _ _ _ h => h) (Or.inl ⟨by rfl, ?_⟩) hHeld ?_
      rotate_left
      · intro u hSu
        (go_simp) <;> (with_reducible rfl)
      change wpAnyH _ _ _ _ _ _ _ (Act.put _ (some 24) _) _
      simp only [Act.put, List.setIfInBounds_toArray, List.set_cons_zero, List.set_cons_succ]
      refine wpAnyH_take (i := 4) (v := ?_) rfl (by kernel_rfl) (by kernel_rfl) (by kernel_rfl) (fun _ _ _ h => h) (Or.inl ⟨by rfl, ?_⟩) hHeld ?_
      rotate_left
      · intro u hSu
        have q0 := HC0.out u hSu
        (go_simp) <;> (with_reducible rfl)
      change wpAnyH _ _ _ _ _ _ _ (Act.put _ (some 25) _) _
      simp only [Act.put, List.setIfInBounds_toArray, List.set_cons_zero, List.set_cons_succ]
      refine wpAnyH_take (i := 5) (v := ?_) rfl (by kernel_rfl) (by kernel_rfl) (by kernel_rfl) (fun _ _ _ h => h) (Or.inl ⟨by rfl, ?_⟩) hHeld ?_
      rotate_left
      · intro u hSu
        (go_simp) <;> (with_reducible rfl)
      change wpAnyH _ _ _ _ _ _ _ (Act.put _ (some 26) _) _
      simp only [Act.put, List.setIfInBounds_toArray, List.set_cons_zero, List.set_cons_succ]
      refine wpAnyH_take (i := 6) (v := ?_) rfl (by kernel_rfl) (by kernel_rfl) (by kernel_rfl) (fun _ _ _ h => h) (Or.inl ⟨by rfl, ?_⟩) hHeld ?_
      rotate_left
      · intro u hSu
        (go_simp) <;> (with_reducible rfl)
      change wpAnyH _ _ _ _ _ _ _ (Act.put _ (some 27) _) _
      simp only [Act.put, List.setIfInBounds_toArray, List.set_cons_zero, List.set_cons_succ]
      refine wpAnyH_take (i := 7) (v := ?_) rfl (by kernel_rfl) (by kernel_rfl) (by kernel_rfl) (fun _ _ _ h => h) (Or.inl ⟨by rfl, ?_⟩) hHeld ?_
      rotate_left
      · intro u hSu
        (go_simp) <;> (with_reducible rfl)
      change wpAnyH _ _ _ _ _ _ _ (Act.put _ (some 28) _) _
      simp only [Act.put, List.setIfInBounds_toArray, List.set_cons_zero, List.set_cons_succ]
      refine wpAnyH_take (i := 8) (v := kv K1) rfl (by kernel_rfl) (by kernel_rfl) (by kernel_rfl) (fun _ _ _ h => h) (yieldsIf_load_mid (by rfl) _ _ rfl _ _ rfl (K1.map (Value.int .u8)) _ (fun u hu => (FK.out u hu).range HK1.out) Tryz.underlying38 rfl (info_keyl K1 HK1.out)) hHeld ?_
      change wpAnyH _ _ _ _ _ _ _ (Act.put _ (some 29) _) _
      simp only [Act.put, List.setIfInBounds_toArray, List.set_cons_zero, List.set_cons_succ]
      refine wpAnyH_take (i := 9) (v := ?_) rfl (by kernel_rfl) (by kernel_rfl) (by kernel_rfl) (fun _ _ _ h => h) (Or.inl ⟨by rfl, ?_⟩) hHeld ?_
      rotate_left
      · intro u hSu
        obtain ⟨y1, y2⟩ := FT.out u hSu
        (go_simp) <;> (with_reducible rfl)
      change wpAnyH _ _ _ _ _ _ _ (Act.put _ (some 30) _) _
      simp only [Act.put, List.setIfInBounds_toArray, List.set_cons_zero, List.set_cons_succ]
      refine wpAnyH_ready (rs := [10, 14]) (by kernel_rfl) (by simp) ?_
      refine AllReadyH.cons rfl (fun K hK => ?_) ?_
      · go_simp
        go_at_call 73
        refine (CA.out _ hHeld).mono ?_
        rintro e x1 ⟨rfl, hb1⟩
        have B1 : Hid (Below wr.heap.size wr x1) := hHeld.trans (hb1.mono hHeld.size)
        clear hb1
        refine hK.out _ _ ?_ (fun hHeld2 => ?_)
        · exact B1.out
        clear hK K hHeld
        have hHeld := hHeld2
        clear hHeld2
        refine wpAnyH_take (i := 11) (v := ?_) rfl (by kernel_rfl) (by kernel_rfl) (by kernel_rfl) (fun _ _ _ h => h) (Or.inl ⟨by rfl, ?_⟩) hHeld ?_
        rotate_left
        · intro u hSu
          (go_simp) <;> (with_reducible rfl)
        change wpAnyH _ _ _ _ _ _ _ (Act.put _ (some 20) _) _
        simp only [Act.put, List.setIfInBounds_toArray, List.set_cons_zero, List.set_cons_succ]
        refine wpAnyH_take (i := 12) (v := ?_) rfl (by kernel_rfl) (by kernel_rfl) (by kernel_rfl) (fun _ _ _ h => h) (Or.inl ⟨by rfl, ?_⟩) hHeld ?_
        rotate_left
        · intro u hSu
          (go_simp) <;> (with_reducible rfl)
        change wpAnyH _ _ _ _ _ _ _ (Act.put _ (some 32) _) _
        simp only [Act.put, List.setIfInBounds_toArray, List.set_cons_zero, List.set_cons_succ]
        refine wpAnyH_take (i := 13) (v := ?_) rfl (by kernel_rfl) (by kernel_rfl) (by kernel_rfl) (fun _ _ _ h => h) (Or.inl ⟨by rfl, ?_⟩) hHeld ?_
        rotate_left
        · intro u hSu
          (go_simp) <;> (with_reducible rfl)
        change wpAnyH _ _ _ _ _ _ _ (Act.put _ (some 33) _) _
        simp only [Act.put, List.setIfInBounds_toArray, List.set_cons_zero, List.set_cons_succ]
        refine wpAnyH_ready (rs := [14]) (by kernel_rfl) (by simp) ?_
        refine AllReadyH.cons rfl (fun K hK => ?_) AllReadyH.nil
        go_simp
        refine hK.out _ _ ?_ (fun hHeld2 => ?_)
        · exact hHeld.alloc hHeld.size _
        clear hK K hHeld
        have hHeld := hHeld2
        clear hHeld2
        refine wpAnyH_ready (rs := [15]) (by kernel_rfl) (by simp) ?_
        refine AllReadyH.cons rfl (fun K hK => ?_) AllReadyH.nil
        rw [if_pos (by rfl)]
        refine wp_store_mid 127 _ _ rfl (x1.heap.size) 0 (encV Z).toArray rfl rfl (by rw [show (encV Z).toArray.size = 20 from by simp [enc_len HZK.out]]; exact (HZM.out x1 127).there) (by rw [info_ver]; simp [enc_len HZK.out]) (enc_all Z) ?_
        generalize hY : World.setCells _ (x1.heap.size) 0 (encV Z).toArray.toList = Y
        have HVY : Hid (VerMine Y (x1.heap.size) 0 Z) := (by rw [← hY]; exact (HZM.out x1 127).store HZK.out)
        have HBY : Hid (Below wr.heap.size wr Y) := (by rw [← hY]; exact below_cells (B1.out.size) hHeld)
        clear hY
        refine hK.out _ _ ?_ (fun hHeld2 => ?_)
        · exact HBY.out
        clear hK K hHeld
        have hHeld := hHeld2
        clear hHeld2
        refine wpAnyH_take (i := 16) (v := ?_) rfl (by kernel_rfl) (by kernel_rfl) (by kernel_rfl) (fun _ _ _ h => h) (Or.inl ⟨by rfl, ?_⟩) hHeld ?_
        rotate_left
        · intro u hSu
          (go_simp) <;> (with_reducible rfl)
        change wpAnyH _ _ _ _ _ _ _ (Act.put _ (some 8) _) _
        simp only [Act.put, List.setIfInBounds_toArray]
        refine wpAnyH_done (by kernel_rfl) ?_ _
        refine NoPanic.normal ?_
        obtain ⟨b7, hb7⟩ : ∃ b7, b7 = x1.heap.size := ⟨_, rfl⟩
        rw [← hb7] at HVY ⊢
        clear hb7
        go_wp2
        refine wp_region_noPanic ?_
        refine wp_region_held_drew (S := fun u => Below Y.heap.size Y u) (by kernel_rfl) ?_ (fun hHeld => ?_)
        · exact (Below.refl _ _).drew
        refine wpAnyH_take (i := 0) (v := ?_) rfl (by kernel_rfl) (by kernel_rfl) (by kernel_rfl) (fun _ _ _ h => h) (Or.inl ⟨by rfl, ?_⟩) hHeld ?_
        rotate_left
        · intro u hSu
          (go_simp) <;> (with_reducible rfl)
        change wpAnyH _ _ _ _ _ _ _ (Act.put _ (some 34) _) _
        simp only [Act.put, List.setIfInBounds_toArray, List.set_cons_zero, List.set_cons_succ]
        refine wpAnyH_take (i := 1) (v := ?_) rfl (by kernel_rfl) (by kernel_rfl) (by kernel_rfl) (fun _ _ _ h => h) (Or.inl ⟨by rfl, ?_⟩) hHeld ?_
        rotate_left
        · intro u hSu
          (go_simp) <;> (with_reducible rfl)
        change wpAnyH _ _ _ _ _ _ _ (Act.put _ (some 35) _) _
        simp only [Act.put, List.setIfInBounds_toArray, List.set_cons_zero, List.set_cons_succ]
        refine wpAnyH_take (i := 2) (v := ?_) rfl (by kernel_rfl) (by kernel_rfl) (by kernel_rfl) (fun _ _ _ h => h) (Or.inl ⟨by rfl, ?_⟩) hHeld ?_
        rotate_left
        · intro u hSu
          (go_simp) <;> (with_reducible rfl)
        change wpAnyH _ _ _ _ _ _ _ (Act.put _ (some 36) _) _
        simp only [Act.put, List.setIfInBounds_toArray, List.set_cons_zero, List.set_cons_succ]
        refine wpAnyH_take (i := 3) (v := ?_) rfl (by kernel_rfl) (by kernel_rfl) (by kernel_rfl) (fun _ _ _ h => h) (Or.inl ⟨by rfl, ?_⟩) hHeld ?_
        rotate_left
        · intro u hSu
          have q0 := HC0.out u (HBY.out.trans (hSu.mono HBY.out.size))
          (go_simp) <;> (with_reducible rfl)
        change wpAnyH _ _ _ _ _ _ _ (Act.put _ (some 37) _) _
        simp only [Act.put, List.setIfInBounds_toArray, List.set_cons_zero, List.set_cons_succ]
        refine wpAnyH_take (i := 4) (v := ?_) rfl (by kernel_rfl) (by kernel_rfl) (by kernel_rfl) (fun _ _ _ h => h) (Or.inl ⟨by rfl, ?_⟩) hHeld ?_
        rotate_left
        · intro u hSu
          (go_simp) <;> (with_reducible rfl)
        change wpAnyH _ _ _ _ _ _ _ (Act.put _ (some 38) _) _
        simp only [Act.put, List.setIfInBounds_toArray, List.set_cons_zero, List.set_cons_succ]
        refine wpAnyH_take (i := 5) (v := ?_) rfl (by kernel_rfl) (by kernel_rfl) (by kernel_rfl) (fun _ _ _ h => h) (Or.inl ⟨by rfl, ?_⟩) hHeld ?_
        rotate_left
        · intro u hSu
          (go_simp) <;> (with_reducible rfl)
        change wpAnyH _ _ _ _ _ _ _ (Act.put _ (some 39) _) _
        simp only [Act.put, List.setIfInBounds_toArray, List.set_cons_zero, List.set_cons_succ]
        refine wpAnyH_take (i := 6) (v := ?_) rfl (by kernel_rfl) (by kernel_rfl) (by kernel_rfl) (fun _ _ _ h => h) (Or.inl ⟨by rfl, ?_⟩) hHeld ?_
        rotate_left
        · intro u hSu
          (go_simp) <;> (with_reducible rfl)
        change wpAnyH _ _ _ _ _ _ _ (Act.put _ (some 40) _) _
        simp only [Act.put, List.setIfInBounds_toArray, List.set_cons_zero, List.set_cons_succ]
        refine wpAnyH_take (i := 7) (v := ?_) rfl (by kernel_rfl) (by kernel_rfl) (by kernel_rfl) (fun _ _ _ h => h) (Or.inl ⟨by rfl, ?_⟩) hHeld ?_
        rotate_left
        · intro u hSu
          obtain ⟨y1, y2⟩ := FZ.out u (HBY.out.trans (hSu.mono HBY.out.size))
          (go_simp) <;> (with_reducible rfl)
        change wpAnyH _ _ _ _ _ _ _ (Act.put _ (some 41) _) _
        simp only [Act.put, List.setIfInBounds_toArray, List.set_cons_zero, List.set_cons_succ]
        refine wpAnyH_take (i := 8) (v := ?_) rfl (by kernel_rfl) (by kernel_rfl) (by kernel_rfl) (fun _ _ _ h => h) (Or.inl ⟨by rfl, ?_⟩) hHeld ?_
        rotate_left
        · intro u hSu
          (go_simp) <;> (with_reducible rfl)
        change wpAnyH _ _ _ _ _ _ _ (Act.put _ (some 42) _) _
        simp only [Act.put, List.setIfInBounds_toArray, List.set_cons_zero, List.set_cons_succ]
        refine wpAnyH_take (i := 9) (v := ?_) rfl (by kernel_rfl) (by kernel_rfl) (by kernel_rfl) (fun _ _ _ h => h) (Or.inl ⟨by rfl, ?_⟩) hHeld ?_
        rotate_left
        · intro u hSu
          obtain ⟨y1, y2, y3⟩ := HZC.out u b7 (HVY.out.past hSu)
          (go_simp) <;> (with_reducible rfl)
        change wpAnyH _ _ _ _ _ _ _ (Act.put _ (some 43) _) _
        simp only [Act.put, List.setIfInBounds_toArray, List.set_cons_zero, List.set_cons_succ]
        refine wpAnyH_ready (rs := [10]) (by kernel_rfl) (by simp) ?_
        refine AllReadyH.cons rfl (fun K hK => ?_) AllReadyH.nil
        go_simp
        go_at_call 39
        refine (CC1.out _).mono ?_
        rintro e x2 ⟨rfl, hb2⟩
        have B2 : Hid (Below Y.heap.size Y x2) := hHeld.trans (hb2.mono hHeld.size)
        clear hb2
        refine hK.out _ _ ?_ (fun hHeld2 => ?_)
        · exact B2.out
        clear hK K hHeld
        have hHeld := hHeld2
        clear hHeld2
        refine wpAnyH_take (i := 11) (v := ?_) rfl (by kernel_rfl) (by kernel_rfl) (by kernel_rfl) (fun _ _ _ h => h) (Or.inl ⟨by rfl, ?_⟩) hHeld ?_
        rotate_left
        · intro u hSu
          (go_simp) <;> (with_reducible rfl)
        change wpAnyH _ _ _ _ _ _ _ (Act.put _ (some 9) _) _
        simp only [Act.put, List.setIfInBounds_toArray, List.set_cons_zero, List.set_cons_succ]
        refine wpAnyH_done (by kernel_rfl) ?_ _
        refine NoPanic.normal ?_
        have BX : Hid (Below wr.heap.size wr x2) := HBY.out.trans (B2.out.mono HBY.out.size)
        obtain ⟨z1, z2, z3⟩ := HZC.out x2 b7 (HVY.out.past B2.out)
        have q1 := HC0.out x2 BX.out
        have HL1 : Hid ((encV V1).length = 1 * 20) := enc_len HVO.out.key
        have OV1 : Hid (∀ u ∈ encV V1, u.oneCell' = true) := enc_one V1
        clear z1 z2 q0
        cases ok with
        | false =>
          have HGO2 : Hid (goesV L t n V1 = false) := HGO.out
          clear HGO
          go_wp2_with (first | ((with_reducible show wpList _ _ _ (Oper.mk (some 65) _ _ _ _ _ :: _) _ _); refine wpList_load_ver 65 (by rfl) (by rfl) _ (by rfl) g (i * 20) (by rfl) V1 HVO.out.key (FV.out x2 BX.out) ?_) | ((with_reducible show wpList _ _ _ (Oper.mk (some 66) _ _ _ _ _ :: _) _ _); refine wpList_build_ver 66 (by rfl) (by rfl) _ (by rfl) V1 HVO.out.key (by rfl) ?_) | (at_builtin; refine wpList_own verEl (w0 := V0) rfl (.tmp 58) (.tmp 66) rfl _ m _ (encV V1) rfl ((HO.out.past BX.out).alloc _) _ _ _ rfl HL1.out (lies_made _ _ _) OV1.out (fun h => by cases h) (m + 1) rfl (by omega) _ rfl ?_; intro a6 c6 w6 h1 h2; have O6 : Hid (OwnB 127 20 V0 w6 (.slice a6 (m + 1) c6) (m + 1) (((L.take i).filter (fun V => !goesV L t n V)).flatMap encV ++ encV V1)) := h1; clear h1 h2))
          go_roundw
          case rel =>
            refine ⟨i + 1, m + 1, a6, c6, by push_cast; rfl, rfl, by omega, by omega, ?_, ?_⟩
            · rw [rest_next HV1.out, if_neg (by rw [HGO2.out]; simp)]
              rw [List.flatMap_append, show [V1].flatMap encV = encV V1 from by simp]
              exact O6.out
            · rw [rest_next HV1.out, if_neg (by rw [HGO2.out]; simp), List.length_append, HML.out]; rfl
          case measure => simp [intOf]; omega
        | true =>
          by_cases hc0 : c1 < 0
          · have bc : decide (c1 < 0) = true := decide_eq_true hc0
            have HGO2 : Hid (goesV L t n V1 = true) := (by show _ = _; rw [HGO.out, bc]; rfl)
            clear HGO
            go_wp2
            go_roundw
            case rel =>
              refine ⟨i + 1, m, ra, rc, by push_cast; rfl, rfl, by omega, by omega, ?_, ?_⟩
              · rw [rest_next HV1.out, if_pos HGO2.out, List.append_nil]; exact HO.out.past BX.out
              · rw [rest_next HV1.out, if_pos HGO2.out, List.append_nil]; exact HML.out
            case measure => simp [intOf]; omega
          · have bc : decide (c1 < 0) = false := decide_eq_false hc0
            by_cases hc2 : c1 = 0
            · have bq : (c1 == 0) = true := (by simp [hc2])
              cases zg with
              | true =>
                have HGO2 : Hid (goesV L t n V1 = true) := (by show _ = _; rw [HGO.out, bc, decide_eq_true hc2]; rfl)
                clear HGO
                go_wp2
                go_roundw
                case rel =>
                  refine ⟨i + 1, m, ra, rc, by push_cast; rfl, rfl, by omega, by omega, ?_, ?_⟩
                  · rw [rest_next HV1.out, if_pos HGO2.out, List.append_nil]; exact HO.out.past BX.out
                  · rw [rest_next HV1.out, if_pos HGO2.out, List.append_nil]; exact HML.out
                case measure => simp [intOf]; omega
              | false =>
                have HGO2 : Hid (goesV L t n V1 = false) := (by show _ = _; rw [HGO.out, bc, decide_eq_true hc2]; rfl)
                clear HGO
                go_wp2_with (first | ((with_reducible show wpList _ _ _ (Oper.mk (some 65) _ _ _ _ _ :: _) _ _); refine wpList_load_ver 65 (by rfl) (by rfl) _ (by rfl) g (i * 20) (by rfl) V1 HVO.out.key (FV.out x2 BX.out) ?_) | ((with_reducible show wpList _ _ _ (Oper.mk (some 66) _ _ _ _ _ :: _) _ _); refine wpList_build_ver 66 (by rfl) (by rfl) _ (by rfl) V1 HVO.out.key (by rfl) ?_) | (at_builtin; refine wpList_own verEl (w0 := V0) rfl (.tmp 58) (.tmp 66) rfl _ m _ (encV V1) rfl ((HO.out.past BX.out).alloc _) _ _ _ rfl HL1.out (lies_made _ _ _) OV1.out (fun h => by cases h) (m + 1) rfl (by omega) _ rfl ?_; intro a6 c6 w6 h1 h2; have O6 : Hid (OwnB 127 20 V0 w6 (.slice a6 (m + 1) c6) (m + 1) (((L.take i).filter (fun V => !goesV L t n V)).flatMap encV ++ encV V1)) := h1; clear h1 h2))
                go_roundw
                case rel =>
                  refine ⟨i + 1, m + 1, a6, c6, by push_cast; rfl, rfl, by omega, by omega, ?_, ?_⟩
                  · rw [rest_next HV1.out, if_neg (by rw [HGO2.out]; simp)]
                    rw [List.flatMap_append, show [V1].flatMap encV = encV V1 from by simp]
                    exact O6.out
                  · rw [rest_next HV1.out, if_neg (by rw [HGO2.out]; simp), List.length_append, HML.out]; rfl
                case measure => simp [intOf]; omega
            · have bq : (c1 == 0) = false := (by simpa using hc2)
              have HGO2 : Hid (goesV L t n V1 = false) := (by show _ = _; rw [HGO.out, bc, decide_eq_false hc2]; rfl)
              clear HGO
              go_wp2_with (first | ((with_reducible show wpList _ _ _ (Oper.mk (some 65) _ _ _ _ _ :: _) _ _); refine wpList_load_ver 65 (by rfl) (by rfl) _ (by rfl) g (i * 20) (by rfl) V1 HVO.out.key (FV.out x2 BX.out) ?_) | ((with_reducible show wpList _ _ _ (Oper.mk (some 66) _ _ _ _ _ :: _) _ _); refine wpList_build_ver 66 (by rfl) (by rfl) _ (by rfl) V1 HVO.out.key (by rfl) ?_) | (at_builtin; refine wpList_own verEl (w0 := V0) rfl (.tmp 58) (.tmp 66) rfl _ m _ (encV V1) rfl ((HO.out.past BX.out).alloc _) _ _ _ rfl HL1.out (lies_made _ _ _) OV1.out (fun h => by cases h) (m + 1) rfl (by omega) _ rfl ?_; intro a6 c6 w6 h1 h2; have O6 : Hid (OwnB 127 20 V0 w6 (.slice a6 (m + 1) c6) (m + 1) (((L.take i).filter (fun V => !goesV L t n V)).flatMap encV ++ encV V1)) := h1; clear h1 h2))
              go_roundw
              case rel =>
                refine ⟨i + 1, m + 1, a6, c6, by push_cast; rfl, rfl, by omega, by omega, ?_, ?_⟩
                · rw [rest_next HV1.out, if_neg (by rw [HGO2.out]; simp)]
                  rw [List.flatMap_append, show [V1].flatMap encV = encV V1 from by simp]
                  exact O6.out
                · rw [rest_next HV1.out, if_neg (by rw [HGO2.out]; simp), List.length_append, HML.out]; rfl
              case measure => simp [intOf]; omega
      refine AllReadyH.cons rfl (fun K hK => ?_) AllReadyH.nil
      go_simp
      refine hK.out _ _ ?_ (fun hHeld2 => ?_)
      · exact hHeld.alloc hHeld.size _
      clear hK K hHeld
      have hHeld := hHeld2
      clear hHeld2
      refine wpAnyH_ready (rs := [10]) (by kernel_rfl) (by simp) ?_
      refine AllReadyH.cons rfl (fun K hK => ?_) AllReadyH.nil
      go_simp
      go_at_call 73
      refine (CA.out _ hHeld).mono ?_
      rintro e x1 ⟨rfl, hb1⟩
      have B1 : Hid (Below wr.heap.size wr x1) := hHeld.trans (hb1.mono hHeld.size)
      have HZ1 : Hid (VerMine x1 wr.heap.size 0 zeroV) := (HZM.out wr.drew 127).past hb1
      clear hb1
      refine hK.out _ _ ?_ (fun hHeld2 => ?_)
      · exact B1.out
      clear hK K hHeld
      have hHeld := hHeld2
      clear hHeld2
      refine wpAnyH_take (i := 11) (v := ?_) rfl (by kernel_rfl) (by kernel_rfl) (by kernel_rfl) (fun _ _ _ h => h) (Or.inl ⟨by rfl, ?_⟩) hHeld ?_
      rotate_left
      · intro u hSu
        (go_simp) <;> (with_reducible rfl)
      change wpAnyH _ _ _ _ _ _ _ (Act.put _ (some 20) _) _
      simp only [Act.put, List.setIfInBounds_toArray, List.set_cons_zero, List.set_cons_succ]
      refine wpAnyH_take (i := 12) (v := ?_) rfl (by kernel_rfl) (by kernel_rfl) (by kernel_rfl) (fun _ _ _ h => h) (Or.inl ⟨by rfl, ?_⟩) hHeld ?_
      rotate_left
      · intro u hSu
        (go_simp) <;> (with_reducible rfl)
      change wpAnyH _ _ _ _ _ _ _ (Act.put _ (some 32) _) _
      simp only [Act.put, List.setIfInBounds_toArray, List.set_cons_zero, List.set_cons_succ]
      refine wpAnyH_take (i := 13) (v := ?_) rfl (by kernel_rfl) (by kernel_rfl) (by kernel_rfl) (fun _ _ _ h => h) (Or.inl ⟨by rfl, ?_⟩) hHeld ?_
      rotate_left
      · intro u hSu
        (go_simp) <;> (with_reducible rfl)
      change wpAnyH _ _ _ _ _ _ _ (Act.put _ (some 33) _) _
      simp only [Act.put, List.setIfInBounds_toArray, List.set_cons_zero, List.set_cons_succ]
      refine wpAnyH_ready (rs := [15]) (by kernel_rfl) (by simp) ?_
      refine AllReadyH.cons rfl (fun K hK => ?_) AllReadyH.nil
      rw [if_pos (by rfl)]
      refine wp_store_mid 127 _ _ rfl (wr.heap.size) 0 (encV Z).toArray rfl rfl (by rw [show (encV Z).toArray.size = 20 from by simp [enc_len HZK.out]]; exact (HZ1.out).there) (by rw [info_ver]; simp [enc_len HZK.out]) (enc_all Z) ?_
      generalize hY : World.setCells _ (wr.heap.size) 0 (encV Z).toArray.toList = Y
      have HVY : Hid (VerMine Y (wr.heap.size) 0 Z) := (by rw [← hY]; exact (HZ1.out).store HZK.out)
      have HBY : Hid (Below wr.heap.size wr Y) := (by rw [← hY]; exact below_cells (Nat.le_refl _) hHeld)
      clear hY
      refine hK.out _ _ ?_ (fun hHeld2 => ?_)
      · exact HBY.out
      clear hK K hHeld
      have hHeld := hHeld2
      clear hHeld2
      refine wpAnyH_take (i := 16) (v := ?_) rfl (by kernel_rfl) (by kernel_rfl) (by kernel_rfl) (fun _ _ _ h => h) (Or.inl ⟨by rfl, ?_⟩) hHeld ?_
      rotate_left
      · intro u hSu
        (go_simp) <;> (with_reducible rfl)
      change wpAnyH _ _ _ _ _ _ _ (Act.put _ (some 8) _) _
      simp only [Act.put, List.setIfInBounds_toArray]
      refine wpAnyH_done (by kernel_rfl) ?_ _
      refine NoPanic.normal ?_
      obtain ⟨b7, hb7⟩ : ∃ b7, b7 = wr.heap.size := ⟨_, rfl⟩
      rw [← hb7] at HVY ⊢
      clear hb7
      go_wp2
      refine wp_region_noPanic ?_
      refine wp_region_held_drew (S := fun u => Below Y.heap.size Y u) (by kernel_rfl) ?_ (fun hHeld => ?_)
      · exact (Below.refl _ _).drew
      refine wpAnyH_take (i := 0) (v := ?_) rfl (by kernel_rfl) (by kernel_rfl) (by kernel_rfl) (fun _ _ _ h => h) (Or.inl ⟨by rfl, ?_⟩) hHeld ?_
      rotate_left
      · intro u hSu
        (go_simp) <;> (with_reducible rfl)
      change wpAnyH _ _ _ _ _ _ _ (Act.put _ (some 34) _) _
      simp only [Act.put, List.setIfInBounds_toArray, List.set_cons_zero, List.set_cons_succ]
      refine wpAnyH_take (i := 1) (v := ?_) rfl (by kernel_rfl) (by kernel_rfl) (by kernel_rfl) (fun _ _ _ h => h) (Or.inl ⟨by rfl, ?_⟩) hHeld ?_
      rotate_left
      · intro u hSu
        (go_simp) <;> (with_reducible rfl)
      change wpAnyH _ _ _ _ _ _ _ (Act.put _ (some 35) _) _
      simp only [Act.put, List.setIfInBounds_toArray, List.set_cons_zero, List.set_cons_succ]
      refine wpAnyH_take (i := 2) (v := ?_) rfl (by kernel_rfl) (by kernel_rfl) (by kernel_rfl) (fun _ _ _ h => h) (Or.inl ⟨by rfl, ?_⟩) hHeld ?_
      rotate_left
      · intro u hSu
        (go_simp) <;> (with_reducible rfl)
      change wpAnyH _ _ _ _ _ _ _ (Act.put _ (some 36) _) _
      simp only [Act.put, List.setIfInBounds_toArray, List.set_cons_zero, List.set_cons_succ]
      refine wpAnyH_take (i := 3) (v := ?_) rfl (by kernel_rfl) (by kernel_rfl) (by kernel_rfl) (fun _ _ _ h => h) (Or.inl ⟨by rfl, ?_⟩) hHeld ?_
      rotate_left
      · intro u hSu
        have q0 := HC0.out u (HBY.out.trans (hSu.mono HBY.out.size))
        (go_simp) <;> (with_reducible rfl)
      change wpAnyH _ _ _ _ _ _ _ (Act.put _ (some 37) _) _
      simp only [Act.put, List.setIfInBounds_toArray, List.set_cons_zero, List.set_cons_succ]
      refine wpAnyH_take (i := 4) (v := ?_) rfl (by kernel_rfl) (by kernel_rfl) (by kernel_rfl) (fun _ _ _ h => h) (Or.inl ⟨by rfl, ?_⟩) hHeld ?_
      rotate_left
      · intro u hSu
        (go_simp) <;> (with_reducible rfl)
      change wpAnyH _ _ _ _ _ _ _ (Act.put _ (some 38) _) _
      simp only [Act.put, List.setIfInBounds_toArray, List.set_cons_zero, List.set_cons_succ]
      refine wpAnyH_take (i := 5) (v := ?_) rfl (by kernel_rfl) (by kernel_rfl) (by kernel_rfl) (fun _ _ _ h => h) (Or.inl ⟨by rfl, ?_⟩) hHeld ?_
      rotate_left
      · intro u hSu
        (go_simp) <;> (with_reducible rfl)
      change wpAnyH _ _ _ _ _ _ _ (Act.put _ (some 39) _) _
      simp only [Act.put, List.setIfInBounds_toArray, List.set_cons_zero, List.set_cons_succ]
      refine wpAnyH_take (i := 6) (v := ?_) rfl (by kernel_rfl) (by kernel_rfl) (by kernel_rfl) (fun _ _ _ h => h) (Or.inl ⟨by rfl, ?_⟩) hHeld ?_
      rotate_left
      · intro u hSu
        (go_simp) <;> (with_reducible rfl)
      change wpAnyH _ _ _ _ _ _ _ (Act.put _ (some 40) _) _
      simp only [Act.put, List.setIfInBounds_toArray, List.set_cons_zero, List.set_cons_succ]
      refine wpAnyH_take (i := 7) (v := ?_) rfl (by kernel_rfl) (by kernel_rfl) (by kernel_rfl) (fun _ _ _ h => h) (Or.inl ⟨by rfl, ?_⟩) hHeld ?_
      rotate_left
      · intro u hSu
        obtain ⟨y1, y2⟩ := FZ.out u (HBY.out.trans (hSu.mono HBY.out.size))
        (go_simp) <;> (with_reducible rfl)
      change wpAnyH _ _ _ _ _ _ _ (Act.put _ (some 41) _) _
      simp only [Act.put, List.setIfInBounds_toArray, List.set_cons_zero, List.set_cons_succ]
      refine wpAnyH_take (i := 8) (v := ?_) rfl (by kernel_rfl) (by kernel_rfl) (by kernel_rfl) (fun _ _ _ h => h) (Or.inl ⟨by rfl, ?_⟩) hHeld ?_
      rotate_left
      · intro u hSu
        (go_simp) <;> (with_reducible rfl)
      change wpAnyH _ _ _ _ _ _ _ (Act.put _ (some 42) _) _
      simp only [Act.put, List.setIfInBounds_toArray, List.set_cons_zero, List.set_cons_succ]
      refine wpAnyH_take (i := 9) (v := ?_) rfl (by kernel_rfl) (by kernel_rfl) (by kernel_rfl) (fun _ _ _ h => h) (Or.inl ⟨by rfl, ?_⟩) hHeld ?_
      rotate_left
      · intro u hSu
        obtain ⟨y1, y2, y3⟩ := HZC.out u b7 (HVY.out.past hSu)
        (go_simp) <;> (with_reducible rfl)
      change wpAnyH _ _ _ _ _ _ _ (Act.put _ (some 43) _) _
      simp only [Act.put, List.setIfInBounds_toArray, List.set_cons_zero, List.set_cons_succ]
      refine wpAnyH_ready (rs := [10]) (by kernel_rfl) (by simp) ?_
      refine AllReadyH.cons rfl (fun K hK => ?_) AllReadyH.nil
      go_simp
      go_at_call 39
      refine (CC1.out _).mono ?_
      rintro e x2 ⟨rfl, hb2⟩
      have B2 : Hid (Below Y.heap.size Y x2) := hHeld.trans (hb2.mono hHeld.size)
      clear hb2
      refine hK.out _ _ ?_ (fun hHeld2 => ?_)
      · exact B2.out
      clear hK K hHeld
      have hHeld := hHeld2
      clear hHeld2
      refine wpAnyH_take (i := 11) (v := ?_) rfl (by kernel_rfl) (by kernel_rfl) (by kernel_rfl) (fun _ _ _ h => h) (Or.inl ⟨by rfl, ?_⟩) hHeld ?_
      rotate_left
      · intro u hSu
        (go_simp) <;> (with_reducible rfl)
      change wpAnyH _ _ _ _ _ _ _ (Act.put _ (some 9) _) _
      simp only [Act.put, List.setIfInBounds_toArray, List.set_cons_zero, List.set_cons_succ]
      refine wpAnyH_done (by kernel_rfl) ?_ _
      refine NoPanic.normal ?_
      have BX : Hid (Below wr.heap.size wr x2) := HBY.out.trans (B2.out.mono HBY.out.size)
      obtain ⟨z1, z2, z3⟩ := HZC.out x2 b7 (HVY.out.past B2.out)
      have q1 := HC0.out x2 BX.out
      have HL1 : Hid ((encV V1).length = 1 * 20) := enc_len HVO.out.key
      have OV1 : Hid (∀ u ∈ encV V1, u.oneCell' = true) := enc_one V1
      clear z1 z2 q0
      cases ok with
      | false =>
        have HGO2 : Hid (goesV L t n V1 = false) := HGO.out
        clear HGO
        go_wp2_with (first | ((with_reducible show wpList _ _ _ (Oper.mk (some 65) _ _ _ _ _ :: _) _ _); refine wpList_load_ver 65 (by rfl) (by rfl) _ (by rfl) g (i * 20) (by rfl) V1 HVO.out.key (FV.out x2 BX.out) ?_) | ((with_reducible show wpList _ _ _ (Oper.mk (some 66) _ _ _ _ _ :: _) _ _); refine wpList_build_ver 66 (by rfl) (by rfl) _ (by rfl) V1 HVO.out.key (by rfl) ?_) | (at_builtin; refine wpList_own verEl (w0 := V0) rfl (.tmp 58) (.tmp 66) rfl _ m _ (encV V1) rfl ((HO.out.past BX.out).alloc _) _ _ _ rfl HL1.out (lies_made _ _ _) OV1.out (fun h => by cases h) (m + 1) rfl (by omega) _ rfl ?_; intro a6 c6 w6 h1 h2; have O6 : Hid (OwnB 127 20 V0 w6 (.slice a6 (m + 1) c6) (m + 1) (((L.take i).filter (fun V => !goesV L t n V)).flatMap encV ++ encV V1)) := h1; clear h1 h2))
        go_roundw
        case rel =>
          refine ⟨i + 1, m + 1, a6, c6, by push_cast; rfl, rfl, by omega, by omega, ?_, ?_⟩
          · rw [rest_next HV1.out, if_neg (by rw [HGO2.out]; simp)]
            rw [List.flatMap_append, show [V1].flatMap encV = encV V1 from by simp]
            exact O6.out
          · rw [rest_next HV1.out, if_neg (by rw [HGO2.out]; simp), List.length_append, HML.out]; rfl
        case measure => simp [intOf]; omega
      | true =>
        by_cases hc0 : c1 < 0
        · have bc : decide (c1 < 0) = true := decide_eq_true hc0
          have HGO2 : Hid (goesV L t n V1 = true) := (by show _ = _; rw [HGO.out, bc]; rfl)
          clear HGO
          go_wp2
          go_roundw
          case rel =>
            refine ⟨i + 1, m, ra, rc, by push_cast; rfl, rfl, by omega, by omega, ?_, ?_⟩
            · rw [rest_next HV1.out, if_pos HGO2.out, List.append_nil]; exact HO.out.past BX.out
            · rw [rest_next HV1.out, if_pos HGO2.out, List.append_nil]; exact HML.out
          case measure => simp [intOf]; omega
        · have bc : decide (c1 < 0) = false := decide_eq_false hc0
          by_cases hc2 : c1 = 0
          · have bq : (c1 == 0) = true := (by simp [hc2])
            cases zg with
            | true =>
              have HGO2 : Hid (goesV L t n V1 = true) := (by show _ = _; rw [HGO.out, bc, decide_eq_true hc2]; rfl)
              clear HGO
              go_wp2
              go_roundw
              case rel =>
                refine ⟨i + 1, m, ra, rc, by push_cast; rfl, rfl, by omega, by omega, ?_, ?_⟩
                · rw [rest_next HV1.out, if_pos HGO2.out, List.append_nil]; exact HO.out.past BX.out
                · rw [rest_next HV1.out, if_pos HGO2.out, List.append_nil]; exact HML.out
              case measure => simp [intOf]; omega
            | false =>
              have HGO2 : Hid (goesV L t n V1 = false) := (by show _ = _; rw [HGO.out, bc, decide_eq_true hc2]; rfl)
              clear HGO
              go_wp2_with (first | ((with_reducible show wpList _ _ _ (Oper.mk (some 65) _ _ _ _ _ :: _) _ _); refine wpList_load_ver 65 (by rfl) (by rfl) _ (by rfl) g (i * 20) (by rfl) V1 HVO.out.key (FV.out x2 BX.out) ?_) | ((with_reducible show wpList _ _ _ (Oper.mk (some 66) _ _ _ _ _ :: _) _ _); refine wpList_build_ver 66 (by rfl) (by rfl) _ (by rfl) V1 HVO.out.key (by rfl) ?_) | (at_builtin; refine wpList_own verEl (w0 := V0) rfl (.tmp 58) (.tmp 66) rfl _ m _ (encV V1) rfl ((HO.out.past BX.out).alloc _) _ _ _ rfl HL1.out (lies_made _ _ _) OV1.out (fun h => by cases h) (m + 1) rfl (by omega) _ rfl ?_; intro a6 c6 w6 h1 h2; have O6 : Hid (OwnB 127 20 V0 w6 (.slice a6 (m + 1) c6) (m + 1) (((L.take i).filter (fun V => !goesV L t n V)).flatMap encV ++ encV V1)) := h1; clear h1 h2))
              go_roundw
              case rel =>
                refine ⟨i + 1, m + 1, a6, c6, by push_cast; rfl, rfl, by omega, by omega, ?_, ?_⟩
                · rw [rest_next HV1.out, if_neg (by rw [HGO2.out]; simp)]
                  rw [List.flatMap_append, show [V1].flatMap encV = encV V1 from by simp]
                  exact O6.out
                · rw [rest_next HV1.out, if_neg (by rw [HGO2.out]; simp), List.length_append, HML.out]; rfl
              case measure => simp [intOf]; omega
          · have bq : (c1 == 0) = false := (by simpa using hc2)
            have HGO2 : Hid (goesV L t n V1 = false) := (by show _ = _; rw [HGO.out, bc, decide_eq_false hc2]; rfl)
            clear HGO
            go_wp2_with (first | ((with_reducible show wpList _ _ _ (Oper.mk (some 65) _ _ _ _ _ :: _) _ _); refine wpList_load_ver 65 (by rfl) (by rfl) _ (by rfl) g (i * 20) (by rfl) V1 HVO.out.key (FV.out x2 BX.out) ?_) | ((with_reducible show wpList _ _ _ (Oper.mk (some 66) _ _ _ _ _ :: _) _ _); refine wpList_build_ver 66 (by rfl) (by rfl) _ (by rfl) V1 HVO.out.key (by rfl) ?_) | (at_builtin; refine wpList_own verEl (w0 := V0) rfl (.tmp 58) (.tmp 66) rfl _ m _ (encV V1) rfl ((HO.out.past BX.out).alloc _) _ _ _ rfl HL1.out (lies_made _ _ _) OV1.out (fun h => by cases h) (m + 1) rfl (by omega) _ rfl ?_; intro a6 c6 w6 h1 h2; have O6 : Hid (OwnB 127 20 V0 w6 (.slice a6 (m + 1) c6) (m + 1) (((L.take i).filter (fun V => !goesV L t n V)).flatMap encV ++ encV V1)) := h1; clear h1 h2))
            go_roundw
            case rel =>
              refine ⟨i + 1, m + 1, a6, c6, by push_cast; rfl, rfl, by omega, by omega, ?_, ?_⟩
              · rw [rest_next HV1.out, if_neg (by rw [HGO2.out]; simp)]
                rw [List.flatMap_append, show [V1].flatMap encV = encV V1 from by simp]
                exact O6.out
              · rw [rest_next HV1.out, if_neg (by rw [HGO2.out]; simp), List.length_append, HML.out]; rfl
            case measure => simp [intOf]; omega
    · have bl : decide ((i : Int) < (N : Int)) = false := decide_eq_false (by omega)
      have hin : i = N := by omega
      have HRE : Hid ((L.take i).filter (fun V => !goesV L t n V) = restV L t n) := by show _ = _; rw [hin, ← HN.out, List.take_length]; rfl
      rw [HRE.out] at HO HML
      have q0 := HCE.out wr HBR.out
      have f0 : wr.frozen? ⟨p, 0, none⟩ = false := (HBR.out.frozen (p := ⟨p, 0, none⟩) HST.out.lt).trans HST.out.free
      clear hin HRE
      go_wp2
      go_ret
      rw [HML.out]
      have hr := HST.out.turn HBR.out HML.out (own_lower10 HO.out.own HBW.out.size) hB (fun X hX => HOK.out X ((List.mem_filter.1 hX).1)) (by omega)
      refine ⟨rfl, hr.1, hr.2, fun v hv g hg => .inl ?_⟩
      rw [World.cell?_setCell_same _ _ _ q0] at hv
      injection hv with hv
      rw [← hv] at hg
      exact Nat.le_trans HBW.out.size (HO.out.own.lt g hg).1
end Go.Proofs.YtileidbdmpeciaaGreat
