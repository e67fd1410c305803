/-
  What the landed tables answer: Has, Holder, Blocks (package prep: Table).
-/
import Derived.Test.YtileidbdmpeciaaGreatAu99
namespace Go.Proofs.YtileidbdmpeciaaGreat
open Go.RowKit
set_option linter.unusedVariables false

/-- What an entry of an answer is. -/
structure EntOf (w : World) (B : Nat) (Y : EntM) (e : Ent) : Prop where
  is : Y.e = e
  ent : EntW w Y
  new : Y.e.l ≠ [] → ∀ b o, Y.a = some ⟨b, o, none⟩ → B ≤ b
set_option maxHeartbeats 4000000 in
set_option maxRecDepth 4000 in
theorem phas_any (p : Nat) (M : List EntM) (X : Foot) (id : Int) (w : World) (h : PTab w p M X) :
    Calls Tryz.prog 48 #[.pointer (some ⟨p, 0, none⟩), .int .i64 id] w fun e w' => (∃ Y, e = .returned (.tuple #[ev Y, .bool (hasM M id).isSome]) ∧ EntOf w' w.heap.size Y (orE (hasM M id)).e) ∧ Below w.heap.size w w' := by
  obtain ⟨V0, hV0⟩ : ∃ V0, V0 = w.alloc (.cells (encE zeroE).toArray 31) := ⟨_, rfl⟩
  have HBW : Hid (Below w.heap.size w V0) := by rw [hV0]; exact (Below.refl _ _).alloc (Nat.le_refl _) _
  have HM0 : Hid (EntMine V0 w.heap.size zeroE) := by rw [hV0]; exact EntMine.made w 31 zeroE
  have HV0 : Hid (w.alloc (.cells (encE zeroE).toArray 31) = V0) := hV0.symm
  rw [zeroE_cells] at HV0
  obtain ⟨a0, c0, hc1, hc2, hc3, hcell, hent, hblk⟩ := h.open
  obtain ⟨N0, hN0⟩ : ∃ N0, N0 = M.length := ⟨_, rfl⟩
  have hM : N0 ≤ 100 := by rw [hN0]; exact h.few
  have HCE : Hid (∀ v, Below w.heap.size w v → v.cell? ⟨p, 0, none⟩ = some (.slice a0 N0 c0)) := fun v hv => by rw [hN0]; exact (hcell v hv).1
  obtain ⟨lo, hlo⟩ : ∃ k, k = placeT (ents M) id := ⟨_, rfl⟩
  obtain ⟨ok, hok⟩ : ∃ b, b = (hasM M id).isSome := ⟨_, rfl⟩
  have CF : Hid (∀ u, Below w.heap.size w u → Calls Tryz.prog 89 #[.pointer (some ⟨p, 0, none⟩), .int .i64 id] u fun e w' => e = .returned (.tuple #[.int .i64 (lo : Nat), .bool ok]) ∧ Below u.heap.size u w') := fun u hb => by rw [hlo, hok]; exact pfind_any p M X id u (h.past hb)
  cases hhas : hasM M id with
  | none =>
    rw [hhas] at hok
    obtain rfl : ok = false := hok
    clear hV0 hcell hent hblk hN0 hhas hlo h
    go_enter Tryz.func48, Tryz.ntmps48
    go_wp2_with (first | (go_at_call 89; rw [HV0.out]; refine (CF.out _ HBW.out).mono ?_; rintro e w1 ⟨rfl, hb1⟩; have B1 : Hid (Below V0.heap.size V0 w1) := hb1; have HM1 : Hid (EntMine w1 w.heap.size zeroE) := HM0.out.past hb1; clear hb1 CF HM0) | (have hgo := HM1.out; clear hgo; refine wpList_store_pent (.tmp 4) (by rfl) _ (by rfl) w.heap.size zeroE zeroE (by rfl) (by rfl) HM1.out ?_; intro u2 hu; have HM2 : Hid (EntMine u2 w.heap.size zeroE) := hu ▸ HM1.out.store; have HB2 : Hid (Below w.heap.size w u2) := hu ▸ below_cells (Nat.le_refl _) (HBW.out.trans (B1.out.mono HBW.out.size)); clear hu HM1))
    refine bodyPost_ret (results_pent rfl _ _ w.heap.size zeroE rfl HM2.out.at_) rfl ?_
    exact ⟨⟨zeroE, rfl, ⟨rfl, entW_zero _, fun h => absurd rfl h⟩⟩, HB2.out⟩
  | some x =>
    rw [hhas] at hok
    obtain rfl : ok = true := hok
    obtain ⟨hxl, hxid⟩ := hasE_at h.tab hhas
    rw [← hlo] at hxl
    have hlol : lo < N0 := by rw [hN0]; exact (List.getElem?_eq_some_iff.1 hxl).1
    obtain ⟨g, hag, HG⟩ := hent lo x hxl
    have hcl : lo < c0 := by omega
    have hlo0 : (0 : Int) ≤ (lo : Int) := by omega
    have hloI : (lo : Int) < (N0 : Int) := by omega
    have CT : Hid (∀ u, Below w.heap.size w u → Calls Tryz.prog 93 #[ev x] u fun e w' => ∃ Y, e = .returned (ev Y) ∧ EntOf w' (u.heap.size + 2) Y x.e ∧ Below u.heap.size u w') := fun u hb => by
      have hex := (h.wrs x (List.mem_of_getElem? hxl)).past hb
      refine (ptold_any x u hex).mono ?_
      rintro e w' ⟨a', c', rfl, ho, hb'⟩
      obtain ⟨k1, k2, k3⟩ := own_wrts ho rfl hex.wr.oks
      exact ⟨_, rfl, ⟨rfl, ⟨k2, k1, hex.few, hex.ok⟩, k3⟩, hb'⟩
    rw [hag] at HCE
    clear hV0 hcell hent hblk hhas hlo h hxl hxid hN0 hag
    go_enter Tryz.func48, Tryz.ntmps48
    go_wp2_with (first | (go_at_call 89; rw [HV0.out]; refine (CF.out _ HBW.out).mono ?_; rintro e w1 ⟨rfl, hb1⟩; have B1 : Hid (Below w.heap.size w w1) := HBW.out.trans (hb1.mono HBW.out.size); have HM1 : Hid (EntMine w1 w.heap.size zeroE) := HM0.out.past hb1; have q0 := HCE.out w1 B1.out; have E1 : Hid (EntAt w1 g (lo * 6) x) := HG.out w1 B1.out; clear hb1 CF HM0) | ((with_reducible show wpList _ _ _ (Oper.mk (some 23) _ _ _ _ _ :: _) _ _); refine wpList_load_pent 23 (by rfl) (by rfl) _ (by rfl) g (lo * 6) (by rfl) x E1.out ?_) | (go_at_call 93; refine (CT.out _ B1.out).mono ?_; rintro e w2 ⟨Y, rfl, hY, hb2⟩; have HY : Hid (EntOf w2 (w1.heap.size + 2) Y x.e) := hY; have B2 : Hid (Below w.heap.size w w2) := B1.out.trans (hb2.mono B1.out.size); have HM2 : Hid (EntMine w2 w.heap.size zeroE) := HM1.out.past hb2; clear hY hb2 HM1) | (have hgo := HM2.out; clear hgo; refine wpList_store_pent (.tmp 4) (by rfl) _ (by rfl) w.heap.size zeroE Y (by rfl) (by rfl) HM2.out ?_; intro u3 hu; have HM3 : Hid (EntMine u3 w.heap.size Y) := hu ▸ HM2.out.store; have HU3 : Hid (u3 = w2.setCells w.heap.size 0 (encE Y)) := hu; clear hu HM2))
    refine bodyPost_ret (results_pent rfl _ _ w.heap.size Y rfl HM3.out.at_) rfl ?_
    have hs := B1.out.size
    refine ⟨⟨Y, rfl, HY.out.is, HY.out.ent.kept (fun hl b o e => ?_), fun hl b o e => ?_⟩, by rw [HU3.out]; exact below_cells (Nat.le_refl _) B2.out⟩
    · have := HY.out.new hl b o e
      rw [HU3.out]
      exact cells_else (w := w) (by omega) _ _ _
    · have := HY.out.new hl b o e
      omega
/-- The entry that holds a key, in every world behind. -/
theorem hold_facts {w : World} {p : Nat} {M : List EntM} {X : Foot} (h : PTab w p M X) {k : List Int} {x : EntM} (hx : holdM M k = some x) {i : Int} (hi : ∀ x, holdM M k = some x → ∃ j : Nat, i = j ∧ j < M.length ∧ M[j]? = some x) : ∃ (j g c : Nat), i = j ∧ j < M.length ∧ M.length ≤ c ∧ Hid (∀ v, Below w.heap.size w v → v.cell? ⟨p, 0, none⟩ = some (.slice (some ⟨g, 0, none⟩) M.length c) ∧ v.cell? ⟨g, j * 6, none⟩ = some (.int .i64 x.e.id) ∧ v.cell? ⟨g, j * 6 + 3, none⟩ = some (.int .i64 x.e.t) ∧ v.cell? ⟨g, j * 6 + 4, none⟩ = some (.int .u8 x.e.n)) := by
  obtain ⟨a, c, hc1, hc2, hc3, hcell, hent, _⟩ := h.open
  obtain ⟨j, e, hj, hjx⟩ := hi x hx
  obtain ⟨g, hag, HG⟩ := hent j x hjx
  refine ⟨j, g, c, e, hj, hc1, fun v hv => ?_⟩
  have hcs := (HG.out v hv).cells
  rw [← hag]
  exact ⟨(hcell v hv).1, hcs.1, hcs.2.2.2.1, hcs.2.2.2.2.1⟩
set_option maxHeartbeats 4000000 in
theorem pholder_any (p : Nat) (M : List EntM) (X : Foot) (k : List Int) (hk : Ky k) (w : World) (h : PTab w p M X) :
    Calls Tryz.prog 86 #[.pointer (some ⟨p, 0, none⟩), kv k] w fun e w' => e = .returned (.tuple #[.int .i64 (orE (holdM M k)).e.id, .bool (holdM M k).isSome]) ∧ Below w.heap.size w w' := by
  have HB1 : Hid (Below w.heap.size w (w.alloc (.cells (kcs k) 38))) := (Below.refl _ _).alloc (Nat.le_refl _) _
  have FK : Hid (KeyAt (w.alloc (.cells (kcs k) 38)) w.heap.size 0 k) := KeyAt.made w 38 k hk
  have KY : Hid (Ky k) := hk
  have HT : Hid (PTab w p M X) := h
  have hfew := h.few
  obtain ⟨ok, hok⟩ : ∃ b, b = (holdM M k).isSome := ⟨_, rfl⟩
  have CH : Hid (∀ u, Below w.heap.size w u → Calls Tryz.prog 102 #[.pointer (some ⟨p, 0, none⟩), kv k] u fun e w' => (∃ i : Int, e = .returned (.tuple #[.int .i64 i, .bool ok]) ∧ ∀ x, holdM M k = some x → ∃ j : Nat, i = j ∧ j < M.length ∧ M[j]? = some x) ∧ Below u.heap.size u w') := fun u hb => by rw [hok]; exact pholding_any p M X k hk u (h.past hb)
  cases hh : holdM M k with
  | none =>
    rw [hh] at hok CH
    obtain rfl : ok = false := hok
    clear h hk hh
    go_enter Tryz.func86, Tryz.ntmps86
    go_wp2_with (first | ((with_reducible show wpList _ _ _ (Oper.mk (some 10) _ _ _ _ _ :: _) _ _); refine wpList_load_keyD 10 (by rfl) (by rfl) _ (by rfl) w.heap.size 0 (by rfl) k KY.out FK.out ?_) | (go_at_call 102; refine (CH.out _ HB1.out).mono ?_; rintro e w2 ⟨⟨i, rfl, _⟩, hb2⟩; have HB2 : Hid (Below w.heap.size w w2) := HB1.out.trans (hb2.mono HB1.out.size); clear hb2))
    go_ret2
    exact ⟨rfl, HB2.out⟩
  | some x =>
    rw [hh] at hok
    obtain rfl : ok = true := hok
    obtain ⟨xi, hxi⟩ : ∃ z, z = x.e.id := ⟨_, rfl⟩
    have CH2 : Hid (∀ u, Below w.heap.size w u → Calls Tryz.prog 102 #[.pointer (some ⟨p, 0, none⟩), kv k] u fun e w' => ∃ (j g c N : Nat), e = .returned (.tuple #[.int .i64 (j : Int), .bool true]) ∧ j < N ∧ N ≤ c ∧ N ≤ 100 ∧ w'.cell? ⟨p, 0, none⟩ = some (.slice (some ⟨g, 0, none⟩) N c) ∧ w'.cell? ⟨g, j * 6, none⟩ = some (.int .i64 xi) ∧ Hid (Below u.heap.size u w')) := fun u hb => by
      refine (CH.out u hb).mono ?_
      rintro e w' ⟨⟨i, rfl, hi⟩, hb'⟩
      obtain ⟨j, g, c, rfl, hj, hc, HF⟩ := hold_facts (HT.out.past hb) hh hi
      obtain ⟨f1, f2, _⟩ := HF.out w' hb'
      exact ⟨j, g, c, M.length, rfl, hj, hc, hfew, f1, by rw [hxi]; exact f2, hb'⟩
    have HXI : Hid (xi = x.e.id) := hxi
    clear h hk hh CH hxi
    go_enter Tryz.func86, Tryz.ntmps86
    go_wp2_with (first | ((with_reducible show wpList _ _ _ (Oper.mk (some 10) _ _ _ _ _ :: _) _ _); refine wpList_load_keyD 10 (by rfl) (by rfl) _ (by rfl) w.heap.size 0 (by rfl) k KY.out FK.out ?_) | (go_at_call 102; refine (CH2.out _ HB1.out).mono ?_; rintro e w2 ⟨j, g, c, N, rfl, hj, hc, hN, f1, f2, hb2⟩; have HB2 : Hid (Below w.heap.size w w2) := HB1.out.trans (hb2.out.mono HB1.out.size); have hj0 : (0 : Int) ≤ (j : Int) := (by omega); have hjN : (j : Int) < (N : Int) := (by omega); clear hb2))
    go_ret2
    exact ⟨by rw [HXI.out]; rfl, HB2.out⟩
set_option maxHeartbeats 4000000 in
set_option maxRecDepth 4000 in
theorem pblocks_any (p : Nat) (M : List EntM) (X : Foot) (k : List Int) (hk : Ky k) (t n : Int) (w : World) (h : PTab w p M X) :
    Calls Tryz.prog 53 #[.pointer (some ⟨p, 0, none⟩), kv k, .agg #[.int .i64 t, .int .u8 n]] w fun e w' => e = .returned (.tuple #[.int .i64 ((blocksT (ents M) k t n).getD 0), .bool (blocksT (ents M) k t n).isSome]) ∧ Below w.heap.size w w' := by
  obtain ⟨w1, hw1⟩ : ∃ u, u = (w.alloc (.cells (kcs k) 38)).alloc (.cells #[.int .i64 t, .int .u8 n] 28) := ⟨_, rfl⟩
  have hk1 : KeyAt w1 w.heap.size 0 k := by rw [hw1]; exact (KeyAt.made w 38 k hk).past ((Below.refl _ _).alloc (Nat.le_refl _) _)
  have HB1 : Hid (Below w.heap.size w w1) := by rw [hw1]; exact ((Below.refl _ _).alloc (Nat.le_refl _) _).alloc (by simp) _
  have FT0 : w1.cell? ⟨w.heap.size + 1, 0, none⟩ = some (.int .i64 t) ∧ w1.cell? ⟨w.heap.size + 1, 1, none⟩ = some (.int .u8 n) := by
    have e : ∀ o, w1.cell? ⟨w.heap.size + 1, o, none⟩ = (#[.int .i64 t, .int .u8 n] : Array Value)[o]? := fun o => by
      have := World.cell?_alloc_new (w.alloc (.cells (kcs k) 38)) #[.int .i64 t, .int .u8 n] 28 o
      rw [World.size_alloc] at this
      rw [hw1, this]
    exact ⟨e 0, e 1⟩
  have FT : Hid (∀ u, Below w1.heap.size w1 u → u.cell? ⟨w.heap.size + 1, 0, none⟩ = some (.int .i64 t) ∧ u.cell? ⟨w.heap.size + 1, 1, none⟩ = some (.int .u8 n)) := fun u hb => ⟨(hb.cell (p := ⟨w.heap.size + 1, 0, none⟩) (cell_lt FT0.1)).trans FT0.1, (hb.cell (p := ⟨w.heap.size + 1, 1, none⟩) (cell_lt FT0.1)).trans FT0.2⟩
  have FK : Hid (KeyAt w1 w.heap.size 0 k) := hk1
  have KY : Hid (Ky k) := hk
  have HT : Hid (PTab w p M X) := h
  have hfew := h.few
  have HW1 : Hid ((w.alloc (.cells (kcs k) 38)).alloc (.cells #[.int .i64 t, .int .u8 n] 28) = w1) := hw1.symm
  have hcode := blocks_code M k t n
  obtain ⟨R, hR⟩ : ∃ R, R = blocksT (ents M) k t n := ⟨_, rfl⟩
  rw [← hR] at hcode ⊢
  obtain ⟨ok, hok⟩ : ∃ b, b = (holdM M k).isSome := ⟨_, rfl⟩
  have CH : Hid (∀ u, Below w.heap.size w u → Calls Tryz.prog 102 #[.pointer (some ⟨p, 0, none⟩), kv k] u fun e w' => (∃ i : Int, e = .returned (.tuple #[.int .i64 i, .bool ok]) ∧ ∀ x, holdM M k = some x → ∃ j : Nat, i = j ∧ j < M.length ∧ M[j]? = some x) ∧ Below u.heap.size u w') := fun u hb => by rw [hok]; exact pholding_any p M X k hk u (h.past hb)
  cases hh : holdM M k with
  | none =>
    rw [hh] at hok CH hcode
    obtain rfl : ok = false := hok
    have HR : Hid (R = none) := hcode
    clear h hk hh hcode hR hk1 FT0 hw1
    go_enter Tryz.func53, Tryz.ntmps53
    go_wp2_with (first | ((with_reducible show wpList _ _ _ (Oper.mk (some 12) _ _ _ _ _ :: _) _ _); rw [HW1.out]; refine wpList_load_keyD 12 (by rfl) (by rfl) _ (by rfl) w.heap.size 0 (by rfl) k KY.out FK.out ?_) | (go_at_call 102; refine (CH.out _ HB1.out).mono ?_; rintro e w2 ⟨⟨i, rfl, _⟩, hb2⟩; have HB2 : Hid (Below w.heap.size w w2) := HB1.out.trans (hb2.mono HB1.out.size); clear hb2))
    refine wp_region_noPanic ?_
    refine wp_region_held_drew (S := fun u => Below w2.heap.size w2 u) (by kernel_rfl) ?_ (fun hHeld => ?_)
    · exact (Below.refl _ _).drew
    refine wpAnyH_take (i := 0) (v := ?_) rfl (by kernel_rfl) (by kernel_rfl) (by kernel_rfl) (fun _ _ _ h => h) (Or.inl ⟨by rfl, ?_⟩) hHeld ?_
    rotate_left
    · intro u hSu
      (go_simp) <;> (with_reducible rfl)
    change wpAnyH _ _ _ _ _ _ _ (Act.put _ (some 16) _) _
    simp only [Act.put, List.setIfInBounds_toArray, List.set_cons_zero, List.set_cons_succ]
    refine wpAnyH_take (i := 1) (v := ?_) rfl (by kernel_rfl) (by kernel_rfl) (by kernel_rfl) (fun _ _ _ h => h) (Or.inl ⟨by rfl, ?_⟩) hHeld ?_
    rotate_left
    · intro u hSu
      (go_simp) <;> (with_reducible rfl)
    change wpAnyH _ _ _ _ _ _ _ (Act.put _ (some 17) _) _
    simp only [Act.put, List.setIfInBounds_toArray, List.set_cons_zero, List.set_cons_succ]
    refine wpAnyH_take (i := 2) (v := ?_) rfl (by kernel_rfl) (by kernel_rfl) (by kernel_rfl) (fun _ _ _ h => h) (Or.inl ⟨by rfl, ?_⟩) hHeld ?_
    rotate_left
    · intro u hSu
      (go_simp) <;> (with_reducible rfl)
    change wpAnyH _ _ _ _ _ _ _ (Act.put _ (some 18) _) _
    simp only [Act.put, List.setIfInBounds_toArray, List.set_cons_zero, List.set_cons_succ]
    refine wpAnyH_take (i := 3) (v := undef) rfl (by kernel_rfl) (by kernel_rfl) (by kernel_rfl) (fun _ _ _ h => h) (Or.inr ⟨by rfl, rfl⟩) hHeld ?_
    change wpAnyH _ _ _ _ _ _ _ (Act.put _ (some 19) _) _
    simp only [Act.put, List.setIfInBounds_toArray, List.set_cons_zero, List.set_cons_succ]
    refine wpAnyH_take (i := 4) (v := undef) rfl (by kernel_rfl) (by kernel_rfl) (by kernel_rfl) (fun _ _ _ h => h) (Or.inr ⟨by rfl, rfl⟩) hHeld ?_
    change wpAnyH _ _ _ _ _ _ _ (Act.put _ (some 20) _) _
    simp only [Act.put, List.setIfInBounds_toArray, List.set_cons_zero, List.set_cons_succ]
    refine wpAnyH_take (i := 5) (v := undef) rfl (by kernel_rfl) (by kernel_rfl) (by kernel_rfl) (fun _ _ _ h => h) (Or.inr ⟨by rfl, rfl⟩) hHeld ?_
    change wpAnyH _ _ _ _ _ _ _ (Act.put _ (some 21) _) _
    simp only [Act.put, List.setIfInBounds_toArray, List.set_cons_zero, List.set_cons_succ]
    refine wpAnyH_take (i := 6) (v := undef) rfl (by kernel_rfl) (by kernel_rfl) (by kernel_rfl) (fun _ _ _ h => h) (Or.inr ⟨by rfl, rfl⟩) hHeld ?_
    change wpAnyH _ _ _ _ _ _ _ (Act.put _ (some 22) _) _
    simp only [Act.put, List.setIfInBounds_toArray, List.set_cons_zero, List.set_cons_succ]
    refine wpAnyH_take (i := 7) (v := undef) rfl (by kernel_rfl) (by kernel_rfl) (by kernel_rfl) (fun _ _ _ h => h) (Or.inr ⟨by rfl, rfl⟩) hHeld ?_
    change wpAnyH _ _ _ _ _ _ _ (Act.put _ (some 23) _) _
    simp only [Act.put, List.setIfInBounds_toArray, List.set_cons_zero, List.set_cons_succ]
    refine wpAnyH_take (i := 8) (v := undef) rfl (by kernel_rfl) (by kernel_rfl) (by kernel_rfl) (fun _ _ _ h => h) (Or.inr ⟨by rfl, rfl⟩) hHeld ?_
    change wpAnyH _ _ _ _ _ _ _ (Act.put _ (some 24) _) _
    simp only [Act.put, List.setIfInBounds_toArray, List.set_cons_zero, List.set_cons_succ]
    refine wpAnyH_take (i := 9) (v := undef) rfl (by kernel_rfl) (by kernel_rfl) (by kernel_rfl) (fun _ _ _ h => h) (Or.inr ⟨by rfl, rfl⟩) hHeld ?_
    change wpAnyH _ _ _ _ _ _ _ (Act.put _ (some 25) _) _
    simp only [Act.put, List.setIfInBounds_toArray, List.set_cons_zero, List.set_cons_succ]
    refine wpAnyH_take (i := 10) (v := undef) rfl (by kernel_rfl) (by kernel_rfl) (by kernel_rfl) (fun _ _ _ h => h) (Or.inr ⟨by rfl, rfl⟩) hHeld ?_
    change wpAnyH _ _ _ _ _ _ _ (Act.put _ (some 26) _) _
    simp only [Act.put, List.setIfInBounds_toArray, List.set_cons_zero, List.set_cons_succ]
    refine wpAnyH_take (i := 11) (v := undef) rfl (by kernel_rfl) (by kernel_rfl) (by kernel_rfl) (fun _ _ _ h => h) (Or.inr ⟨by rfl, rfl⟩) hHeld ?_
    change wpAnyH _ _ _ _ _ _ _ (Act.put _ (some 27) _) _
    simp only [Act.put, List.setIfInBounds_toArray, List.set_cons_zero, List.set_cons_succ]
    refine wpAnyH_take (i := 12) (v := undef) rfl (by kernel_rfl) (by kernel_rfl) (by kernel_rfl) (fun _ _ _ h => h) (Or.inr ⟨by rfl, rfl⟩) hHeld ?_
    change wpAnyH _ _ _ _ _ _ _ (Act.put _ (some 28) _) _
    simp only [Act.put, List.setIfInBounds_toArray, List.set_cons_zero, List.set_cons_succ]
    refine wpAnyH_take (i := 13) (v := undef) rfl (by kernel_rfl) (by kernel_rfl) (by kernel_rfl) (fun _ _ _ h => h) (Or.inr ⟨by rfl, rfl⟩) hHeld ?_
    change wpAnyH _ _ _ _ _ _ _ (Act.put _ (some 29) _) _
    simp only [Act.put, List.setIfInBounds_toArray, List.set_cons_zero, List.set_cons_succ]
    refine wpAnyH_take (i := 14) (v := ?_) rfl (by kernel_rfl) (by kernel_rfl) (by kernel_rfl) (fun _ _ _ h => h) (Or.inl ⟨by rfl, ?_⟩) hHeld ?_
    rotate_left
    · intro u hSu
      (go_simp) <;> (with_reducible rfl)
    change wpAnyH _ _ _ _ _ _ _ (Act.put _ (some 30) _) _
    simp only [Act.put, List.setIfInBounds_toArray, List.set_cons_zero, List.set_cons_succ]
    refine wpAnyH_done (by kernel_rfl) ?_ _
    refine NoPanic.normal ?_
    go_wp2
    go_ret2
    exact ⟨by rw [HR.out]; rfl, HB2.out.drew⟩
  | some x =>
    rw [hh] at hok hcode
    obtain rfl : ok = true := hok
    obtain ⟨xi, hxi⟩ : ∃ z, z = x.e.id := ⟨_, rfl⟩
    obtain ⟨xt, hxt⟩ : ∃ z, z = x.e.t := ⟨_, rfl⟩
    obtain ⟨xn, hxn⟩ : ∃ z, z = x.e.n := ⟨_, rfl⟩
    obtain ⟨c1, hc1⟩ : ∃ c, c = cmpS xt xn t n := ⟨_, rfl⟩
    have hcode2 : R = if 0 < c1 then none else some xi := by rw [hcode, hc1, hxt, hxn, hxi]; rfl
    have CC : Hid (∀ u, Calls Tryz.prog 49 #[.agg #[.int .i64 xt, .int .u8 xn], .agg #[.int .i64 t, .int .u8 n]] u fun e w' => e = .returned (.int .i64 c1) ∧ Below u.heap.size u w') := fun u => by rw [hc1]; exact scmp_any xt xn t n u
    have CH2 : Hid (∀ u, Below w.heap.size w u → Calls Tryz.prog 102 #[.pointer (some ⟨p, 0, none⟩), kv k] u fun e w' => ∃ (j g c N : Nat), e = .returned (.tuple #[.int .i64 (j : Int), .bool true]) ∧ j < N ∧ N ≤ c ∧ N ≤ 100 ∧ Hid (∀ v, Below w'.heap.size w' v → v.cell? ⟨p, 0, none⟩ = some (.slice (some ⟨g, 0, none⟩) N c) ∧ v.cell? ⟨g, j * 6, none⟩ = some (.int .i64 xi) ∧ v.cell? ⟨g, j * 6 + 3, none⟩ = some (.int .i64 xt) ∧ v.cell? ⟨g, j * 6 + 4, none⟩ = some (.int .u8 xn)) ∧ Hid (Below u.heap.size u w')) := fun u hb => by
      refine (CH.out u hb).mono ?_
      rintro e w' ⟨⟨i, rfl, hi⟩, hb'⟩
      obtain ⟨j, g, c, rfl, hj, hc, HF⟩ := hold_facts (HT.out.past hb) hh hi
      refine ⟨j, g, c, M.length, rfl, hj, hc, hfew, fun v hv => ?_, hb'⟩
      rw [hxi, hxt, hxn]
      exact HF.out v (hb'.trans (hv.mono hb'.size))
    clear h hk hh hcode hR hk1 FT0 hw1 CH hxi hxt hxn hc1
    by_cases hc0 : 0 < c1
    · have bc : decide (0 < c1) = true := decide_eq_true hc0
      have HR : Hid (R = none) := by rw [if_pos hc0] at hcode2; exact hcode2
      clear hcode2 hc0
      go_enter Tryz.func53, Tryz.ntmps53
      go_wp2_with (first | ((with_reducible show wpList _ _ _ (Oper.mk (some 12) _ _ _ _ _ :: _) _ _); rw [HW1.out]; refine wpList_load_keyD 12 (by rfl) (by rfl) _ (by rfl) w.heap.size 0 (by rfl) k KY.out FK.out ?_) | (go_at_call 102; refine (CH2.out _ HB1.out).mono ?_; rintro e w2 ⟨j, g, c, N, rfl, hj, hc, hN, HF, hb2⟩; have HB2 : Hid (Below w.heap.size w w2) := HB1.out.trans (hb2.out.mono HB1.out.size); have FT2 : Hid (∀ u, Below w2.heap.size w2 u → u.cell? ⟨w.heap.size + 1, 0, none⟩ = some (.int .i64 t) ∧ u.cell? ⟨w.heap.size + 1, 1, none⟩ = some (.int .u8 n)) := (fun u hu => FT.out u (hb2.out.trans (hu.mono hb2.out.size))); have hj0 : (0 : Int) ≤ (j : Int) := (by omega); have hjN : (j : Int) < (N : Int) := (by omega); clear hb2))
      refine wp_region_noPanic ?_
      refine wp_region_held_drew (S := fun u => Below w2.heap.size w2 u) (by kernel_rfl) ?_ (fun hHeld => ?_)
      · exact (Below.refl _ _).drew
      refine wpAnyH_take (i := 0) (v := ?_) rfl (by kernel_rfl) (by kernel_rfl) (by kernel_rfl) (fun _ _ _ h => h) (Or.inl ⟨by rfl, ?_⟩) hHeld ?_
      rotate_left
      · intro u hSu
        (go_simp) <;> (with_reducible rfl)
      change wpAnyH _ _ _ _ _ _ _ (Act.put _ (some 16) _) _
      simp only [Act.put, List.setIfInBounds_toArray, List.set_cons_zero, List.set_cons_succ]
      refine wpAnyH_take (i := 1) (v := ?_) rfl (by kernel_rfl) (by kernel_rfl) (by kernel_rfl) (fun _ _ _ h => h) (Or.inl ⟨by rfl, ?_⟩) hHeld ?_
      rotate_left
      · intro u hSu
        (go_simp) <;> (with_reducible rfl)
      change wpAnyH _ _ _ _ _ _ _ (Act.put _ (some 17) _) _
      simp only [Act.put, List.setIfInBounds_toArray, List.set_cons_zero, List.set_cons_succ]
      refine wpAnyH_take (i := 2) (v := ?_) rfl (by kernel_rfl) (by kernel_rfl) (by kernel_rfl) (fun _ _ _ h => h) (Or.inl ⟨by rfl, ?_⟩) hHeld ?_
      rotate_left
      · intro u hSu
        (go_simp) <;> (with_reducible rfl)
      change wpAnyH _ _ _ _ _ _ _ (Act.put _ (some 18) _) _
      simp only [Act.put, List.setIfInBounds_toArray, List.set_cons_zero, List.set_cons_succ]
      refine wpAnyH_take (i := 3) (v := ?_) rfl (by kernel_rfl) (by kernel_rfl) (by kernel_rfl) (fun _ _ _ h => h) (Or.inl ⟨by rfl, ?_⟩) hHeld ?_
      rotate_left
      · intro u hSu
        (go_simp) <;> (with_reducible rfl)
      change wpAnyH _ _ _ _ _ _ _ (Act.put _ (some 19) _) _
      simp only [Act.put, List.setIfInBounds_toArray, List.set_cons_zero, List.set_cons_succ]
      refine wpAnyH_take (i := 4) (v := ?_) rfl (by kernel_rfl) (by kernel_rfl) (by kernel_rfl) (fun _ _ _ h => h) (Or.inl ⟨by rfl, ?_⟩) hHeld ?_
      rotate_left
      · intro u hSu
        (go_simp) <;> (with_reducible rfl)
      change wpAnyH _ _ _ _ _ _ _ (Act.put _ (some 20) _) _
      simp only [Act.put, List.setIfInBounds_toArray, List.set_cons_zero, List.set_cons_succ]
      refine wpAnyH_take (i := 5) (v := ?_) rfl (by kernel_rfl) (by kernel_rfl) (by kernel_rfl) (fun _ _ _ h => h) (Or.inl ⟨by rfl, ?_⟩) hHeld ?_
      rotate_left
      · intro u hSu
        (go_simp) <;> (with_reducible rfl)
      change wpAnyH _ _ _ _ _ _ _ (Act.put _ (some 21) _) _
      simp only [Act.put, List.setIfInBounds_toArray, List.set_cons_zero, List.set_cons_succ]
      refine wpAnyH_take (i := 6) (v := ?_) rfl (by kernel_rfl) (by kernel_rfl) (by kernel_rfl) (fun _ _ _ h => h) (Or.inl ⟨by rfl, ?_⟩) hHeld ?_
      rotate_left
      · intro u hSu
        obtain ⟨f1, f2, f3, f4⟩ := HF.out u hSu
        (go_simp) <;> (with_reducible rfl)
      change wpAnyH _ _ _ _ _ _ _ (Act.put _ (some 22) _) _
      simp only [Act.put, List.setIfInBounds_toArray, List.set_cons_zero, List.set_cons_succ]
      refine wpAnyH_take (i := 7) (v := ?_) rfl (by kernel_rfl) (by kernel_rfl) (by kernel_rfl) (fun _ _ _ h => h) (Or.inl ⟨by rfl, ?_⟩) hHeld ?_
      rotate_left
      · intro u hSu
        (go_simp) <;> (with_reducible rfl)
      change wpAnyH _ _ _ _ _ _ _ (Act.put _ (some 23) _) _
      simp only [Act.put, List.setIfInBounds_toArray, List.set_cons_zero, List.set_cons_succ]
      refine wpAnyH_take (i := 8) (v := ?_) rfl (by kernel_rfl) (by kernel_rfl) (by kernel_rfl) (fun _ _ _ h => h) (Or.inl ⟨by rfl, ?_⟩) hHeld ?_
      rotate_left
      · intro u hSu
        (go_simp) <;> (with_reducible rfl)
      change wpAnyH _ _ _ _ _ _ _ (Act.put _ (some 24) _) _
      simp only [Act.put, List.setIfInBounds_toArray, List.set_cons_zero, List.set_cons_succ]
      refine wpAnyH_take (i := 9) (v := ?_) rfl (by kernel_rfl) (by kernel_rfl) (by kernel_rfl) (fun _ _ _ h => h) (Or.inl ⟨by rfl, ?_⟩) hHeld ?_
      rotate_left
      · intro u hSu
        (go_simp) <;> (with_reducible rfl)
      change wpAnyH _ _ _ _ _ _ _ (Act.put _ (some 25) _) _
      simp only [Act.put, List.setIfInBounds_toArray, List.set_cons_zero, List.set_cons_succ]
      refine wpAnyH_take (i := 10) (v := ?_) rfl (by kernel_rfl) (by kernel_rfl) (by kernel_rfl) (fun _ _ _ h => h) (Or.inl ⟨by rfl, ?_⟩) hHeld ?_
      rotate_left
      · intro u hSu
        obtain ⟨f1, f2, f3, f4⟩ := HF.out u hSu
        (go_simp) <;> (with_reducible rfl)
      change wpAnyH _ _ _ _ _ _ _ (Act.put _ (some 26) _) _
      simp only [Act.put, List.setIfInBounds_toArray, List.set_cons_zero, List.set_cons_succ]
      refine wpAnyH_take (i := 11) (v := ?_) rfl (by kernel_rfl) (by kernel_rfl) (by kernel_rfl) (fun _ _ _ h => h) (Or.inl ⟨by rfl, ?_⟩) hHeld ?_
      rotate_left
      · intro u hSu
        obtain ⟨f1, f2⟩ := FT2.out u hSu
        (go_simp) <;> (with_reducible rfl)
      change wpAnyH _ _ _ _ _ _ _ (Act.put _ (some 27) _) _
      simp only [Act.put, List.setIfInBounds_toArray, List.set_cons_zero, List.set_cons_succ]
      refine wpAnyH_ready (rs := [12]) (by kernel_rfl) (by simp) ?_
      refine AllReadyH.cons rfl (fun K hK => ?_) AllReadyH.nil
      go_simp
      go_at_call 49
      refine (CC.out _).mono ?_
      rintro e w3 ⟨rfl, hbw3⟩
      have B3 : Hid (Below w2.heap.size w2 w3) := hHeld.trans (hbw3.mono hHeld.size)
      clear hbw3
      refine hK.out _ _ ?_ (fun hHeld2 => ?_)
      · exact B3.out
      clear hK K hHeld
      have hHeld := hHeld2
      clear hHeld2
      refine wpAnyH_take (i := 13) (v := ?_) rfl (by kernel_rfl) (by kernel_rfl) (by kernel_rfl) (fun _ _ _ h => h) (Or.inl ⟨by rfl, ?_⟩) hHeld ?_
      rotate_left
      · intro u hSu
        (go_simp) <;> (with_reducible rfl)
      change wpAnyH _ _ _ _ _ _ _ (Act.put _ (some 29) _) _
      simp only [Act.put, List.setIfInBounds_toArray, List.set_cons_zero, List.set_cons_succ]
      refine wpAnyH_take (i := 14) (v := ?_) rfl (by kernel_rfl) (by kernel_rfl) (by kernel_rfl) (fun _ _ _ h => h) (Or.inl ⟨by rfl, ?_⟩) hHeld ?_
      rotate_left
      · intro u hSu
        (go_simp) <;> (with_reducible rfl)
      change wpAnyH _ _ _ _ _ _ _ (Act.put _ (some 30) _) _
      simp only [Act.put, List.setIfInBounds_toArray, List.set_cons_zero, List.set_cons_succ]
      refine wpAnyH_done (by kernel_rfl) ?_ _
      refine NoPanic.normal ?_
      go_wp2
      go_ret2
      exact ⟨by rw [HR.out]; rfl, HB2.out.trans (B3.out.mono HB2.out.size)⟩
    · have bc : decide (0 < c1) = false := decide_eq_false hc0
      have HR : Hid (R = some xi) := by rw [if_neg hc0] at hcode2; exact hcode2
      clear hcode2 hc0
      go_enter Tryz.func53, Tryz.ntmps53
      go_wp2_with (first | ((with_reducible show wpList _ _ _ (Oper.mk (some 12) _ _ _ _ _ :: _) _ _); rw [HW1.out]; refine wpList_load_keyD 12 (by rfl) (by rfl) _ (by rfl) w.heap.size 0 (by rfl) k KY.out FK.out ?_) | (go_at_call 102; refine (CH2.out _ HB1.out).mono ?_; rintro e w2 ⟨j, g, c, N, rfl, hj, hc, hN, HF, hb2⟩; have HB2 : Hid (Below w.heap.size w w2) := HB1.out.trans (hb2.out.mono HB1.out.size); have FT2 : Hid (∀ u, Below w2.heap.size w2 u → u.cell? ⟨w.heap.size + 1, 0, none⟩ = some (.int .i64 t) ∧ u.cell? ⟨w.heap.size + 1, 1, none⟩ = some (.int .u8 n)) := (fun u hu => FT.out u (hb2.out.trans (hu.mono hb2.out.size))); have hj0 : (0 : Int) ≤ (j : Int) := (by omega); have hjN : (j : Int) < (N : Int) := (by omega); clear hb2))
      refine wp_region_noPanic ?_
      refine wp_region_held_drew (S := fun u => Below w2.heap.size w2 u) (by kernel_rfl) ?_ (fun hHeld => ?_)
      · exact (Below.refl _ _).drew
      refine wpAnyH_take (i := 0) (v := ?_) rfl (by kernel_rfl) (by kernel_rfl) (by kernel_rfl) (fun _ _ _ h => h) (Or.inl ⟨by rfl, ?_⟩) hHeld ?_
      rotate_left
      · intro u hSu
        (go_simp) <;> (with_reducible rfl)
      change wpAnyH _ _ _ _ _ _ _ (Act.put _ (some 16) _) _
      simp only [Act.put, List.setIfInBounds_toArray, List.set_cons_zero, List.set_cons_succ]
      refine wpAnyH_take (i := 1) (v := ?_) rfl (by kernel_rfl) (by kernel_rfl) (by kernel_rfl) (fun _ _ _ h => h) (Or.inl ⟨by rfl, ?_⟩) hHeld ?_
      rotate_left
      · intro u hSu
        (go_simp) <;> (with_reducible rfl)
      change wpAnyH _ _ _ _ _ _ _ (Act.put _ (some 17) _) _
      simp only [Act.put, List.setIfInBounds_toArray, List.set_cons_zero, List.set_cons_succ]
      refine wpAnyH_take (i := 2) (v := ?_) rfl (by kernel_rfl) (by kernel_rfl) (by kernel_rfl) (fun _ _ _ h => h) (Or.inl ⟨by rfl, ?_⟩) hHeld ?_
      rotate_left
      · intro u hSu
        (go_simp) <;> (with_reducible rfl)
      change wpAnyH _ _ _ _ _ _ _ (Act.put _ (some 18) _) _
      simp only [Act.put, List.setIfInBounds_toArray, List.set_cons_zero, List.set_cons_succ]
      refine wpAnyH_take (i := 3) (v := ?_) rfl (by kernel_rfl) (by kernel_rfl) (by kernel_rfl) (fun _ _ _ h => h) (Or.inl ⟨by rfl, ?_⟩) hHeld ?_
      rotate_left
      · intro u hSu
        (go_simp) <;> (with_reducible rfl)
      change wpAnyH _ _ _ _ _ _ _ (Act.put _ (some 19) _) _
      simp only [Act.put, List.setIfInBounds_toArray, List.set_cons_zero, List.set_cons_succ]
      refine wpAnyH_take (i := 4) (v := ?_) rfl (by kernel_rfl) (by kernel_rfl) (by kernel_rfl) (fun _ _ _ h => h) (Or.inl ⟨by rfl, ?_⟩) hHeld ?_
      rotate_left
      · intro u hSu
        (go_simp) <;> (with_reducible rfl)
      change wpAnyH _ _ _ _ _ _ _ (Act.put _ (some 20) _) _
      simp only [Act.put, List.setIfInBounds_toArray, List.set_cons_zero, List.set_cons_succ]
      refine wpAnyH_take (i := 5) (v := ?_) rfl (by kernel_rfl) (by kernel_rfl) (by kernel_rfl) (fun _ _ _ h => h) (Or.inl ⟨by rfl, ?_⟩) hHeld ?_
      rotate_left
      · intro u hSu
        (go_simp) <;> (with_reducible rfl)
      change wpAnyH _ _ _ _ _ _ _ (Act.put _ (some 21) _) _
      simp only [Act.put, List.setIfInBounds_toArray, List.set_cons_zero, List.set_cons_succ]
      refine wpAnyH_take (i := 6) (v := ?_) rfl (by kernel_rfl) (by kernel_rfl) (by kernel_rfl) (fun _ _ _ h => h) (Or.inl ⟨by rfl, ?_⟩) hHeld ?_
      rotate_left
      · intro u hSu
        obtain ⟨f1, f2, f3, f4⟩ := HF.out u hSu
        (go_simp) <;> (with_reducible rfl)
      change wpAnyH _ _ _ _ _ _ _ (Act.put _ (some 22) _) _
      simp only [Act.put, List.setIfInBounds_toArray, List.set_cons_zero, List.set_cons_succ]
      refine wpAnyH_take (i := 7) (v := ?_) rfl (by kernel_rfl) (by kernel_rfl) (by kernel_rfl) (fun _ _ _ h => h) (Or.inl ⟨by rfl, ?_⟩) hHeld ?_
      rotate_left
      · intro u hSu
        (go_simp) <;> (with_reducible rfl)
      change wpAnyH _ _ _ _ _ _ _ (Act.put _ (some 23) _) _
      simp only [Act.put, List.setIfInBounds_toArray, List.set_cons_zero, List.set_cons_succ]
      refine wpAnyH_take (i := 8) (v := ?_) rfl (by kernel_rfl) (by kernel_rfl) (by kernel_rfl) (fun _ _ _ h => h) (Or.inl ⟨by rfl, ?_⟩) hHeld ?_
      rotate_left
      · intro u hSu
        (go_simp) <;> (with_reducible rfl)
      change wpAnyH _ _ _ _ _ _ _ (Act.put _ (some 24) _) _
      simp only [Act.put, List.setIfInBounds_toArray, List.set_cons_zero, List.set_cons_succ]
      refine wpAnyH_take (i := 9) (v := ?_) rfl (by kernel_rfl) (by kernel_rfl) (by kernel_rfl) (fun _ _ _ h => h) (Or.inl ⟨by rfl, ?_⟩) hHeld ?_
      rotate_left
      · intro u hSu
        (go_simp) <;> (with_reducible rfl)
      change wpAnyH _ _ _ _ _ _ _ (Act.put _ (some 25) _) _
      simp only [Act.put, List.setIfInBounds_toArray, List.set_cons_zero, List.set_cons_succ]
      refine wpAnyH_take (i := 10) (v := ?_) rfl (by kernel_rfl) (by kernel_rfl) (by kernel_rfl) (fun _ _ _ h => h) (Or.inl ⟨by rfl, ?_⟩) hHeld ?_
      rotate_left
      · intro u hSu
        obtain ⟨f1, f2, f3, f4⟩ := HF.out u hSu
        (go_simp) <;> (with_reducible rfl)
      change wpAnyH _ _ _ _ _ _ _ (Act.put _ (some 26) _) _
      simp only [Act.put, List.setIfInBounds_toArray, List.set_cons_zero, List.set_cons_succ]
      refine wpAnyH_take (i := 11) (v := ?_) rfl (by kernel_rfl) (by kernel_rfl) (by kernel_rfl) (fun _ _ _ h => h) (Or.inl ⟨by rfl, ?_⟩) hHeld ?_
      rotate_left
      · intro u hSu
        obtain ⟨f1, f2⟩ := FT2.out u hSu
        (go_simp) <;> (with_reducible rfl)
      change wpAnyH _ _ _ _ _ _ _ (Act.put _ (some 27) _) _
      simp only [Act.put, List.setIfInBounds_toArray, List.set_cons_zero, List.set_cons_succ]
      refine wpAnyH_ready (rs := [12]) (by kernel_rfl) (by simp) ?_
      refine AllReadyH.cons rfl (fun K hK => ?_) AllReadyH.nil
      go_simp
      go_at_call 49
      refine (CC.out _).mono ?_
      rintro e w3 ⟨rfl, hbw3⟩
      have B3 : Hid (Below w2.heap.size w2 w3) := hHeld.trans (hbw3.mono hHeld.size)
      clear hbw3
      refine hK.out _ _ ?_ (fun hHeld2 => ?_)
      · exact B3.out
      clear hK K hHeld
      have hHeld := hHeld2
      clear hHeld2
      refine wpAnyH_take (i := 13) (v := ?_) rfl (by kernel_rfl) (by kernel_rfl) (by kernel_rfl) (fun _ _ _ h => h) (Or.inl ⟨by rfl, ?_⟩) hHeld ?_
      rotate_left
      · intro u hSu
        (go_simp) <;> (with_reducible rfl)
      change wpAnyH _ _ _ _ _ _ _ (Act.put _ (some 29) _) _
      simp only [Act.put, List.setIfInBounds_toArray, List.set_cons_zero, List.set_cons_succ]
      refine wpAnyH_take (i := 14) (v := ?_) rfl (by kernel_rfl) (by kernel_rfl) (by kernel_rfl) (fun _ _ _ h => h) (Or.inl ⟨by rfl, ?_⟩) hHeld ?_
      rotate_left
      · intro u hSu
        (go_simp) <;> (with_reducible rfl)
      change wpAnyH _ _ _ _ _ _ _ (Act.put _ (some 30) _) _
      simp only [Act.put, List.setIfInBounds_toArray, List.set_cons_zero, List.set_cons_succ]
      refine wpAnyH_done (by kernel_rfl) ?_ _
      refine NoPanic.normal ?_
      obtain ⟨f1, f2, f3, f4⟩ := HF.out w3 B3.out
      go_wp2
      go_ret2
      exact ⟨by rw [HR.out]; rfl, HB2.out.trans (B3.out.mono HB2.out.size)⟩
end Go.Proofs.YtileidbdmpeciaaGreat
