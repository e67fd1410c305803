/-
  What the landed tables answer and leave: Drop, Has (package prep: Table).
-/
import Derived.Test.YtileidbdmpeciaaGreatPrepT7
namespace Go.Proofs.YtileidbdmpeciaaGreat
open Go.RowKit
set_option linter.unusedVariables false

theorem dropM_at {M : List EntM} (h : TabK (ents M)) {J : Nat} {x : EntM} (hx : M[J]? = some x) : dropM M x.e.id = M.take J ++ M.drop (J + 1) := by
  obtain ⟨hJ, hxe⟩ := List.getElem?_eq_some_iff.1 hx
  have hM : M = M.take J ++ x :: M.drop (J + 1) := by
    rw [← hxe, ← List.drop_eq_getElem_cons hJ, List.take_append_drop]
  have h1 : ∀ y ∈ M.take J, decide (y.e.id ≠ x.e.id) = true := fun y hy => by
    obtain ⟨j, hj, rfl⟩ := List.mem_iff_getElem.1 hy
    rw [List.length_take] at hj
    rw [List.getElem_take]
    have := ents_up h (i := j) (j := J) (by omega) (List.getElem?_eq_getElem (by omega)) hx
    exact decide_eq_true (by omega)
  have h2 : ∀ y ∈ M.drop (J + 1), decide (y.e.id ≠ x.e.id) = true := fun y hy => by
    obtain ⟨j, hj, rfl⟩ := List.mem_iff_getElem.1 hy
    rw [List.length_drop] at hj
    rw [List.getElem_drop]
    have := ents_up h (i := J) (j := J + 1 + j) (by omega) hx (List.getElem?_eq_getElem (by omega))
    exact decide_eq_true (by omega)
  unfold dropM
  conv => lhs; rw [hM]
  rw [List.filter_append, List.filter_cons_of_neg (by simp), List.filter_eq_self.2 h1, List.filter_eq_self.2 h2]
theorem drop_no {M : List EntM} {id : Int} (h : hasM M id = none) : dropM M id = M := by
  unfold dropM
  refine List.filter_eq_self.2 (fun x hx => ?_)
  unfold hasM at h
  have := List.find?_eq_none.1 h x hx
  simpa using this
theorem hasE_at {M : List EntM} (h : TabK (ents M)) {id : Int} {x : EntM} (hx : hasM M id = some x) : M[placeT (ents M) id]? = some x ∧ x.e.id = id := by
  obtain ⟨f1, f2⟩ := has_place h id rfl
  by_cases hy : ∃ y, M[placeT (ents M) id]? = some y ∧ y.e.id = id
  · obtain ⟨y, h1, h2⟩ := hy
    have e := f1 y h1 h2
    rw [hx] at e
    obtain rfl := Option.some.inj e
    exact ⟨h1, h2⟩
  · exfalso
    rw [f2 (fun y h1 h2 => hy ⟨y, h1, h2⟩)] at hx
    cases hx
/-- A table's list turns where it lies. -/
theorem PTab.turnX {u w4 : World} {p N' c' : Nat} {M M' : List EntM} {X : Foot} {v : Value} {a' : Option Addr} (h : PTab u p M X) (hv : ∀ k, v.ownBlock = some k → X k ∧ k ≠ p) (hg : u.grownBy w4 v.ownBlock) (hT : TabK (ents M')) (hN : M'.length = N')
    (hrow : w4.ownsRow 0 31 6 (.slice a' N' c') N' (M'.flatMap encE)) (hblk : ∀ k, (Value.slice a' N' c').ownBlock = some k → v.ownBlock = some k) (hsub : ∀ x ∈ M', x ∈ M) :
    PTab (w4.setCell ⟨p, 0, none⟩ (.slice a' N' c')) p M' X ∧ Chg u (w4.setCell ⟨p, 0, none⟩ (.slice a' N' c')) X := by
  subst hN
  have hp := h.lt p h.own
  have hpk : w4.heap[p]? = u.heap[p]? := hg.block p hp (fun e => (hv p e.symm).2 rfl)
  obtain ⟨a, c, h1, h2, h3⟩ := h.list
  have hchg : Chg u (w4.setCell ⟨p, 0, none⟩ (.slice a' M'.length c')) X := (Chg.of_grown hg (X := X) (fun k e => (hv k e).1)).trans (Chg.set w4 ⟨p, 0, none⟩ _ h.own) (fun _ _ x => x)
  refine ⟨⟨h.own, fun k hk => ?_, ⟨a', c', ?_, ?_, fun k e => hv k (hblk k e)⟩, ?_, fun x hx => ?_, fun x hx => h.far x (hsub x hx), hT⟩, hchg⟩
  · rw [World.size_setCell]
    exact Nat.lt_of_lt_of_le (h.lt k hk) hg.size
  · exact World.cell?_setCell_same _ _ _ ((cell_kept hpk 0).trans h1)
  · exact prow_kept hrow (fun k e => Below.heap_setCell _ _ _ k (fun e2 => (hv k (hblk k e)).2 e2))
  · rw [World.frozen?_setCell]
    exact (frozen_kept hpk 0).trans h.free
  · exact (h.wrs x (hsub x hx)).kept (fun hl b o e => hchg.block b ((h.wrs x (hsub x hx)).wr.blt hl e) (h.far x (hsub x hx) hl b o e))
theorem entW_zero (w : World) : EntW w zeroE := ⟨⟨.inl rfl, fun W hW => by simp [zeroE] at hW⟩, Nat.le_refl _, Nat.zero_le _, ⟨by simp [zeroE], by simp [zeroE], by simp [zeroE], by simp [zeroE], by simp [zeroE]⟩⟩
set_option maxHeartbeats 8000000 in
set_option maxRecDepth 8000 in
theorem pdrop_any (p : Nat) (M : List EntM) (X : Foot) (id : Int) (w : World) (h : PTab w p M X) :
    Calls Tryz.prog 100 #[.pointer (some ⟨p, 0, none⟩), .int .i64 id] w fun e w' => e = .returned (.tuple #[ev (orE (hasM M id)), .bool (hasM M id).isSome]) ∧ PTab w' p (dropM M id) X ∧ Did w w' X X ∧ EntW w' (orE (hasM M id)) := by
  obtain ⟨V0, hV0⟩ : ∃ V0, V0 = w.alloc (.cells (encE zeroE).toArray 31) := ⟨_, rfl⟩
  have HBW : Hid (Below w.heap.size w V0) := by rw [hV0]; exact (Below.refl _ _).alloc (Nat.le_refl _) _
  have HM0 : Hid (EntMine V0 w.heap.size zeroE) := by rw [hV0]; exact EntMine.made w 31 zeroE
  have hsz : V0.heap.size = w.heap.size + 1 := by rw [hV0]; simp
  have HV0 : Hid (w.alloc (.cells (encE zeroE).toArray 31) = V0) := hV0.symm
  rw [zeroE_cells] at HV0
  obtain ⟨a0, c0, hc1, hc2, hc3, hcell, hent, hblk⟩ := h.open
  obtain ⟨N0, hN0⟩ : ∃ N0, N0 = M.length := ⟨_, rfl⟩
  have hM : N0 ≤ 100 := by rw [hN0]; exact h.few
  have HT : Hid (PTab w p M X) := h
  have HCE : Hid (∀ v, Below w.heap.size w v → v.cell? ⟨p, 0, none⟩ = some (.slice a0 N0 c0)) := fun v hv => by rw [hN0]; exact (hcell v hv).1
  have HROW : Hid (∀ v, Below w.heap.size w v → v.ownsRow 0 31 6 (.slice a0 N0 c0) N0 (M.flatMap encE)) := fun v hv => by rw [hN0]; exact (hcell v hv).2
  have HBK : Hid (∀ k, (Value.slice a0 N0 c0).ownBlock = some k → X k ∧ k ≠ p) := by rw [hN0]; exact hblk
  have HN0 : Hid (M.length = N0) := hN0.symm
  obtain ⟨lo, hlo⟩ : ∃ k, k = placeT (ents M) id := ⟨_, rfl⟩
  obtain ⟨ok, hok⟩ : ∃ b, b = (hasM M id).isSome := ⟨_, rfl⟩
  have CF : Hid (∀ u, Below w.heap.size w u → Calls Tryz.prog 89 #[.pointer (some ⟨p, 0, none⟩), .int .i64 id] u fun e w' => e = .returned (.tuple #[.int .i64 (lo : Nat), .bool ok]) ∧ Below u.heap.size u w') := fun u hb => by rw [hlo, hok]; exact pfind_any p M X id u (h.past hb)
  cases hhas : hasM M id with
  | none =>
    rw [hhas] at hok
    have HDR : Hid (dropM M id = M) := drop_no hhas
    obtain rfl : ok = false := hok
    clear hV0 hcell hent hblk hN0 hhas hlo h
    go_enter Tryz.func100, Tryz.ntmps100
    go_wp2_with (first | (go_at_call 89; rw [HV0.out]; refine (CF.out _ HBW.out).mono ?_; rintro e w1 ⟨rfl, hb1⟩; have B1 : Hid (Below V0.heap.size V0 w1) := hb1; have HM1 : Hid (EntMine w1 w.heap.size zeroE) := HM0.out.past hb1; clear hb1 CF HM0) | (have hgo := HM1.out; clear hgo; refine wpList_store_pent (.tmp 4) (by rfl) _ (by rfl) w.heap.size zeroE zeroE (by rfl) (by rfl) HM1.out ?_; intro u2 hu; have HM2 : Hid (EntMine u2 w.heap.size zeroE) := hu ▸ HM1.out.store; have HB2 : Hid (Below w.heap.size w u2) := hu ▸ below_cells (Nat.le_refl _) (HBW.out.trans (B1.out.mono HBW.out.size)); clear hu HM1))
    refine bodyPost_ret (results_pent rfl _ _ w.heap.size zeroE rfl HM2.out.at_) rfl ?_
    exact ⟨rfl, by rw [HDR.out]; exact HT.out.past HB2.out, Did.stay HB2.out HT.out.lt, entW_zero _⟩
  | some x =>
    rw [hhas] at hok
    obtain rfl : ok = true := hok
    obtain ⟨hxl, hxid⟩ := hasE_at h.tab hhas
    rw [← hlo] at hxl
    have hlol : lo < N0 := by rw [hN0]; exact (List.getElem?_eq_some_iff.1 hxl).1
    obtain ⟨g, hag, HG⟩ := hent lo x hxl
    have HXM : Hid (x ∈ M) := List.mem_of_getElem? hxl
    have HDR : Hid (dropM M id = M.take lo ++ M.drop (lo + 1)) := by show _ = _; rw [← hxid]; exact dropM_at h.tab hxl
    have HKW : Hid (TabK (ents (M.take lo ++ M.drop (lo + 1)))) := by rw [← HDR.out, dropM_e]; exact h.tab.drop id
    have HLT : Hid (∀ k, X k → k < w.heap.size) := h.lt
    have HPW : Hid (p < w.heap.size) := h.lt p h.own
    have HPF : Hid (w.frozen? ⟨p, 0, none⟩ = false) := h.free
    have hcl : lo < c0 := by omega
    have hlo0 : (0 : Int) ≤ (lo : Int) := by omega
    have hloI : (lo : Int) < (N0 : Int) := by omega
    have HEND : Hid (∀ (W w6 : World), Below w.heap.size w W → DelP W w6 a0 N0 c0 (M.take lo ++ M.drop (lo + 1)) → (w6.cell? ⟨p, 0, none⟩ = some (.slice a0 N0 c0) ∧ w6.frozen? ⟨p, 0, none⟩ = false) ∧ Hid (PTab (w6.setCell ⟨p, 0, none⟩ (.slice a0 (N0 - 1) c0)) p (dropM M id) X ∧ Chg w (w6.setCell ⟨p, 0, none⟩ (.slice a0 (N0 - 1) c0)) X) ∧ Hid (∀ k, w.heap.size ≤ k → k < W.heap.size → (w6.setCell ⟨p, 0, none⟩ (.slice a0 (N0 - 1) c0)).heap[k]? = W.heap[k]?)) := fun W w6 hb hd => by
      have hp := HPW.out
      have hpk : w6.heap[p]? = W.heap[p]? := hd.grown.block p (Nat.lt_of_lt_of_le hp hb.size) (fun e => (HBK.out p e.symm).2 rfl)
      have ht := (HT.out.past hb).turnX (v := .slice a0 N0 c0) HBK.out hd.grown HKW.out (by simp only [List.length_append, List.length_take, List.length_drop, HN0.out]; omega) hd.row (fun k e => by rw [← e]; cases a0 <;> rfl) (fun y hy => by
        rcases List.mem_append.1 hy with e | e
        · exact List.mem_of_mem_take e
        · exact List.mem_of_mem_drop e)
      refine ⟨⟨(cell_kept hpk 0).trans (HCE.out W hb), (frozen_kept hpk 0).trans ((hb.frozen (p := ⟨p, 0, none⟩) hp).trans HPF.out)⟩, ⟨by rw [HDR.out]; exact ht.1, (Chg.of_below hb X).trans ht.2 (fun _ _ x => x)⟩, fun k hk1 hk2 => ?_⟩
      rw [Below.heap_setCell _ ⟨p, 0, none⟩ _ k (fun e => by have : k = p := e; omega)]
      exact hd.grown.block k hk2 (fun e => by have := HLT.out k (HBK.out k e.symm).1; omega)
    have HCD : Hid (∀ W, Below w.heap.size w W → Calls Tryz.prog 139 #[.slice a0 N0 c0, .int .i64 lo, .int .i64 ((lo : Int) + 1)] W fun e w' => e = .returned (.slice a0 (N0 - 1) c0) ∧ DelP W w' a0 N0 c0 (M.take lo ++ M.drop (lo + 1))) := fun W hb => pdel_any a0 c0 N0 lo M W HN0.out hlol (by omega) (HROW.out W hb)
    have HEX : Hid (EntW w x) := h.wrs x HXM.out
    have HFX : Hid (x.e.l ≠ [] → ∀ b o, x.a = some ⟨b, o, none⟩ → ¬ X b) := h.far x HXM.out
    rw [hag] at HCE HCD HEND
    clear hV0 hcell hent hblk hhas hlo h hxl hxid HROW HKW HN0 hN0 hag HBK
    go_enter Tryz.func100, Tryz.ntmps100
    go_wp2_with (first | (go_at_call 89; rw [HV0.out]; refine (CF.out _ HBW.out).mono ?_; rintro e w1 ⟨rfl, hb1⟩; have B1 : Hid (Below w.heap.size w w1) := HBW.out.trans (hb1.mono HBW.out.size); have HM1 : Hid (EntMine w1 w.heap.size zeroE) := HM0.out.past hb1; have q0 := HCE.out w1 B1.out; have E1 : Hid (EntAt w1 g (lo * 6) x) := HG.out w1 B1.out; have hmi := EntMine.made w1 31 zeroE; rw [zeroE_cells] at hmi; have HMI : Hid _ := hmi; clear hb1 CF HM0 hmi) | ((with_reducible show wpList _ _ _ (Oper.mk (some 24) _ _ _ _ _ :: _) _ _); refine wpList_load_pent 24 (by rfl) (by rfl) _ (by rfl) g (lo * 6) (by rfl) x E1.out ?_) | (have hgo := HMI.out; clear hgo; refine wpList_store_pent (.tmp 8) (by rfl) _ (by rfl) w1.heap.size zeroE x (by rfl) (by rfl) HMI.out ?_; intro u2 hu; have HX2 : Hid (EntMine u2 w1.heap.size x) := hu ▸ HMI.out.store; have HB2 : Hid (Below w1.heap.size w1 u2) := hu ▸ below_cells (Nat.le_refl _) ((Below.refl _ _).alloc (Nat.le_refl _) _); have HB3 : Hid (Below w.heap.size w u2) := B1.out.trans (HB2.out.mono B1.out.size); have HM2 : Hid (EntMine u2 w.heap.size zeroE) := HM1.out.past HB2.out; clear q0; have q0 := HCE.out u2 HB3.out; clear hu HMI E1 HM1) | (go_at_call 139; refine (HCD.out _ HB3.out).mono ?_; rintro e w6 ⟨rfl, hd6⟩; obtain ⟨⟨z1, z2⟩, HP6, HK6⟩ := HEND.out u2 w6 HB3.out hd6; have h8 : w.heap.size < u2.heap.size := cell_lt HM2.out.at_.cells.1; have h9 : w1.heap.size < u2.heap.size := cell_lt HX2.out.at_.cells.1; have h7 : w.heap.size ≤ w1.heap.size := B1.out.size; have HX6 : Hid (EntAt (w6.setCell ⟨p, 0, none⟩ (.slice (some ⟨g, 0, none⟩) (N0 - 1) c0)) w1.heap.size 0 x) := HX2.out.at_.kept (HK6.out _ h7 h9); have HM6 : Hid (EntMine (w6.setCell ⟨p, 0, none⟩ (.slice (some ⟨g, 0, none⟩) (N0 - 1) c0)) w.heap.size zeroE) := HM2.out.kept (HK6.out _ (Nat.le_refl _) h8); clear hd6 q0 h7 h8 h9) | ((with_reducible show wpList _ _ _ (Oper.mk (some 36) _ _ _ _ _ :: _) _ _); refine wpList_load_pent 36 (by rfl) (by rfl) _ (by rfl) w1.heap.size 0 (by rfl) x HX6.out ?_) | (have hgo := HM6.out; clear hgo; refine wpList_store_pent (.tmp 4) (by rfl) _ (by rfl) w.heap.size zeroE x (by rfl) (by rfl) HM6.out ?_; intro u9 hu; have HM9 : Hid (EntMine u9 w.heap.size x) := hu ▸ HM6.out.store; have HU9 : Hid (u9 = (w6.setCell ⟨p, 0, none⟩ (.slice (some ⟨g, 0, none⟩) (N0 - 1) c0)).setCells w.heap.size 0 (encE x)) := hu; clear hu HM6))
    refine bodyPost_ret (results_pent rfl _ _ w.heap.size x rfl HM9.out.at_) rfl ?_
    have hk9 : ∀ k, k ≠ w.heap.size → u9.heap[k]? = (w6.setCell ⟨p, 0, none⟩ (.slice (some ⟨g, 0, none⟩) (N0 - 1) c0)).heap[k]? := fun k hne => by rw [HU9.out]; exact cells_else (w := w) hne _ _ _
    have hs9 : u9.heap.size = (w6.setCell ⟨p, 0, none⟩ (.slice (some ⟨g, 0, none⟩) (N0 - 1) c0)).heap.size := by rw [HU9.out, size_cells]
    have hsz6 := HP6.out.2.size
    have hchg : Chg w u9 X := by
      refine HP6.out.2.trans (Y := fun k => k = w.heap.size) ⟨?_, ?_, ?_, by rw [hs9]; exact Nat.le_refl _, fun k hk hn => hk9 k hn⟩ (fun j hj e => by omega)
      · rw [HU9.out]; exact (below_cells (Nat.le_refl _) (Below.refl w.heap.size _)).os
      · rw [HU9.out]; exact (below_cells (Nat.le_refl _) (Below.refl w.heap.size _)).tape
      · rw [HU9.out]; exact (below_cells (Nat.le_refl _) (Below.refl w.heap.size _)).output
    refine ⟨rfl, HP6.out.1.kept (by rw [hs9]; exact Nat.le_refl _) (fun k hk => hk9 k (by have := HLT.out k hk; omega)) (fun y hy hl b o e => hk9 b (fun e2 => ?_)), Did.same hchg HLT.out, ?_⟩
    · have hyM : y ∈ M := (List.mem_filter.1 hy).1
      have := (HT.out.wrs y hyM).wr.blt hl e
      omega
    · exact HEX.out.kept (fun hl b o e => hchg.block b (HEX.out.wr.blt hl e) (HFX.out hl b o e))
end Go.Proofs.YtileidbdmpeciaaGreat
