/-
  What the landed tables answer and leave: Drop, Has (package prep: Table).
  What the landed tables answer: Has, Holder, Blocks (package prep: Table).
  What the landed tables answer: Least, All (package prep: Table).
  What the landed tables answer: Least (package prep: Table).
-/
import Derived.Test.YthgkbabikeknlaaPrepT7
namespace Go.Proofs.Ythgkbabikeknlaa
open Go.RowKit
set_option linter.unusedVariables false

theorem dropM_at {M : List EntM} (h : TabK (ents M)) {J : Nat} {x : EntM} (hx : M[J]? = some x) : dropM M x.e.id = M.take J ++ M.drop (J + 1) := by
  obtain ⟨hJ, hxe⟩ := List.getElem?_eq_some_iff.1 hx
  have hM : M = M.take J ++ x :: M.drop (J + 1) := by
    rw [← hxe, ← List.drop_eq_getElem_cons hJ, List.take_append_drop]
  have h1 : ∀ y ∈ M.take J, decide (y.e.id ≠ x.e.id) = true := fun y hy => by
    obtain ⟨j, hj, rfl⟩ := List.mem_iff_getElem.1 hy
    rw [List.length_take] at hj
    rw [List.getElem_take]
    have := ents_up h (i := j) (j := J) (by omega) (List.getElem?_eq_getElem (by omega)) hx
    exact decide_eq_true (by omega)
  have h2 : ∀ y ∈ M.drop (J + 1), decide (y.e.id ≠ x.e.id) = true := fun y hy => by
    obtain ⟨j, hj, rfl⟩ := List.mem_iff_getElem.1 hy
    rw [List.length_drop] at hj
    rw [List.getElem_drop]
    have := ents_up h (i := J) (j := J + 1 + j) (by omega) hx (List.getElem?_eq_getElem (by omega))
    exact decide_eq_true (by omega)
  unfold dropM
  conv => lhs; rw [hM]
  rw [List.filter_append, List.filter_cons_of_neg (by simp), List.filter_eq_self.2 h1, List.filter_eq_self.2 h2]
theorem drop_no {M : List EntM} {id : Int} (h : hasM M id = none) : dropM M id = M := by
  unfold dropM
  refine List.filter_eq_self.2 (fun x hx => ?_)
  unfold hasM at h
  have := List.find?_eq_none.1 h x hx
  simpa using this
theorem has_at {M : List EntM} (h : TabK (ents M)) {id : Int} {x : EntM} (hx : hasM M id = some x) : M[placeT (ents M) id]? = some x ∧ x.e.id = id := by
  obtain ⟨f1, f2⟩ := has_place h id rfl
  by_cases hy : ∃ y, M[placeT (ents M) id]? = some y ∧ y.e.id = id
  · obtain ⟨y, h1, h2⟩ := hy
    have e := f1 y h1 h2
    rw [hx] at e
    obtain rfl := Option.some.inj e
    exact ⟨h1, h2⟩
  · exfalso
    rw [f2 (fun y h1 h2 => hy ⟨y, h1, h2⟩)] at hx
    cases hx
/-- A table's list turns where it lies. -/
theorem PTab.turnX {u w4 : World} {p N' c' : Nat} {M M' : List EntM} {X : Foot} {v : Value} {a' : Option Addr} (h : PTab u p M X) (hv : ∀ k, v.ownBlock = some k → X k ∧ k ≠ p) (hg : u.grownBy w4 v.ownBlock) (hT : TabK (ents M')) (hN : M'.length = N')
    (hrow : w4.ownsRow 0 31 6 (.slice a' N' c') N' (M'.flatMap encE)) (hblk : ∀ k, (Value.slice a' N' c').ownBlock = some k → v.ownBlock = some k) (hsub : ∀ x ∈ M', x ∈ M) :
    PTab (w4.setCell ⟨p, 0, none⟩ (.slice a' N' c')) p M' X ∧ Chg u (w4.setCell ⟨p, 0, none⟩ (.slice a' N' c')) X := by
  subst hN
  have hp := h.lt p h.own
  have hpk : w4.heap[p]? = u.heap[p]? := hg.block p hp (fun e => (hv p e.symm).2 rfl)
  obtain ⟨a, c, h1, h2, h3⟩ := h.list
  have hchg : Chg u (w4.setCell ⟨p, 0, none⟩ (.slice a' M'.length c')) X := (Chg.of_grown hg (X := X) (fun k e => (hv k e).1)).trans (Chg.set w4 ⟨p, 0, none⟩ _ h.own) (fun _ _ x => x)
  refine ⟨⟨h.own, fun k hk => ?_, ⟨a', c', ?_, ?_, fun k e => hv k (hblk k e)⟩, ?_, fun x hx => ?_, fun x hx => h.far x (hsub x hx), hT⟩, hchg⟩
  · rw [World.size_setCell]
    exact Nat.lt_of_lt_of_le (h.lt k hk) hg.size
  · exact World.cell?_setCell_same _ _ _ ((cell_kept hpk 0).trans h1)
  · exact prow_kept hrow (fun k e => Below.heap_setCell _ _ _ k (fun e2 => (hv k (hblk k e)).2 e2))
  · rw [World.frozen?_setCell]
    exact (frozen_kept hpk 0).trans h.free
  · exact (h.wrs x (hsub x hx)).kept (fun hl b o e => hchg.block b ((h.wrs x (hsub x hx)).wr.blt hl e) (h.far x (hsub x hx) hl b o e))
theorem entW_zero (w : World) : EntW w zeroE := ⟨⟨.inl rfl, fun W hW => by simp [zeroE] at hW⟩, Nat.le_refl _, Nat.zero_le _, ⟨by simp [zeroE], by simp [zeroE], by simp [zeroE], by simp [zeroE], by simp [zeroE]⟩⟩
set_option maxHeartbeats 8000000 in
set_option maxRecDepth 8000 in
theorem pdrop_any (p : Nat) (M : List EntM) (X : Foot) (id : Int) (w : World) (h : PTab w p M X) :
    Calls Try.prog 15 #[.pointer (some ⟨p, 0, none⟩), .int .i64 id] w fun e w' => e = .returned (.tuple #[ev (orE (hasM M id)), .bool (hasM M id).isSome]) ∧ PTab w' p (dropM M id) X ∧ Did w w' X X ∧ EntW w' (orE (hasM M id)) := by
  obtain ⟨V0, hV0⟩ : ∃ V0, V0 = w.alloc (.cells (encE zeroE).toArray 31) := ⟨_, rfl⟩
  have HBW : Hid (Below w.heap.size w V0) := by rw [hV0]; exact (Below.refl _ _).alloc (Nat.le_refl _) _
  have HM0 : Hid (EntMine V0 w.heap.size zeroE) := by rw [hV0]; exact EntMine.made w 31 zeroE
  have hsz : V0.heap.size = w.heap.size + 1 := by rw [hV0]; simp
  have HV0 : Hid (w.alloc (.cells (encE zeroE).toArray 31) = V0) := hV0.symm
  rw [zeroE_cells] at HV0
  obtain ⟨a0, c0, hc1, hc2, hc3, hcell, hent, hblk⟩ := h.open
  obtain ⟨N0, hN0⟩ : ∃ N0, N0 = M.length := ⟨_, rfl⟩
  have hM : N0 ≤ 100 := by rw [hN0]; exact h.few
  have HT : Hid (PTab w p M X) := h
  have HCE : Hid (∀ v, Below w.heap.size w v → v.cell? ⟨p, 0, none⟩ = some (.slice a0 N0 c0)) := fun v hv => by rw [hN0]; exact (hcell v hv).1
  have HROW : Hid (∀ v, Below w.heap.size w v → v.ownsRow 0 31 6 (.slice a0 N0 c0) N0 (M.flatMap encE)) := fun v hv => by rw [hN0]; exact (hcell v hv).2
  have HBK : Hid (∀ k, (Value.slice a0 N0 c0).ownBlock = some k → X k ∧ k ≠ p) := by rw [hN0]; exact hblk
  have HN0 : Hid (M.length = N0) := hN0.symm
  obtain ⟨lo, hlo⟩ : ∃ k, k = placeT (ents M) id := ⟨_, rfl⟩
  obtain ⟨ok, hok⟩ : ∃ b, b = (hasM M id).isSome := ⟨_, rfl⟩
  have CF : Hid (∀ u, Below w.heap.size w u → Calls Try.prog 29 #[.pointer (some ⟨p, 0, none⟩), .int .i64 id] u fun e w' => e = .returned (.tuple #[.int .i64 (lo : Nat), .bool ok]) ∧ Below u.heap.size u w') := fun u hb => by rw [hlo, hok]; exact pfind_any p M X id u (h.past hb)
  cases hhas : hasM M id with
  | none =>
    rw [hhas] at hok
    have HDR : Hid (dropM M id = M) := drop_no hhas
    obtain rfl : ok = false := hok
    clear hV0 hcell hent hblk hN0 hhas hlo h
    go_enter Try.func15, Try.ntmps15
    go_wp2_with (first | (go_at_call 29; rw [HV0.out]; refine (CF.out _ HBW.out).mono ?_; rintro e w1 ⟨rfl, hb1⟩; have B1 : Hid (Below V0.heap.size V0 w1) := hb1; have HM1 : Hid (EntMine w1 w.heap.size zeroE) := HM0.out.past hb1; clear hb1 CF HM0) | (have hgo := HM1.out; clear hgo; refine wpList_store_pent (.tmp 4) (by rfl) _ (by rfl) w.heap.size zeroE zeroE (by rfl) (by rfl) HM1.out ?_; intro u2 hu; have HM2 : Hid (EntMine u2 w.heap.size zeroE) := hu ▸ HM1.out.store; have HB2 : Hid (Below w.heap.size w u2) := hu ▸ below_cells (Nat.le_refl _) (HBW.out.trans (B1.out.mono HBW.out.size)); clear hu HM1))
    refine bodyPost_ret (results_pent rfl _ _ w.heap.size zeroE rfl HM2.out.at_) rfl ?_
    exact ⟨rfl, by rw [HDR.out]; exact HT.out.past HB2.out, Did.stay HB2.out HT.out.lt, entW_zero _⟩
  | some x =>
    rw [hhas] at hok
    obtain rfl : ok = true := hok
    obtain ⟨hxl, hxid⟩ := has_at h.tab hhas
    rw [← hlo] at hxl
    have hlol : lo < N0 := by rw [hN0]; exact (List.getElem?_eq_some_iff.1 hxl).1
    obtain ⟨g, hag, HG⟩ := hent lo x hxl
    have HXM : Hid (x ∈ M) := List.mem_of_getElem? hxl
    have HDR : Hid (dropM M id = M.take lo ++ M.drop (lo + 1)) := by show _ = _; rw [← hxid]; exact dropM_at h.tab hxl
    have HKW : Hid (TabK (ents (M.take lo ++ M.drop (lo + 1)))) := by rw [← HDR.out, dropM_e]; exact h.tab.drop id
    have HLT : Hid (∀ k, X k → k < w.heap.size) := h.lt
    have HPW : Hid (p < w.heap.size) := h.lt p h.own
    have HPF : Hid (w.frozen? ⟨p, 0, none⟩ = false) := h.free
    have hcl : lo < c0 := by omega
    have hlo0 : (0 : Int) ≤ (lo : Int) := by omega
    have hloI : (lo : Int) < (N0 : Int) := by omega
    have HEND : Hid (∀ (W w6 : World), Below w.heap.size w W → DelP W w6 a0 N0 c0 (M.take lo ++ M.drop (lo + 1)) → (w6.cell? ⟨p, 0, none⟩ = some (.slice a0 N0 c0) ∧ w6.frozen? ⟨p, 0, none⟩ = false) ∧ Hid (PTab (w6.setCell ⟨p, 0, none⟩ (.slice a0 (N0 - 1) c0)) p (dropM M id) X ∧ Chg w (w6.setCell ⟨p, 0, none⟩ (.slice a0 (N0 - 1) c0)) X) ∧ Hid (∀ k, w.heap.size ≤ k → k < W.heap.size → (w6.setCell ⟨p, 0, none⟩ (.slice a0 (N0 - 1) c0)).heap[k]? = W.heap[k]?)) := fun W w6 hb hd => by
      have hp := HPW.out
      have hpk : w6.heap[p]? = W.heap[p]? := hd.grown.block p (Nat.lt_of_lt_of_le hp hb.size) (fun e => (HBK.out p e.symm).2 rfl)
      have ht := (HT.out.past hb).turnX (v := .slice a0 N0 c0) HBK.out hd.grown HKW.out (by simp only [List.length_append, List.length_take, List.length_drop, HN0.out]; omega) hd.row (fun k e => by rw [← e]; cases a0 <;> rfl) (fun y hy => by
        rcases List.mem_append.1 hy with e | e
        · exact List.mem_of_mem_take e
        · exact List.mem_of_mem_drop e)
      refine ⟨⟨(cell_kept hpk 0).trans (HCE.out W hb), (frozen_kept hpk 0).trans ((hb.frozen (p := ⟨p, 0, none⟩) hp).trans HPF.out)⟩, ⟨by rw [HDR.out]; exact ht.1, (Chg.of_below hb X).trans ht.2 (fun _ _ x => x)⟩, fun k hk1 hk2 => ?_⟩
      rw [Below.heap_setCell _ ⟨p, 0, none⟩ _ k (fun e => by have : k = p := e; omega)]
      exact hd.grown.block k hk2 (fun e => by have := HLT.out k (HBK.out k e.symm).1; omega)
    have HCD : Hid (∀ W, Below w.heap.size w W → Calls Try.prog 37 #[.slice a0 N0 c0, .int .i64 lo, .int .i64 ((lo : Int) + 1)] W fun e w' => e = .returned (.slice a0 (N0 - 1) c0) ∧ DelP W w' a0 N0 c0 (M.take lo ++ M.drop (lo + 1))) := fun W hb => pdel_any a0 c0 N0 lo M W HN0.out hlol (by omega) (HROW.out W hb)
    have HEX : Hid (EntW w x) := h.wrs x HXM.out
    have HFX : Hid (x.e.l ≠ [] → ∀ b o, x.a = some ⟨b, o, none⟩ → ¬ X b) := h.far x HXM.out
    rw [hag] at HCE HCD HEND
    clear hV0 hcell hent hblk hhas hlo h hxl hxid HROW HKW HN0 hN0 hag HBK
    go_enter Try.func15, Try.ntmps15
    go_wp2_with (first | (go_at_call 29; rw [HV0.out]; refine (CF.out _ HBW.out).mono ?_; rintro e w1 ⟨rfl, hb1⟩; have B1 : Hid (Below w.heap.size w w1) := HBW.out.trans (hb1.mono HBW.out.size); have HM1 : Hid (EntMine w1 w.heap.size zeroE) := HM0.out.past hb1; have q0 := HCE.out w1 B1.out; have E1 : Hid (EntAt w1 g (lo * 6) x) := HG.out w1 B1.out; have hmi := EntMine.made w1 31 zeroE; rw [zeroE_cells] at hmi; have HMI : Hid _ := hmi; clear hb1 CF HM0 hmi) | ((with_reducible show wpList _ _ _ (Oper.mk (some 24) _ _ _ _ _ :: _) _ _); refine wpList_load_pent 24 (by rfl) (by rfl) _ (by rfl) g (lo * 6) (by rfl) x E1.out ?_) | (have hgo := HMI.out; clear hgo; refine wpList_store_pent (.tmp 8) (by rfl) _ (by rfl) w1.heap.size zeroE x (by rfl) (by rfl) HMI.out ?_; intro u2 hu; have HX2 : Hid (EntMine u2 w1.heap.size x) := hu ▸ HMI.out.store; have HB2 : Hid (Below w1.heap.size w1 u2) := hu ▸ below_cells (Nat.le_refl _) ((Below.refl _ _).alloc (Nat.le_refl _) _); have HB3 : Hid (Below w.heap.size w u2) := B1.out.trans (HB2.out.mono B1.out.size); have HM2 : Hid (EntMine u2 w.heap.size zeroE) := HM1.out.past HB2.out; clear q0; have q0 := HCE.out u2 HB3.out; clear hu HMI E1 HM1) | (go_at_call 37; refine (HCD.out _ HB3.out).mono ?_; rintro e w6 ⟨rfl, hd6⟩; obtain ⟨⟨z1, z2⟩, HP6, HK6⟩ := HEND.out u2 w6 HB3.out hd6; have h8 : w.heap.size < u2.heap.size := cell_lt HM2.out.at_.cells.1; have h9 : w1.heap.size < u2.heap.size := cell_lt HX2.out.at_.cells.1; have h7 : w.heap.size ≤ w1.heap.size := B1.out.size; have HX6 : Hid (EntAt (w6.setCell ⟨p, 0, none⟩ (.slice (some ⟨g, 0, none⟩) (N0 - 1) c0)) w1.heap.size 0 x) := HX2.out.at_.kept (HK6.out _ h7 h9); have HM6 : Hid (EntMine (w6.setCell ⟨p, 0, none⟩ (.slice (some ⟨g, 0, none⟩) (N0 - 1) c0)) w.heap.size zeroE) := HM2.out.kept (HK6.out _ (Nat.le_refl _) h8); clear hd6 q0 h7 h8 h9) | ((with_reducible show wpList _ _ _ (Oper.mk (some 36) _ _ _ _ _ :: _) _ _); refine wpList_load_pent 36 (by rfl) (by rfl) _ (by rfl) w1.heap.size 0 (by rfl) x HX6.out ?_) | (have hgo := HM6.out; clear hgo; refine wpList_store_pent (.tmp 4) (by rfl) _ (by rfl) w.heap.size zeroE x (by rfl) (by rfl) HM6.out ?_; intro u9 hu; have HM9 : Hid (EntMine u9 w.heap.size x) := hu ▸ HM6.out.store; have HU9 : Hid (u9 = (w6.setCell ⟨p, 0, none⟩ (.slice (some ⟨g, 0, none⟩) (N0 - 1) c0)).setCells w.heap.size 0 (encE x)) := hu; clear hu HM6))
    refine bodyPost_ret (results_pent rfl _ _ w.heap.size x rfl HM9.out.at_) rfl ?_
    have hk9 : ∀ k, k ≠ w.heap.size → u9.heap[k]? = (w6.setCell ⟨p, 0, none⟩ (.slice (some ⟨g, 0, none⟩) (N0 - 1) c0)).heap[k]? := fun k hne => by rw [HU9.out]; exact cells_else (w := w) hne _ _ _
    have hs9 : u9.heap.size = (w6.setCell ⟨p, 0, none⟩ (.slice (some ⟨g, 0, none⟩) (N0 - 1) c0)).heap.size := by rw [HU9.out, size_cells]
    have hsz6 := HP6.out.2.size
    have hchg : Chg w u9 X := by
      refine HP6.out.2.trans (Y := fun k => k = w.heap.size) ⟨?_, ?_, ?_, by rw [hs9]; exact Nat.le_refl _, fun k hk hn => hk9 k hn⟩ (fun j hj e => by omega)
      · rw [HU9.out]; exact (below_cells (Nat.le_refl _) (Below.refl w.heap.size _)).os
      · rw [HU9.out]; exact (below_cells (Nat.le_refl _) (Below.refl w.heap.size _)).tape
      · rw [HU9.out]; exact (below_cells (Nat.le_refl _) (Below.refl w.heap.size _)).output
    refine ⟨rfl, HP6.out.1.kept (by rw [hs9]; exact Nat.le_refl _) (fun k hk => hk9 k (by have := HLT.out k hk; omega)) (fun y hy hl b o e => hk9 b (fun e2 => ?_)), Did.same hchg HLT.out, ?_⟩
    · have hyM : y ∈ M := (List.mem_filter.1 hy).1
      have := (HT.out.wrs y hyM).wr.blt hl e
      omega
    · exact HEX.out.kept (fun hl b o e => hchg.block b (HEX.out.wr.blt hl e) (HFX.out hl b o e))
end Go.Proofs.Ythgkbabikeknlaa

namespace Go.Proofs.Ythgkbabikeknlaa
open Go.RowKit
set_option linter.unusedVariables false

/-- What an entry of an answer is. -/
structure EntOf (w : World) (B : Nat) (Y : EntM) (e : Ent) : Prop where
  is : Y.e = e
  ent : EntW w Y
  new : Y.e.l ≠ [] → ∀ b o, Y.a = some ⟨b, o, none⟩ → B ≤ b
set_option maxHeartbeats 4000000 in
set_option maxRecDepth 4000 in
theorem phas_any (p : Nat) (M : List EntM) (X : Foot) (id : Int) (w : World) (h : PTab w p M X) :
    Calls Try.prog 16 #[.pointer (some ⟨p, 0, none⟩), .int .i64 id] w fun e w' => (∃ Y, e = .returned (.tuple #[ev Y, .bool (hasM M id).isSome]) ∧ EntOf w' w.heap.size Y (orE (hasM M id)).e) ∧ Below w.heap.size w w' := by
  obtain ⟨V0, hV0⟩ : ∃ V0, V0 = w.alloc (.cells (encE zeroE).toArray 31) := ⟨_, rfl⟩
  have HBW : Hid (Below w.heap.size w V0) := by rw [hV0]; exact (Below.refl _ _).alloc (Nat.le_refl _) _
  have HM0 : Hid (EntMine V0 w.heap.size zeroE) := by rw [hV0]; exact EntMine.made w 31 zeroE
  have HV0 : Hid (w.alloc (.cells (encE zeroE).toArray 31) = V0) := hV0.symm
  rw [zeroE_cells] at HV0
  obtain ⟨a0, c0, hc1, hc2, hc3, hcell, hent, hblk⟩ := h.open
  obtain ⟨N0, hN0⟩ : ∃ N0, N0 = M.length := ⟨_, rfl⟩
  have hM : N0 ≤ 100 := by rw [hN0]; exact h.few
  have HCE : Hid (∀ v, Below w.heap.size w v → v.cell? ⟨p, 0, none⟩ = some (.slice a0 N0 c0)) := fun v hv => by rw [hN0]; exact (hcell v hv).1
  obtain ⟨lo, hlo⟩ : ∃ k, k = placeT (ents M) id := ⟨_, rfl⟩
  obtain ⟨ok, hok⟩ : ∃ b, b = (hasM M id).isSome := ⟨_, rfl⟩
  have CF : Hid (∀ u, Below w.heap.size w u → Calls Try.prog 29 #[.pointer (some ⟨p, 0, none⟩), .int .i64 id] u fun e w' => e = .returned (.tuple #[.int .i64 (lo : Nat), .bool ok]) ∧ Below u.heap.size u w') := fun u hb => by rw [hlo, hok]; exact pfind_any p M X id u (h.past hb)
  cases hhas : hasM M id with
  | none =>
    rw [hhas] at hok
    obtain rfl : ok = false := hok
    clear hV0 hcell hent hblk hN0 hhas hlo h
    go_enter Try.func16, Try.ntmps16
    go_wp2_with (first | (go_at_call 29; rw [HV0.out]; refine (CF.out _ HBW.out).mono ?_; rintro e w1 ⟨rfl, hb1⟩; have B1 : Hid (Below V0.heap.size V0 w1) := hb1; have HM1 : Hid (EntMine w1 w.heap.size zeroE) := HM0.out.past hb1; clear hb1 CF HM0) | (have hgo := HM1.out; clear hgo; refine wpList_store_pent (.tmp 4) (by rfl) _ (by rfl) w.heap.size zeroE zeroE (by rfl) (by rfl) HM1.out ?_; intro u2 hu; have HM2 : Hid (EntMine u2 w.heap.size zeroE) := hu ▸ HM1.out.store; have HB2 : Hid (Below w.heap.size w u2) := hu ▸ below_cells (Nat.le_refl _) (HBW.out.trans (B1.out.mono HBW.out.size)); clear hu HM1))
    refine bodyPost_ret (results_pent rfl _ _ w.heap.size zeroE rfl HM2.out.at_) rfl ?_
    exact ⟨⟨zeroE, rfl, ⟨rfl, entW_zero _, fun h => absurd rfl h⟩⟩, HB2.out⟩
  | some x =>
    rw [hhas] at hok
    obtain rfl : ok = true := hok
    obtain ⟨hxl, hxid⟩ := has_at h.tab hhas
    rw [← hlo] at hxl
    have hlol : lo < N0 := by rw [hN0]; exact (List.getElem?_eq_some_iff.1 hxl).1
    obtain ⟨g, hag, HG⟩ := hent lo x hxl
    have hcl : lo < c0 := by omega
    have hlo0 : (0 : Int) ≤ (lo : Int) := by omega
    have hloI : (lo : Int) < (N0 : Int) := by omega
    have CT : Hid (∀ u, Below w.heap.size w u → Calls Try.prog 36 #[ev x] u fun e w' => ∃ Y, e = .returned (ev Y) ∧ EntOf w' (u.heap.size + 2) Y x.e ∧ Below u.heap.size u w') := fun u hb => by
      have hex := (h.wrs x (List.mem_of_getElem? hxl)).past hb
      refine (ptold_any x u hex).mono ?_
      rintro e w' ⟨a', c', rfl, ho, hb'⟩
      obtain ⟨k1, k2, k3⟩ := own_wrts ho rfl hex.wr.oks
      exact ⟨_, rfl, ⟨rfl, ⟨k2, k1, hex.few, hex.ok⟩, k3⟩, hb'⟩
    rw [hag] at HCE
    clear hV0 hcell hent hblk hhas hlo h hxl hxid hN0 hag
    go_enter Try.func16, Try.ntmps16
    go_wp2_with (first | (go_at_call 29; rw [HV0.out]; refine (CF.out _ HBW.out).mono ?_; rintro e w1 ⟨rfl, hb1⟩; have B1 : Hid (Below w.heap.size w w1) := HBW.out.trans (hb1.mono HBW.out.size); have HM1 : Hid (EntMine w1 w.heap.size zeroE) := HM0.out.past hb1; have q0 := HCE.out w1 B1.out; have E1 : Hid (EntAt w1 g (lo * 6) x) := HG.out w1 B1.out; clear hb1 CF HM0) | ((with_reducible show wpList _ _ _ (Oper.mk (some 23) _ _ _ _ _ :: _) _ _); refine wpList_load_pent 23 (by rfl) (by rfl) _ (by rfl) g (lo * 6) (by rfl) x E1.out ?_) | (go_at_call 36; refine (CT.out _ B1.out).mono ?_; rintro e w2 ⟨Y, rfl, hY, hb2⟩; have HY : Hid (EntOf w2 (w1.heap.size + 2) Y x.e) := hY; have B2 : Hid (Below w.heap.size w w2) := B1.out.trans (hb2.mono B1.out.size); have HM2 : Hid (EntMine w2 w.heap.size zeroE) := HM1.out.past hb2; clear hY hb2 HM1) | (have hgo := HM2.out; clear hgo; refine wpList_store_pent (.tmp 4) (by rfl) _ (by rfl) w.heap.size zeroE Y (by rfl) (by rfl) HM2.out ?_; intro u3 hu; have HM3 : Hid (EntMine u3 w.heap.size Y) := hu ▸ HM2.out.store; have HU3 : Hid (u3 = w2.setCells w.heap.size 0 (encE Y)) := hu; clear hu HM2))
    refine bodyPost_ret (results_pent rfl _ _ w.heap.size Y rfl HM3.out.at_) rfl ?_
    have hs := B1.out.size
    refine ⟨⟨Y, rfl, HY.out.is, HY.out.ent.kept (fun hl b o e => ?_), fun hl b o e => ?_⟩, by rw [HU3.out]; exact below_cells (Nat.le_refl _) B2.out⟩
    · have := HY.out.new hl b o e
      rw [HU3.out]
      exact cells_else (w := w) (by omega) _ _ _
    · have := HY.out.new hl b o e
      omega
/-- The entry that holds a key, in every world behind. -/
theorem hold_facts {w : World} {p : Nat} {M : List EntM} {X : Foot} (h : PTab w p M X) {k : List Int} {x : EntM} (hx : holdM M k = some x) {i : Int} (hi : ∀ x, holdM M k = some x → ∃ j : Nat, i = j ∧ j < M.length ∧ M[j]? = some x) : ∃ (j g c : Nat), i = j ∧ j < M.length ∧ M.length ≤ c ∧ Hid (∀ v, Below w.heap.size w v → v.cell? ⟨p, 0, none⟩ = some (.slice (some ⟨g, 0, none⟩) M.length c) ∧ v.cell? ⟨g, j * 6, none⟩ = some (.int .i64 x.e.id) ∧ v.cell? ⟨g, j * 6 + 3, none⟩ = some (.int .i64 x.e.t) ∧ v.cell? ⟨g, j * 6 + 4, none⟩ = some (.int .u8 x.e.n)) := by
  obtain ⟨a, c, hc1, hc2, hc3, hcell, hent, _⟩ := h.open
  obtain ⟨j, e, hj, hjx⟩ := hi x hx
  obtain ⟨g, hag, HG⟩ := hent j x hjx
  refine ⟨j, g, c, e, hj, hc1, fun v hv => ?_⟩
  have hcs := (HG.out v hv).cells
  rw [← hag]
  exact ⟨(hcell v hv).1, hcs.1, hcs.2.2.2.1, hcs.2.2.2.2.1⟩
set_option maxHeartbeats 4000000 in
theorem pholder_any (p : Nat) (M : List EntM) (X : Foot) (k : List Int) (hk : Ky k) (w : World) (h : PTab w p M X) :
    Calls Try.prog 12 #[.pointer (some ⟨p, 0, none⟩), kv k] w fun e w' => e = .returned (.tuple #[.int .i64 (orE (holdM M k)).e.id, .bool (holdM M k).isSome]) ∧ Below w.heap.size w w' := by
  have HB1 : Hid (Below w.heap.size w (w.alloc (.cells (kcs k) 39))) := (Below.refl _ _).alloc (Nat.le_refl _) _
  have FK : Hid (KeyAt (w.alloc (.cells (kcs k) 39)) w.heap.size 0 k) := KeyAt.made w 39 k hk
  have KY : Hid (Ky k) := hk
  have HT : Hid (PTab w p M X) := h
  have hfew := h.few
  obtain ⟨ok, hok⟩ : ∃ b, b = (holdM M k).isSome := ⟨_, rfl⟩
  have CH : Hid (∀ u, Below w.heap.size w u → Calls Try.prog 34 #[.pointer (some ⟨p, 0, none⟩), kv k] u fun e w' => (∃ i : Int, e = .returned (.tuple #[.int .i64 i, .bool ok]) ∧ ∀ x, holdM M k = some x → ∃ j : Nat, i = j ∧ j < M.length ∧ M[j]? = some x) ∧ Below u.heap.size u w') := fun u hb => by rw [hok]; exact pholding_any p M X k hk u (h.past hb)
  cases hh : holdM M k with
  | none =>
    rw [hh] at hok CH
    obtain rfl : ok = false := hok
    clear h hk hh
    go_enter Try.func12, Try.ntmps12
    go_wp2_with (first | ((with_reducible show wpList _ _ _ (Oper.mk (some 10) _ _ _ _ _ :: _) _ _); refine wpList_load_keyD 10 (by rfl) (by rfl) _ (by rfl) w.heap.size 0 (by rfl) k KY.out FK.out ?_) | (go_at_call 34; refine (CH.out _ HB1.out).mono ?_; rintro e w2 ⟨⟨i, rfl, _⟩, hb2⟩; have HB2 : Hid (Below w.heap.size w w2) := HB1.out.trans (hb2.mono HB1.out.size); clear hb2))
    go_ret2
    exact ⟨rfl, HB2.out⟩
  | some x =>
    rw [hh] at hok
    obtain rfl : ok = true := hok
    obtain ⟨xi, hxi⟩ : ∃ z, z = x.e.id := ⟨_, rfl⟩
    have CH2 : Hid (∀ u, Below w.heap.size w u → Calls Try.prog 34 #[.pointer (some ⟨p, 0, none⟩), kv k] u fun e w' => ∃ (j g c N : Nat), e = .returned (.tuple #[.int .i64 (j : Int), .bool true]) ∧ j < N ∧ N ≤ c ∧ N ≤ 100 ∧ w'.cell? ⟨p, 0, none⟩ = some (.slice (some ⟨g, 0, none⟩) N c) ∧ w'.cell? ⟨g, j * 6, none⟩ = some (.int .i64 xi) ∧ Hid (Below u.heap.size u w')) := fun u hb => by
      refine (CH.out u hb).mono ?_
      rintro e w' ⟨⟨i, rfl, hi⟩, hb'⟩
      obtain ⟨j, g, c, rfl, hj, hc, HF⟩ := hold_facts (HT.out.past hb) hh hi
      obtain ⟨f1, f2, _⟩ := HF.out w' hb'
      exact ⟨j, g, c, M.length, rfl, hj, hc, hfew, f1, by rw [hxi]; exact f2, hb'⟩
    have HXI : Hid (xi = x.e.id) := hxi
    clear h hk hh CH hxi
    go_enter Try.func12, Try.ntmps12
    go_wp2_with (first | ((with_reducible show wpList _ _ _ (Oper.mk (some 10) _ _ _ _ _ :: _) _ _); refine wpList_load_keyD 10 (by rfl) (by rfl) _ (by rfl) w.heap.size 0 (by rfl) k KY.out FK.out ?_) | (go_at_call 34; refine (CH2.out _ HB1.out).mono ?_; rintro e w2 ⟨j, g, c, N, rfl, hj, hc, hN, f1, f2, hb2⟩; have HB2 : Hid (Below w.heap.size w w2) := HB1.out.trans (hb2.out.mono HB1.out.size); have hj0 : (0 : Int) ≤ (j : Int) := (by omega); have hjN : (j : Int) < (N : Int) := (by omega); clear hb2))
    go_ret2
    exact ⟨by rw [HXI.out]; rfl, HB2.out⟩
set_option maxHeartbeats 4000000 in
set_option maxRecDepth 4000 in
theorem pblocks_any (p : Nat) (M : List EntM) (X : Foot) (k : List Int) (hk : Ky k) (t n : Int) (w : World) (h : PTab w p M X) :
    Calls Try.prog 25 #[.pointer (some ⟨p, 0, none⟩), kv k, .agg #[.int .i64 t, .int .u8 n]] w fun e w' => e = .returned (.tuple #[.int .i64 ((blocksT (ents M) k t n).getD 0), .bool (blocksT (ents M) k t n).isSome]) ∧ Below w.heap.size w w' := by
  obtain ⟨w1, hw1⟩ : ∃ u, u = (w.alloc (.cells (kcs k) 39)).alloc (.cells #[.int .i64 t, .int .u8 n] 28) := ⟨_, rfl⟩
  have hk1 : KeyAt w1 w.heap.size 0 k := by rw [hw1]; exact (KeyAt.made w 39 k hk).past ((Below.refl _ _).alloc (Nat.le_refl _) _)
  have HB1 : Hid (Below w.heap.size w w1) := by rw [hw1]; exact ((Below.refl _ _).alloc (Nat.le_refl _) _).alloc (by simp) _
  have FT0 : w1.cell? ⟨w.heap.size + 1, 0, none⟩ = some (.int .i64 t) ∧ w1.cell? ⟨w.heap.size + 1, 1, none⟩ = some (.int .u8 n) := by
    have e : ∀ o, w1.cell? ⟨w.heap.size + 1, o, none⟩ = (#[.int .i64 t, .int .u8 n] : Array Value)[o]? := fun o => by
      have := World.cell?_alloc_new (w.alloc (.cells (kcs k) 39)) #[.int .i64 t, .int .u8 n] 28 o
      rw [World.size_alloc] at this
      rw [hw1, this]
    exact ⟨e 0, e 1⟩
  have FT : Hid (∀ u, Below w1.heap.size w1 u → u.cell? ⟨w.heap.size + 1, 0, none⟩ = some (.int .i64 t) ∧ u.cell? ⟨w.heap.size + 1, 1, none⟩ = some (.int .u8 n)) := fun u hb => ⟨(hb.cell (p := ⟨w.heap.size + 1, 0, none⟩) (cell_lt FT0.1)).trans FT0.1, (hb.cell (p := ⟨w.heap.size + 1, 1, none⟩) (cell_lt FT0.1)).trans FT0.2⟩
  have FK : Hid (KeyAt w1 w.heap.size 0 k) := hk1
  have KY : Hid (Ky k) := hk
  have HT : Hid (PTab w p M X) := h
  have hfew := h.few
  have HW1 : Hid ((w.alloc (.cells (kcs k) 39)).alloc (.cells #[.int .i64 t, .int .u8 n] 28) = w1) := hw1.symm
  have hcode := blocks_code M k t n
  obtain ⟨R, hR⟩ : ∃ R, R = blocksT (ents M) k t n := ⟨_, rfl⟩
  rw [← hR] at hcode ⊢
  obtain ⟨ok, hok⟩ : ∃ b, b = (holdM M k).isSome := ⟨_, rfl⟩
  have CH : Hid (∀ u, Below w.heap.size w u → Calls Try.prog 34 #[.pointer (some ⟨p, 0, none⟩), kv k] u fun e w' => (∃ i : Int, e = .returned (.tuple #[.int .i64 i, .bool ok]) ∧ ∀ x, holdM M k = some x → ∃ j : Nat, i = j ∧ j < M.length ∧ M[j]? = some x) ∧ Below u.heap.size u w') := fun u hb => by rw [hok]; exact pholding_any p M X k hk u (h.past hb)
  cases hh : holdM M k with
  | none =>
    rw [hh] at hok CH hcode
    obtain rfl : ok = false := hok
    have HR : Hid (R = none) := hcode
    clear h hk hh hcode hR hk1 FT0 hw1
    go_enter Try.func25, Try.ntmps25
    go_wp2_with (first | ((with_reducible show wpList _ _ _ (Oper.mk (some 12) _ _ _ _ _ :: _) _ _); rw [HW1.out]; refine wpList_load_keyD 12 (by rfl) (by rfl) _ (by rfl) w.heap.size 0 (by rfl) k KY.out FK.out ?_) | (go_at_call 34; refine (CH.out _ HB1.out).mono ?_; rintro e w2 ⟨⟨i, rfl, _⟩, hb2⟩; have HB2 : Hid (Below w.heap.size w w2) := HB1.out.trans (hb2.mono HB1.out.size); clear hb2))
    refine wp_region_noPanic ?_
    refine wp_region_held_drew (S := fun u => Below w2.heap.size w2 u) (by kernel_rfl) ?_ (fun hHeld => ?_)
    · exact (Below.refl _ _).drew
    refine wpAnyH_take (i := 0) (v := ?_) rfl (by kernel_rfl) (by kernel_rfl) (by kernel_rfl) (fun _ _ _ h => h) (Or.inl ⟨by rfl, ?_⟩) hHeld ?_
    rotate_left
    · intro u hSu
      (go_simp) <;> (with_reducible rfl)
    change wpAnyH _ _ _ _ _ _ _ (Act.put _ (some 16) _) _
    simp only [Act.put, List.setIfInBounds_toArray, List.set_cons_zero, List.set_cons_succ]
    refine wpAnyH_take (i := 1) (v := ?_) rfl (by kernel_rfl) (by kernel_rfl) (by kernel_rfl) (fun _ _ _ h => h) (Or.inl ⟨by rfl, ?_⟩) hHeld ?_
    rotate_left
    · intro u hSu
      (go_simp) <;> (with_reducible rfl)
    change wpAnyH _ _ _ _ _ _ _ (Act.put _ (some 17) _) _
    simp only [Act.put, List.setIfInBounds_toArray, List.set_cons_zero, List.set_cons_succ]
    refine wpAnyH_take (i := 2) (v := ?_) rfl (by kernel_rfl) (by kernel_rfl) (by kernel_rfl) (fun _ _ _ h => h) (Or.inl ⟨by rfl, ?_⟩) hHeld ?_
    rotate_left
    · intro u hSu
      (go_simp) <;> (with_reducible rfl)
    change wpAnyH _ _ _ _ _ _ _ (Act.put _ (some 18) _) _
    simp only [Act.put, List.setIfInBounds_toArray, List.set_cons_zero, List.set_cons_succ]
    refine wpAnyH_take (i := 3) (v := undef) rfl (by kernel_rfl) (by kernel_rfl) (by kernel_rfl) (fun _ _ _ h => h) (Or.inr ⟨by rfl, rfl⟩) hHeld ?_
    change wpAnyH _ _ _ _ _ _ _ (Act.put _ (some 19) _) _
    simp only [Act.put, List.setIfInBounds_toArray, List.set_cons_zero, List.set_cons_succ]
    refine wpAnyH_take (i := 4) (v := undef) rfl (by kernel_rfl) (by kernel_rfl) (by kernel_rfl) (fun _ _ _ h => h) (Or.inr ⟨by rfl, rfl⟩) hHeld ?_
    change wpAnyH _ _ _ _ _ _ _ (Act.put _ (some 20) _) _
    simp only [Act.put, List.setIfInBounds_toArray, List.set_cons_zero, List.set_cons_succ]
    refine wpAnyH_take (i := 5) (v := undef) rfl (by kernel_rfl) (by kernel_rfl) (by kernel_rfl) (fun _ _ _ h => h) (Or.inr ⟨by rfl, rfl⟩) hHeld ?_
    change wpAnyH _ _ _ _ _ _ _ (Act.put _ (some 21) _) _
    simp only [Act.put, List.setIfInBounds_toArray, List.set_cons_zero, List.set_cons_succ]
    refine wpAnyH_take (i := 6) (v := undef) rfl (by kernel_rfl) (by kernel_rfl) (by kernel_rfl) (fun _ _ _ h => h) (Or.inr ⟨by rfl, rfl⟩) hHeld ?_
    change wpAnyH _ _ _ _ _ _ _ (Act.put _ (some 22) _) _
    simp only [Act.put, List.setIfInBounds_toArray, List.set_cons_zero, List.set_cons_succ]
    refine wpAnyH_take (i := 7) (v := undef) rfl (by kernel_rfl) (by kernel_rfl) (by kernel_rfl) (fun _ _ _ h => h) (Or.inr ⟨by rfl, rfl⟩) hHeld ?_
    change wpAnyH _ _ _ _ _ _ _ (Act.put _ (some 23) _) _
    simp only [Act.put, List.setIfInBounds_toArray, List.set_cons_zero, List.set_cons_succ]
    refine wpAnyH_take (i := 8) (v := undef) rfl (by kernel_rfl) (by kernel_rfl) (by kernel_rfl) (fun _ _ _ h => h) (Or.inr ⟨by rfl, rfl⟩) hHeld ?_
    change wpAnyH _ _ _ _ _ _ _ (Act.put _ (some 24) _) _
    simp only [Act.put, List.setIfInBounds_toArray, List.set_cons_zero, List.set_cons_succ]
    refine wpAnyH_take (i := 9) (v := undef) rfl (by kernel_rfl) (by kernel_rfl) (by kernel_rfl) (fun _ _ _ h => h) (Or.inr ⟨by rfl, rfl⟩) hHeld ?_
    change wpAnyH _ _ _ _ _ _ _ (Act.put _ (some 25) _) _
    simp only [Act.put, List.setIfInBounds_toArray, List.set_cons_zero, List.set_cons_succ]
    refine wpAnyH_take (i := 10) (v := undef) rfl (by kernel_rfl) (by kernel_rfl) (by kernel_rfl) (fun _ _ _ h => h) (Or.inr ⟨by rfl, rfl⟩) hHeld ?_
    change wpAnyH _ _ _ _ _ _ _ (Act.put _ (some 26) _) _
    simp only [Act.put, List.setIfInBounds_toArray, List.set_cons_zero, List.set_cons_succ]
    refine wpAnyH_take (i := 11) (v := undef) rfl (by kernel_rfl) (by kernel_rfl) (by kernel_rfl) (fun _ _ _ h => h) (Or.inr ⟨by rfl, rfl⟩) hHeld ?_
    change wpAnyH _ _ _ _ _ _ _ (Act.put _ (some 27) _) _
    simp only [Act.put, List.setIfInBounds_toArray, List.set_cons_zero, List.set_cons_succ]
    refine wpAnyH_take (i := 12) (v := undef) rfl (by kernel_rfl) (by kernel_rfl) (by kernel_rfl) (fun _ _ _ h => h) (Or.inr ⟨by rfl, rfl⟩) hHeld ?_
    change wpAnyH _ _ _ _ _ _ _ (Act.put _ (some 28) _) _
    simp only [Act.put, List.setIfInBounds_toArray, List.set_cons_zero, List.set_cons_succ]
    refine wpAnyH_take (i := 13) (v := undef) rfl (by kernel_rfl) (by kernel_rfl) (by kernel_rfl) (fun _ _ _ h => h) (Or.inr ⟨by rfl, rfl⟩) hHeld ?_
    change wpAnyH _ _ _ _ _ _ _ (Act.put _ (some 29) _) _
    simp only [Act.put, List.setIfInBounds_toArray, List.set_cons_zero, List.set_cons_succ]
    refine wpAnyH_take (i := 14) (v := ?_) rfl (by kernel_rfl) (by kernel_rfl) (by kernel_rfl) (fun _ _ _ h => h) (Or.inl ⟨by rfl, ?_⟩) hHeld ?_
    rotate_left
    · intro u hSu
      (go_simp) <;> (with_reducible rfl)
    change wpAnyH _ _ _ _ _ _ _ (Act.put _ (some 30) _) _
    simp only [Act.put, List.setIfInBounds_toArray, List.set_cons_zero, List.set_cons_succ]
    refine wpAnyH_done (by kernel_rfl) ?_ _
    refine NoPanic.normal ?_
    go_wp2
    go_ret2
    exact ⟨by rw [HR.out]; rfl, HB2.out.drew⟩
  | some x =>
    rw [hh] at hok hcode
    obtain rfl : ok = true := hok
    obtain ⟨xi, hxi⟩ : ∃ z, z = x.e.id := ⟨_, rfl⟩
    obtain ⟨xt, hxt⟩ : ∃ z, z = x.e.t := ⟨_, rfl⟩
    obtain ⟨xn, hxn⟩ : ∃ z, z = x.e.n := ⟨_, rfl⟩
    obtain ⟨c1, hc1⟩ : ∃ c, c = cmpS xt xn t n := ⟨_, rfl⟩
    have hcode2 : R = if 0 < c1 then none else some xi := by rw [hcode, hc1, hxt, hxn, hxi]; rfl
    have CC : Hid (∀ u, Calls Try.prog 33 #[.agg #[.int .i64 xt, .int .u8 xn], .agg #[.int .i64 t, .int .u8 n]] u fun e w' => e = .returned (.int .i64 c1) ∧ Below u.heap.size u w') := fun u => by rw [hc1]; exact scmp_any xt xn t n u
    have CH2 : Hid (∀ u, Below w.heap.size w u → Calls Try.prog 34 #[.pointer (some ⟨p, 0, none⟩), kv k] u fun e w' => ∃ (j g c N : Nat), e = .returned (.tuple #[.int .i64 (j : Int), .bool true]) ∧ j < N ∧ N ≤ c ∧ N ≤ 100 ∧ Hid (∀ v, Below w'.heap.size w' v → v.cell? ⟨p, 0, none⟩ = some (.slice (some ⟨g, 0, none⟩) N c) ∧ v.cell? ⟨g, j * 6, none⟩ = some (.int .i64 xi) ∧ v.cell? ⟨g, j * 6 + 3, none⟩ = some (.int .i64 xt) ∧ v.cell? ⟨g, j * 6 + 4, none⟩ = some (.int .u8 xn)) ∧ Hid (Below u.heap.size u w')) := fun u hb => by
      refine (CH.out u hb).mono ?_
      rintro e w' ⟨⟨i, rfl, hi⟩, hb'⟩
      obtain ⟨j, g, c, rfl, hj, hc, HF⟩ := hold_facts (HT.out.past hb) hh hi
      refine ⟨j, g, c, M.length, rfl, hj, hc, hfew, fun v hv => ?_, hb'⟩
      rw [hxi, hxt, hxn]
      exact HF.out v (hb'.trans (hv.mono hb'.size))
    clear h hk hh hcode hR hk1 FT0 hw1 CH hxi hxt hxn hc1
    by_cases hc0 : 0 < c1
    · have bc : decide (0 < c1) = true := decide_eq_true hc0
      have HR : Hid (R = none) := by rw [if_pos hc0] at hcode2; exact hcode2
      clear hcode2 hc0
      go_enter Try.func25, Try.ntmps25
      go_wp2_with (first | ((with_reducible show wpList _ _ _ (Oper.mk (some 12) _ _ _ _ _ :: _) _ _); rw [HW1.out]; refine wpList_load_keyD 12 (by rfl) (by rfl) _ (by rfl) w.heap.size 0 (by rfl) k KY.out FK.out ?_) | (go_at_call 34; refine (CH2.out _ HB1.out).mono ?_; rintro e w2 ⟨j, g, c, N, rfl, hj, hc, hN, HF, hb2⟩; have HB2 : Hid (Below w.heap.size w w2) := HB1.out.trans (hb2.out.mono HB1.out.size); have FT2 : Hid (∀ u, Below w2.heap.size w2 u → u.cell? ⟨w.heap.size + 1, 0, none⟩ = some (.int .i64 t) ∧ u.cell? ⟨w.heap.size + 1, 1, none⟩ = some (.int .u8 n)) := (fun u hu => FT.out u (hb2.out.trans (hu.mono hb2.out.size))); have hj0 : (0 : Int) ≤ (j : Int) := (by omega); have hjN : (j : Int) < (N : Int) := (by omega); clear hb2))
      refine wp_region_noPanic ?_
      refine wp_region_held_drew (S := fun u => Below w2.heap.size w2 u) (by kernel_rfl) ?_ (fun hHeld => ?_)
      · exact (Below.refl _ _).drew
      refine wpAnyH_take (i := 0) (v := ?_) rfl (by kernel_rfl) (by kernel_rfl) (by kernel_rfl) (fun _ _ _ h => h) (Or.inl ⟨by rfl, ?_⟩) hHeld ?_
      rotate_left
      · intro u hSu
        (go_simp) <;> (with_reducible rfl)
      change wpAnyH _ _ _ _ _ _ _ (Act.put _ (some 16) _) _
      simp only [Act.put, List.setIfInBounds_toArray, List.set_cons_zero, List.set_cons_succ]
      refine wpAnyH_take (i := 1) (v := ?_) rfl (by kernel_rfl) (by kernel_rfl) (by kernel_rfl) (fun _ _ _ h => h) (Or.inl ⟨by rfl, ?_⟩) hHeld ?_
      rotate_left
      · intro u hSu
        (go_simp) <;> (with_reducible rfl)
      change wpAnyH _ _ _ _ _ _ _ (Act.put _ (some 17) _) _
      simp only [Act.put, List.setIfInBounds_toArray, List.set_cons_zero, List.set_cons_succ]
      refine wpAnyH_take (i := 2) (v := ?_) rfl (by kernel_rfl) (by kernel_rfl) (by kernel_rfl) (fun _ _ _ h => h) (Or.inl ⟨by rfl, ?_⟩) hHeld ?_
      rotate_left
      · intro u hSu
        (go_simp) <;> (with_reducible rfl)
      change wpAnyH _ _ _ _ _ _ _ (Act.put _ (some 18) _) _
      simp only [Act.put, List.setIfInBounds_toArray, List.set_cons_zero, List.set_cons_succ]
      refine wpAnyH_take (i := 3) (v := ?_) rfl (by kernel_rfl) (by kernel_rfl) (by kernel_rfl) (fun _ _ _ h => h) (Or.inl ⟨by rfl, ?_⟩) hHeld ?_
      rotate_left
      · intro u hSu
        (go_simp) <;> (with_reducible rfl)
      change wpAnyH _ _ _ _ _ _ _ (Act.put _ (some 19) _) _
      simp only [Act.put, List.setIfInBounds_toArray, List.set_cons_zero, List.set_cons_succ]
      refine wpAnyH_take (i := 4) (v := ?_) rfl (by kernel_rfl) (by kernel_rfl) (by kernel_rfl) (fun _ _ _ h => h) (Or.inl ⟨by rfl, ?_⟩) hHeld ?_
      rotate_left
      · intro u hSu
        (go_simp) <;> (with_reducible rfl)
      change wpAnyH _ _ _ _ _ _ _ (Act.put _ (some 20) _) _
      simp only [Act.put, List.setIfInBounds_toArray, List.set_cons_zero, List.set_cons_succ]
      refine wpAnyH_take (i := 5) (v := ?_) rfl (by kernel_rfl) (by kernel_rfl) (by kernel_rfl) (fun _ _ _ h => h) (Or.inl ⟨by rfl, ?_⟩) hHeld ?_
      rotate_left
      · intro u hSu
        (go_simp) <;> (with_reducible rfl)
      change wpAnyH _ _ _ _ _ _ _ (Act.put _ (some 21) _) _
      simp only [Act.put, List.setIfInBounds_toArray, List.set_cons_zero, List.set_cons_succ]
      refine wpAnyH_take (i := 6) (v := ?_) rfl (by kernel_rfl) (by kernel_rfl) (by kernel_rfl) (fun _ _ _ h => h) (Or.inl ⟨by rfl, ?_⟩) hHeld ?_
      rotate_left
      · intro u hSu
        obtain ⟨f1, f2, f3, f4⟩ := HF.out u hSu
        (go_simp) <;> (with_reducible rfl)
      change wpAnyH _ _ _ _ _ _ _ (Act.put _ (some 22) _) _
      simp only [Act.put, List.setIfInBounds_toArray, List.set_cons_zero, List.set_cons_succ]
      refine wpAnyH_take (i := 7) (v := ?_) rfl (by kernel_rfl) (by kernel_rfl) (by kernel_rfl) (fun _ _ _ h => h) (Or.inl ⟨by rfl, ?_⟩) hHeld ?_
      rotate_left
      · intro u hSu
        (go_simp) <;> (with_reducible rfl)
      change wpAnyH _ _ _ _ _ _ _ (Act.put _ (some 23) _) _
      simp only [Act.put, List.setIfInBounds_toArray, List.set_cons_zero, List.set_cons_succ]
      refine wpAnyH_take (i := 8) (v := ?_) rfl (by kernel_rfl) (by kernel_rfl) (by kernel_rfl) (fun _ _ _ h => h) (Or.inl ⟨by rfl, ?_⟩) hHeld ?_
      rotate_left
      · intro u hSu
        (go_simp) <;> (with_reducible rfl)
      change wpAnyH _ _ _ _ _ _ _ (Act.put _ (some 24) _) _
      simp only [Act.put, List.setIfInBounds_toArray, List.set_cons_zero, List.set_cons_succ]
      refine wpAnyH_take (i := 9) (v := ?_) rfl (by kernel_rfl) (by kernel_rfl) (by kernel_rfl) (fun _ _ _ h => h) (Or.inl ⟨by rfl, ?_⟩) hHeld ?_
      rotate_left
      · intro u hSu
        (go_simp) <;> (with_reducible rfl)
      change wpAnyH _ _ _ _ _ _ _ (Act.put _ (some 25) _) _
      simp only [Act.put, List.setIfInBounds_toArray, List.set_cons_zero, List.set_cons_succ]
      refine wpAnyH_take (i := 10) (v := ?_) rfl (by kernel_rfl) (by kernel_rfl) (by kernel_rfl) (fun _ _ _ h => h) (Or.inl ⟨by rfl, ?_⟩) hHeld ?_
      rotate_left
      · intro u hSu
        obtain ⟨f1, f2, f3, f4⟩ := HF.out u hSu
        (go_simp) <;> (with_reducible rfl)
      change wpAnyH _ _ _ _ _ _ _ (Act.put _ (some 26) _) _
      simp only [Act.put, List.setIfInBounds_toArray, List.set_cons_zero, List.set_cons_succ]
      refine wpAnyH_take (i := 11) (v := ?_) rfl (by kernel_rfl) (by kernel_rfl) (by kernel_rfl) (fun _ _ _ h => h) (Or.inl ⟨by rfl, ?_⟩) hHeld ?_
      rotate_left
      · intro u hSu
        obtain ⟨f1, f2⟩ := FT2.out u hSu
        (go_simp) <;> (with_reducible rfl)
      change wpAnyH _ _ _ _ _ _ _ (Act.put _ (some 27) _) _
      simp only [Act.put, List.setIfInBounds_toArray, List.set_cons_zero, List.set_cons_succ]
      refine wpAnyH_ready (rs := [12]) (by kernel_rfl) (by simp) ?_
      refine AllReadyH.cons rfl (fun K hK => ?_) AllReadyH.nil
      go_simp
      go_at_call 33
      refine (CC.out _).mono ?_
      rintro e w3 ⟨rfl, hbw3⟩
      have B3 : Hid (Below w2.heap.size w2 w3) := hHeld.trans (hbw3.mono hHeld.size)
      clear hbw3
      refine hK.out _ _ ?_ (fun hHeld2 => ?_)
      · exact B3.out
      clear hK K hHeld
      have hHeld := hHeld2
      clear hHeld2
      refine wpAnyH_take (i := 13) (v := ?_) rfl (by kernel_rfl) (by kernel_rfl) (by kernel_rfl) (fun _ _ _ h => h) (Or.inl ⟨by rfl, ?_⟩) hHeld ?_
      rotate_left
      · intro u hSu
        (go_simp) <;> (with_reducible rfl)
      change wpAnyH _ _ _ _ _ _ _ (Act.put _ (some 29) _) _
      simp only [Act.put, List.setIfInBounds_toArray, List.set_cons_zero, List.set_cons_succ]
      refine wpAnyH_take (i := 14) (v := ?_) rfl (by kernel_rfl) (by kernel_rfl) (by kernel_rfl) (fun _ _ _ h => h) (Or.inl ⟨by rfl, ?_⟩) hHeld ?_
      rotate_left
      · intro u hSu
        (go_simp) <;> (with_reducible rfl)
      change wpAnyH _ _ _ _ _ _ _ (Act.put _ (some 30) _) _
      simp only [Act.put, List.setIfInBounds_toArray, List.set_cons_zero, List.set_cons_succ]
      refine wpAnyH_done (by kernel_rfl) ?_ _
      refine NoPanic.normal ?_
      go_wp2
      go_ret2
      exact ⟨by rw [HR.out]; rfl, HB2.out.trans (B3.out.mono HB2.out.size)⟩
    · have bc : decide (0 < c1) = false := decide_eq_false hc0
      have HR : Hid (R = some xi) := by rw [if_neg hc0] at hcode2; exact hcode2
      clear hcode2 hc0
      go_enter Try.func25, Try.ntmps25
      go_wp2_with (first | ((with_reducible show wpList _ _ _ (Oper.mk (some 12) _ _ _ _ _ :: _) _ _); rw [HW1.out]; refine wpList_load_keyD 12 (by rfl) (by rfl) _ (by rfl) w.heap.size 0 (by rfl) k KY.out FK.out ?_) | (go_at_call 34; refine (CH2.out _ HB1.out).mono ?_; rintro e w2 ⟨j, g, c, N, rfl, hj, hc, hN, HF, hb2⟩; have HB2 : Hid (Below w.heap.size w w2) := HB1.out.trans (hb2.out.mono HB1.out.size); have FT2 : Hid (∀ u, Below w2.heap.size w2 u → u.cell? ⟨w.heap.size + 1, 0, none⟩ = some (.int .i64 t) ∧ u.cell? ⟨w.heap.size + 1, 1, none⟩ = some (.int .u8 n)) := (fun u hu => FT.out u (hb2.out.trans (hu.mono hb2.out.size))); have hj0 : (0 : Int) ≤ (j : Int) := (by omega); have hjN : (j : Int) < (N : Int) := (by omega); clear hb2))
      refine wp_region_noPanic ?_
      refine wp_region_held_drew (S := fun u => Below w2.heap.size w2 u) (by kernel_rfl) ?_ (fun hHeld => ?_)
      · exact (Below.refl _ _).drew
      refine wpAnyH_take (i := 0) (v := ?_) rfl (by kernel_rfl) (by kernel_rfl) (by kernel_rfl) (fun _ _ _ h => h) (Or.inl ⟨by rfl, ?_⟩) hHeld ?_
      rotate_left
      · intro u hSu
        (go_simp) <;> (with_reducible rfl)
      change wpAnyH _ _ _ _ _ _ _ (Act.put _ (some 16) _) _
      simp only [Act.put, List.setIfInBounds_toArray, List.set_cons_zero, List.set_cons_succ]
      refine wpAnyH_take (i := 1) (v := ?_) rfl (by kernel_rfl) (by kernel_rfl) (by kernel_rfl) (fun _ _ _ h => h) (Or.inl ⟨by rfl, ?_⟩) hHeld ?_
      rotate_left
      · intro u hSu
        (go_simp) <;> (with_reducible rfl)
      change wpAnyH _ _ _ _ _ _ _ (Act.put _ (some 17) _) _
      simp only [Act.put, List.setIfInBounds_toArray, List.set_cons_zero, List.set_cons_succ]
      refine wpAnyH_take (i := 2) (v := ?_) rfl (by kernel_rfl) (by kernel_rfl) (by kernel_rfl) (fun _ _ _ h => h) (Or.inl ⟨by rfl, ?_⟩) hHeld ?_
      rotate_left
      · intro u hSu
        (go_simp) <;> (with_reducible rfl)
      change wpAnyH _ _ _ _ _ _ _ (Act.put _ (some 18) _) _
      simp only [Act.put, List.setIfInBounds_toArray, List.set_cons_zero, List.set_cons_succ]
      refine wpAnyH_take (i := 3) (v := ?_) rfl (by kernel_rfl) (by kernel_rfl) (by kernel_rfl) (fun _ _ _ h => h) (Or.inl ⟨by rfl, ?_⟩) hHeld ?_
      rotate_left
      · intro u hSu
        (go_simp) <;> (with_reducible rfl)
      change wpAnyH _ _ _ _ _ _ _ (Act.put _ (some 19) _) _
      simp only [Act.put, List.setIfInBounds_toArray, List.set_cons_zero, List.set_cons_succ]
      refine wpAnyH_take (i := 4) (v := ?_) rfl (by kernel_rfl) (by kernel_rfl) (by kernel_rfl) (fun _ _ _ h => h) (Or.inl ⟨by rfl, ?_⟩) hHeld ?_
      rotate_left
      · intro u hSu
        (go_simp) <;> (with_reducible rfl)
      change wpAnyH _ _ _ _ _ _ _ (Act.put _ (some 20) _) _
      simp only [Act.put, List.setIfInBounds_toArray, List.set_cons_zero, List.set_cons_succ]
      refine wpAnyH_take (i := 5) (v := ?_) rfl (by kernel_rfl) (by kernel_rfl) (by kernel_rfl) (fun _ _ _ h => h) (Or.inl ⟨by rfl, ?_⟩) hHeld ?_
      rotate_left
      · intro u hSu
        (go_simp) <;> (with_reducible rfl)
      change wpAnyH _ _ _ _ _ _ _ (Act.put _ (some 21) _) _
      simp only [Act.put, List.setIfInBounds_toArray, List.set_cons_zero, List.set_cons_succ]
      refine wpAnyH_take (i := 6) (v := ?_) rfl (by kernel_rfl) (by kernel_rfl) (by kernel_rfl) (fun _ _ _ h => h) (Or.inl ⟨by rfl, ?_⟩) hHeld ?_
      rotate_left
      · intro u hSu
        obtain ⟨f1, f2, f3, f4⟩ := HF.out u hSu
        (go_simp) <;> (with_reducible rfl)
      change wpAnyH _ _ _ _ _ _ _ (Act.put _ (some 22) _) _
      simp only [Act.put, List.setIfInBounds_toArray, List.set_cons_zero, List.set_cons_succ]
      refine wpAnyH_take (i := 7) (v := ?_) rfl (by kernel_rfl) (by kernel_rfl) (by kernel_rfl) (fun _ _ _ h => h) (Or.inl ⟨by rfl, ?_⟩) hHeld ?_
      rotate_left
      · intro u hSu
        (go_simp) <;> (with_reducible rfl)
      change wpAnyH _ _ _ _ _ _ _ (Act.put _ (some 23) _) _
      simp only [Act.put, List.setIfInBounds_toArray, List.set_cons_zero, List.set_cons_succ]
      refine wpAnyH_take (i := 8) (v := ?_) rfl (by kernel_rfl) (by kernel_rfl) (by kernel_rfl) (fun _ _ _ h => h) (Or.inl ⟨by rfl, ?_⟩) hHeld ?_
      rotate_left
      · intro u hSu
        (go_simp) <;> (with_reducible rfl)
      change wpAnyH _ _ _ _ _ _ _ (Act.put _ (some 24) _) _
      simp only [Act.put, List.setIfInBounds_toArray, List.set_cons_zero, List.set_cons_succ]
      refine wpAnyH_take (i := 9) (v := ?_) rfl (by kernel_rfl) (by kernel_rfl) (by kernel_rfl) (fun _ _ _ h => h) (Or.inl ⟨by rfl, ?_⟩) hHeld ?_
      rotate_left
      · intro u hSu
        (go_simp) <;> (with_reducible rfl)
      change wpAnyH _ _ _ _ _ _ _ (Act.put _ (some 25) _) _
      simp only [Act.put, List.setIfInBounds_toArray, List.set_cons_zero, List.set_cons_succ]
      refine wpAnyH_take (i := 10) (v := ?_) rfl (by kernel_rfl) (by kernel_rfl) (by kernel_rfl) (fun _ _ _ h => h) (Or.inl ⟨by rfl, ?_⟩) hHeld ?_
      rotate_left
      · intro u hSu
        obtain ⟨f1, f2, f3, f4⟩ := HF.out u hSu
        (go_simp) <;> (with_reducible rfl)
      change wpAnyH _ _ _ _ _ _ _ (Act.put _ (some 26) _) _
      simp only [Act.put, List.setIfInBounds_toArray, List.set_cons_zero, List.set_cons_succ]
      refine wpAnyH_take (i := 11) (v := ?_) rfl (by kernel_rfl) (by kernel_rfl) (by kernel_rfl) (fun _ _ _ h => h) (Or.inl ⟨by rfl, ?_⟩) hHeld ?_
      rotate_left
      · intro u hSu
        obtain ⟨f1, f2⟩ := FT2.out u hSu
        (go_simp) <;> (with_reducible rfl)
      change wpAnyH _ _ _ _ _ _ _ (Act.put _ (some 27) _) _
      simp only [Act.put, List.setIfInBounds_toArray, List.set_cons_zero, List.set_cons_succ]
      refine wpAnyH_ready (rs := [12]) (by kernel_rfl) (by simp) ?_
      refine AllReadyH.cons rfl (fun K hK => ?_) AllReadyH.nil
      go_simp
      go_at_call 33
      refine (CC.out _).mono ?_
      rintro e w3 ⟨rfl, hbw3⟩
      have B3 : Hid (Below w2.heap.size w2 w3) := hHeld.trans (hbw3.mono hHeld.size)
      clear hbw3
      refine hK.out _ _ ?_ (fun hHeld2 => ?_)
      · exact B3.out
      clear hK K hHeld
      have hHeld := hHeld2
      clear hHeld2
      refine wpAnyH_take (i := 13) (v := ?_) rfl (by kernel_rfl) (by kernel_rfl) (by kernel_rfl) (fun _ _ _ h => h) (Or.inl ⟨by rfl, ?_⟩) hHeld ?_
      rotate_left
      · intro u hSu
        (go_simp) <;> (with_reducible rfl)
      change wpAnyH _ _ _ _ _ _ _ (Act.put _ (some 29) _) _
      simp only [Act.put, List.setIfInBounds_toArray, List.set_cons_zero, List.set_cons_succ]
      refine wpAnyH_take (i := 14) (v := ?_) rfl (by kernel_rfl) (by kernel_rfl) (by kernel_rfl) (fun _ _ _ h => h) (Or.inl ⟨by rfl, ?_⟩) hHeld ?_
      rotate_left
      · intro u hSu
        (go_simp) <;> (with_reducible rfl)
      change wpAnyH _ _ _ _ _ _ _ (Act.put _ (some 30) _) _
      simp only [Act.put, List.setIfInBounds_toArray, List.set_cons_zero, List.set_cons_succ]
      refine wpAnyH_done (by kernel_rfl) ?_ _
      refine NoPanic.normal ?_
      obtain ⟨f1, f2, f3, f4⟩ := HF.out w3 B3.out
      go_wp2
      go_ret2
      exact ⟨by rw [HR.out]; rfl, HB2.out.trans (B3.out.mono HB2.out.size)⟩
end Go.Proofs.Ythgkbabikeknlaa

namespace Go.Proofs.Ythgkbabikeknlaa
open Go.RowKit
set_option linter.unusedVariables false

theorem wpList_build_pent1 (d : Tmp) {ops : Array Oper} {rest : List Oper} {op : Oper} {a : Act} {w : World} {Q : Exit → Act → World → Prop} (hd : op.dst = some d) (hgd : op.guard = none) (y : Operand) (ho : op.op = .buildSlice 41 1 #[(0, y)])
    (x : EntM) (hx : a.eval y = ev x)
    (h : wpList Try.prog ops Q rest (a.put op.dst (.slice (some ⟨w.heap.size, 0, none⟩) 1 1)) (w.alloc (.cells (encE x).toArray 31))) : wpList Try.prog ops Q (op :: rest) a w := by
  refine wpList_plain hgd fun K hK => ?_
  have hrun := run_build_pent1 w x
  unfold Oper.wp
  simp only [execOp, ho, List.map_toArray, List.map_cons, List.map_nil, hx, Sem.run_bind, hrun, Result.andThen]
  exact hK _ _ h
/-- Rows of unlike types lie apart. -/
theorem rows_apart {u : World} {B1 B2 e1 e2 s1 s2 n1 n2 : Nat} {v1 v2 : Value} {x1 x2 : List Value} (h1 : u.ownsRow B1 e1 s1 v1 n1 x1) (h2 : u.ownsRow B2 e2 s2 v2 n2 x2) (hne : e1 ≠ e2) {k : Nat} (hk : v1.ownBlock = some k) : v2.ownBlock ≠ some k := fun hk2 => by
  rcases h1.2 with ⟨a1, _⟩ | ⟨g1, p1, c1, a1, _, q1, _⟩
  · rw [a1] at hk; cases hk
  · rcases h2.2 with ⟨a2, _⟩ | ⟨g2, p2, c2, a2, _, q2, _⟩
    · rw [a2] at hk2; cases hk2
    · rw [a1] at hk
      rw [a2] at hk2
      have i1 : g1 = k := by simpa [Value.ownBlock] using hk
      have i2 : g2 = k := by simpa [Value.ownBlock] using hk2
      rw [i1] at q1
      rw [i2, q1] at q2
      have q3 := Option.some.inj q2
      injection q3 with _ q4 _
      exact hne q4
/-- One more entry of an answer: its writes in a row of their own. -/
structure EntOwn (u : World) (B : Nat) (y : EntM) : Prop where
  row : u.ownsRow B 46 18 (.slice y.a y.e.l.length y.c) y.e.l.length (y.e.l.flatMap encW)
  oks : ∀ W ∈ y.e.l, WrtOk W
  few : y.e.l.length ≤ 1000000
  ok : EntOk y.e
theorem EntOwn.past {u u' : World} {B : Nat} {y : EntM} (h : EntOwn u B y) (hb : Below u.heap.size u u') : EntOwn u' B y := ⟨row_keptT h.row (fun k e => hb.block k (h.row.lt k e).2), h.oks, h.few, h.ok⟩
theorem EntOwn.ent {u : World} {B : Nat} {y : EntM} (h : EntOwn u B y) : EntW u y := by
  obtain ⟨k1, k2, _⟩ := own_wrts h.row rfl h.oks
  exact ⟨k2, k1, h.few, h.ok⟩
theorem EntOwn.turned {u u' : World} {B B2 n : Nat} {v : Value} {xs : List Value} {y : EntM} (h : EntOwn u B y) (ho : u.ownsRow B2 31 6 v n xs) (hg : u.grownBy u' v.ownBlock) : EntOwn u' B y :=
  ⟨row_keptT h.row (fun k e => hg.block k (h.row.lt k e).2 (fun e2 => rows_apart h.row ho (by decide) e e2.symm)), h.oks, h.few, h.ok⟩
/-- The entries of an answer. -/
structure AllOf (u : World) (B : Nat) (v : Value) (L : List EntM) (E : List Ent) : Prop where
  row : u.ownsRow B 31 6 v L.length (L.flatMap encE)
  is : ents L = E
  own : ∀ y ∈ L, EntOwn u B y
set_option maxHeartbeats 8000000 in
set_option maxRecDepth 4000 in
theorem pall_any (p : Nat) (M : List EntM) (X : Foot) (w : World) (h : PTab w p M X) :
    Calls Try.prog 14 #[.pointer (some ⟨p, 0, none⟩)] w fun e w' => (∃ a c L, e = .returned (.slice a M.length c) ∧ AllOf w' w.heap.size (.slice a M.length c) L (ents M)) ∧ Below w.heap.size w w' := by
  obtain ⟨a0, c0, hc1, hc2, hc3, hcell, hent, hblk⟩ := h.open
  obtain ⟨N, hN⟩ : ∃ N, N = M.length := ⟨_, rfl⟩
  have hfew : N ≤ 100 := by rw [hN]; exact h.few
  have q0 : w.cell? ⟨p, 0, none⟩ = some (.slice a0 N c0) := by rw [hN]; exact (hcell w (Below.refl _ _)).1
  have HS : Hid (∀ i x, M[i]? = some x → ∃ g, a0 = some ⟨g, 0, none⟩ ∧ Hid (∀ v, Below w.heap.size w v → EntAt v g (i * 6) x)) := hent
  have HN : Hid (M.length = N) := hN.symm
  have CT : Hid (∀ x ∈ M, ∀ u, Below w.heap.size w u → Calls Try.prog 36 #[ev x] u fun e w' => ∃ Y, e = .returned (ev Y) ∧ Y.e = x.e ∧ EntOwn w' w.heap.size Y ∧ Below u.heap.size u w') := fun x hx u hb => by
    have hex := (h.wrs x hx).past hb
    refine (ptold_any x u hex).mono ?_
    rintro e w' ⟨a', c', rfl, ho, hb'⟩
    exact ⟨_, rfl, rfl, ⟨own_downT ho (by have := hb.size; omega), hex.wr.oks, hex.few, hex.ok⟩, hb'⟩
  rw [← hN]
  have hNc : N ≤ c0 := by omega
  clear h hcell hent hblk hN hc1 hc2 hc3
  go_enter Try.func14, Try.ntmps14
  go_wp2
  go_loopw [3, 11] (fun rv iv wr => ∃ (i : Nat) (ra : Option Addr) (rc : Nat) (L : List EntM), iv = .int .i64 i ∧ rv = .slice ra i rc ∧ i ≤ N ∧ Hid (OwnB 31 6 w wr (.slice ra i rc) i (L.flatMap encE)) ∧ Hid (ents L = ents (M.take i)) ∧ Hid (∀ y ∈ L, EntOwn wr w.heap.size y) ∧ Hid (L.length = i)) (fun _ iv _ => N - (intOf iv).toNat)
  case atStart => exact ⟨0, none, 0, [], rfl, rfl, Nat.zero_le _, ⟨World.ownsRow_nil _ _ _ _, Below.refl _ _⟩, rfl, fun y hy => by simp at hy, rfl⟩
  case round =>
    obtain ⟨i, ra, rc, L, rfl, rfl, hi, HO, HE, HL, HLN⟩ := hrel
    have hi0 : (0 : Int) ≤ (i : Int) := by omega
    by_cases hlt : i < N
    · have h1 : (i : Int) < (N : Int) := by omega
      have hm1 : i + 1 ≤ 1000000 := by omega
      obtain ⟨x, hx⟩ : ∃ x, M[i]? = some x := ⟨_, List.getElem?_eq_getElem (by rw [HN.out]; exact hlt)⟩
      obtain ⟨g, hag, HG⟩ := HS.out i x hx
      subst hag
      have FE : Hid (EntAt wr g (i * 6) x) := HG.out wr HO.out.below
      have CT1 : Hid (∀ u, Below w.heap.size w u → Calls Try.prog 36 #[ev x] u fun e w' => ∃ Y, e = .returned (ev Y) ∧ Y.e = x.e ∧ EntOwn w' w.heap.size Y ∧ Below u.heap.size u w') := CT.out x (List.mem_of_getElem? hx)
      have HNX : Hid (ents (M.take (i + 1)) = ents (M.take i) ++ [x.e]) := by show _ = _; rw [List.take_add_one, hx]; simp [ents]
      have hmi := EntMine.made wr 31 zeroE
      rw [zeroE_cells] at hmi
      have HMI : Hid _ := hmi
      clear hx hmi
      go_wp2_with (first | ((with_reducible show wpList _ _ _ (Oper.mk (some 14) _ _ _ _ _ :: _) _ _); refine wpList_load_pent 14 (by rfl) (by rfl) _ (by rfl) g (i * 6) (by rfl) x FE.out ?_) | (have hgo := HMI.out; clear hgo; refine wpList_store_pent (.tmp 5) (by rfl) _ (by rfl) wr.heap.size zeroE x (by rfl) (by rfl) HMI.out ?_; intro u2 hu; have HX2 : Hid (EntMine u2 wr.heap.size x) := hu ▸ HMI.out.store; have HB2 : Hid (Below wr.heap.size wr u2) := hu ▸ below_cells (Nat.le_refl _) ((Below.refl _ _).alloc (Nat.le_refl _) _); have HB3 : Hid (Below w.heap.size w u2) := HO.out.below.trans (HB2.out.mono HO.out.below.size); clear hu HMI) | ((with_reducible show wpList _ _ _ (Oper.mk (some 16) _ _ _ _ _ :: _) _ _); refine wpList_load_pent 16 (by rfl) (by rfl) _ (by rfl) wr.heap.size 0 (by rfl) x HX2.out.at_ ?_) | (go_at_call 36; refine (CT1.out _ HB3.out).mono ?_; rintro e w3 ⟨Y, rfl, hY1, hY2, hb3⟩; have HY1 : Hid (Y.e = x.e) := hY1; have HY2 : Hid (EntOwn w3 w.heap.size Y) := hY2; have HB4 : Hid (Below wr.heap.size wr w3) := HB2.out.trans (hb3.mono HB2.out.size); have HO3 : Hid (OwnB 31 6 w w3 (.slice ra i rc) i (L.flatMap encE)) := ⟨row_keptT HO.out.own (fun k e => HB4.out.block k (HO.out.own.lt k e).2), HO.out.below.trans (HB4.out.mono HO.out.below.size)⟩; clear hY1 hY2 hb3) | ((with_reducible show wpList _ _ _ (Oper.mk (some 18) _ _ _ _ _ :: _) _ _); refine wpList_build_pent1 18 (by rfl) (by rfl) _ (by rfl) Y (by rfl) ?_) | (at_builtin; refine wpList_own pentEl (w0 := w) rfl (.tmp 15) (.tmp 18) rfl _ i _ (encE Y) rfl (HO3.out.alloc _) _ _ _ rfl (by rw [encE_len]) (lies_made _ _ _) (encE_one Y) (fun h => by cases h) (i + 1) rfl hm1 ((L ++ [Y]).flatMap encE) (by rw [List.flatMap_append]; simp) ?_; intro a6 c6 w6 h1 h2; have O6 : Hid (OwnB 31 6 w w6 (.slice a6 (i + 1) c6) (i + 1) ((L ++ [Y]).flatMap encE)) := h1; have G6 : Hid ((w3.alloc (.cells (encE Y).toArray 31)).grownBy w6 (Value.slice ra i rc).ownBlock) := h2; clear h1 h2))
      go_roundw
      case rel =>
        refine ⟨i + 1, a6, c6, L ++ [Y], by go_num, rfl, by omega, O6, ?_, fun y hy => ?_, ?_⟩
        · show _ = _
          rw [HNX.out, ← HE.out, ← HY1.out]
          simp [ents]
        · have hbA : Below w3.heap.size w3 (w3.alloc (.cells (encE Y).toArray 31)) := (Below.refl _ _).alloc (Nat.le_refl _) _
          have ho := (HO3.out.alloc (.cells (encE Y).toArray 31)).own
          rcases List.mem_append.1 hy with e | e
          · exact (((HL.out y e).past HB4.out).past hbA).turned ho G6.out
          · simp at e
            rw [e]
            exact (HY2.out.past hbA).turned ho G6.out
        · show _ = _
          rw [List.length_append, HLN.out]
          rfl
      case measure => simp [intOf]; omega
    · obtain rfl : i = N := by omega
      have HT : Hid (M.take i = M) := List.take_of_length_le (by rw [HN.out]; exact Nat.le_refl _)
      go_wp2
      go_ret
      refine ⟨⟨ra, rc, L, rfl, ⟨?_, ?_, HL.out⟩⟩, HO.out.below⟩
      · have := HO.out.own
        rw [← HLN.out] at this ⊢
        exact this
      · rw [HE.out, HT.out]
end Go.Proofs.Ythgkbabikeknlaa

namespace Go.Proofs.Ythgkbabikeknlaa
open Go.RowKit
set_option linter.unusedVariables false

theorem LsB.made2 (w : World) (T : TypeId) (t n : Int) : LsB w ((w.alloc (.cells #[.int .i64 0, .int .u8 0] T)).alloc (.cells #[.int .i64 t, .int .u8 n] T)) t n := by
  obtain ⟨u1, h1⟩ : ∃ u, u = w.alloc (.cells #[.int .i64 0, .int .u8 0] T) := ⟨_, rfl⟩
  have e1 : u1.heap.size = w.heap.size + 1 := by rw [h1]; simp
  have k1 : StMine u1 w.heap.size 0 0 := by rw [h1]; exact StMine.made w T 0 0
  have b1 : Below w.heap.size w u1 := by rw [h1]; exact (Below.refl _ _).alloc (Nat.le_refl _) _
  rw [← h1]
  have b2 : Below u1.heap.size u1 (u1.alloc (.cells #[.int .i64 t, .int .u8 n] T)) := (Below.refl _ _).alloc (Nat.le_refl _) _
  have k2 := StMine.made u1 T t n
  rw [e1] at k2
  exact ⟨k1.past b2, k2, b1.trans (b2.mono b1.size)⟩
set_option maxHeartbeats 8000000 in
set_option maxRecDepth 4000 in
theorem pleast_any (p : Nat) (M : List EntM) (X : Foot) (w : World) (h : PTab w p M X) :
    Calls Try.prog 11 #[.pointer (some ⟨p, 0, none⟩)] w fun e w' => e = .returned (.tuple #[.agg #[.int .i64 (lsT (leastT (ents M))), .int .u8 (lsN (leastT (ents M)))], .bool (leastT (ents M)).isSome]) ∧ Below w.heap.size w w' := by
  obtain ⟨a0, c0, hc1, hc2, hc3, hcell, hent, hblk⟩ := h.open
  obtain ⟨N, hN⟩ : ∃ N, N = M.length := ⟨_, rfl⟩
  have hfew : N ≤ 100 := by rw [hN]; exact h.few
  have HCE : Hid (∀ v, Below w.heap.size w v → v.cell? ⟨p, 0, none⟩ = some (.slice a0 N c0)) := fun v hv => by rw [hN]; exact (hcell v hv).1
  have HN : Hid (M.length = N) := hN.symm
  have hNc : N ≤ c0 := by omega
  have hc63 : c0 ≤ 9223372036854775807 := by unfold maxLen at hc2; omega
  by_cases h0 : N = 0
  · have hM : M = [] := List.eq_nil_of_length_eq_zero (by omega)
    subst hM
    have HV : Hid (Below w.heap.size w (w.alloc (.cells #[.int .i64 0, .int .u8 0] 28))) := (Below.refl _ _).alloc (Nat.le_refl _) _
    have q0 := HCE.out _ HV.out
    have HM0 : Hid (StMine (w.alloc (.cells #[.int .i64 0, .int .u8 0] 28)) w.heap.size 0 0) := StMine.made w 28 0 0
    subst h0
    obtain ⟨y0, y1, f0, f1⟩ : (w.alloc (.cells #[.int .i64 0, .int .u8 0] 28)).cell? ⟨w.heap.size, 0, none⟩ = some (.int .i64 0) ∧ (w.alloc (.cells #[.int .i64 0, .int .u8 0] 28)).cell? ⟨w.heap.size, 1, none⟩ = some (.int .u8 0) ∧ True ∧ True := ⟨HM0.out.c0, HM0.out.c1, trivial, trivial⟩
    clear h hcell hent hblk hN hc1 hc2 hc3 f0 f1
    go_enter Try.func11, Try.ntmps11
    go_wp2_with ((with_reducible show wpList _ _ _ (Oper.mk none _ _ _ _ _ :: _) _ _); refine wpList_store_st (.tmp 2) (by rfl) _ (by rfl) w.heap.size 0 0 0 0 (by rfl) (by rfl) HM0.out ?_; intro u2 hu; have HM2 : Hid (StMine u2 w.heap.size 0 0) := hu ▸ HM0.out.store; have HB2 : Hid (Below w.heap.size w u2) := hu ▸ below_cells (Nat.le_refl _) HV.out; clear hu)
    refine bodyPost_ret (results_st rfl _ _ w.heap.size 0 0 rfl HM2.out) rfl ?_
    exact ⟨rfl, HB2.out⟩
  · have hpos : 0 < N := by omega
    obtain ⟨x0, hx0⟩ : ∃ x, M[0]? = some x := ⟨_, List.getElem?_eq_getElem (by omega)⟩
    obtain ⟨g, hag, HG0⟩ := hent 0 x0 hx0
    subst hag
    have HS : Hid (∀ i x, M[i]? = some x → ∀ v, Below w.heap.size w v → EntAt v g (i * 6) x) := fun i x hx v hv => by
      obtain ⟨g', e, HG⟩ := hent i x hx
      injection e with e
      injection e with e
      subst e
      exact HG.out v hv
    obtain ⟨t0, ht0⟩ : ∃ z, z = x0.e.t := ⟨_, rfl⟩
    obtain ⟨n0, hn0⟩ : ∃ z, z = x0.e.n := ⟨_, rfl⟩
    have HL0 : Hid (leastT (ents (M.take 1)) = some (t0, n0)) := by
      show _ = _
      rw [least_next hx0, ht0, hn0]
      rfl
    have HV : Hid (Below w.heap.size w (w.alloc (.cells #[.int .i64 0, .int .u8 0] 28))) := (Below.refl _ _).alloc (Nat.le_refl _) _
    have q0 := HCE.out _ HV.out
    obtain ⟨y3, y4⟩ : (w.alloc (.cells #[.int .i64 0, .int .u8 0] 28)).cell? ⟨g, 3, none⟩ = some (.int .i64 t0) ∧ (w.alloc (.cells #[.int .i64 0, .int .u8 0] 28)).cell? ⟨g, 4, none⟩ = some (.int .u8 n0) := by
      have hcs := (HS.out 0 x0 hx0 _ HV.out).cells
      rw [ht0, hn0]
      simp only [Nat.zero_mul, Nat.zero_add] at hcs
      exact ⟨hcs.2.2.2.1, hcs.2.2.2.2.1⟩
    have HLB : Hid (LsB w ((w.alloc (.cells #[.int .i64 0, .int .u8 0] 28)).alloc (.cells #[.int .i64 t0, .int .u8 n0] 28)) t0 n0) := LsB.made2 w 28 t0 n0
    have q1 := HCE.out _ HLB.out.below
    obtain ⟨J, rfl⟩ : ∃ J, N = J + 1 := ⟨N - 1, by omega⟩
    have HEND : Hid (∀ (wr : World) (t n : Int), LsB w wr t n → leastT (ents (M.take (J + 1))) = some (t, n) → lsT (leastT (ents M)) = t ∧ lsN (leastT (ents M)) = n ∧ (leastT (ents M)).isSome = true) := fun wr t n _ e => by
      rw [List.take_of_length_le (by rw [HN.out]; exact Nat.le_refl _)] at e
      rw [e]
      exact ⟨rfl, rfl, rfl⟩
    have hposI : (0 : Int) < (J : Int) + 1 := by omega
    have hN0 : (((J : Int) + 1) == 0) = false := by simp only [beq_eq_false_iff_ne]; omega
    have hN9 : ¬ ((J : Int) + 1 = 0) := by omega
    have h1N : (1 : Int) ≤ (J : Int) + 1 := by omega
    clear h hcell hent hblk hN hc1 hc2 hc3 hx0 ht0 hn0 HG0 h0 hpos
    by_cases hc : c0 = 1
    · obtain rfl : J = 0 := by omega
      subst hc
      go_enter Try.func11, Try.ntmps11
      go_wp2
      go_loopw [27] (fun iv wr => iv = .int .i64 0 ∧ Hid (LsB w wr t0 n0)) (fun _ _ => 0)
      case atStart => exact ⟨rfl, HLB⟩
      case round =>
        obtain ⟨rfl, HL⟩ := hrel
        have HAN := HEND.out wr t0 n0 HL.out HL0.out
        have HAN2 : Hid _ := HAN
        clear HAN
        obtain ⟨y0, y1⟩ : wr.cell? ⟨w.heap.size + 1, 0, none⟩ = some (.int .i64 t0) ∧ wr.cell? ⟨w.heap.size + 1, 1, none⟩ = some (.int .u8 n0) := ⟨HL.out.b.c0, HL.out.b.c1⟩
        go_wp2_with ((with_reducible show wpList _ _ _ (Oper.mk none _ _ _ _ _ :: _) _ _); refine wpList_store_st (.tmp 2) (by rfl) _ (by rfl) w.heap.size 0 0 t0 n0 (by rfl) (by rfl) HL.out.r ?_; intro u2 hu; have HM2 : Hid (StMine u2 w.heap.size t0 n0) := hu ▸ HL.out.r.store; have HB2 : Hid (Below w.heap.size w u2) := hu ▸ below_cells (Nat.le_refl _) HL.out.below; clear hu)
        refine bodyPost_ret (results_st rfl _ _ w.heap.size t0 n0 rfl HM2.out) rfl ?_
        exact ⟨by rw [HAN2.out.1, HAN2.out.2.1, HAN2.out.2.2]; rfl, HB2.out⟩
    · go_enter Try.func11, Try.ntmps11
      go_wp2
      go_loopw [27] (fun iv wr => ∃ (i : Nat) (t n : Int), iv = .int .i64 i ∧ i ≤ J ∧ Hid (LsB w wr t n) ∧ Hid (leastT (ents (M.take (i + 1))) = some (t, n))) (fun iv _ => J - (intOf iv).toNat)
      case atStart => exact ⟨0, t0, n0, rfl, Nat.zero_le _, HLB, HL0⟩
      case round =>
        obtain ⟨i, t, n, rfl, hi, HL, HE⟩ := hrel
        have hi0 : (0 : Int) ≤ (i : Int) := by omega
        by_cases hlt : i < J
        · have h1 : (i : Int) < (J : Int) := by omega
          obtain ⟨x, hx⟩ : ∃ x, M[i + 1]? = some x := ⟨_, List.getElem?_eq_getElem (by rw [HN.out]; omega)⟩
          have FE : Hid (EntAt wr g (6 + i * 6) x) := by
            have := HS.out (i + 1) x hx wr HL.out.below
            rw [show (i + 1) * 6 = 6 + i * 6 by omega] at this
            exact this
          obtain ⟨xt, hxt⟩ : ∃ z, z = x.e.t := ⟨_, rfl⟩
          obtain ⟨xn, hxn⟩ : ∃ z, z = x.e.n := ⟨_, rfl⟩
          obtain ⟨c, hcc⟩ : ∃ c, c = cmpS xt xn t n := ⟨_, rfl⟩
          have HNX : Hid (leastT (ents (M.take (i + 1 + 1))) = if c < 0 then some (xt, xn) else some (t, n)) := by
            show _ = _
            rw [least_next hx, HE.out, hcc, hxt, hxn]
            rfl
          have HX0 : Hid (∀ u b, EntMine u b x → u.cell? ⟨b, 3, none⟩ = some (.int .i64 xt) ∧ u.cell? ⟨b, 4, none⟩ = some (.int .u8 xn)) := fun u b hm => by
            have hcs := hm.at_.cells
            rw [hxt, hxn]
            simp only [Nat.zero_add] at hcs
            exact ⟨hcs.2.2.2.1, hcs.2.2.2.2.1⟩
          have CC : Hid (∀ u, Calls Try.prog 33 #[.agg #[.int .i64 xt, .int .u8 xn], .agg #[.int .i64 t, .int .u8 n]] u fun e w' => e = .returned (.int .i64 c) ∧ Below u.heap.size u w') := fun u => by rw [hcc]; exact scmp_any xt xn t n u
          have hmi := EntMine.made wr 31 zeroE
          rw [zeroE_cells] at hmi
          have HMI : Hid _ := hmi
          clear hx hmi hxt hxn hcc HE
          by_cases hc0 : c < 0
          · have bc : decide (c < 0) = true := decide_eq_true hc0
            have HN3 : Hid (leastT (ents (M.take (i + 1 + 1))) = some (xt, xn)) := by show _ = _; rw [HNX.out, if_pos hc0]
            clear HNX hc0
            go_wp2_with (first | ((with_reducible show wpList _ _ _ (Oper.mk (some 30) _ _ _ _ _ :: _) _ _); refine wpList_load_pent 30 (by rfl) (by rfl) _ (by rfl) g (6 + i * 6) (by rfl) x FE.out ?_) | (have hgo := HMI.out; clear hgo; refine wpList_store_pent (.tmp 6) (by rfl) _ (by rfl) wr.heap.size zeroE x (by rfl) (by rfl) HMI.out ?_; intro u2 hu; have HX2 : Hid (EntMine u2 wr.heap.size x) := hu ▸ HMI.out.store; have HB2 : Hid (Below wr.heap.size wr u2) := hu ▸ below_cells (Nat.le_refl _) ((Below.refl _ _).alloc (Nat.le_refl _) _); have HL2 : Hid (LsB w u2 t n) := HL.out.past HB2.out; obtain ⟨z0, z1⟩ := HX0.out u2 wr.heap.size HX2.out; have y0 := HL2.out.b.c0; have y1 := HL2.out.b.c1; clear hu HMI) | (go_at_call 33; refine (CC.out _).mono ?_; rintro e u4 ⟨rfl, hb4⟩; have HL4 : Hid (LsB w u4 t n) := HL2.out.past hb4; clear z0 z1 y0 y1; obtain ⟨z0, z1⟩ := HX0.out u4 wr.heap.size (HX2.out.past hb4); clear hb4) | (have hgo := HL4.out; clear hgo; (with_reducible show wpList _ _ _ (Oper.mk none _ _ _ _ _ :: _) _ _); refine wpList_store_st (.tmp 4) (by rfl) _ (by rfl) (w.heap.size + 1) t n xt xn (by rfl) (by rfl) HL4.out.b ?_; intro u5 hu; have HL5 : Hid (LsB w u5 xt xn) := hu ▸ HL4.out.store; clear hu))
            go_roundw
            case rel => exact ⟨i + 1, xt, xn, by go_num, by omega, HL5, HN3⟩
            case measure => simp [intOf]; omega
          · have bc : decide (c < 0) = false := decide_eq_false hc0
            have HN3 : Hid (leastT (ents (M.take (i + 1 + 1))) = some (t, n)) := by show _ = _; rw [HNX.out, if_neg hc0]
            clear HNX hc0
            go_wp2_with (first | ((with_reducible show wpList _ _ _ (Oper.mk (some 30) _ _ _ _ _ :: _) _ _); refine wpList_load_pent 30 (by rfl) (by rfl) _ (by rfl) g (6 + i * 6) (by rfl) x FE.out ?_) | (have hgo := HMI.out; clear hgo; refine wpList_store_pent (.tmp 6) (by rfl) _ (by rfl) wr.heap.size zeroE x (by rfl) (by rfl) HMI.out ?_; intro u2 hu; have HX2 : Hid (EntMine u2 wr.heap.size x) := hu ▸ HMI.out.store; have HB2 : Hid (Below wr.heap.size wr u2) := hu ▸ below_cells (Nat.le_refl _) ((Below.refl _ _).alloc (Nat.le_refl _) _); have HL2 : Hid (LsB w u2 t n) := HL.out.past HB2.out; obtain ⟨z0, z1⟩ := HX0.out u2 wr.heap.size HX2.out; have y0 := HL2.out.b.c0; have y1 := HL2.out.b.c1; clear hu HMI) | (go_at_call 33; refine (CC.out _).mono ?_; rintro e u4 ⟨rfl, hb4⟩; have HL4 : Hid (LsB w u4 t n) := HL2.out.past hb4; clear z0 z1 y0 y1; obtain ⟨z0, z1⟩ := HX0.out u4 wr.heap.size (HX2.out.past hb4); clear hb4))
            go_roundw
            case rel => exact ⟨i + 1, t, n, by go_num, by omega, HL4, HN3⟩
            case measure => simp [intOf]; omega
        · obtain rfl : i = J := by omega
          have HAN := HEND.out wr t n HL.out HE.out
          have HAN2 : Hid _ := HAN
          clear HAN
          obtain ⟨y0, y1⟩ : wr.cell? ⟨w.heap.size + 1, 0, none⟩ = some (.int .i64 t) ∧ wr.cell? ⟨w.heap.size + 1, 1, none⟩ = some (.int .u8 n) := ⟨HL.out.b.c0, HL.out.b.c1⟩
          go_wp2_with ((with_reducible show wpList _ _ _ (Oper.mk none _ _ _ _ _ :: _) _ _); refine wpList_store_st (.tmp 2) (by rfl) _ (by rfl) w.heap.size 0 0 t n (by rfl) (by rfl) HL.out.r ?_; intro u2 hu; have HM2 : Hid (StMine u2 w.heap.size t n) := hu ▸ HL.out.r.store; have HB2 : Hid (Below w.heap.size w u2) := hu ▸ below_cells (Nat.le_refl _) HL.out.below; clear hu)
          refine bodyPost_ret (results_st rfl _ _ w.heap.size t n rfl HM2.out) rfl ?_
          exact ⟨by rw [HAN2.out.1, HAN2.out.2.1, HAN2.out.2.2]; rfl, HB2.out⟩
end Go.Proofs.Ythgkbabikeknlaa

