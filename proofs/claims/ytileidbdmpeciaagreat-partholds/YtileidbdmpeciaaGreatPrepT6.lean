/-
  What package prep makes of one entry: kept (its writes and each value copied), Good.
-/
import Derived.Test.YtileidbdmpeciaaGreatAu86
namespace Go.Proofs.YtileidbdmpeciaaGreat
open Go.RowKit
set_option linter.unusedVariables false

/-- What kept's rounds hold. -/
structure KpR (w u : World) (x : EntM) (a' : Option Addr) (c' : Nat) : Prop where
  below : Below w.heap.size w u
  box : EntMine u w.heap.size ⟨x.e, a', c'⟩
  res : EntMine u (w.heap.size + 1) zeroE
  row : u.ownsRow (w.heap.size + 2) 80 18 (.slice a' x.e.l.length c') x.e.l.length (x.e.l.flatMap encW)
theorem KpR.past {w u u' : World} {x : EntM} {a' : Option Addr} {c' : Nat} (h : KpR w u x a' c') (hb : Below u.heap.size u u') : KpR w u' x a' c' :=
  ⟨h.below.trans (hb.mono h.below.size), h.box.past hb, h.res.past hb, row_keptT h.row (fun k e => hb.block k (h.row.lt k e).2)⟩
theorem row_freeP {u : World} {B e size n : Nat} {v : Value} {xs : List Value} (h : u.ownsRow B e size v n xs) {g o : Nat} (hg : v.ownBlock = some g) : u.frozen? ⟨g, o, none⟩ = false := by
  rcases h.2 with ⟨e1, _⟩ | ⟨g', cap, cur, e1, _, hh, _⟩
  · rw [e1] at hg; cases hg
  · rw [e1] at hg
    have : g' = g := by simpa [Value.ownBlock] using hg
    subst this
    simp [World.frozen?, hh]
/-- Write i of the copied list, in every world behind. -/
theorem KpR.wrt {w u : World} {x : EntM} {a' : Option Addr} {c' : Nat} (h : KpR w u x a' c') (hx : ∀ W ∈ x.e.l, WrtOk W) {i : Nat} {W : Wrt} (hW : x.e.l[i]? = some W) : ∃ g, a' = some ⟨g, 0, none⟩ ∧ Hid (∀ v, Below u.heap.size u v → WrtAt v g (i * 18) W ∧ v.frozen? ⟨g, i * 18 + 16, none⟩ = false ∧ v.cell? ⟨g, i * 18 + 16, none⟩ = some (.string (strOfNums W.v))) := by
  rcases h.row.2 with ⟨e1, e2⟩ | ⟨g, cap, cur, e1, hg, hh, e5, _⟩
  · rw [List.eq_nil_of_length_eq_zero e2] at hW
    simp at hW
  · injection e1 with x1 x2 x3
    subst x1
    refine ⟨g, rfl, fun v hv => ?_⟩
    have hr := (h.past hv).row
    have hl := (own_lies hr).el (size := 18) (fun y hy => encW_len (hx y hy).key) hW
    rw [Nat.zero_add] at hl
    have hat : WrtAt v g (i * 18) W := ⟨hl⟩
    exact ⟨hat, row_freeP hr rfl, (hat.cells (hx W (List.mem_of_getElem? hW)).key).1⟩
theorem entmine5 {u : World} {b : Nat} {x : EntM} (h : EntMine u b x) : u.cell? ⟨b, 5, none⟩ = some (.slice x.a x.e.l.length x.c) := by
  have h5 := h.at_.cells.2.2.2.2.2
  rwa [Nat.zero_add] at h5
set_option maxHeartbeats 4000000 in
set_option maxRecDepth 4000 in
theorem pkept_any (x : EntM) (w : World) (hx : EntW w x) (hv : ∀ W ∈ x.e.l, W.v.length ≤ 200) :
    Calls Tryz.prog 92 #[ev x] w fun e w' => ∃ a' c', e = .returned (ev ⟨x.e, a', c'⟩) ∧ w'.ownsRow (w.heap.size + 2) 80 18 (.slice a' x.e.l.length c') x.e.l.length (x.e.l.flatMap encW) ∧ Below w.heap.size w w' := by
  obtain ⟨m1, m2, hb, hsz⟩ := two_ents w x 31 31
  obtain ⟨V0, hV0⟩ : ∃ V, V = (w.alloc (.cells (encE x).toArray 31)).alloc (.cells (encE zeroE).toArray 31) := ⟨_, rfl⟩
  rw [← hV0] at m1 m2 hb hsz
  obtain ⟨N, hN⟩ : ∃ N, N = x.e.l.length := ⟨_, rfl⟩
  have CT : Hid (Calls Tryz.prog 93 #[ev x] V0 fun e w' => ∃ a' c', e = .returned (ev ⟨x.e, a', c'⟩) ∧ w'.ownsRow (V0.heap.size + 2) 80 18 (.slice a' x.e.l.length c') x.e.l.length (x.e.l.flatMap encW) ∧ Below V0.heap.size V0 w') := ptold_any x V0 (hx.past hb)
  have HB : Hid (Below w.heap.size w V0) := hb
  have HM1 : Hid (EntMine V0 w.heap.size x) := m1
  have HV0 : Hid ((w.alloc (.cells #[.int .i64 x.e.id, .int .i64 x.e.s, .int .u8 x.e.m, .int .i64 x.e.t, .int .u8 x.e.n, .slice x.a N x.c] 31)).alloc (.cells #[.int .i64 0, .int .i64 0, .int .u8 0, .int .i64 0, .int .u8 0, .slice none 0 0] 31) = V0) := by rw [hN]; exact hV0.symm
  have HST : Hid (∀ (u : World) (a' : Option Addr) (c' : Nat), Below V0.heap.size V0 u → u.ownsRow (V0.heap.size + 2) 80 18 (.slice a' x.e.l.length c') x.e.l.length (x.e.l.flatMap encW) → EntMine u w.heap.size x ∧ KpR w (u.setCells w.heap.size 0 (encE ⟨x.e, a', c'⟩)) x a' c') := fun u a' c' hu ho => by
    have hk : ∀ k, k ≠ w.heap.size → (u.setCells w.heap.size 0 (encE ⟨x.e, a', c'⟩)).heap[k]? = u.heap[k]? := fun k hne => cells_else (w := w) hne _ _ _
    refine ⟨m1.past hu, ⟨below_cells (Nat.le_refl _) (hb.trans (hu.mono hb.size)), (m1.past hu).store, (m2.past hu).kept (hk _ (by omega)), ?_⟩⟩
    refine row_keptT (own_downT ho (by omega)) (fun k e => hk k ?_)
    have := (ho.lt k e).1
    omega
  have HOK : Hid (∀ W ∈ x.e.l, WrtOk W) := hx.wr.oks
  have HVL : Hid (∀ W ∈ x.e.l, W.v.length ≤ 200) := hv
  have HN : Hid (x.e.l.length = N) := hN.symm
  have hfew : N ≤ 1000000 := by rw [hN]; exact hx.few
  show Calls Tryz.prog 92 #[.agg #[.int .i64 x.e.id, .int .i64 x.e.s, .int .u8 x.e.m, .int .i64 x.e.t, .int .u8 x.e.n, .slice x.a x.e.l.length x.c]] w _
  rw [← hN]
  clear m1 m2 hb hsz hV0 hx hN hv
  go_enter Tryz.func92, Tryz.ntmps92
  go_wp2_with (first | ((with_reducible show wpList _ _ _ (Oper.mk (some 5) _ _ _ _ _ :: _) _ _); rw [HV0.out]; refine wpList_load_pent 5 (by rfl) (by rfl) _ (by rfl) w.heap.size 0 (by rfl) x HM1.out.at_ ?_) | (go_at_call 93; refine CT.out.mono ?_; rintro e w1 ⟨a1, c1, rfl, ho1, hb1⟩; obtain ⟨g1, g2⟩ := HST.out w1 a1 c1 hb1 ho1; have HE1 : Hid _ := g1; have HE2 : Hid _ := g2; clear ho1 hb1 g1 g2 CT HM1) | (have hgo := HE1.out; clear hgo; refine wpList_store_pent (.tmp 1) (by rfl) _ (by rfl) w.heap.size x ⟨x.e, a1, c1⟩ (by rfl) (by rfl) HE1.out ?_; intro u2 hu; rw [← hu] at HE2; have y5 := entmine5 HE2.out.box; rw [show (⟨x.e, a1, c1⟩ : EntM).e.l.length = N from HN.out] at y5; clear hu HE1))
  clear y5
  go_loopw [10] (fun iv wr => ∃ i : Nat, iv = .int .i64 i ∧ i ≤ N ∧ Hid (KpR w wr x a1 c1)) (fun iv _ => N - (intOf iv).toNat)
  case atStart => exact ⟨0, rfl, Nat.zero_le _, HE2⟩
  case round =>
    obtain ⟨i, rfl, hi, HK⟩ := hrel
    have hi0 : (0 : Int) ≤ (i : Int) := by omega
    by_cases hlt : i < N
    · have h1 : (i : Int) < (N : Int) := by omega
      obtain ⟨W, hW⟩ : ∃ W, x.e.l[i]? = some W := ⟨_, List.getElem?_eq_getElem (by rw [HN.out]; exact hlt)⟩
      obtain ⟨g, hag, HG⟩ := HK.out.wrt HOK.out hW
      have hok := HOK.out W (List.mem_of_getElem? hW)
      have HWM : Hid (W ∈ x.e.l) := List.mem_of_getElem? hW
      have KW : Hid (Ky W.k) := hok.key
      have HWA : Hid (WrtAt wr g (i * 18) W) := (HG.out wr (Below.refl _ _)).1
      have hmine := WrtMine.made wr 80 zeroW zeroW_ky
      obtain ⟨hk1, hb1, hz1⟩ := laid_wrt wr 80 (W := W) hok.key
      rw [zeroW_cells] at hmine hk1 hb1 hz1
      have HMI : Hid _ := hmine
      have HK1 : Hid _ := hk1
      have HBL : Hid _ := hb1
      obtain ⟨S, hS⟩ : ∃ S, S = strOfNums W.v := ⟨_, rfl⟩
      have CS : Hid (∀ u, Calls Tryz.prog 131 #[.string S] u fun e w' => e = .returned (.string S) ∧ Below u.heap.size u w') := fun u => by
        refine pstr_any S u ?_
        rw [hS, strOfNums_size]
        have := HVL.out W HWM.out
        omega
      have FB : Hid (∀ v, Below wr.heap.size wr v → v.cell? ⟨w.heap.size, 5, none⟩ = some (.slice (some ⟨g, 0, none⟩) N c1)) := fun v hv => by
        have := entmine5 (HK.out.past hv).box
        rw [← hag, ← HN.out]
        exact this
      have FG : Hid (∀ v, Below wr.heap.size wr v → v.cell? ⟨g, i * 18 + 16, none⟩ = some (.string S) ∧ v.frozen? ⟨g, i * 18 + 16, none⟩ = false) := fun v hv => by
        rw [hS]
        exact ⟨(HG.out v hv).2.2, (HG.out v hv).2.1⟩
      have HSS : Hid (S = strOfNums W.v) := hS
      have HAG : Hid (a1 = some ⟨g, 0, none⟩) := hag
      clear hmine hk1 hb1 hz1 hok hW hS
      rw [hag]
      clear hag
      go_wp2_with (first | (have hgo := HWA.out; clear hgo; refine wpList_load_wrt 14 (by rfl) (by rfl) _ (by rfl) g (i * 18) (by rfl) W KW.out HWA.out ?_) | (have hgo := HMI.out; clear hgo; refine wpList_store_wrt (.tmp 4) (by rfl) _ (by rfl) wr.heap.size 0 zeroW W (by rfl) (by rfl) KW.out HMI.out ?_; intro u3 hu; rw [← hu] at HK1 HBL; clear hu HMI HWA))
      have FSB : Hid (∀ v, Below u3.heap.size u3 v → Hid (Below wr.heap.size wr v) ∧ v.cell? ⟨wr.heap.size, 16, none⟩ = some (.string S)) := fun v hv => by
        refine ⟨HBL.out.trans (hv.mono HBL.out.size), ?_⟩
        have := ((HK1.out.past hv).at_.cells KW.out).1
        rw [Nat.zero_add] at this
        rw [HSS.out]
        exact this
      refine wp_region_noPanic ?_
      refine region_up 8 (fun u => Below u3.heap.size u3 u) (by kernel_rfl) ?_ (fun hHeld => ?_)
      · exact (Below.refl _ _).drew
      refine up_take (i := 0) (v := ?_) (by kernel_rfl) (by kernel_rfl) (by kernel_rfl) rfl (by kernel_rfl) (by kernel_rfl) (by kernel_rfl) (fun _ _ _ h => h) (Or.inl ⟨by rfl, ?_⟩) hHeld ?_
      rotate_left
      · intro u hSu
        (go_simp) <;> (with_reducible rfl)
      change wpUp _ _ _ _ _ _ _ _ (Act.put _ (some 15) _) _
      simp only [Act.put, List.setIfInBounds_toArray, List.set_cons_zero, List.set_cons_succ]
      refine up_take (i := 1) (v := ?_) (by kernel_rfl) (by kernel_rfl) (by kernel_rfl) rfl (by kernel_rfl) (by kernel_rfl) (by kernel_rfl) (fun _ _ _ h => h) (Or.inl ⟨by rfl, ?_⟩) hHeld ?_
      rotate_left
      · intro u hSu
        have q0 := FB.out u (FSB.out u hSu).1.out
        (go_simp) <;> (with_reducible rfl)
      change wpUp _ _ _ _ _ _ _ _ (Act.put _ (some 16) _) _
      simp only [Act.put, List.setIfInBounds_toArray, List.set_cons_zero, List.set_cons_succ]
      refine up_take (i := 2) (v := ?_) (by kernel_rfl) (by kernel_rfl) (by kernel_rfl) rfl (by kernel_rfl) (by kernel_rfl) (by kernel_rfl) (fun _ _ _ h => h) (Or.inl ⟨by rfl, ?_⟩) hHeld ?_
      rotate_left
      · intro u hSu
        (go_simp) <;> (with_reducible rfl)
      change wpUp _ _ _ _ _ _ _ _ (Act.put _ (some 17) _) _
      simp only [Act.put, List.setIfInBounds_toArray, List.set_cons_zero, List.set_cons_succ]
      refine up_take (i := 3) (v := ?_) (by kernel_rfl) (by kernel_rfl) (by kernel_rfl) rfl (by kernel_rfl) (by kernel_rfl) (by kernel_rfl) (fun _ _ _ h => h) (Or.inl ⟨by rfl, ?_⟩) hHeld ?_
      rotate_left
      · intro u hSu
        (go_simp) <;> (with_reducible rfl)
      change wpUp _ _ _ _ _ _ _ _ (Act.put _ (some 18) _) _
      simp only [Act.put, List.setIfInBounds_toArray, List.set_cons_zero, List.set_cons_succ]
      refine up_take (i := 4) (v := ?_) (by kernel_rfl) (by kernel_rfl) (by kernel_rfl) rfl (by kernel_rfl) (by kernel_rfl) (by kernel_rfl) (fun _ _ _ h => h) (Or.inl ⟨by rfl, ?_⟩) hHeld ?_
      rotate_left
      · intro u hSu
        have q0 := (FSB.out u hSu).2
        (go_simp) <;> (with_reducible rfl)
      change wpUp _ _ _ _ _ _ _ _ (Act.put _ (some 19) _) _
      simp only [Act.put, List.setIfInBounds_toArray, List.set_cons_zero, List.set_cons_succ]
      refine up_ready (rs := [5]) (by kernel_rfl) (by simp) ?_
      refine AllUp.cons rfl (fun K hK => ?_) AllUp.nil
      go_simp
      go_at_call 131
      refine (CS.out _).mono ?_
      rintro e u4 ⟨rfl, hb4⟩
      have B4 : Hid (Below u3.heap.size u3 u4) := hHeld.trans (hb4.mono hHeld.size); clear hb4
      refine hK.out _ _ ?_ (fun hHeld2 => ?_)
      · exact B4.out
      clear hK K hHeld
      have hHeld := hHeld2
      clear hHeld2
      refine up_take (i := 6) (v := ?_) (by kernel_rfl) (by kernel_rfl) (by kernel_rfl) rfl (by kernel_rfl) (by kernel_rfl) (by kernel_rfl) (fun _ _ _ h => h) (Or.inl ⟨by rfl, ?_⟩) hHeld ?_
      rotate_left
      · intro u hSu
        (go_simp) <;> (with_reducible rfl)
      change wpUp _ _ _ _ _ _ _ _ (Act.put _ (some 21) _) _
      simp only [Act.put, List.setIfInBounds_toArray, List.set_cons_zero, List.set_cons_succ]
      refine up_take (i := 7) (v := ?_) (by kernel_rfl) (by kernel_rfl) (by kernel_rfl) rfl (by kernel_rfl) (by kernel_rfl) (by kernel_rfl) (fun _ _ _ h => h) (Or.inl ⟨by rfl, ?_⟩) hHeld ?_
      rotate_left
      · intro u hSu
        (go_simp) <;> (with_reducible rfl)
      change wpUp _ _ _ _ _ _ _ _ (Act.put _ (some 22) _) _
      simp only [Act.put, List.setIfInBounds_toArray, List.set_cons_zero, List.set_cons_succ]
      refine up_ready (rs := [8]) (by kernel_rfl) (by simp) ?_
      refine AllUp.that rfl (fun K hK => ?_) AllUp.nil
      (obtain ⟨z1, z2⟩ := FG.out u4 (FSB.out u4 B4.out).1.out); go_simp; refine hK.out _ _ ?_; rw [set_self z1]; clear hK K hHeld z1 z2
      refine up_done (by kernel_rfl) ?_
      refine NoPanic.normal ?_
      go_wp2
      go_roundw
      case rel => exact ⟨i + 1, by go_num, by omega, by rw [← HAG.out]; exact HK.out.past (FSB.out u4 B4.out).1.out⟩
      case measure => simp [intOf]; omega
    · obtain rfl : i = N := by omega
      go_wp2_with (first | ((with_reducible show wpList _ _ _ (Oper.mk (some 24) _ _ _ _ _ :: _) _ _); refine wpList_load_pent 24 (by rfl) (by rfl) _ (by rfl) w.heap.size 0 (by rfl) ⟨x.e, a1, c1⟩ HK.out.box.at_ ?_) | (have hgo := HK.out; clear hgo; refine wpList_store_pent (.tmp 2) (by rfl) _ (by rfl) (w.heap.size + 1) zeroE ⟨x.e, a1, c1⟩ (by rfl) (by rfl) HK.out.res ?_; intro u5 hu; have HM5 : Hid (EntMine u5 (w.heap.size + 1) ⟨x.e, a1, c1⟩) := hu ▸ HK.out.res.store; have HU5 : Hid (u5 = wr.setCells (w.heap.size + 1) 0 (encE ⟨x.e, a1, c1⟩)) := hu; clear hu))
      refine bodyPost_ret (results_pent1 rfl _ _ (w.heap.size + 1) ⟨x.e, a1, c1⟩ rfl HM5.out.at_) rfl ?_
      refine ⟨a1, c1, rfl, ?_, by rw [HU5.out]; exact below_cells (Nat.le_succ _) HK.out.below⟩
      have hr := HK.out.row
      rw [HN.out] at hr
      refine row_keptT hr (fun k e => ?_)
      have := (hr.lt k e).1
      rw [HU5.out, cells_else (w := w) (by omega)]
set_option maxHeartbeats 4000000 in
set_option maxRecDepth 4000 in
theorem pgood_any (id s m t n : Int) (a : Option Addr) (N c : Nat) (l : List Wrt) (w : World) (hl : l.length = N) (hc : N ≤ c) (hN : N ≤ 1000000) (hat : WrtsAt w a l) :
    Calls Tryz.prog 42 #[.agg #[.int .i64 id, .int .i64 s, .int .u8 m, .int .i64 t, .int .u8 n, .slice a N c]] w fun e w' => e = .returned (.bool (goodE ⟨id, s, m, t, n, l⟩)) ∧ Below w.heap.size w w' := by
  obtain ⟨U, hU⟩ : ∃ U, U = w.alloc (.cells #[.int .i64 id, .int .i64 s, .int .u8 m, .int .i64 t, .int .u8 n, .slice a N c] 31) := ⟨_, rfl⟩
  have HU : Hid (w.alloc (.cells #[.int .i64 id, .int .i64 s, .int .u8 m, .int .i64 t, .int .u8 n, .slice a N c] 31) = U) := hU.symm
  have HB : Hid (Below w.heap.size w U) := by rw [hU]; exact (Below.refl _ _).alloc (Nat.le_refl _) _
  have FE : Hid (∀ u, Below U.heap.size U u → EBox u w.heap.size id s m t n a N c) := fun u hb => (by rw [hU]; exact EBox.made w 31 id s m t n a N c : EBox U w.heap.size id s m t n a N c).past hb
  obtain ⟨R, hR⟩ : ∃ R, R = goodE ⟨id, s, m, t, n, l⟩ := ⟨_, rfl⟩
  obtain ⟨g1, hg1⟩ : ∃ x, x = decide (okS s) := ⟨_, rfl⟩
  obtain ⟨g2, hg2⟩ : ∃ x, x = decide (okS t) := ⟨_, rfl⟩
  obtain ⟨x, hx⟩ : ∃ x, x = cmpS t n s m := ⟨_, rfl⟩
  obtain ⟨mw, hmw⟩ : ∃ x, x = mayW l 1 := ⟨_, rfl⟩
  have hr : R = (decide (1 ≤ id) && g1 && g2 && decide (0 < x) && mw) := by rw [hR, hg1, hg2, hx, hmw]; rfl
  rw [← hR]
  have C1 : Hid (∀ u, Calls Tryz.prog 47 #[.agg #[.int .i64 s, .int .u8 m]] u fun e w' => e = .returned (.bool g1) ∧ Below u.heap.size u w') := fun u => by rw [hg1]; exact sgood_any s m u
  have C2 : Hid (∀ u, Calls Tryz.prog 47 #[.agg #[.int .i64 t, .int .u8 n]] u fun e w' => e = .returned (.bool g2) ∧ Below u.heap.size u w') := fun u => by rw [hg2]; exact sgood_any t n u
  have C3 : Hid (∀ u, Calls Tryz.prog 49 #[.agg #[.int .i64 t, .int .u8 n], .agg #[.int .i64 s, .int .u8 m]] u fun e w' => e = .returned (.int .i64 x) ∧ Below u.heap.size u w') := fun u => by rw [hx]; exact scmp_any t n s m u
  have C4 : Hid (∀ u, Below w.heap.size w u → Calls Tryz.prog 82 #[.slice a N c] u fun e w' => e = .returned (.bool mw) ∧ Below u.heap.size u w') := fun u hb => by rw [hmw]; exact sgoods_any a N c l u hl hc hN (hat.past hb)
  clear hR hg1 hg2 hx hmw hU hat hl
  by_cases h1 : id < 1
  · have b1 : decide (1 ≤ id) = false := decide_eq_false (by omega)
    rw [b1] at hr
    have HR : Hid (R = false) := hr
    clear hr b1
    go_enter Tryz.func42, Tryz.ntmps42
    go_wp2
    rw [HU.out]
    go_ret
    exact ⟨by rw [HR.out]; rfl, HB.out⟩
  · have b1 : decide (1 ≤ id) = true := decide_eq_true (by omega)
    rw [b1] at hr
    clear b1
    cases g1 with
    | false =>
      have HR : Hid (R = false) := hr
      clear hr
      go_enter Tryz.func42, Tryz.ntmps42
      go_wp2_with (first | (have hgo := C1.out; clear hgo; go_at_call 47; rw [HU.out]; refine (C1.out _).mono ?_; rintro e u1 ⟨rfl, hb1⟩; have B1 : Hid (Below U.heap.size U u1) := hb1; obtain ⟨y0, y1, y2, y3, y4, y5⟩ := FE.out _ B1.out; clear hb1 C1))
      go_ret
      exact ⟨by rw [HR.out]; rfl, HB.out.trans (B1.out.mono HB.out.size)⟩
    | true =>
      cases g2 with
      | false =>
        have HR : Hid (R = false) := hr
        clear hr
        go_enter Tryz.func42, Tryz.ntmps42
        go_wp2_with (first | (have hgo := C1.out; clear hgo; go_at_call 47; rw [HU.out]; refine (C1.out _).mono ?_; rintro e u1 ⟨rfl, hb1⟩; have B1 : Hid (Below U.heap.size U u1) := hb1; obtain ⟨y0, y1, y2, y3, y4, y5⟩ := FE.out _ B1.out; clear hb1 C1) | (have hgo := C2.out; clear hgo; go_at_call 47; refine (C2.out _).mono ?_; rintro e u2 ⟨rfl, hb2⟩; have B2 : Hid (Below U.heap.size U u2) := B1.out.trans (hb2.mono B1.out.size); obtain ⟨y0, y1, y2, y3, y4, y5⟩ := FE.out _ B2.out; clear hb2 C2))
        go_ret
        exact ⟨by rw [HR.out]; rfl, HB.out.trans (B2.out.mono HB.out.size)⟩
      | true =>
        by_cases h2 : 0 < x
        · have b2 : decide (0 < x) = true := decide_eq_true h2
          rw [b2] at hr
          have HR : Hid (R = mw) := by rw [hr]; simp [Hid]
          clear hr
          go_enter Tryz.func42, Tryz.ntmps42
          go_wp2_with (first | (have hgo := C1.out; clear hgo; go_at_call 47; rw [HU.out]; refine (C1.out _).mono ?_; rintro e u1 ⟨rfl, hb1⟩; have B1 : Hid (Below U.heap.size U u1) := hb1; obtain ⟨y0, y1, y2, y3, y4, y5⟩ := FE.out _ B1.out; clear hb1 C1) | (have hgo := C2.out; clear hgo; go_at_call 47; refine (C2.out _).mono ?_; rintro e u2 ⟨rfl, hb2⟩; have B2 : Hid (Below U.heap.size U u2) := B1.out.trans (hb2.mono B1.out.size); obtain ⟨y0, y1, y2, y3, y4, y5⟩ := FE.out _ B2.out; clear hb2 C2) | (have hgo := C3.out; clear hgo; go_at_call 49; refine (C3.out _).mono ?_; rintro e u3 ⟨rfl, hb3⟩; have B3 : Hid (Below U.heap.size U u3) := B2.out.trans (hb3.mono B2.out.size); obtain ⟨y0, y1, y2, y3, y4, y5⟩ := FE.out _ B3.out; clear hb3 C3) | (have hgo := C4.out; clear hgo; go_at_call 82; refine (C4.out _ (HB.out.trans (B3.out.mono HB.out.size))).mono ?_; rintro e u4 ⟨rfl, hb4⟩; have B4 : Hid (Below U.heap.size U u4) := B3.out.trans (hb4.mono B3.out.size); clear hb4 C4))
          go_ret
          exact ⟨by rw [HR.out]; rfl, HB.out.trans (B4.out.mono HB.out.size)⟩
        · have b2 : decide (0 < x) = false := decide_eq_false h2
          rw [b2] at hr
          have HR : Hid (R = false) := hr
          clear hr
          go_enter Tryz.func42, Tryz.ntmps42
          go_wp2_with (first | (have hgo := C1.out; clear hgo; go_at_call 47; rw [HU.out]; refine (C1.out _).mono ?_; rintro e u1 ⟨rfl, hb1⟩; have B1 : Hid (Below U.heap.size U u1) := hb1; obtain ⟨y0, y1, y2, y3, y4, y5⟩ := FE.out _ B1.out; clear hb1 C1) | (have hgo := C2.out; clear hgo; go_at_call 47; refine (C2.out _).mono ?_; rintro e u2 ⟨rfl, hb2⟩; have B2 : Hid (Below U.heap.size U u2) := B1.out.trans (hb2.mono B1.out.size); obtain ⟨y0, y1, y2, y3, y4, y5⟩ := FE.out _ B2.out; clear hb2 C2) | (have hgo := C3.out; clear hgo; go_at_call 49; refine (C3.out _).mono ?_; rintro e u3 ⟨rfl, hb3⟩; have B3 : Hid (Below U.heap.size U u3) := B2.out.trans (hb3.mono B2.out.size); obtain ⟨y0, y1, y2, y3, y4, y5⟩ := FE.out _ B3.out; clear hb3 C3))
          go_ret
          exact ⟨by rw [HR.out]; rfl, HB.out.trans (B3.out.mono HB.out.size)⟩
end Go.Proofs.YtileidbdmpeciaaGreat
