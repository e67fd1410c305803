/-
  The landed coord: Record.
-/
import Derived.Test.YtcppihpehipelaaCdC7
namespace Go.Proofs.Ytcppihpehipelaa
open Go.RowKit
set_option linter.unusedVariables false
set_option linter.unusedSimpArgs false

theorem setCellsC_chg : ∀ (vs : List Value) (w : World) (b o : Nat), Chg w (w.setCells b o vs) (fun k => k = b)
  | [], w, b, o => Chg.refl _ _
  | v :: r, w, b, o => (Chg.set w ⟨b, o, none⟩ v (X := fun k => k = b) rfl).trans (setCellsC_chg r (w.setCell ⟨b, o, none⟩ v) b (o + 1)) (fun _ _ y => y)
/-- A store of a whole value of several cells: the world behind it a letter. -/
theorem wpList_store_rowU {ops : Array Oper} {rest : List Oper} {op : Oper} {a : Act} {w : World} {Q : Exit → Act → World → Prop} (hgd : op.guard = none) {T : TypeId} (x y : Operand) (ho : op.op = .store T x y) (b : Nat) (cs : List Value) (hx : a.eval x = .pointer (some ⟨b, 0, none⟩)) (hy : a.eval y = .agg cs.toArray)
    (hi : (Try.prog.info? T).map (·.size) = some cs.length) (h1 : ∀ u ∈ cs, u.oneCell' = true) (ht : w.there b 0 cs.length) (h : ∀ u, u.rangeAt b 0 cs → Chg w u (fun k => k = b) → wpList Try.prog ops Q rest (a.put op.dst undef) u) : wpList Try.prog ops Q (op :: rest) a w := by
  refine wpList_store_mid hgd T x y ho b 0 cs.toArray hx hy (by rw [List.size_toArray]; exact ht) (by rw [List.size_toArray]; exact hi) (all_oneCell_toArray h1) ?_
  exact h _ (World.rangeAt_setCells_same w b 0 cs ht) (setCellsC_chg cs w b 0)
theorem step_store_rowU {w : World} {ops : Array Oper} {o : Oper} {a : Act} {K : Act → World → Prop} {Q : Exit → Act → World → Prop} {E : Prop} (hgd : o.guard = none) {T : TypeId} (x y : Operand) (ho : o.op = .store T x y) (b : Nat) (cs : List Value) (hx : a.eval x = .pointer (some ⟨b, 0, none⟩)) (hy : a.eval y = .agg cs.toArray)
    (hi : (Try.prog.info? T).map (·.size) = some cs.length) (h1 : ∀ u ∈ cs, u.oneCell' = true) (ht : w.there b 0 cs.length) (h : ∀ u, u.rangeAt b 0 cs → Chg w u (fun k => k = b) → K (a.put o.dst undef) u) : if Region.wanted o (yielded ops a.tmps) = true then Oper.wp Try.prog o a w K Q else E := by
  have hw : Region.wanted o (yielded ops a.tmps) = true := by simp [Region.wanted, hgd]
  rw [if_pos hw]
  refine wp_store_mid T x y ho b 0 cs.toArray hx hy (by rw [List.size_toArray]; exact ht) (by rw [List.size_toArray]; exact hi) (all_oneCell_toArray h1) ?_
  exact h _ (World.rangeAt_setCells_same w b 0 cs ht) (setCellsC_chg cs w b 0)
theorem results_rowU {fn : Func} {c d : Tmp} {T : TypeId} (h : fn.results = #[.cell c T, .tmp d]) (tmps : Array Value) (w : World) (b : Nat) (cs : List Value) (ds : TypeDesc) (hp : tmps.getD c undef = .pointer (some ⟨b, 0, none⟩)) (hr : w.rangeAt b 0 cs) (hu : Try.prog.underlying T = some ds) (hd : ds.isRow = true) (hi : (Try.prog.info? T).map (·.size) = some cs.length) :
    (results fn tmps).run Try.prog w = .ok (.tuple #[.agg cs.toArray, tmps.getD d undef]) w := by
  have hl := run_loadVar_mid (P := Try.prog) w b 0 T cs ds hr hu hd hi
  unfold results
  rw [h]
  simp only [List.mapM_toArray, List.mapM_cons, List.mapM_nil, hp]
  simp [asAddr, hl]
/-- A box of nine cells that the call made itself. -/
theorem there9U (w u : World) (T : TypeId) (cs : List Value) (hl : cs.length = 9) (hu : Below (w.alloc (.cells cs.toArray T)).heap.size (w.alloc (.cells cs.toArray T)) u) : u.there w.heap.size 0 9 := fun j hj => by
  have hlt : w.heap.size < (w.alloc (.cells cs.toArray T)).heap.size := by rw [World.size_alloc]; omega
  rw [Nat.zero_add, hu.cell (p := ⟨w.heap.size, j, none⟩) hlt, hu.frozen (p := ⟨w.heap.size, j, none⟩) hlt, World.cell?_alloc_new]
  refine ⟨?_, World.frozen?_alloc_new _ _ _ _⟩
  rw [List.getElem?_toArray, List.getElem?_eq_getElem (by omega)]
  rfl
theorem info_rcdU : (Try.prog.info? 37).map (·.size) = some 9 := by kernel_rfl
def noRcd : RcM := ⟨⟨0, 0, 0, 0, 0, 0, [], false, []⟩, none, 0, none, 0⟩
theorem noRcd_w (w : World) : RcW w noRcd := ⟨WrtsAt.none _ _, Nat.zero_le _, Nat.zero_le _, IntsAt.none _ _, Nat.zero_le _, Nat.zero_le _, ⟨by decide, by decide⟩, ⟨by decide, by decide, by decide, by decide, by decide, by decide, fun W hW => by simp [noRcd] at hW, fun W hW => by simp [noRcd] at hW⟩⟩
/-- What is logged of one. -/
structure RecordC (B : Nat) (C : List DecC) (id : Int) (e : Ending) (w' : World) : Prop where
  out : ∃ x : RcM, e = .returned (.tuple #[rcv x, .bool (recC C id).isSome]) ∧ x.r = (recC C id).getD noRcd.r ∧ RcW w' x ∧ ∀ g o, x.pa = some ⟨g, o, none⟩ → B ≤ g
set_option maxHeartbeats 4000000 in
set_option maxRecDepth 8000 in
theorem cdrecord_any (b : Nat) (C : List DecC) (X : Foot) (id : Int) (w : World) (h : CoD w b C X) (hi : I64 id) :
    Calls Try.prog 14 #[.pointer (some ⟨b, 0, none⟩), .int .i64 id] w fun e w' => RecordC w.heap.size C id e w' ∧ Below w.heap.size w w' := by
  obtain ⟨W0, hW0⟩ : ∃ u, u = w.alloc (.cells (encR noRcd).toArray 37) := ⟨_, rfl⟩
  have HW0 : Hid (w.alloc (.cells #[.int .i64 0, .int .i64 0, .int .i64 0, .int .u8 0, .int .i64 0, .int .u8 0, .slice none 0 0, .bool false, .slice none 0 0] 37) = W0) := hW0.symm
  have HB : Hid (Below w.heap.size w W0) := by rw [hW0]; exact (Below.refl _ _).alloc (Nat.le_refl _) _
  have HTH : Hid (∀ u, Below W0.heap.size W0 u → u.there w.heap.size 0 9) := fun u hu => by rw [hW0] at hu; exact there9U w u 37 (encR noRcd) rfl hu
  have HCB : Hid (∀ u v, Below W0.heap.size W0 u → Chg u v (fun k => k = w.heap.size) → Below w.heap.size w v) := fun u v hu hv => (HB.out.trans (hu.mono HB.out.size)).trans (hv.below (Nat.le_trans HB.out.size hu.size) (fun k e => by omega))
  obtain ⟨m, G, Y, h⟩ := h
  have h' := h.past HB.out
  by_cases hn : ∀ d, getC C id = some d → d.how = 0
  · have HR : Hid (recC C id = none) := by
      show _ = _
      unfold recC
      cases hg : getC C id with
      | none => rfl
      | some d => exact if_pos (hn d hg)
    have CA : Hid (Calls Try.prog 44 #[.pointer (some ⟨b, 0, none⟩), .int .i64 id] W0 fun e w' => e = .returned (.pointer none) ∧ w' = W0) := cddecided_no b C X id W0 ⟨m, G, Y, h'⟩ hi hn
    clear h h' hW0 hn hi
    go_enter Try.func14, Try.ntmps14
    go_wp2_with (first
      | (go_at_call 44; rw [HW0.out]; refine CA.out.mono ?_; rintro e w1 ⟨rfl, hw⟩; obtain rfl := hw.symm; clear hw)
      | ((with_reducible show wpList _ _ _ (Oper.mk none (Op.store _ _ _) _ _ _ _ :: _) _ _); refine wpList_store_rowU (by rfl) _ _ (by rfl) w.heap.size (encR noRcd) (by rfl) (by rfl) info_rcdU (encR_one noRcd) (HTH.out _ (Below.refl _ _)) ?_; intro u2 hr2 hc2; have R2 : Hid (u2.rangeAt w.heap.size 0 (encR noRcd)) := hr2; have B2 : Hid (Below w.heap.size w u2) := HCB.out _ _ (Below.refl _ _) hc2; clear hr2 hc2))
    refine bodyPost_ret (results_rowU rfl _ _ w.heap.size (encR noRcd) _ rfl R2.out Try.underlying37 rfl info_rcdU) rfl ?_
    exact ⟨⟨noRcd, by rw [HR.out]; rfl, by rw [HR.out]; rfl, noRcd_w _, fun g o e => by cases e⟩, B2.out⟩
  · rcases h'.at_id hi with ⟨h1, h2⟩ | ⟨i, d, g, h1, h2, h3, h4, h5, h6⟩
    · exact absurd (fun d hd => by rw [h1] at hd; cases hd) hn
    have hd := h'.tbl.each d h4
    have h0 : d.how ≠ 0 := fun e => hn (fun d' hd' => by rw [h1] at hd'; injection hd' with hd'; rw [← hd']; exact e)
    have CA : Hid (Calls Try.prog 44 #[.pointer (some ⟨b, 0, none⟩), .int .i64 id] W0 fun e w' => e = .returned (.pointer (some ⟨g, 0, none⟩)) ∧ w' = W0) := cddecided_yes b m C X G Y id d g W0 h' hi hd h6 h5 h0
    obtain ⟨r, hr⟩ : ∃ r : Rcd, r = ⟨4, id, 0, 0, d.at_, d.an, [], decide (d.how = 1), d.parts⟩ := ⟨_, rfl⟩
    have HR : Hid (recC C id = some r) := by show _ = _; unfold recC; rw [h1, hr]; exact if_neg h0
    obtain ⟨⟨gp, cp, aa, ac, go, co, k1, k2⟩, k3⟩ := h6
    have box0 := k1.box
    have hnd := hd.nodup
    have FC : Hid (∀ u, Below W0.heap.size W0 u → u.cell? ⟨g, 1 + 1, none⟩ = some (.slice (some ⟨gp, 0, none⟩) d.parts.length cp) ∧ u.cell? ⟨g, 2, none⟩ = some (.slice (some ⟨gp, 0, none⟩) d.parts.length cp) ∧ u.cell? ⟨g, 5, none⟩ = some (.bool (decide (d.how = 1))) ∧ u.cell? ⟨g, 6, none⟩ = some (.int .i64 d.at_) ∧ u.cell? ⟨g, 7, none⟩ = some (.int .u8 d.an)) := fun u hu => ⟨(box0.past hu).c2, (box0.past hu).c2, (box0.past hu).c5, (box0.past hu).c6, (box0.past hu).c7⟩
    have CC : Hid (∀ u, Below W0.heap.size W0 u → Calls Try.prog 37 #[.slice (some ⟨gp, 0, none⟩) d.parts.length cp] u fun e w' => ∃ g' cap, e = .returned (.slice (some ⟨g', 0, none⟩) d.parts.length cap) ∧ d.parts.length ≤ cap ∧ W0.heap.size ≤ g' ∧ IntsO w' g' d.parts ∧ Below u.heap.size u w') := fun u hu => (cdclone_any gp 0 cp _ d.parts u rfl (by omega) ((k1.parts.past hu).ints (parts_bounds hd))).mono fun e w' ⟨⟨a', cap, q1, q2, q3, q4⟩, q5⟩ => by
      obtain ⟨g', rfl, q6, q7⟩ := q4 (by omega)
      exact ⟨g', cap, q1, q2, Nat.le_trans hu.size q6, q7, q5⟩
    have HPB : Hid (∀ z ∈ d.parts, -9223372036854775808 ≤ z ∧ z ≤ 9223372036854775807) := parts_bounds hd
    have HWL : Hid (w.heap.size < W0.heap.size) := by show _ < _; rw [hW0, World.size_alloc]; omega
    have HX : Hid (∀ (u : World) (a' : Option Addr) (cap : Nat), d.parts.length ≤ cap → IntsAt u a' d.parts → RcW u ⟨r, none, 0, a', cap⟩ ∧ encR ⟨r, none, 0, a', cap⟩ = [.int .i64 4, .int .i64 id, .int .i64 0, .int .u8 0, .int .i64 d.at_, .int .u8 d.an, .slice none 0 0, .bool (decide (d.how = 1)), .slice a' d.parts.length cap]) := fun u a' cap hc hat => by
      subst hr
      exact ⟨⟨WrtsAt.none _ _, Nat.zero_le _, Nat.zero_le _, hat, hc, by show d.parts.length ≤ 1000; omega, ⟨by show (-9223372036854775808 : Int) ≤ 4; omega, by show (4 : Int) ≤ 9223372036854775807; omega⟩, ⟨hi.1, hi.2, by show (0 : Int) ≤ 0; omega, by show (0 : Int) ≤ 255; omega, hd.an.1, hd.an.2, fun W hW => by simp at hW, fun W hW => by simp at hW⟩⟩, rfl⟩
    generalize decide (d.how = 1) = yb at *
    generalize d.at_ = t at *
    generalize d.an = n at *
    obtain ⟨P, hP⟩ : ∃ P, P = d.parts.length := ⟨_, rfl⟩
    rw [← hP] at FC CC HX
    clear h h' hW0 hn hi h1 h2 h3 h4 h5 k1 k2 k3 box0 h0 hd hnd hr hP
    go_enter Try.func14, Try.ntmps14
    go_wp2_with (go_at_call 44; rw [HW0.out]; refine CA.out.mono ?_; rintro e w1 ⟨rfl, hw⟩; obtain rfl := hw.symm; clear hw)
    refine wp_region_noPanic ?_
    refine region_up 15 (fun u => Below W0.heap.size W0 u) (by kernel_rfl) ?_ (fun hHeld => ?_)
    · exact (Below.refl _ _).drew
    refine up_take (i := 0) (v := ?_) (by kernel_rfl) (by kernel_rfl) (by kernel_rfl) rfl (by kernel_rfl) (by kernel_rfl) (by kernel_rfl) (fun _ _ _ h => h) (Or.inl ⟨by rfl, ?_⟩) hHeld ?_
    rotate_left
    · intro u hSu
      (go_simp) <;> (with_reducible rfl)
    change wpUp _ _ _ _ _ _ _ _ (Act.put _ (some 13) _) _
    simp only [Act.put, List.setIfInBounds_toArray, List.set_cons_zero, List.set_cons_succ]
    refine up_take (i := 1) (v := ?_) (by kernel_rfl) (by kernel_rfl) (by kernel_rfl) rfl (by kernel_rfl) (by kernel_rfl) (by kernel_rfl) (fun _ _ _ h => h) (Or.inl ⟨by rfl, ?_⟩) hHeld ?_
    rotate_left
    · intro u hSu
      (go_simp) <;> (with_reducible rfl)
    change wpUp _ _ _ _ _ _ _ _ (Act.put _ (some 14) _) _
    simp only [Act.put, List.setIfInBounds_toArray, List.set_cons_zero, List.set_cons_succ]
    refine up_take (i := 2) (v := ?_) (by kernel_rfl) (by kernel_rfl) (by kernel_rfl) rfl (by kernel_rfl) (by kernel_rfl) (by kernel_rfl) (fun _ _ _ h => h) (Or.inl ⟨by rfl, ?_⟩) hHeld ?_
    rotate_left
    · intro u hSu
      (go_simp) <;> (with_reducible rfl)
    change wpUp _ _ _ _ _ _ _ _ (Act.put _ (some 15) _) _
    simp only [Act.put, List.setIfInBounds_toArray, List.set_cons_zero, List.set_cons_succ]
    refine up_take (i := 3) (v := ?_) (by kernel_rfl) (by kernel_rfl) (by kernel_rfl) rfl (by kernel_rfl) (by kernel_rfl) (by kernel_rfl) (fun _ _ _ h => h) (Or.inl ⟨by rfl, ?_⟩) hHeld ?_
    rotate_left
    · intro u hSu
      (go_simp) <;> (with_reducible rfl)
    change wpUp _ _ _ _ _ _ _ _ (Act.put _ (some 16) _) _
    simp only [Act.put, List.setIfInBounds_toArray, List.set_cons_zero, List.set_cons_succ]
    refine up_take (i := 4) (v := ?_) (by kernel_rfl) (by kernel_rfl) (by kernel_rfl) rfl (by kernel_rfl) (by kernel_rfl) (by kernel_rfl) (fun _ _ _ h => h) (Or.inl ⟨by rfl, ?_⟩) hHeld ?_
    rotate_left
    · intro u hSu
      obtain ⟨-, y2, y5, y6, y7⟩ := FC.out u hSu
      (go_simp) <;> (with_reducible rfl)
    change wpUp _ _ _ _ _ _ _ _ (Act.put _ (some 17) _) _
    simp only [Act.put, List.setIfInBounds_toArray, List.set_cons_zero, List.set_cons_succ]
    refine up_take (i := 5) (v := ?_) (by kernel_rfl) (by kernel_rfl) (by kernel_rfl) rfl (by kernel_rfl) (by kernel_rfl) (by kernel_rfl) (fun _ _ _ h => h) (Or.inl ⟨by rfl, ?_⟩) hHeld ?_
    rotate_left
    · intro u hSu
      (go_simp) <;> (with_reducible rfl)
    change wpUp _ _ _ _ _ _ _ _ (Act.put _ (some 18) _) _
    simp only [Act.put, List.setIfInBounds_toArray, List.set_cons_zero, List.set_cons_succ]
    refine up_take (i := 6) (v := ?_) (by kernel_rfl) (by kernel_rfl) (by kernel_rfl) rfl (by kernel_rfl) (by kernel_rfl) (by kernel_rfl) (fun _ _ _ h => h) (Or.inl ⟨by rfl, ?_⟩) hHeld ?_
    rotate_left
    · intro u hSu
      (go_simp) <;> (with_reducible rfl)
    change wpUp _ _ _ _ _ _ _ _ (Act.put _ (some 19) _) _
    simp only [Act.put, List.setIfInBounds_toArray, List.set_cons_zero, List.set_cons_succ]
    refine up_take (i := 7) (v := ?_) (by kernel_rfl) (by kernel_rfl) (by kernel_rfl) rfl (by kernel_rfl) (by kernel_rfl) (by kernel_rfl) (fun _ _ _ h => h) (Or.inl ⟨by rfl, ?_⟩) hHeld ?_
    rotate_left
    · intro u hSu
      (go_simp) <;> (with_reducible rfl)
    change wpUp _ _ _ _ _ _ _ _ (Act.put _ (some 20) _) _
    simp only [Act.put, List.setIfInBounds_toArray, List.set_cons_zero, List.set_cons_succ]
    refine up_take (i := 8) (v := ?_) (by kernel_rfl) (by kernel_rfl) (by kernel_rfl) rfl (by kernel_rfl) (by kernel_rfl) (by kernel_rfl) (fun _ _ _ h => h) (Or.inl ⟨by rfl, ?_⟩) hHeld ?_
    rotate_left
    · intro u hSu
      obtain ⟨-, y2, y5, y6, y7⟩ := FC.out u hSu
      (go_simp) <;> (with_reducible rfl)
    change wpUp _ _ _ _ _ _ _ _ (Act.put _ (some 21) _) _
    simp only [Act.put, List.setIfInBounds_toArray, List.set_cons_zero, List.set_cons_succ]
    refine up_take (i := 9) (v := ?_) (by kernel_rfl) (by kernel_rfl) (by kernel_rfl) rfl (by kernel_rfl) (by kernel_rfl) (by kernel_rfl) (fun _ _ _ h => h) (Or.inl ⟨by rfl, ?_⟩) hHeld ?_
    rotate_left
    · intro u hSu
      (go_simp) <;> (with_reducible rfl)
    change wpUp _ _ _ _ _ _ _ _ (Act.put _ (some 22) _) _
    simp only [Act.put, List.setIfInBounds_toArray, List.set_cons_zero, List.set_cons_succ]
    refine up_take (i := 10) (v := ?_) (by kernel_rfl) (by kernel_rfl) (by kernel_rfl) rfl (by kernel_rfl) (by kernel_rfl) (by kernel_rfl) (fun _ _ _ h => h) (Or.inl ⟨by rfl, ?_⟩) hHeld ?_
    rotate_left
    · intro u hSu
      (go_simp) <;> (with_reducible rfl)
    change wpUp _ _ _ _ _ _ _ _ (Act.put _ (some 23) _) _
    simp only [Act.put, List.setIfInBounds_toArray, List.set_cons_zero, List.set_cons_succ]
    refine up_take (i := 11) (v := ?_) (by kernel_rfl) (by kernel_rfl) (by kernel_rfl) rfl (by kernel_rfl) (by kernel_rfl) (by kernel_rfl) (fun _ _ _ h => h) (Or.inl ⟨by rfl, ?_⟩) hHeld ?_
    rotate_left
    · intro u hSu
      (go_simp) <;> (with_reducible rfl)
    change wpUp _ _ _ _ _ _ _ _ (Act.put _ (some 24) _) _
    simp only [Act.put, List.setIfInBounds_toArray, List.set_cons_zero, List.set_cons_succ]
    refine up_take (i := 12) (v := ?_) (by kernel_rfl) (by kernel_rfl) (by kernel_rfl) rfl (by kernel_rfl) (by kernel_rfl) (by kernel_rfl) (fun _ _ _ h => h) (Or.inl ⟨by rfl, ?_⟩) hHeld ?_
    rotate_left
    · intro u hSu
      obtain ⟨-, y2, y5, y6, y7⟩ := FC.out u hSu
      (go_simp) <;> (with_reducible rfl)
    change wpUp _ _ _ _ _ _ _ _ (Act.put _ (some 25) _) _
    simp only [Act.put, List.setIfInBounds_toArray, List.set_cons_zero, List.set_cons_succ]
    refine up_ready (rs := [13]) (by kernel_rfl) (by simp) ?_
    refine AllUp.cons rfl (fun K hK => ?_) AllUp.nil
    go_simp
    go_at_call 37
    refine (CC.out _ hHeld).mono ?_
    rintro e u1 ⟨g', cap, rfl, n1, l1, i1, hb1⟩
    have B1 : Hid (Below W0.heap.size W0 u1) := hHeld.trans (hb1.mono hHeld.size); have I1 : Hid (IntsO u1 g' d.parts ∧ W0.heap.size ≤ g' ∧ P ≤ cap) := ⟨i1, l1, n1⟩; clear hb1 i1 l1 n1
    refine hK.out _ _ ?_ (fun hHeld2 => ?_)
    · exact B1.out
    clear hK K hHeld
    have hHeld := hHeld2
    clear hHeld2
    refine up_take (i := 14) (v := ?_) (by kernel_rfl) (by kernel_rfl) (by kernel_rfl) rfl (by kernel_rfl) (by kernel_rfl) (by kernel_rfl) (fun _ _ _ h => h) (Or.inl ⟨by rfl, ?_⟩) hHeld ?_
    rotate_left
    · intro u hSu
      (go_simp) <;> (with_reducible rfl)
    change wpUp _ _ _ _ _ _ _ _ (Act.put _ (some 27) _) _
    simp only [Act.put, List.setIfInBounds_toArray, List.set_cons_zero, List.set_cons_succ]
    refine up_ready (rs := [15]) (by kernel_rfl) (by simp) ?_
    refine AllUp.that rfl (fun K hK => ?_) AllUp.nil
    refine step_store_rowU rfl _ _ rfl w.heap.size [.int .i64 4, .int .i64 id, .int .i64 0, .int .u8 0, .int .i64 t, .int .u8 n, .slice none 0 0, .bool yb, .slice (some ⟨g', 0, none⟩) P cap] rfl rfl info_rcdU (fun u hu => by simp at hu; rcases hu with rfl | rfl | rfl | rfl | rfl | rfl | rfl | rfl | rfl <;> rfl) (HTH.out _ B1.out) ?_; intro u2 hr2 hc2; obtain ⟨x1, x2⟩ := HX.out u2 (some ⟨g', 0, none⟩) cap I1.out.2.2 ((I1.out.1.kept (hc2.block g' I1.out.1.lt (by have := I1.out.2.1; have := HWL.out; omega))).ints HPB.out); have R2 : Hid (u2.rangeAt w.heap.size 0 (encR ⟨r, none, 0, some ⟨g', 0, none⟩, cap⟩)) := (by rw [x2]; exact hr2); have X2 : Hid (encR ⟨r, none, 0, some ⟨g', 0, none⟩, cap⟩ = [.int .i64 4, .int .i64 id, .int .i64 0, .int .u8 0, .int .i64 t, .int .u8 n, .slice none 0 0, .bool yb, .slice (some ⟨g', 0, none⟩) P cap]) := x2; have X1 : Hid (RcW u2 ⟨r, none, 0, some ⟨g', 0, none⟩, cap⟩) := x1; have B2 : Hid (Below w.heap.size w u2) := HCB.out _ _ B1.out hc2; clear x1 x2 hr2 hc2; refine hK.out _ _ ?_; clear hK K hHeld
    refine up_after (i := 16) (v := ?_) (by kernel_rfl) (by kernel_rfl) rfl (Or.inl ⟨by rfl, ?_⟩) ?_
    rotate_left
    · intro u hSu
      (go_simp) <;> (with_reducible rfl)
    change wpUp _ _ _ _ _ _ _ _ (Act.put _ (some 5) _) _
    simp only [Act.put, List.setIfInBounds_toArray, List.set_cons_zero, List.set_cons_succ]
    refine up_done (by kernel_rfl) ?_
    refine NoPanic.normal ?_
    go_wp2
    refine bodyPost_ret (results_rowU rfl _ _ w.heap.size (encR ⟨r, none, 0, some ⟨g', 0, none⟩, cap⟩) _ rfl R2.out Try.underlying37 rfl info_rcdU) rfl ?_
    exact ⟨⟨⟨r, none, 0, some ⟨g', 0, none⟩, cap⟩, by rw [HR.out]; rfl, by rw [HR.out]; rfl, X1.out, fun g1 o1 e => by cases e; exact Nat.le_trans (Nat.le_of_lt HWL.out) I1.out.2.1⟩, B2.out⟩
end Go.Proofs.Ytcppihpehipelaa
