/-
  What the landed tables leave: Add (package prep: Table).
  What the landed tables answer and leave: Drop, Has (package prep: Table).
-/
import Derived.Test.YtileidbdmpeciaaGreatAu102
import Derived.Test.YtileidbdmpeciaaGreatAu117
namespace Go.Proofs.YtileidbdmpeciaaGreat
open Go.RowKit
set_option linter.unusedVariables false

theorem run_build_pent1 (w : World) (x : EntM) : (Instr.buildSlice 107 1 #[(0, ev x)]).run Tryz.prog w = .ok (.slice (some ⟨w.heap.size, 0, none⟩) 1 1) (w.alloc (.cells (encE x).toArray 31)) := by
  have hf : Instr.fill (fun i => some (i * 6, 6)) (encE zeroE).toArray [(0, ev x)] = some (encE x).toArray := by
    rw [fill_step _ (encE zeroE) 0 0 6 (encE x) rfl rfl (by rw [encE_len]; omega)]
    rfl
  simp [Instr.buildSlice, run_underlying Tryz.underlying107]
  generalize hz : Array.map _ (Array.range 6) = Z
  have hz2 : Z = (encE zeroE).toArray := by rw [← hz]; kernel_rfl
  rw [hz2, hf]
  simp [newRow]
theorem step_build_pent {w : World} {ops : Array Oper} {o : Oper} {a : Act} {K : Act → World → Prop} {Q : Exit → Act → World → Prop} {E : Prop} (hgd : o.guard = none) (y : Operand) (ho : o.op = .buildSlice 107 1 #[(0, y)]) (x : EntM) (hx : a.eval y = ev x)
    (h : K (a.put o.dst (.slice (some ⟨w.heap.size, 0, none⟩) 1 1)) (w.alloc (.cells (encE x).toArray 31))) : if Region.wanted o (yielded ops a.tmps) = true then Oper.wp Tryz.prog o a w K Q else E := by
  have hw : Region.wanted o (yielded ops a.tmps) = true := by simp [Region.wanted, hgd]
  rw [if_pos hw]
  have hrun := run_build_pent1 w x
  unfold Oper.wp
  simp only [execOp, ho, List.map_toArray, List.map_cons, List.map_nil, hx, Sem.run_bind, hrun, Result.andThen]
  exact h
theorem EBox.range {u : World} {b : Nat} {id s m t n : Int} {a : Option Addr} {N c : Nat} (h : EBox u b id s m t n a N c) : u.rangeAt b 0 [.int .i64 id, .int .i64 s, .int .u8 m, .int .i64 t, .int .u8 n, .slice a N c] := fun j v hv => by
  rw [Nat.zero_add]
  have hj6 : j < 6 := (List.getElem?_eq_some_iff.1 hv).1
  have hj' : j = 0 ∨ j = 1 ∨ j = 2 ∨ j = 3 ∨ j = 4 ∨ j = 5 := by omega
  rcases hj' with rfl | rfl | rfl | rfl | rfl | rfl <;> (injection hv with hv; rw [← hv])
  · exact h.c0
  · exact h.c1
  · exact h.c2
  · exact h.c3
  · exact h.c4
  · exact h.c5
theorem wpList_load_box (d : Tmp) {ops : Array Oper} {rest : List Oper} {op : Oper} {ac : Act} {w : World} {Q : Exit → Act → World → Prop} (hd : op.dst = some d) (hw : Region.wanted op (yielded ops ac.tmps) = true) (x : Operand) (ho : op.op = .load 31 x)
    (b : Nat) (hx : ac.eval x = .pointer (some ⟨b, 0, none⟩)) {id s m t n : Int} {a : Option Addr} {N c : Nat} (hat : EBox w b id s m t n a N c)
    (h : wpList Tryz.prog ops Q rest (ac.put op.dst (.agg #[.int .i64 id, .int .i64 s, .int .u8 m, .int .i64 t, .int .u8 n, .slice a N c])) w) : wpList Tryz.prog ops Q (op :: rest) ac w :=
  wpList_step fun K hK => by
    rw [if_pos hw]
    exact wp_load_mid 31 x ho b 0 hx [.int .i64 id, .int .i64 s, .int .u8 m, .int .i64 t, .int .u8 n, .slice a N c] _ hat.range Tryz.underlying31 rfl (by rw [info_pent]; rfl) (hK _ _ h)
/-- A table's list turns, and is laid into the table. -/
theorem PTab.turn {u w4 : World} {p N' c' : Nat} {M M' : List EntM} {X : Foot} {v : Value} {a' : Option Addr} (h : PTab u p M X) (hv : ∀ k, v.ownBlock = some k → X k ∧ k ≠ p) (hg : u.grownBy w4 v.ownBlock) (hT : TabK (ents M')) (hN : M'.length = N')
    (hrow : w4.ownsRow 0 31 6 (.slice a' N' c') N' (M'.flatMap encE)) (hblk : ∀ k, (Value.slice a' N' c').ownBlock = some k → v.ownBlock = some k ∨ u.heap.size ≤ k) (hw : ∀ x ∈ M', EntW u x) (hf : ∀ x ∈ M', x.e.l ≠ [] → ∀ b o, x.a = some ⟨b, o, none⟩ → ¬ X b) :
    ∃ X', PTab (w4.setCell ⟨p, 0, none⟩ (.slice a' N' c')) p M' X' ∧ Did u (w4.setCell ⟨p, 0, none⟩ (.slice a' N' c')) X X' := by
  subst hN
  have hp := h.lt p h.own
  have hpk : w4.heap[p]? = u.heap[p]? := hg.block p hp (fun e => (hv p e.symm).2 rfl)
  obtain ⟨a, c, h1, h2, h3⟩ := h.list
  refine ⟨fun k => X k ∨ (Value.slice a' M'.length c').ownBlock = some k, ⟨.inl h.own, fun k hk => ?_, ⟨a', c', ?_, ?_, ?_⟩, ?_, fun x hx => ?_, fun x hx hl b o e hX => ?_, hT⟩, ?_⟩
  · rw [World.size_setCell]
    rcases hk with hk | hk
    · exact Nat.lt_of_lt_of_le (h.lt k hk) hg.size
    · exact (hrow.lt k hk).2
  · exact World.cell?_setCell_same _ _ _ ((cell_kept hpk 0).trans h1)
  · refine prow_kept hrow (fun k e => Below.heap_setCell _ _ _ k (fun e2 => ?_))
    rcases hblk k e with e3 | e3
    · exact (hv k e3).2 e2
    · have : k = p := e2
      omega
  · intro k e
    rcases hblk k e with e3 | e3
    · exact ⟨.inr e, (hv k e3).2⟩
    · exact ⟨.inr e, by omega⟩
  · rw [World.frozen?_setCell]
    exact (frozen_kept hpk 0).trans h.free
  · refine (hw x hx).kept (fun hl b o e => ?_)
    have hbl := (hw x hx).wr.blt hl e
    have hnX := hf x hx hl b o e
    rw [Below.heap_setCell _ ⟨p, 0, none⟩ _ b (fun e2 => hnX (by have : b = p := e2; rw [this]; exact h.own))]
    exact hg.block b hbl (fun e2 => hnX (hv b e2.symm).1)
  · rcases hX with hX | hX
    · exact hf x hx hl b o e hX
    · rcases hblk b hX with e3 | e3
      · exact hf x hx hl b o e (hv b e3).1
      · have := (hw x hx).wr.blt hl e
        omega
  · refine ⟨(Chg.of_grown hg (X := X) (fun k e => (hv k e).1)).trans (Chg.set w4 ⟨p, 0, none⟩ _ h.own) (fun _ _ x => x), fun k hk => ?_⟩
    rw [World.size_setCell]
    rcases hk with hk | hk
    · exact ⟨.inl hk, Nat.lt_of_lt_of_le (h.lt k hk) hg.size⟩
    · refine ⟨?_, (hrow.lt k hk).2⟩
      rcases hblk k hk with e3 | e3
      · exact .inl (hv k e3).1
      · exact .inr e3
theorem NewW.refl (w : World) (M : List EntM) : NewW w M M := fun x hx => .inl hx
set_option maxHeartbeats 8000000 in
set_option maxRecDepth 8000 in
theorem padd_any (p : Nat) (M : List EntM) (X : Foot) (id s m t n : Int) (a : Option Addr) (N c : Nat) (l : List Wrt) (w : World) (h : PTab w p M X) (hl : l.length = N) (he : EntW w ⟨(⟨id, s, m, t, n, l⟩ : Ent), a, c⟩) :
    Calls Tryz.prog 46 #[.pointer (some ⟨p, 0, none⟩), .agg #[.int .i64 id, .int .i64 s, .int .u8 m, .int .i64 t, .int .u8 n, .slice a N c]] w fun e w' => e = .returned (.int .i64 (addT (ents M) (⟨id, s, m, t, n, l⟩ : Ent)).1) ∧ ∃ M' X', ents M' = (addT (ents M) (⟨id, s, m, t, n, l⟩ : Ent)).2 ∧ PTab w' p M' X' ∧ Did w w' X X' ∧ NewW w M M' := by
  obtain ⟨hwr, hroom, hfewN, hEO⟩ := he
  have hroom : N ≤ c := by rw [← hl]; exact hroom
  have hN6 : N ≤ 1000000 := by rw [← hl]; exact hfewN
  have hwr : WrtsAt w a l := hwr
  obtain ⟨V0, hV0⟩ : ∃ V0, V0 = w.alloc (.cells #[.int .i64 id, .int .i64 s, .int .u8 m, .int .i64 t, .int .u8 n, .slice a N c] 31) := ⟨_, rfl⟩
  have HBW : Hid (Below w.heap.size w V0) := by rw [hV0]; exact (Below.refl _ _).alloc (Nat.le_refl _) _
  have hsz : V0.heap.size = w.heap.size + 1 := by rw [hV0]; simp
  have HV0 : Hid (w.alloc (.cells #[.int .i64 id, .int .i64 s, .int .u8 m, .int .i64 t, .int .u8 n, .slice a N c] 31) = V0) := hV0.symm
  have FE : Hid (∀ u, Below V0.heap.size V0 u → EBox u w.heap.size id s m t n a N c) := fun u hb => (by rw [hV0]; exact EBox.made w 31 id s m t n a N c : EBox V0 w.heap.size id s m t n a N c).past hb
  have FEV : Hid (EBox V0 w.heap.size id s m t n a N c) := FE.out V0 (Below.refl _ _)
  obtain ⟨a0, c0, hc1, hc2, hc3, hcell, _, hblk⟩ := h.open
  obtain ⟨N0, hN0⟩ : ∃ N0, N0 = M.length := ⟨_, rfl⟩
  have hM : N0 ≤ 100 := by rw [hN0]; exact h.few
  have HT : Hid (PTab w p M X) := h
  have HCE : Hid (∀ v, Below w.heap.size w v → v.cell? ⟨p, 0, none⟩ = some (.slice a0 N0 c0)) := fun v hv => by rw [hN0]; exact (hcell v hv).1
  have HROW : Hid (∀ v, Below w.heap.size w v → v.ownsRow 0 31 6 (.slice a0 N0 c0) N0 (M.flatMap encE)) := fun v hv => by rw [hN0]; exact (hcell v hv).2
  have HBK : Hid (∀ k, (Value.slice a0 N0 c0).ownBlock = some k → X k ∧ k ≠ p) := by rw [hN0]; exact hblk
  have HN0 : Hid (M.length = N0) := hN0.symm
  obtain ⟨gE, hgE⟩ : ∃ b, b = goodE ⟨id, s, m, t, n, l⟩ := ⟨_, rfl⟩
  obtain ⟨ok, hok⟩ : ∃ b, b = (hasM M id).isSome := ⟨_, rfl⟩
  obtain ⟨lo, hlo⟩ : ∃ k, k = placeT (ents M) id := ⟨_, rfl⟩
  obtain ⟨hd, hhd⟩ : ∃ b, b = heldT (ents M) l := ⟨_, rfl⟩
  have hlol : lo ≤ N0 := by rw [hlo, hN0]; have := place_le (ents M) id; rwa [List.length_map] at this
  have CG : Hid (∀ u, Below w.heap.size w u → Calls Tryz.prog 42 #[.agg #[.int .i64 id, .int .i64 s, .int .u8 m, .int .i64 t, .int .u8 n, .slice a N c]] u fun e w' => e = .returned (.bool gE) ∧ Below u.heap.size u w') := fun u hb => by rw [hgE]; exact pgood_any id s m t n a N c l u hl hroom hN6 (hwr.past hb)
  have CF : Hid (∀ u, Below w.heap.size w u → Calls Tryz.prog 89 #[.pointer (some ⟨p, 0, none⟩), .int .i64 id] u fun e w' => e = .returned (.tuple #[.int .i64 (lo : Nat), .bool ok]) ∧ Below u.heap.size u w') := fun u hb => by rw [hlo, hok]; exact pfind_any p M X id u (h.past hb)
  have CH : Hid (∀ u, Below w.heap.size w u → Calls Tryz.prog 90 #[.pointer (some ⟨p, 0, none⟩), .slice a N c] u fun e w' => e = .returned (.bool hd) ∧ Below u.heap.size u w') := fun u hb => by rw [hhd]; exact panyheld_any p M X a N c l u (h.past hb) hl hroom hN6 (hwr.past hb)
  obtain ⟨R, hR⟩ : ∃ R, R = addT (ents M) (⟨id, s, m, t, n, l⟩ : Ent) := ⟨_, rfl⟩
  have hput : R = if gE = false then (1, ents M) else if ok = true then (5, ents M) else if hd = true then (9, ents M) else if 100 ≤ N0 then (6, ents M) else (0, (ents M).take lo ++ (⟨id, s, m, t, n, l⟩ : Ent) :: (ents M).drop lo) := by
    rw [hR, hgE, hok, hhd, hlo, hN0]
    unfold addT
    rw [← hasM_e, Option.isSome_map, List.length_map]
  have HSAME : Hid (∀ u, Below w.heap.size w u → R.2 = ents M → ∃ M' X', ents M' = R.2 ∧ PTab u p M' X' ∧ Did w u X X' ∧ NewW w M M') := fun u hb e => ⟨M, X, e.symm, h.past hb, Did.stay hb h.lt, NewW.refl w M⟩
  have HKW : Hid (TabK R.2) := by rw [hR]; exact h.tab.add _
  have hmay : gE = true → ∀ W ∈ l, W.v.length ≤ 200 := fun e W hW => by
    rw [hgE] at e
    unfold goodE at e
    have e2 := (Bool.and_eq_true _ _ ▸ e).2
    have e3 := (may_all.1 e2).2.1 W hW
    unfold okW at e3
    simp only [Bool.and_eq_true, decide_eq_true_eq] at e3
    exact e3.1.2
  rw [← hR]
  clear hgE hok hhd hR hV0 hcell hblk hN0
  cases gE with
  | false =>
    have HR1 : Hid (R.1 = 1) := by show _ = _; rw [hput]; rfl
    have HE : Hid (∀ u, Below w.heap.size w u → ∃ M' X', ents M' = R.2 ∧ PTab u p M' X' ∧ Did w u X X' ∧ NewW w M M') := fun u hb => HSAME.out u hb (by rw [hput]; rfl)
    clear hput HSAME hlo h hwr hl hmay
    go_enter Tryz.func46, Tryz.ntmps46
    go_wp2_with (first | ((with_reducible show wpList _ _ _ (Oper.mk (some 7) _ _ _ _ _ :: _) _ _); rw [HV0.out]; refine wpList_load_box 7 (by rfl) (by rfl) _ (by rfl) w.heap.size (by rfl) FEV.out ?_) | (go_at_call 42; refine (CG.out _ HBW.out).mono ?_; rintro e w1 ⟨rfl, hb1⟩; have B1 : Hid (Below V0.heap.size V0 w1) := hb1; obtain ⟨y0, y1, y2, y3, y4, y5⟩ := FE.out w1 hb1; clear hb1 CG))
    go_ret
    exact ⟨by rw [HR1.out]; rfl, HE.out _ (HBW.out.trans (B1.out.mono HBW.out.size))⟩
  | true =>
    rw [if_neg (by simp)] at hput
    cases ok with
    | true =>
      rw [if_pos rfl] at hput
      have HR1 : Hid (R.1 = 5) := by show _ = _; rw [hput]
      have HE : Hid (∀ u, Below w.heap.size w u → ∃ M' X', ents M' = R.2 ∧ PTab u p M' X' ∧ Did w u X X' ∧ NewW w M M') := fun u hb => HSAME.out u hb (by rw [hput])
      clear hput HSAME hlo h hwr hl hmay
      go_enter Tryz.func46, Tryz.ntmps46
      go_wp2_with (first | ((with_reducible show wpList _ _ _ (Oper.mk (some 7) _ _ _ _ _ :: _) _ _); rw [HV0.out]; refine wpList_load_box 7 (by rfl) (by rfl) _ (by rfl) w.heap.size (by rfl) FEV.out ?_) | (go_at_call 42; refine (CG.out _ HBW.out).mono ?_; rintro e w1 ⟨rfl, hb1⟩; have B1 : Hid (Below V0.heap.size V0 w1) := hb1; obtain ⟨y0, y1, y2, y3, y4, y5⟩ := FE.out w1 hb1; clear hb1 CG) | (go_at_call 89; refine (CF.out _ (HBW.out.trans (B1.out.mono HBW.out.size))).mono ?_; rintro e w2 ⟨rfl, hb2⟩; have B2 : Hid (Below V0.heap.size V0 w2) := B1.out.trans (hb2.mono B1.out.size); obtain ⟨y0, y1, y2, y3, y4, y5⟩ := FE.out w2 B2.out; clear hb2 CF))
      go_ret
      exact ⟨by rw [HR1.out]; rfl, HE.out _ (HBW.out.trans (B2.out.mono HBW.out.size))⟩
    | false =>
      rw [if_neg (by simp)] at hput
      cases hd with
      | true =>
        rw [if_pos rfl] at hput
        have HR1 : Hid (R.1 = 9) := by show _ = _; rw [hput]
        have HE : Hid (∀ u, Below w.heap.size w u → ∃ M' X', ents M' = R.2 ∧ PTab u p M' X' ∧ Did w u X X' ∧ NewW w M M') := fun u hb => HSAME.out u hb (by rw [hput])
        clear hput HSAME hlo h hwr hl hmay
        go_enter Tryz.func46, Tryz.ntmps46
        go_wp2_with (first | ((with_reducible show wpList _ _ _ (Oper.mk (some 7) _ _ _ _ _ :: _) _ _); rw [HV0.out]; refine wpList_load_box 7 (by rfl) (by rfl) _ (by rfl) w.heap.size (by rfl) FEV.out ?_) | (go_at_call 42; refine (CG.out _ HBW.out).mono ?_; rintro e w1 ⟨rfl, hb1⟩; have B1 : Hid (Below V0.heap.size V0 w1) := hb1; obtain ⟨y0, y1, y2, y3, y4, y5⟩ := FE.out w1 hb1; clear hb1 CG) | (go_at_call 89; refine (CF.out _ (HBW.out.trans (B1.out.mono HBW.out.size))).mono ?_; rintro e w2 ⟨rfl, hb2⟩; have B2 : Hid (Below V0.heap.size V0 w2) := B1.out.trans (hb2.mono B1.out.size); obtain ⟨y0, y1, y2, y3, y4, y5⟩ := FE.out w2 B2.out; clear hb2 CF) | (go_at_call 90; refine (CH.out _ (HBW.out.trans (B2.out.mono HBW.out.size))).mono ?_; rintro e w3 ⟨rfl, hb3⟩; have B3 : Hid (Below V0.heap.size V0 w3) := B2.out.trans (hb3.mono B2.out.size); have q9 := HCE.out w3 (HBW.out.trans (B3.out.mono HBW.out.size)); clear hb3 CH))
        go_ret
        exact ⟨by rw [HR1.out]; rfl, HE.out _ (HBW.out.trans (B3.out.mono HBW.out.size))⟩
      | false =>
        rw [if_neg (by simp)] at hput
        by_cases h100 : 100 ≤ N0
        · rw [if_pos h100] at hput
          have HR1 : Hid (R.1 = 6) := by show _ = _; rw [hput]
          have HE : Hid (∀ u, Below w.heap.size w u → ∃ M' X', ents M' = R.2 ∧ PTab u p M' X' ∧ Did w u X X' ∧ NewW w M M') := fun u hb => HSAME.out u hb (by rw [hput])
          clear hput HSAME hlo h hwr hl hmay
          go_enter Tryz.func46, Tryz.ntmps46
          go_wp2_with (first | ((with_reducible show wpList _ _ _ (Oper.mk (some 7) _ _ _ _ _ :: _) _ _); rw [HV0.out]; refine wpList_load_box 7 (by rfl) (by rfl) _ (by rfl) w.heap.size (by rfl) FEV.out ?_) | (go_at_call 42; refine (CG.out _ HBW.out).mono ?_; rintro e w1 ⟨rfl, hb1⟩; have B1 : Hid (Below V0.heap.size V0 w1) := hb1; obtain ⟨y0, y1, y2, y3, y4, y5⟩ := FE.out w1 hb1; clear hb1 CG) | (go_at_call 89; refine (CF.out _ (HBW.out.trans (B1.out.mono HBW.out.size))).mono ?_; rintro e w2 ⟨rfl, hb2⟩; have B2 : Hid (Below V0.heap.size V0 w2) := B1.out.trans (hb2.mono B1.out.size); obtain ⟨y0, y1, y2, y3, y4, y5⟩ := FE.out w2 B2.out; clear hb2 CF) | (go_at_call 90; refine (CH.out _ (HBW.out.trans (B2.out.mono HBW.out.size))).mono ?_; rintro e w3 ⟨rfl, hb3⟩; have B3 : Hid (Below V0.heap.size V0 w3) := B2.out.trans (hb3.mono B2.out.size); have q9 := HCE.out w3 (HBW.out.trans (B3.out.mono HBW.out.size)); clear hb3 CH))
          go_ret
          exact ⟨by rw [HR1.out]; rfl, HE.out _ (HBW.out.trans (B3.out.mono HBW.out.size))⟩
        · rw [if_neg h100] at hput
          have HR1 : Hid (R.1 = 0) := by show _ = _; rw [hput]
          have HR2 : Hid (R.2 = (ents M).take lo ++ (⟨id, s, m, t, n, l⟩ : Ent) :: (ents M).drop lo) := by show _ = _; rw [hput]
          obtain ⟨G, hG⟩ : ∃ G : Foot, G = fun k => (Value.slice a0 N0 c0).ownBlock = some k := ⟨_, rfl⟩
          have HGX : Hid (∀ k, G k → X k ∧ k ≠ p ∧ k < w.heap.size) := fun k e => by rw [hG] at e; exact ⟨(HBK.out k e).1, (HBK.out k e).2, h.lt k (HBK.out k e).1⟩
          have HGO : Hid (∀ k, (Value.slice a0 N0 c0).ownBlock = some k → G k) := fun k e => by rw [hG]; exact e
          have HPW : Hid (p < w.heap.size) := h.lt p h.own
          have HPF : Hid (w.frozen? ⟨p, 0, none⟩ = false) := h.free
          have CK : Hid (∀ u, Below w.heap.size w u → Calls Tryz.prog 92 #[.agg #[.int .i64 id, .int .i64 s, .int .u8 m, .int .i64 t, .int .u8 n, .slice a N c]] u fun e w' => ∃ a' c', e = .returned (ev ⟨(⟨id, s, m, t, n, l⟩ : Ent), a', c'⟩) ∧ w'.ownsRow (u.heap.size + 2) 80 18 (.slice a' N c') N (l.flatMap encW) ∧ Below u.heap.size u w') := fun u hb => by
            have := pkept_any ⟨(⟨id, s, m, t, n, l⟩ : Ent), a, c⟩ u ⟨hwr.past hb, by rw [← hl] at hroom; exact hroom, by rw [← hl] at hN6; exact hN6, hEO⟩ (hmay rfl)
            rw [← hl]
            exact this
          have HEW : Hid (∀ (w5 : World) (B5 : Nat) (a5 : Option Addr) (c5 : Nat), w5.ownsRow B5 80 18 (.slice a5 N c5) N (l.flatMap encW) → EntW w5 ⟨(⟨id, s, m, t, n, l⟩ : Ent), a5, c5⟩ ∧ (l ≠ [] → ∀ b o, a5 = some ⟨b, o, none⟩ → B5 ≤ b)) := fun w5 B5 a5 c5 ho => by
            obtain ⟨k1, k2, k3⟩ := own_wrts ho hl hwr.oks
            exact ⟨⟨k2, by rw [← hl] at k1; exact k1, by rw [← hl] at hN6; exact hN6, hEO⟩, k3⟩
          have HEND : Hid (∀ (W w6 : World) (a5 : Option Addr) (c5 : Nat) (a' : Option Addr) (c' : Nat), Below w.heap.size w W → EntW W ⟨(⟨id, s, m, t, n, l⟩ : Ent), a5, c5⟩ → (l ≠ [] → ∀ b o, a5 = some ⟨b, o, none⟩ → w.heap.size ≤ b) → InsP W w6 a0 a' N0 c0 c' (M.take lo ++ ⟨(⟨id, s, m, t, n, l⟩ : Ent), a5, c5⟩ :: M.drop lo) → ∃ M' X', ents M' = R.2 ∧ PTab (w6.setCell ⟨p, 0, none⟩ (.slice a' (N0 + 1) c')) p M' X' ∧ Did w (w6.setCell ⟨p, 0, none⟩ (.slice a' (N0 + 1) c')) X X' ∧ NewW w M M') := fun W w6 a5 c5 a' c' hb hew hn hi => by
            have hlen : (M.take lo ++ (⟨(⟨id, s, m, t, n, l⟩ : Ent), a5, c5⟩ : EntM) :: M.drop lo).length = N0 + 1 := by simp only [List.length_append, List.length_take, List.length_cons, List.length_drop, HN0.out]; omega
            have hents : ents (M.take lo ++ (⟨(⟨id, s, m, t, n, l⟩ : Ent), a5, c5⟩ : EntM) :: M.drop lo) = R.2 := by rw [HR2.out]; simp [ents]
            have hcase : ∀ x ∈ M.take lo ++ (⟨(⟨id, s, m, t, n, l⟩ : Ent), a5, c5⟩ : EntM) :: M.drop lo, x ∈ M ∨ x = ⟨(⟨id, s, m, t, n, l⟩ : Ent), a5, c5⟩ := fun x hx => by
              rcases List.mem_append.1 hx with e | e
              · exact .inl (List.mem_of_mem_take e)
              · rcases List.mem_cons.1 e with e | e
                · exact .inr e
                · exact .inl (List.mem_of_mem_drop e)
            obtain ⟨X', k1, k2⟩ := (HT.out.past hb).turn (v := .slice a0 N0 c0) HBK.out hi.grown (by rw [hents]; exact HKW.out) hlen hi.row hi.blk (fun x hx => by
              rcases hcase x hx with e | rfl
              · exact (HT.out.wrs x e).past hb
              · exact hew) (fun x hx hlx b o e hXb => by
              rcases hcase x hx with e2 | rfl
              · exact HT.out.far x e2 hlx b o e hXb
              · have h1 := hn hlx b o e
                have h2 := HT.out.lt b hXb
                omega)
            refine ⟨_, X', hents, k1, (Did.stay hb HT.out.lt).trans k2, fun x hx => ?_⟩
            rcases hcase x hx with e | rfl
            · exact .inl e
            · exact .inr hn
          clear hput HSAME hlo h hwr hl hmay hG HKW
          go_enter Tryz.func46, Tryz.ntmps46
          go_wp2_with (first | ((with_reducible show wpList _ _ _ (Oper.mk (some 7) _ _ _ _ _ :: _) _ _); rw [HV0.out]; refine wpList_load_box 7 (by rfl) (by rfl) _ (by rfl) w.heap.size (by rfl) FEV.out ?_) | (go_at_call 42; refine (CG.out _ HBW.out).mono ?_; rintro e w1 ⟨rfl, hb1⟩; have B1 : Hid (Below V0.heap.size V0 w1) := hb1; obtain ⟨y0, y1, y2, y3, y4, y5⟩ := FE.out w1 hb1; clear hb1 CG) | (go_at_call 89; refine (CF.out _ (HBW.out.trans (B1.out.mono HBW.out.size))).mono ?_; rintro e w2 ⟨rfl, hb2⟩; have B2 : Hid (Below V0.heap.size V0 w2) := B1.out.trans (hb2.mono B1.out.size); obtain ⟨y0, y1, y2, y3, y4, y5⟩ := FE.out w2 B2.out; clear hb2 CF) | (go_at_call 90; refine (CH.out _ (HBW.out.trans (B2.out.mono HBW.out.size))).mono ?_; rintro e w3 ⟨rfl, hb3⟩; have B3 : Hid (Below V0.heap.size V0 w3) := B2.out.trans (hb3.mono B2.out.size); have q9 := HCE.out w3 (HBW.out.trans (B3.out.mono HBW.out.size)); clear hb3 CH))
          have HUB : Hid (Below w.heap.size w w3) := HBW.out.trans (B3.out.mono HBW.out.size)
          have hszU : w.heap.size ≤ w3.heap.size := HUB.out.size
          have HBX : Hid (∀ u, Chg w3 u G → EBox u w.heap.size id s m t n a N c) := fun u hu => by
            have hE := FE.out w3 B3.out
            have hk := hu.block w.heap.size (cell_lt hE.c0) (fun e => by have := (HGX.out _ e).2.2; omega)
            exact ⟨(cell_kept hk 0).trans hE.c0, (cell_kept hk 1).trans hE.c1, (cell_kept hk 2).trans hE.c2, (cell_kept hk 3).trans hE.c3, (cell_kept hk 4).trans hE.c4, (cell_kept hk 5).trans hE.c5⟩
          have HKU : Hid (∀ u, Chg w3 u G → u.cell? ⟨p, 0, none⟩ = some (.slice a0 N0 c0) ∧ u.frozen? ⟨p, 0, none⟩ = false) := fun u hu => by
            have hk := hu.block p (Nat.lt_of_lt_of_le HPW.out hszU) (fun e => (HGX.out _ e).2.1 rfl)
            exact ⟨(cell_kept hk 0).trans (HCE.out w3 HUB.out), (frozen_kept hk 0).trans ((HUB.out.frozen (p := ⟨p, 0, none⟩) HPW.out).trans HPF.out)⟩
          have HCI : Hid (∀ (w5 : World) (a5 : Option Addr) (c5 : Nat), Below w3.heap.size w3 w5 → Calls Tryz.prog 91 #[.slice a0 N0 c0, .int .i64 lo, .slice (some ⟨w5.heap.size, 0, none⟩) 1 1] (w5.alloc (.cells (encE ⟨(⟨id, s, m, t, n, l⟩ : Ent), a5, c5⟩).toArray 31)) fun e w' => ∃ a' c', e = .returned (.slice a' (N0 + 1) c') ∧ InsP (w5.alloc (.cells (encE ⟨(⟨id, s, m, t, n, l⟩ : Ent), a5, c5⟩).toArray 31)) w' a0 a' N0 c0 c' (M.take lo ++ ⟨(⟨id, s, m, t, n, l⟩ : Ent), a5, c5⟩ :: M.drop lo)) := fun w5 a5 c5 hb5 => by
            have hb : Below w.heap.size w w5 := HUB.out.trans (hb5.mono hszU)
            refine pins_any a0 c0 N0 lo w5.heap.size M ⟨(⟨id, s, m, t, n, l⟩ : Ent), a5, c5⟩ _ HN0.out hlol (by omega) (HROW.out _ (hb.alloc hb.size _)) ?_ (fun k e => ?_)
            · exact heap_alloc_new w5 _
            · have := (HGX.out k (HGO.out k e)).2.2
              have := hb.size
              omega
          have CK3 : Hid (Calls Tryz.prog 92 #[.agg #[.int .i64 id, .int .i64 s, .int .u8 m, .int .i64 t, .int .u8 n, .slice a N c]] w3.drew fun e w' => ∃ a' c', e = .returned (ev ⟨(⟨id, s, m, t, n, l⟩ : Ent), a', c'⟩) ∧ w'.ownsRow (w3.drew.heap.size + 2) 80 18 (.slice a' N c') N (l.flatMap encW) ∧ Below w3.drew.heap.size w3.drew w') := CK.out w3.drew HUB.out.drew
          have q0 := HKU.out w3 (Chg.refl _ _)
          refine wp_region_noPanic ?_
          refine region_till 12 (fun u => Chg w3 u G) (by kernel_rfl) ?_ (fun hHeld => ?_)
          · exact (Chg.refl _ _).drew
          refine till_take (i := 0) (v := ?_) 0 (by kernel_rfl) (Or.inl rfl) (by kernel_rfl) rfl (by kernel_rfl) (by kernel_rfl) (by kernel_rfl) (fun _ _ _ h => h) (Or.inl ⟨by rfl, ?_⟩) hHeld ?_
          rotate_left
          · intro u hSu
            (go_simp) <;> (with_reducible rfl)
          change wpTill _ _ _ _ _ _ _ _ (Act.put _ (some 28) _) _
          simp only [Act.put, List.setIfInBounds_toArray, List.set_cons_zero, List.set_cons_succ]
          refine till_take (i := 1) (v := ?_) 1 (by kernel_rfl) (Or.inl rfl) (by kernel_rfl) rfl (by kernel_rfl) (by kernel_rfl) (by kernel_rfl) (fun _ _ _ h => h) (Or.inl ⟨by rfl, ?_⟩) hHeld ?_
          rotate_left
          · intro u hSu
            (go_simp) <;> (with_reducible rfl)
          change wpTill _ _ _ _ _ _ _ _ (Act.put _ (some 29) _) _
          simp only [Act.put, List.setIfInBounds_toArray, List.set_cons_zero, List.set_cons_succ]
          refine till_take (i := 2) (v := ?_) 2 (by kernel_rfl) (Or.inl rfl) (by kernel_rfl) rfl (by kernel_rfl) (by kernel_rfl) (by kernel_rfl) (fun _ _ _ h => h) (Or.inl ⟨by rfl, ?_⟩) hHeld ?_
          rotate_left
          · intro u hSu
            (go_simp) <;> (with_reducible rfl)
          change wpTill _ _ _ _ _ _ _ _ (Act.put _ (some 30) _) _
          simp only [Act.put, List.setIfInBounds_toArray, List.set_cons_zero, List.set_cons_succ]
          refine till_take (i := 3) (v := ?_) 3 (by kernel_rfl) (Or.inl rfl) (by kernel_rfl) rfl (by kernel_rfl) (by kernel_rfl) (by kernel_rfl) (fun _ _ _ h => h) (Or.inl ⟨by rfl, ?_⟩) hHeld ?_
          rotate_left
          · intro u hSu
            (go_simp) <;> (with_reducible rfl)
          change wpTill _ _ _ _ _ _ _ _ (Act.put _ (some 31) _) _
          simp only [Act.put, List.setIfInBounds_toArray, List.set_cons_zero, List.set_cons_succ]
          refine till_take (i := 4) (v := ?_) 4 (by kernel_rfl) (Or.inl rfl) (by kernel_rfl) rfl (by kernel_rfl) (by kernel_rfl) (by kernel_rfl) (fun _ _ _ h => h) (Or.inl ⟨by rfl, ?_⟩) hHeld ?_
          rotate_left
          · intro u hSu
            obtain ⟨z1, z3⟩ := HKU.out u hSu
            (go_simp) <;> (with_reducible rfl)
          change wpTill _ _ _ _ _ _ _ _ (Act.put _ (some 32) _) _
          simp only [Act.put, List.setIfInBounds_toArray, List.set_cons_zero, List.set_cons_succ]
          refine till_take (i := 5) (v := ?_) 5 (by kernel_rfl) (Or.inl rfl) (by kernel_rfl) rfl (by kernel_rfl) (by kernel_rfl) (by kernel_rfl) (fun _ _ _ h => h) (Or.inl ⟨by rfl, ?_⟩) hHeld ?_
          rotate_left
          · intro u hSu
            (go_simp) <;> (with_reducible rfl)
          change wpTill _ _ _ _ _ _ _ _ (Act.put _ (some 33) _) _
          simp only [Act.put, List.setIfInBounds_toArray, List.set_cons_zero, List.set_cons_succ]
          refine till_take (i := 6) (v := ?_) 6 (by kernel_rfl) (Or.inl rfl) (by kernel_rfl) rfl (by kernel_rfl) (by kernel_rfl) (by kernel_rfl) (fun _ _ _ h => h) (Or.inl ⟨by rfl, ?_⟩) hHeld ?_
          rotate_left
          · intro u hSu
            obtain ⟨z0, z1, z2, z3, z4, z5⟩ := HBX.out u hSu
            (go_simp) <;> (with_reducible rfl)
          change wpTill _ _ _ _ _ _ _ _ (Act.put _ (some 34) _) _
          simp only [Act.put, List.setIfInBounds_toArray, List.set_cons_zero, List.set_cons_succ]
          refine till_ready (rs := [7]) (by kernel_rfl) (by simp) ?_
          refine AllTill.cons rfl (fun K hK => ?_) AllTill.nil
          go_simp
          go_at_call 92
          refine (CK3.out).mono ?_
          rintro e w5 ⟨a5, c5, rfl, h5, hb5⟩
          obtain ⟨k5, k6⟩ := HEW.out w5 _ a5 c5 h5; have B5 : Hid (Below w3.heap.size w3 w5) := (Below.refl _ _).drew.trans hb5; have E5 : Hid (EntW w5 ⟨(⟨id, s, m, t, n, l⟩ : Ent), a5, c5⟩) := k5; have N5 : Hid (l ≠ [] → ∀ b o, a5 = some ⟨b, o, none⟩ → w.heap.size ≤ b) := fun e b o e2 => (by have := k6 e b o e2; have : w3.drew.heap.size = w3.heap.size := rfl; omega); have CI : Hid (Calls Tryz.prog 91 #[.slice a0 N0 c0, .int .i64 lo, .slice (some ⟨w5.heap.size, 0, none⟩) 1 1] (w5.alloc (.cells (encE ⟨(⟨id, s, m, t, n, l⟩ : Ent), a5, c5⟩).toArray 31)) fun e w' => ∃ a' c', e = .returned (.slice a' (N0 + 1) c') ∧ InsP (w5.alloc (.cells (encE ⟨(⟨id, s, m, t, n, l⟩ : Ent), a5, c5⟩).toArray 31)) w' a0 a' N0 c0 c' (M.take lo ++ ⟨(⟨id, s, m, t, n, l⟩ : Ent), a5, c5⟩ :: M.drop lo)) := HCI.out w5 a5 c5 B5.out; clear h5 hb5 k5 k6 CK3 HCI
          refine hK.out _ _ ?_ (fun hHeld2 => ?_)
          · exact Chg.of_below B5.out G
          clear hK K hHeld
          have hHeld := hHeld2
          clear hHeld2
          refine till_ready (rs := [8]) (by kernel_rfl) (by simp) ?_
          refine AllTill.cons rfl (fun K hK => ?_) AllTill.nil
          refine step_build_pent rfl (.tmp 35) rfl ⟨(⟨id, s, m, t, n, l⟩ : Ent), a5, c5⟩ rfl ?_
          refine hK.out _ _ ?_ (fun hHeld2 => ?_)
          · exact hHeld.alloc _
          clear hK K hHeld
          have hHeld := hHeld2
          clear hHeld2
          change wpTill _ _ _ _ _ _ _ _ (Act.put _ (some 36) _) _
          simp only [Act.put, List.setIfInBounds_toArray, List.set_cons_zero, List.set_cons_succ]
          refine till_ready (rs := [9]) (by kernel_rfl) (by simp) ?_
          refine AllTill.cons rfl (fun K hK => ?_) AllTill.nil
          go_simp
          go_at_call 91
          refine (CI.out).mono ?_
          rintro e w6 ⟨a6, c6, rfl, h6⟩
          have Z6 : Hid (InsP (w5.alloc (.cells (encE ⟨(⟨id, s, m, t, n, l⟩ : Ent), a5, c5⟩).toArray 31)) w6 a0 a6 N0 c0 c6 (M.take lo ++ ⟨(⟨id, s, m, t, n, l⟩ : Ent), a5, c5⟩ :: M.drop lo)) := h6; have C6 : Hid (Chg w3 w6 G) := ((Chg.of_below B5.out G).alloc _).trans (Chg.of_grown h6.grown (X := G) (fun k e => HGO.out k e)) (fun _ _ x => x); clear h6
          refine hK.out _ _ ?_ (fun hHeld2 => ?_)
          · exact C6.out
          clear hK K hHeld
          have hHeld := hHeld2
          clear hHeld2
          refine till_take (i := 10) (v := ?_) 11 (by kernel_rfl) (Or.inr (by kernel_rfl)) (by kernel_rfl) rfl (by kernel_rfl) (by kernel_rfl) (by kernel_rfl) (fun _ _ _ h => h) (Or.inl ⟨by rfl, ?_⟩) hHeld ?_
          rotate_left
          · intro u hSu
            (go_simp) <;> (with_reducible rfl)
          change wpTill _ _ _ _ _ _ _ _ (Act.put _ (some 38) _) _
          simp only [Act.put, List.setIfInBounds_toArray, List.set_cons_zero, List.set_cons_succ]
          refine till_take (i := 11) (v := ?_) 11 (by kernel_rfl) (Or.inl rfl) (by kernel_rfl) rfl (by kernel_rfl) (by kernel_rfl) (by kernel_rfl) (fun _ _ _ h => h) (Or.inl ⟨by rfl, ?_⟩) hHeld ?_
          rotate_left
          · intro u hSu
            (go_simp) <;> (with_reducible rfl)
          change wpTill _ _ _ _ _ _ _ _ (Act.put _ (some 39) _) _
          simp only [Act.put, List.setIfInBounds_toArray, List.set_cons_zero, List.set_cons_succ]
          refine till_last (by kernel_rfl) (by kernel_rfl) rfl (fun K hK => ?_)
          (obtain ⟨z1, z3⟩ := HKU.out w6 C6.out); go_simp; refine hK.out _ _ ?_; refine NoPanic.normal ?_; clear hK K hHeld z1 z3
          go_wp2
          go_ret
          have hb5 : Below w.heap.size w w5 := HUB.out.trans (B5.out.mono hszU)
          exact ⟨by rw [HR1.out]; rfl, HEND.out _ _ a5 c5 _ _ (hb5.alloc hb5.size _) (E5.out.past ((Below.refl _ _).alloc (Nat.le_refl _) _)) N5.out Z6.out⟩
end Go.Proofs.YtileidbdmpeciaaGreat

namespace Go.Proofs.YtileidbdmpeciaaGreat
open Go.RowKit
set_option linter.unusedVariables false

theorem dropM_at {M : List EntM} (h : TabK (ents M)) {J : Nat} {x : EntM} (hx : M[J]? = some x) : dropM M x.e.id = M.take J ++ M.drop (J + 1) := by
  obtain ⟨hJ, hxe⟩ := List.getElem?_eq_some_iff.1 hx
  have hM : M = M.take J ++ x :: M.drop (J + 1) := by
    rw [← hxe, ← List.drop_eq_getElem_cons hJ, List.take_append_drop]
  have h1 : ∀ y ∈ M.take J, decide (y.e.id ≠ x.e.id) = true := fun y hy => by
    obtain ⟨j, hj, rfl⟩ := List.mem_iff_getElem.1 hy
    rw [List.length_take] at hj
    rw [List.getElem_take]
    have := ents_up h (i := j) (j := J) (by omega) (List.getElem?_eq_getElem (by omega)) hx
    exact decide_eq_true (by omega)
  have h2 : ∀ y ∈ M.drop (J + 1), decide (y.e.id ≠ x.e.id) = true := fun y hy => by
    obtain ⟨j, hj, rfl⟩ := List.mem_iff_getElem.1 hy
    rw [List.length_drop] at hj
    rw [List.getElem_drop]
    have := ents_up h (i := J) (j := J + 1 + j) (by omega) hx (List.getElem?_eq_getElem (by omega))
    exact decide_eq_true (by omega)
  unfold dropM
  conv => lhs; rw [hM]
  rw [List.filter_append, List.filter_cons_of_neg (by simp), List.filter_eq_self.2 h1, List.filter_eq_self.2 h2]
theorem drop_no {M : List EntM} {id : Int} (h : hasM M id = none) : dropM M id = M := by
  unfold dropM
  refine List.filter_eq_self.2 (fun x hx => ?_)
  unfold hasM at h
  have := List.find?_eq_none.1 h x hx
  simpa using this
theorem hasE_at {M : List EntM} (h : TabK (ents M)) {id : Int} {x : EntM} (hx : hasM M id = some x) : M[placeT (ents M) id]? = some x ∧ x.e.id = id := by
  obtain ⟨f1, f2⟩ := has_place h id rfl
  by_cases hy : ∃ y, M[placeT (ents M) id]? = some y ∧ y.e.id = id
  · obtain ⟨y, h1, h2⟩ := hy
    have e := f1 y h1 h2
    rw [hx] at e
    obtain rfl := Option.some.inj e
    exact ⟨h1, h2⟩
  · exfalso
    rw [f2 (fun y h1 h2 => hy ⟨y, h1, h2⟩)] at hx
    cases hx
/-- A table's list turns where it lies. -/
theorem PTab.turnX {u w4 : World} {p N' c' : Nat} {M M' : List EntM} {X : Foot} {v : Value} {a' : Option Addr} (h : PTab u p M X) (hv : ∀ k, v.ownBlock = some k → X k ∧ k ≠ p) (hg : u.grownBy w4 v.ownBlock) (hT : TabK (ents M')) (hN : M'.length = N')
    (hrow : w4.ownsRow 0 31 6 (.slice a' N' c') N' (M'.flatMap encE)) (hblk : ∀ k, (Value.slice a' N' c').ownBlock = some k → v.ownBlock = some k) (hsub : ∀ x ∈ M', x ∈ M) :
    PTab (w4.setCell ⟨p, 0, none⟩ (.slice a' N' c')) p M' X ∧ Chg u (w4.setCell ⟨p, 0, none⟩ (.slice a' N' c')) X := by
  subst hN
  have hp := h.lt p h.own
  have hpk : w4.heap[p]? = u.heap[p]? := hg.block p hp (fun e => (hv p e.symm).2 rfl)
  obtain ⟨a, c, h1, h2, h3⟩ := h.list
  have hchg : Chg u (w4.setCell ⟨p, 0, none⟩ (.slice a' M'.length c')) X := (Chg.of_grown hg (X := X) (fun k e => (hv k e).1)).trans (Chg.set w4 ⟨p, 0, none⟩ _ h.own) (fun _ _ x => x)
  refine ⟨⟨h.own, fun k hk => ?_, ⟨a', c', ?_, ?_, fun k e => hv k (hblk k e)⟩, ?_, fun x hx => ?_, fun x hx => h.far x (hsub x hx), hT⟩, hchg⟩
  · rw [World.size_setCell]
    exact Nat.lt_of_lt_of_le (h.lt k hk) hg.size
  · exact World.cell?_setCell_same _ _ _ ((cell_kept hpk 0).trans h1)
  · exact prow_kept hrow (fun k e => Below.heap_setCell _ _ _ k (fun e2 => (hv k (hblk k e)).2 e2))
  · rw [World.frozen?_setCell]
    exact (frozen_kept hpk 0).trans h.free
  · exact (h.wrs x (hsub x hx)).kept (fun hl b o e => hchg.block b ((h.wrs x (hsub x hx)).wr.blt hl e) (h.far x (hsub x hx) hl b o e))
theorem entW_zero (w : World) : EntW w zeroE := ⟨⟨.inl rfl, fun W hW => by simp [zeroE] at hW⟩, Nat.le_refl _, Nat.zero_le _, ⟨by simp [zeroE], by simp [zeroE], by simp [zeroE], by simp [zeroE], by simp [zeroE]⟩⟩
set_option maxHeartbeats 8000000 in
set_option maxRecDepth 8000 in
theorem pdrop_any (p : Nat) (M : List EntM) (X : Foot) (id : Int) (w : World) (h : PTab w p M X) :
    Calls Tryz.prog 100 #[.pointer (some ⟨p, 0, none⟩), .int .i64 id] w fun e w' => e = .returned (.tuple #[ev (orE (hasM M id)), .bool (hasM M id).isSome]) ∧ PTab w' p (dropM M id) X ∧ Did w w' X X ∧ EntW w' (orE (hasM M id)) := by
  obtain ⟨V0, hV0⟩ : ∃ V0, V0 = w.alloc (.cells (encE zeroE).toArray 31) := ⟨_, rfl⟩
  have HBW : Hid (Below w.heap.size w V0) := by rw [hV0]; exact (Below.refl _ _).alloc (Nat.le_refl _) _
  have HM0 : Hid (EntMine V0 w.heap.size zeroE) := by rw [hV0]; exact EntMine.made w 31 zeroE
  have hsz : V0.heap.size = w.heap.size + 1 := by rw [hV0]; simp
  have HV0 : Hid (w.alloc (.cells (encE zeroE).toArray 31) = V0) := hV0.symm
  rw [zeroE_cells] at HV0
  obtain ⟨a0, c0, hc1, hc2, hc3, hcell, hent, hblk⟩ := h.open
  obtain ⟨N0, hN0⟩ : ∃ N0, N0 = M.length := ⟨_, rfl⟩
  have hM : N0 ≤ 100 := by rw [hN0]; exact h.few
  have HT : Hid (PTab w p M X) := h
  have HCE : Hid (∀ v, Below w.heap.size w v → v.cell? ⟨p, 0, none⟩ = some (.slice a0 N0 c0)) := fun v hv => by rw [hN0]; exact (hcell v hv).1
  have HROW : Hid (∀ v, Below w.heap.size w v → v.ownsRow 0 31 6 (.slice a0 N0 c0) N0 (M.flatMap encE)) := fun v hv => by rw [hN0]; exact (hcell v hv).2
  have HBK : Hid (∀ k, (Value.slice a0 N0 c0).ownBlock = some k → X k ∧ k ≠ p) := by rw [hN0]; exact hblk
  have HN0 : Hid (M.length = N0) := hN0.symm
  obtain ⟨lo, hlo⟩ : ∃ k, k = placeT (ents M) id := ⟨_, rfl⟩
  obtain ⟨ok, hok⟩ : ∃ b, b = (hasM M id).isSome := ⟨_, rfl⟩
  have CF : Hid (∀ u, Below w.heap.size w u → Calls Tryz.prog 89 #[.pointer (some ⟨p, 0, none⟩), .int .i64 id] u fun e w' => e = .returned (.tuple #[.int .i64 (lo : Nat), .bool ok]) ∧ Below u.heap.size u w') := fun u hb => by rw [hlo, hok]; exact pfind_any p M X id u (h.past hb)
  cases hhas : hasM M id with
  | none =>
    rw [hhas] at hok
    have HDR : Hid (dropM M id = M) := drop_no hhas
    obtain rfl : ok = false := hok
    clear hV0 hcell hent hblk hN0 hhas hlo h
    go_enter Tryz.func100, Tryz.ntmps100
    go_wp2_with (first | (go_at_call 89; rw [HV0.out]; refine (CF.out _ HBW.out).mono ?_; rintro e w1 ⟨rfl, hb1⟩; have B1 : Hid (Below V0.heap.size V0 w1) := hb1; have HM1 : Hid (EntMine w1 w.heap.size zeroE) := HM0.out.past hb1; clear hb1 CF HM0) | (have hgo := HM1.out; clear hgo; refine wpList_store_pent (.tmp 4) (by rfl) _ (by rfl) w.heap.size zeroE zeroE (by rfl) (by rfl) HM1.out ?_; intro u2 hu; have HM2 : Hid (EntMine u2 w.heap.size zeroE) := hu ▸ HM1.out.store; have HB2 : Hid (Below w.heap.size w u2) := hu ▸ below_cells (Nat.le_refl _) (HBW.out.trans (B1.out.mono HBW.out.size)); clear hu HM1))
    refine bodyPost_ret (results_pent rfl _ _ w.heap.size zeroE rfl HM2.out.at_) rfl ?_
    exact ⟨rfl, by rw [HDR.out]; exact HT.out.past HB2.out, Did.stay HB2.out HT.out.lt, entW_zero _⟩
  | some x =>
    rw [hhas] at hok
    obtain rfl : ok = true := hok
    obtain ⟨hxl, hxid⟩ := hasE_at h.tab hhas
    rw [← hlo] at hxl
    have hlol : lo < N0 := by rw [hN0]; exact (List.getElem?_eq_some_iff.1 hxl).1
    obtain ⟨g, hag, HG⟩ := hent lo x hxl
    have HXM : Hid (x ∈ M) := List.mem_of_getElem? hxl
    have HDR : Hid (dropM M id = M.take lo ++ M.drop (lo + 1)) := by show _ = _; rw [← hxid]; exact dropM_at h.tab hxl
    have HKW : Hid (TabK (ents (M.take lo ++ M.drop (lo + 1)))) := by rw [← HDR.out, dropM_e]; exact h.tab.drop id
    have HLT : Hid (∀ k, X k → k < w.heap.size) := h.lt
    have HPW : Hid (p < w.heap.size) := h.lt p h.own
    have HPF : Hid (w.frozen? ⟨p, 0, none⟩ = false) := h.free
    have hcl : lo < c0 := by omega
    have hlo0 : (0 : Int) ≤ (lo : Int) := by omega
    have hloI : (lo : Int) < (N0 : Int) := by omega
    have HEND : Hid (∀ (W w6 : World), Below w.heap.size w W → DelP W w6 a0 N0 c0 (M.take lo ++ M.drop (lo + 1)) → (w6.cell? ⟨p, 0, none⟩ = some (.slice a0 N0 c0) ∧ w6.frozen? ⟨p, 0, none⟩ = false) ∧ Hid (PTab (w6.setCell ⟨p, 0, none⟩ (.slice a0 (N0 - 1) c0)) p (dropM M id) X ∧ Chg w (w6.setCell ⟨p, 0, none⟩ (.slice a0 (N0 - 1) c0)) X) ∧ Hid (∀ k, w.heap.size ≤ k → k < W.heap.size → (w6.setCell ⟨p, 0, none⟩ (.slice a0 (N0 - 1) c0)).heap[k]? = W.heap[k]?)) := fun W w6 hb hd => by
      have hp := HPW.out
      have hpk : w6.heap[p]? = W.heap[p]? := hd.grown.block p (Nat.lt_of_lt_of_le hp hb.size) (fun e => (HBK.out p e.symm).2 rfl)
      have ht := (HT.out.past hb).turnX (v := .slice a0 N0 c0) HBK.out hd.grown HKW.out (by simp only [List.length_append, List.length_take, List.length_drop, HN0.out]; omega) hd.row (fun k e => by rw [← e]; cases a0 <;> rfl) (fun y hy => by
        rcases List.mem_append.1 hy with e | e
        · exact List.mem_of_mem_take e
        · exact List.mem_of_mem_drop e)
      refine ⟨⟨(cell_kept hpk 0).trans (HCE.out W hb), (frozen_kept hpk 0).trans ((hb.frozen (p := ⟨p, 0, none⟩) hp).trans HPF.out)⟩, ⟨by rw [HDR.out]; exact ht.1, (Chg.of_below hb X).trans ht.2 (fun _ _ x => x)⟩, fun k hk1 hk2 => ?_⟩
      rw [Below.heap_setCell _ ⟨p, 0, none⟩ _ k (fun e => by have : k = p := e; omega)]
      exact hd.grown.block k hk2 (fun e => by have := HLT.out k (HBK.out k e.symm).1; omega)
    have HCD : Hid (∀ W, Below w.heap.size w W → Calls Tryz.prog 139 #[.slice a0 N0 c0, .int .i64 lo, .int .i64 ((lo : Int) + 1)] W fun e w' => e = .returned (.slice a0 (N0 - 1) c0) ∧ DelP W w' a0 N0 c0 (M.take lo ++ M.drop (lo + 1))) := fun W hb => pdel_any a0 c0 N0 lo M W HN0.out hlol (by omega) (HROW.out W hb)
    have HEX : Hid (EntW w x) := h.wrs x HXM.out
    have HFX : Hid (x.e.l ≠ [] → ∀ b o, x.a = some ⟨b, o, none⟩ → ¬ X b) := h.far x HXM.out
    rw [hag] at HCE HCD HEND
    clear hV0 hcell hent hblk hhas hlo h hxl hxid HROW HKW HN0 hN0 hag HBK
    go_enter Tryz.func100, Tryz.ntmps100
    go_wp2_with (first | (go_at_call 89; rw [HV0.out]; refine (CF.out _ HBW.out).mono ?_; rintro e w1 ⟨rfl, hb1⟩; have B1 : Hid (Below w.heap.size w w1) := HBW.out.trans (hb1.mono HBW.out.size); have HM1 : Hid (EntMine w1 w.heap.size zeroE) := HM0.out.past hb1; have q0 := HCE.out w1 B1.out; have E1 : Hid (EntAt w1 g (lo * 6) x) := HG.out w1 B1.out; have hmi := EntMine.made w1 31 zeroE; rw [zeroE_cells] at hmi; have HMI : Hid _ := hmi; clear hb1 CF HM0 hmi) | ((with_reducible show wpList _ _ _ (Oper.mk (some 24) _ _ _ _ _ :: _) _ _); refine wpList_load_pent 24 (by rfl) (by rfl) _ (by rfl) g (lo * 6) (by rfl) x E1.out ?_) | (have hgo := HMI.out; clear hgo; refine wpList_store_pent (.tmp 8) (by rfl) _ (by rfl) w1.heap.size zeroE x (by rfl) (by rfl) HMI.out ?_; intro u2 hu; have HX2 : Hid (EntMine u2 w1.heap.size x) := hu ▸ HMI.out.store; have HB2 : Hid (Below w1.heap.size w1 u2) := hu ▸ below_cells (Nat.le_refl _) ((Below.refl _ _).alloc (Nat.le_refl _) _); have HB3 : Hid (Below w.heap.size w u2) := B1.out.trans (HB2.out.mono B1.out.size); have HM2 : Hid (EntMine u2 w.heap.size zeroE) := HM1.out.past HB2.out; clear q0; have q0 := HCE.out u2 HB3.out; clear hu HMI E1 HM1) | (go_at_call 139; refine (HCD.out _ HB3.out).mono ?_; rintro e w6 ⟨rfl, hd6⟩; obtain ⟨⟨z1, z2⟩, HP6, HK6⟩ := HEND.out u2 w6 HB3.out hd6; have h8 : w.heap.size < u2.heap.size := cell_lt HM2.out.at_.cells.1; have h9 : w1.heap.size < u2.heap.size := cell_lt HX2.out.at_.cells.1; have h7 : w.heap.size ≤ w1.heap.size := B1.out.size; have HX6 : Hid (EntAt (w6.setCell ⟨p, 0, none⟩ (.slice (some ⟨g, 0, none⟩) (N0 - 1) c0)) w1.heap.size 0 x) := HX2.out.at_.kept (HK6.out _ h7 h9); have HM6 : Hid (EntMine (w6.setCell ⟨p, 0, none⟩ (.slice (some ⟨g, 0, none⟩) (N0 - 1) c0)) w.heap.size zeroE) := HM2.out.kept (HK6.out _ (Nat.le_refl _) h8); clear hd6 q0 h7 h8 h9) | ((with_reducible show wpList _ _ _ (Oper.mk (some 36) _ _ _ _ _ :: _) _ _); refine wpList_load_pent 36 (by rfl) (by rfl) _ (by rfl) w1.heap.size 0 (by rfl) x HX6.out ?_) | (have hgo := HM6.out; clear hgo; refine wpList_store_pent (.tmp 4) (by rfl) _ (by rfl) w.heap.size zeroE x (by rfl) (by rfl) HM6.out ?_; intro u9 hu; have HM9 : Hid (EntMine u9 w.heap.size x) := hu ▸ HM6.out.store; have HU9 : Hid (u9 = (w6.setCell ⟨p, 0, none⟩ (.slice (some ⟨g, 0, none⟩) (N0 - 1) c0)).setCells w.heap.size 0 (encE x)) := hu; clear hu HM6))
    refine bodyPost_ret (results_pent rfl _ _ w.heap.size x rfl HM9.out.at_) rfl ?_
    have hk9 : ∀ k, k ≠ w.heap.size → u9.heap[k]? = (w6.setCell ⟨p, 0, none⟩ (.slice (some ⟨g, 0, none⟩) (N0 - 1) c0)).heap[k]? := fun k hne => by rw [HU9.out]; exact cells_else (w := w) hne _ _ _
    have hs9 : u9.heap.size = (w6.setCell ⟨p, 0, none⟩ (.slice (some ⟨g, 0, none⟩) (N0 - 1) c0)).heap.size := by rw [HU9.out, size_cells]
    have hsz6 := HP6.out.2.size
    have hchg : Chg w u9 X := by
      refine HP6.out.2.trans (Y := fun k => k = w.heap.size) ⟨?_, ?_, ?_, by rw [hs9]; exact Nat.le_refl _, fun k hk hn => hk9 k hn⟩ (fun j hj e => by omega)
      · rw [HU9.out]; exact (below_cells (Nat.le_refl _) (Below.refl w.heap.size _)).os
      · rw [HU9.out]; exact (below_cells (Nat.le_refl _) (Below.refl w.heap.size _)).tape
      · rw [HU9.out]; exact (below_cells (Nat.le_refl _) (Below.refl w.heap.size _)).output
    refine ⟨rfl, HP6.out.1.kept (by rw [hs9]; exact Nat.le_refl _) (fun k hk => hk9 k (by have := HLT.out k hk; omega)) (fun y hy hl b o e => hk9 b (fun e2 => ?_)), Did.same hchg HLT.out, ?_⟩
    · have hyM : y ∈ M := (List.mem_filter.1 hy).1
      have := (HT.out.wrs y hyM).wr.blt hl e
      omega
    · exact HEX.out.kept (fun hl b o e => hchg.block b (HEX.out.wr.blt hl e) (HFX.out hl b o e))
end Go.Proofs.YtileidbdmpeciaaGreat

