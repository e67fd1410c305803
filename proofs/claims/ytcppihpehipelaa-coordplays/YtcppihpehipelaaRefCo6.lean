/-
  The document's own table of decisions: Begin (what a region makes in whatever order).
-/
import Derived.Test.YtcppihpehipelaaRefCo5
import Derived.Test.YtcppihpehipelaaAu57
import Derived.Test.YtcppihpehipelaaAu61
namespace Go.Proofs.Ytcppihpehipelaa
open Go.RowKit
set_option linter.unusedVariables false
set_option linter.unusedSimpArgs false

theorem RowO.past {u u' : World} {g : Nat} {M : List OneM} (h : RowO u g M) (hb : Below u.heap.size u u') : RowO u' g M := h.kept (hb.block g h.lt)
theorem bools_ints_ne {u : World} {g b : Nat} {bs : List Bool} {l : List Int} (h : BoolsO u g bs) (h2 : IntsO u b l) : g ≠ b := fun e => by
  subst e
  obtain ⟨c1, a1, _⟩ := h.row
  obtain ⟨c2, a2, _⟩ := h2.row
  rw [a1] at a2
  injection a2 with a2
  injection a2 with _ a2
  revert a2
  decide
theorem row_ints_ne {u : World} {g b : Nat} {M : List OneM} {l : List Int} (h : RowO u g M) (h2 : IntsO u b l) : g ≠ b := fun e => by
  subst e
  obtain ⟨c1, a1, _⟩ := h.row
  obtain ⟨c2, a2, _⟩ := h2.row
  rw [a1] at a2
  injection a2 with a2
  injection a2 with _ a2
  revert a2
  decide
theorem row_bools_ne {u : World} {g b : Nat} {M : List OneM} {l : List Bool} (h : RowO u g M) (h2 : BoolsO u b l) : g ≠ b := fun e => by
  subst e
  obtain ⟨c1, a1, _⟩ := h.row
  obtain ⟨c2, a2, _⟩ := h2.row
  rw [a1] at a2
  injection a2 with a2
  injection a2 with _ a2
  revert a2
  decide
theorem own_rawO (w : World) : OwnB 3 1 w (w.alloc (.cells #[] 3)) (.slice (some ⟨w.heap.size, 0, none⟩) 0 0) 0 [] :=
  ⟨World.ownsRow_made w #[] 0 (Nat.le_refl _) (by unfold maxLen; omega) (by simp), (Below.refl _ _).alloc (Nat.le_refl _) _⟩
section
variable {w : World} {ops : Array Oper} {o : Oper} {a : Act} {K : Act → World → Prop} {Q : Exit → Act → World → Prop} {E : Prop}
theorem step_nilI (hgd : o.guard = none) (ho : o.op = .buildSlice 35 0 #[])
    (h : ∀ (w' : World) (g : Nat), g = w.heap.size → Below w.heap.size w w' → OwnB 3 1 w w' (.slice (some ⟨g, 0, none⟩) 0 0) 0 [] → IntsO w' g [] → K (a.put o.dst (.slice (some ⟨g, 0, none⟩) 0 0)) w') : if Region.wanted o (yielded ops a.tmps) = true then Oper.wp Try.prog o a w K Q else E := by
  have hw : Region.wanted o (yielded ops a.tmps) = true := by simp [Region.wanted, hgd]
  rw [if_pos hw]
  have hrun : (Instr.buildSlice 35 0 #[]).run Try.prog w = .ok (.slice (some ⟨w.heap.size, 0, none⟩) 0 0) (w.alloc (.cells #[] 3)) := by
    simp [Instr.buildSlice, run_underlying Try.underlying35, newRow]
    try kernel_rfl
  unfold Oper.wp
  simp only [execOp, ho, List.map_toArray, List.map_nil, Sem.run_bind, hrun, Result.andThen]
  exact h _ _ rfl (alloc_belowC _ _) (own_rawO _) ⟨⟨#[], heap_alloc_new w _, Nat.le_refl _, fun i z hz => by simp at hz⟩⟩
theorem step_mkB (hgd : o.guard = none) (x y : Operand) (ho : o.op = .makeSlice 64 x y) {n : Nat} (hx : a.eval x = .int .i64 n) (hy : a.eval y = .int .i64 n) (hn : n ≤ 1000)
    (h : ∀ (w' : World) (g : Nat), g = w.heap.size → Below w.heap.size w w' → BoolsO w' g (List.replicate n false) → K (a.put o.dst (.slice (some ⟨g, 0, none⟩) n n)) w') : if Region.wanted o (yielded ops a.tmps) = true then Oper.wp Try.prog o a w K Q else E := by
  have hw : Region.wanted o (yielded ops a.tmps) = true := by simp [Region.wanted, hgd]
  rw [if_pos hw]
  have hrun := run_make_boolsC n (by omega) w
  unfold Oper.wp
  simp only [execOp, ho, hx, hy, Sem.run_bind, hrun, Result.andThen]
  exact h _ _ rfl (alloc_belowC _ _) (BoolsO.made w n)
theorem step_boxO (hgd : o.guard = none) (ho : o.op = .alloc 92)
    (h : ∀ (w' : World) (g : Nat), g = w.heap.size → Below w.heap.size w w' → RowO w' g [zeroO] → K (a.put o.dst (.pointer (some ⟨g, 0, none⟩))) w') : if Region.wanted o (yielded ops a.tmps) = true then Oper.wp Try.prog o a w K Q else E := by
  have hw : Region.wanted o (yielded ops a.tmps) = true := by simp [Region.wanted, hgd]
  rw [if_pos hw]
  have hrun : (Instr.alloc 92 true (.tuple #[])).run Try.prog w = .ok (.pointer (some ⟨w.heap.size, 0, none⟩)) (w.alloc (.cells (encO zeroO).toArray 92)) := by
    kernel_rfl
  unfold Oper.wp
  simp only [execOp, ho, Sem.run_bind, hrun, Result.andThen]
  refine h _ _ rfl (alloc_belowC _ _) ⟨⟨(encO zeroO).toArray, heap_alloc_new w _, fun i x j v hx hv => ?_⟩⟩
  have hi : i = 0 := by have := (List.getElem?_eq_some_iff.1 hx).1; simp at this; omega
  subst hi
  simp at hx
  subst hx
  rw [Nat.zero_mul, Nat.zero_add, List.getElem?_toArray]
  exact hv
theorem step_appI {vb : World} (hgd : o.guard = none) (s x : Operand) (ho : o.op = .call { callee := .builtin .append, args := #[s, x], argTypes := #[35, 35] }) (b0 : Nat) (hs : a.eval s = .slice (some ⟨b0, 0, none⟩) 0 0) (hown : OwnB 3 1 vb w (.slice (some ⟨b0, 0, none⟩) 0 0) 0 [])
    (ao : Option Addr) (N c : Nat) (l : List Int) (hx : a.eval x = .slice ao N c) (hl : l.length = N) (hN : N ≤ 1000) (h0 : 0 < N) (hsrc : Lies w ao (l.map (Value.int .i64))) (hao : ao ≠ none)
    (h : ∀ (gp cp : Nat) (w' : World), N ≤ cp → vb.heap.size ≤ gp → IntsO w' gp l → Chg w w' (fun k => k = b0) → K (a.put o.dst (.slice (some ⟨gp, 0, none⟩) N cp)) w') : if Region.wanted o (yielded ops a.tmps) = true then Oper.wp Try.prog o a w K Q else E := by
  refine step_own nums_elC (w0 := vb) hgd s x ho _ 0 [] (l.map (Value.int .i64)) hs hown ao N c hx (by rw [List.length_map, hl, Nat.mul_one]) hsrc (fun u hu => by simp at hu; obtain ⟨z, _, rfl⟩ := hu; rfl) (fun e => absurd e hao) N (Nat.zero_add _) (by omega) _ (List.nil_append _) ?_
  intro a' cap' w' h1 h2
  obtain ⟨g, cap, e1, e2, e3, e4⟩ := IntsO.of_own h1.own hl h0
  injection e1 with e1 _ e1'
  subst e1
  subst e1'
  exact h g cap' w' e2 e3 e4 (Chg.of_grown h2 (fun k e => by injection e with e; exact e.symm))
end
theorem gen_up {P : Program} {md : Region.Mode} {ops : Array Oper} {Q : Exit → Act → World → Prop} {S : World → Prop} {z n : Nat} {l : Array Bool} {a : Act} {w : World} (h : ∀ Z, Z = wpUp P md ops Q S z → ∀ A, A = a → Z n l A w) : wpUp P md ops Q S z n l a w := h _ rfl _ rfl
theorem memo_use {P : Program} {md : Region.Mode} {ops : Array Oper} {Q : Exit → Act → World → Prop} {S : World → Prop} {z n : Nat} {l : Array Bool} {a : Act} {w : World} {Z : Nat → Array Bool → Act → World → Prop} (hZ : Z = wpUp P md ops Q S z) (h : Z n l a w) : wpUp P md ops Q S z n l a w := hZ ▸ h
/-- What a region has made so far: an empty list, a list, truths, one in a box. -/
structure MkN (U vb u : World) (b : Nat) : Prop where
  own : OwnB 3 1 vb u (.slice (some ⟨b, 0, none⟩) 0 0) 0 []
  ints : IntsO u b []
  lo : U.heap.size ≤ vb.heap.size
  lo2 : U.heap.size ≤ b
structure MkI (U u : World) (l : List Int) (N g c : Nat) : Prop where
  ints : IntsO u g l
  lo : U.heap.size ≤ g
  room : N ≤ c
structure MkB (U u : World) (N g : Nat) : Prop where
  bools : BoolsO u g (List.replicate N false)
  lo : U.heap.size ≤ g
structure MkO (U u : World) (p : Nat) : Prop where
  row : RowO u p [zeroO]
  lo : U.heap.size ≤ p
theorem MkN.past {U vb u u' : World} {b : Nat} (h : MkN U vb u b) (hn : Below u.heap.size u u') : MkN U vb u' b := ⟨h.own.past hn, h.ints.past hn, h.lo, h.lo2⟩
theorem MkI.past {U u u' : World} {l : List Int} {N g c : Nat} (h : MkI U u l N g c) (hn : Below u.heap.size u u') : MkI U u' l N g c := ⟨h.ints.past hn, h.lo, h.room⟩
theorem MkB.past {U u u' : World} {N g : Nat} (h : MkB U u N g) (hn : Below u.heap.size u u') : MkB U u' N g := ⟨h.bools.past hn, h.lo⟩
theorem MkO.past {U u u' : World} {p : Nat} (h : MkO U u p) (hn : Below u.heap.size u u') : MkO U u' p := ⟨h.row.past hn, h.lo⟩
theorem MkB.app {U vb u u' : World} {N g b : Nat} (h : MkB U u N g) (hb : MkN U vb u b) (hc : Chg u u' (fun k => k = b)) : MkB U u' N g := ⟨h.bools.kept (hc.block g h.bools.lt (bools_ints_ne h.bools hb.ints)), h.lo⟩
theorem MkO.app {U vb u u' : World} {p b : Nat} (h : MkO U u p) (hb : MkN U vb u b) (hc : Chg u u' (fun k => k = b)) : MkO U u' p := ⟨h.row.kept (hc.block p h.row.lt (row_ints_ne h.row hb.ints)), h.lo⟩
theorem MkB.ne {U u u' : World} {N g g' : Nat} (h : MkB U u' N g) (h' : MkB U u N g') (hg : u.heap.size ≤ g) : g' ≠ g := by have := h'.bools.lt; omega
section
variable {U w : World} {ops : Array Oper} {o : Oper} {a : Act} {K Z : Act → World → Prop} {Q : Exit → Act → World → Prop} {E : Prop}
theorem tr_nil (hU : Below U.heap.size U w) (hgd : o.guard = none) (ho : o.op = .buildSlice 35 0 #[]) (hK : Hid (∀ a w, Below U.heap.size U w → (Below U.heap.size U w → Z a w) → K a w))
    (h : ∀ (w' : World) (g : Nat), Below w.heap.size w w' ∧ w.heap.size ≤ g → Below U.heap.size U w' → MkN U w w' g → Z (a.put o.dst (.slice (some ⟨g, 0, none⟩) 0 0)) w') : if Region.wanted o (yielded ops a.tmps) = true then Oper.wp Try.prog o a w K Q else E :=
  step_nilI hgd ho fun w' g hg hn h1 h2 => hK.out _ _ (hU.trans (hn.mono hU.size)) fun hB => h w' g ⟨hn, by omega⟩ hB ⟨h1, h2, hU.size, by rw [hg]; exact hU.size⟩
theorem tr_mk (hU : Below U.heap.size U w) (hgd : o.guard = none) (x y : Operand) (ho : o.op = .makeSlice 64 x y) {n : Nat} (hx : a.eval x = .int .i64 n) (hy : a.eval y = .int .i64 n) (hn : n ≤ 1000) (hK : Hid (∀ a w, Below U.heap.size U w → (Below U.heap.size U w → Z a w) → K a w))
    (h : ∀ (w' : World) (g : Nat), Below w.heap.size w w' ∧ w.heap.size ≤ g → Below U.heap.size U w' → MkB U w' n g → Z (a.put o.dst (.slice (some ⟨g, 0, none⟩) n n)) w') : if Region.wanted o (yielded ops a.tmps) = true then Oper.wp Try.prog o a w K Q else E :=
  step_mkB hgd x y ho hx hy hn fun w' g hg hn h1 => hK.out _ _ (hU.trans (hn.mono hU.size)) fun hB => h w' g ⟨hn, by omega⟩ hB ⟨h1, by rw [hg]; exact hU.size⟩
theorem tr_box (hU : Below U.heap.size U w) (hgd : o.guard = none) (ho : o.op = .alloc 92) (hK : Hid (∀ a w, Below U.heap.size U w → (Below U.heap.size U w → Z a w) → K a w))
    (h : ∀ (w' : World) (g : Nat), Below w.heap.size w w' ∧ w.heap.size ≤ g → Below U.heap.size U w' → MkO U w' g → Z (a.put o.dst (.pointer (some ⟨g, 0, none⟩))) w') : if Region.wanted o (yielded ops a.tmps) = true then Oper.wp Try.prog o a w K Q else E :=
  step_boxO hgd ho fun w' g hg hn h1 => hK.out _ _ (hU.trans (hn.mono hU.size)) fun hB => h w' g ⟨hn, by omega⟩ hB ⟨h1, by rw [hg]; exact hU.size⟩
theorem tr_app {vb : World} {b0 : Nat} (hU : Below U.heap.size U w) (hgd : o.guard = none) (s x : Operand) (ho : o.op = .call { callee := .builtin .append, args := #[s, x], argTypes := #[35, 35] }) (hs : a.eval s = .slice (some ⟨b0, 0, none⟩) 0 0) (hb : MkN U vb w b0)
    {pb po N c : Nat} {l : List Int} (hl : l.length = N) (hN : N ≤ 1000) (h0 : 0 < N) (hsrc : Lies w (some ⟨pb, po, none⟩) (l.map (Value.int .i64))) (hx : a.eval x = .slice (some ⟨pb, po, none⟩) N c) (hK : Hid (∀ a w, Below U.heap.size U w → (Below U.heap.size U w → Z a w) → K a w))
    (h : ∀ (w' : World) (gp cp : Nat), Chg w w' (fun k => k = b0) → Below U.heap.size U w' → MkI U w' l N gp cp → Z (a.put o.dst (.slice (some ⟨gp, 0, none⟩) N cp)) w') : if Region.wanted o (yielded ops a.tmps) = true then Oper.wp Try.prog o a w K Q else E :=
  step_appI hgd s x ho b0 hs hb.own _ N c l hx hl hN h0 hsrc (by intro e; cases e) fun gp cp w' h1 h2 h3 h4 => hK.out _ _ (hU.trans (h4.below hU.size (fun k e => by rw [e]; exact hb.lo2))) fun hB => h w' gp cp h4 hB ⟨h3, Nat.le_trans hb.lo h2, h1⟩
end
/-- One that is begun, its lists made. -/
def bgM (id st sn : Int) (l : List Int) (gp cp gv ga N : Nat) : OneM := ⟨newC id st sn l, some ⟨gp, 0, none⟩, cp, some ⟨gv, 0, none⟩, N, some ⟨ga, 0, none⟩, N⟩
set_option maxHeartbeats 16000000 in
set_option maxRecDepth 8000 in
theorem rcbegin_any {q : Nat} {M : List OneM} {F : Foot} (id st sn : Int) (a : Option Addr) (N c : Nat) (l : List Int) (w : World) (h : CrdO w q M F) (hf : M.length ≤ 100000) (hl : l.length = N) (hN : N ≤ 1000) (hc : N ≤ c) (hat : IntsAt w a l) :
    Calls Try.prog 20 #[.pointer (some ⟨q, 0, none⟩), .int .i64 id, .agg #[.int .i64 st, .int .u8 sn], .slice a N c] w fun e w' => e = .returned (.int .i64 (beginC (decs M) id st sn l).1) ∧ DidO w w' q (beginC (decs M) id st sn l).2 F := by
  obtain ⟨W, hW⟩ : ∃ u, u = w.alloc (.cells #[.int .i64 st, .int .u8 sn] 28) := ⟨_, rfl⟩
  have HW : Hid (w.alloc (.cells #[.int .i64 st, .int .u8 sn] 28) = W) := hW.symm
  have HBW : Hid (Below w.heap.size w W) := by rw [hW]; exact (Below.refl _ _).alloc (Nat.le_refl _) _
  have FST : Hid (∀ u, Below W.heap.size W u → u.cell? ⟨w.heap.size, 0, none⟩ = some (.int .i64 st) ∧ u.cell? ⟨w.heap.size, 1, none⟩ = some (.int .u8 sn)) := fun u hu => by
    have e0 : W.cell? ⟨w.heap.size, 0, none⟩ = some (.int .i64 st) := by rw [hW, World.cell?_alloc_new]; rfl
    have e1 : W.cell? ⟨w.heap.size, 1, none⟩ = some (.int .u8 sn) := by rw [hW, World.cell?_alloc_new]; rfl
    exact ⟨(hu.cell (p := ⟨w.heap.size, 0, none⟩) (cell_lt e0)).trans e0, (hu.cell (p := ⟨w.heap.size, 1, none⟩) (cell_lt e1)).trans e1⟩
  have HS : Hid (∀ u, Below W.heap.size W u → DidO w u q (decs M) F) := fun u hu => DidO.stay h (HBW.out.trans (hu.mono HBW.out.size))
  have CG : Hid (∀ u, Calls Try.prog 49 #[.agg #[.int .i64 st, .int .u8 sn]] u fun e w' => e = .returned (.bool (decide (okS st))) ∧ Below u.heap.size u w') := fun u => rgood6_any st sn u
  have CR : Hid (∀ u, Below W.heap.size W u → Calls Try.prog 50 #[.slice a N c] u fun e w' => e = .returned (.bool (partsB l)) ∧ Below u.heap.size u w') := fun u hu => (rparts14_any a N c l u hl (by omega) (hat.past (HBW.out.trans (hu.mono HBW.out.size)))).mono fun e w' ⟨e1, k, e2⟩ => ⟨e1, by rw [e2]; exact below_drewN (Below.refl _ _) k⟩
  have CA : Hid (∀ u, Below W.heap.size W u → Calls Try.prog 51 #[.pointer (some ⟨q, 0, none⟩), .int .i64 id] u fun e w' => e = .returned (.int .i64 (atC (decs M) id)) ∧ w' = u) := fun u hu => rcat_any id u (h.view.past (HBW.out.trans (hu.mono HBW.out.size))) (by omega)
  have HRB : beginC (decs M) id st sn l = if id < 1 ∨ ¬ okS st ∨ partsB l = false then ((1 : Int), decs M) else match getC (decs M) id with | some _ => (5, decs M) | none => (0, layC (decs M) (newC id st sn l)) := rfl
  obtain ⟨s0, s1⟩ := FST.out W (Below.refl _ _)
  by_cases hid : id < 1
  · have HR : Hid (beginC (decs M) id st sn l = (1, decs M)) := by show _ = _; rw [HRB, if_pos (.inl hid)]
    have d1 : decide (id < 1) = true := decide_eq_true hid
    clear h hl hN hc hat hW HRB CG CR CA hid
    go_enter Try.func20, Try.ntmps20
    go_wp2
    go_ret
    rw [HR.out, HW.out]
    exact ⟨rfl, HS.out _ (Below.refl _ _)⟩
  have d1 : decide (id < 1) = false := decide_eq_false hid
  by_cases hok : okS st
  · have CG : Hid (∀ u, Calls Try.prog 49 #[.agg #[.int .i64 st, .int .u8 sn]] u fun e w' => e = .returned (.bool true) ∧ Below u.heap.size u w') := fun u => by have := CG.out u; rwa [decide_eq_true hok] at this
    cases hpb : partsB l with
    | false =>
      have HR : Hid (beginC (decs M) id st sn l = (1, decs M)) := by show _ = _; rw [HRB, if_pos (.inr (.inr hpb))]
      rw [hpb] at CR
      clear h hl hN hc hat hW HRB CA hid hok hpb
      go_enter Try.func20, Try.ntmps20
      go_wp2_with (first
        | (go_at_call 49; rw [HW.out]; refine (CG.out _).mono ?_; rintro e u1 ⟨rfl, hb1⟩; have B1 : Hid (Below W.heap.size W u1) := hb1; clear hb1)
        | (go_at_call 50; refine (CR.out _ B1.out).mono ?_; rintro e u2 ⟨rfl, hb2⟩; have B2 : Hid (Below W.heap.size W u2) := B1.out.trans (hb2.mono B1.out.size); clear hb2))
      go_ret
      rw [HR.out]
      exact ⟨rfl, HS.out _ B2.out⟩
    | true =>
      have hnb : ¬ (id < 1 ∨ ¬ okS st ∨ partsB l = false) := by
        rintro (e | e | e)
        · exact hid e
        · exact e hok
        · rw [hpb] at e; cases e
      rw [if_neg hnb] at HRB
      rw [hpb] at CR
      have hlp := (parts_nodup hpb).2
      obtain ⟨pb, po, rfl, -⟩ : ∃ pb po, a = some ⟨pb, po, none⟩ ∧ True := by
        rcases hat.cells with e | ⟨pb, po, e, _⟩
        · rw [e] at hlp; simp at hlp
        · exact ⟨pb, po, e, trivial⟩
      have HSRC0 : Hid (∀ u, Below W.heap.size W u → Lies u (some ⟨pb, po, none⟩) (l.map (Value.int .i64))) := fun u hu => (hat.past (HBW.out.trans (hu.mono HBW.out.size))).liesC
      rcases atC_ways M id with ⟨h1, h2⟩ | ⟨i, x, h1, h2, h3, h4⟩
      · rw [h2] at HRB
        rw [h1] at CA
        have HR : Hid (beginC (decs M) id st sn l = (0, layC (decs M) (newC id st sn l))) := HRB
        have HL : Hid (l.length = N) := hl
        have HN3 : Hid (N ≤ 1000) := hN
        have HPOS : Hid (0 < N) := by show 0 < N; omega
        have HLAY : Hid (∀ (v : World) (gp cp gv ga : Nat), Below W.heap.size W v → IntsO v gp l → W.heap.size ≤ gp → N ≤ cp → BoolsO v gv (List.replicate N false) → W.heap.size ≤ gv → BoolsO v ga (List.replicate N false) → W.heap.size ≤ ga → gv ≠ ga → Calls Try.prog 52 #[.pointer (some ⟨q, 0, none⟩), .agg #[.int .i64 id, .int .i64 st, .int .u8 sn, .slice (some ⟨gp, 0, none⟩) N cp, .slice (some ⟨gv, 0, none⟩) N N, .int .i64 0, .int .i64 0, .int .u8 0, .slice (some ⟨ga, 0, none⟩) N N]] v fun e w' => e = .returned (.tuple #[]) ∧ DidO w w' q (layC (decs M) (newC id st sn l)) F) := fun v gp cp gv ga hv i1 l1 r1 i2 l2 i3 l3 hne => by
          have hbv := HBW.out.trans (hv.mono HBW.out.size)
          have hsz := HBW.out.size
          obtain ⟨O, a1, c1, hI⟩ := h.out
          have e : ov (bgM id st sn l gp cp gv ga N) = .agg #[.int .i64 id, .int .i64 st, .int .u8 sn, .slice (some ⟨gp, 0, none⟩) N cp, .slice (some ⟨gv, 0, none⟩) N N, .int .i64 0, .int .i64 0, .int .u8 0, .slice (some ⟨ga, 0, none⟩) N N] := by
            simp [ov, encO, bgM, newC, hl]
          rw [← e]
          have e2 : List.replicate l.length false = List.replicate N false := by rw [hl]
          refine (rclay_any (B := w.heap.size) (bgM id st sn l gp cp gv ga N) v (h.past hbv) hf ⟨⟨gp, gv, ga, rfl, rfl, rfl, ⟨by omega, by omega, by omega⟩, ⟨(bools_ints_ne i2 i1).symm, (bools_ints_ne i3 i1).symm, hne⟩, i1, by show BoolsO v gv (List.replicate l.length false); rw [e2]; exact i2, by show BoolsO v ga (List.replicate l.length false); rw [e2]; exact i3⟩, by show l.length ≤ cp; omega, by show (List.replicate l.length false).length ≤ N; simp [hl], by show (List.replicate l.length false).length ≤ N; simp [hl]⟩ (fun k hk => hI.lt k hk) h2).mono fun e w' ⟨e1, e3⟩ => ⟨e1, e3.did hbv hI.fq⟩
        generalize layC (decs M) (newC id st sn l) = C2 at *
        clear h hl hN hc hat hW HRB hid hok hpb hnb hlp h1 h2
        go_enter Try.func20, Try.ntmps20
        go_wp2_with (first
          | (go_at_call 49; rw [HW.out]; refine (CG.out _).mono ?_; rintro e u1 ⟨rfl, hb1⟩; have B1 : Hid (Below W.heap.size W u1) := hb1; clear hb1)
          | (go_at_call 50; refine (CR.out _ B1.out).mono ?_; rintro e U ⟨rfl, hb2⟩; have B2 : Hid (Below W.heap.size W U) := B1.out.trans (hb2.mono B1.out.size); clear hb2)
          | (go_at_call 51; refine (CA.out _ B2.out).mono ?_; rintro e w1 ⟨rfl, hw⟩; obtain rfl := hw.symm; clear hw))
        clear s0 s1
        have HUW : Hid (W.heap.size ≤ U.heap.size) := B2.out.size
        have HSRC : Hid (∀ u, Below U.heap.size U u → Lies u (some ⟨pb, po, none⟩) (l.map (Value.int .i64))) := fun u hu => HSRC0.out u (B2.out.trans (hu.mono B2.out.size))
        refine wp_region_noPanic ?_
        refine region_up 13 (fun u => Below U.heap.size U u) (by kernel_rfl) ?_ (fun hH0 => ?_)
        · exact (Below.refl _ _).drew
        refine up_take (i := 0) (v := ?_) (by kernel_rfl) (by kernel_rfl) (by kernel_rfl) rfl (by kernel_rfl) (by kernel_rfl) (by kernel_rfl) (fun _ _ _ h => h) (Or.inl ⟨by rfl, ?_⟩) hH0 ?_
        rotate_left
        · intro u hSu
          (go_simp) <;> (with_reducible rfl)
        change wpUp _ _ _ _ _ _ _ _ (Act.put _ (some 25) _) _
        simp only [Act.put, List.setIfInBounds_toArray, List.set_cons_zero, List.set_cons_succ]
        refine up_take (i := 1) (v := ?_) (by kernel_rfl) (by kernel_rfl) (by kernel_rfl) rfl (by kernel_rfl) (by kernel_rfl) (by kernel_rfl) (fun _ _ _ h => h) (Or.inl ⟨by rfl, ?_⟩) hH0 ?_
        rotate_left
        · intro u hSu
          (go_simp) <;> (with_reducible rfl)
        change wpUp _ _ _ _ _ _ _ _ (Act.put _ (some 26) _) _
        simp only [Act.put, List.setIfInBounds_toArray, List.set_cons_zero, List.set_cons_succ]
        refine up_take (i := 2) (v := ?_) (by kernel_rfl) (by kernel_rfl) (by kernel_rfl) rfl (by kernel_rfl) (by kernel_rfl) (by kernel_rfl) (fun _ _ _ h => h) (Or.inl ⟨by rfl, ?_⟩) hH0 ?_
        rotate_left
        · intro u hSu
          obtain ⟨s0, s1⟩ := FST.out u (B2.out.trans (hSu.mono B2.out.size))
          (go_simp) <;> (with_reducible rfl)
        change wpUp _ _ _ _ _ _ _ _ (Act.put _ (some 27) _) _
        simp only [Act.put, List.setIfInBounds_toArray, List.set_cons_zero, List.set_cons_succ]
        refine up_take (i := 4) (v := ?_) (by kernel_rfl) (by kernel_rfl) (by kernel_rfl) rfl (by kernel_rfl) (by kernel_rfl) (by kernel_rfl) (fun _ _ _ h => h) (Or.inl ⟨by rfl, ?_⟩) hH0 ?_
        rotate_left
        · intro u hSu
          (go_simp) <;> (with_reducible rfl)
        change wpUp _ _ _ _ _ _ _ _ (Act.put _ (some 29) _) _
        simp only [Act.put, List.setIfInBounds_toArray, List.set_cons_zero, List.set_cons_succ]
        refine up_take (i := 6) (v := ?_) (by kernel_rfl) (by kernel_rfl) (by kernel_rfl) rfl (by kernel_rfl) (by kernel_rfl) (by kernel_rfl) (fun _ _ _ h => h) (Or.inl ⟨by rfl, ?_⟩) hH0 ?_
        rotate_left
        · intro u hSu
          (go_simp) <;> (with_reducible rfl)
        change wpUp _ _ _ _ _ _ _ _ (Act.put _ (some 31) _) _
        simp only [Act.put, List.setIfInBounds_toArray, List.set_cons_zero, List.set_cons_succ]
        refine up_take (i := 7) (v := ?_) (by kernel_rfl) (by kernel_rfl) (by kernel_rfl) rfl (by kernel_rfl) (by kernel_rfl) (by kernel_rfl) (fun _ _ _ h => h) (Or.inl ⟨by rfl, ?_⟩) hH0 ?_
        rotate_left
        · intro u hSu
          (go_simp) <;> (with_reducible rfl)
        change wpUp _ _ _ _ _ _ _ _ (Act.put _ (some 32) _) _
        simp only [Act.put, List.setIfInBounds_toArray, List.set_cons_zero, List.set_cons_succ]
        refine up_take (i := 9) (v := ?_) (by kernel_rfl) (by kernel_rfl) (by kernel_rfl) rfl (by kernel_rfl) (by kernel_rfl) (by kernel_rfl) (fun _ _ _ h => h) (Or.inl ⟨by rfl, ?_⟩) hH0 ?_
        rotate_left
        · intro u hSu
          (go_simp) <;> (with_reducible rfl)
        change wpUp _ _ _ _ _ _ _ _ (Act.put _ (some 34) _) _
        simp only [Act.put, List.setIfInBounds_toArray, List.set_cons_zero, List.set_cons_succ]
        refine up_take (i := 10) (v := ?_) (by kernel_rfl) (by kernel_rfl) (by kernel_rfl) rfl (by kernel_rfl) (by kernel_rfl) (by kernel_rfl) (fun _ _ _ h => h) (Or.inl ⟨by rfl, ?_⟩) hH0 ?_
        rotate_left
        · intro u hSu
          (go_simp) <;> (with_reducible rfl)
        change wpUp _ _ _ _ _ _ _ _ (Act.put _ (some 35) _) _
        simp only [Act.put, List.setIfInBounds_toArray, List.set_cons_zero, List.set_cons_succ]
        refine gen_up (fun Z0 hZ0 A0 hA0 => ?_)
        have MNIVAz : Hid (∀ (L : Array Bool), L = #[true, true, true, true, true, true, true, true, true, true, true, true, false, false] → ∀ (b0 : Nat) (gp : Nat) (cp : Nat) (gv : Nat) (ga : Nat), ∀ a, a = ((((A0.put (some 28) (.slice (some ⟨b0, 0, none⟩) 0 0)).put (some 30) (.slice (some ⟨gp, 0, none⟩) N cp)).put (some 33) (.slice (some ⟨gv, 0, none⟩) N N)).put (some 36) (.slice (some ⟨ga, 0, none⟩) N N)) → ∀ v, Below U.heap.size U v → MkI U v l N gp cp → MkB U v N gv → MkB U v N ga → gv ≠ ga → Z0 2 L a v) := by
          intro L hL b0 gp cp gv ga a ha v hH hI hV hA NE
          subst hL ha hA0
          rw [hZ0]
          simp only [Act.put, List.setIfInBounds_toArray, List.set_cons_zero, List.set_cons_succ]
          refine up_take (i := 12) (v := ?_) (by kernel_rfl) (by kernel_rfl) (by kernel_rfl) rfl (by kernel_rfl) (by kernel_rfl) (by kernel_rfl) (fun _ _ _ h => h) (Or.inl ⟨by rfl, ?_⟩) hH ?_
          rotate_left
          · intro u hSu
            (go_simp) <;> (with_reducible rfl)
          change wpUp _ _ _ _ _ _ _ _ (Act.put _ (some 37) _) _
          simp only [Act.put, List.setIfInBounds_toArray, List.set_cons_zero, List.set_cons_succ]
          refine up_ready (rs := [13]) (by kernel_rfl) (by simp) ?_
          refine AllUp.that rfl (fun K hK => ?_) AllUp.nil
          go_simp
          go_at_call 52
          refine (HLAY.out v gp cp gv ga (B2.out.trans (hH.mono B2.out.size)) hI.ints (Nat.le_trans HUW.out hI.lo) hI.room hV.bools (Nat.le_trans HUW.out hV.lo) hA.bools (Nat.le_trans HUW.out hA.lo) NE).mono ?_
          rintro e w9 ⟨rfl, h9⟩
          have H9 : Hid (DidO w w9 q C2 F) := h9
          clear h9
          refine hK.out _ _ ?_
          clear hK K
          refine up_done (by kernel_rfl) ?_
          refine NoPanic.normal ?_
          go_wp2
          go_ret
          rw [HR.out]
          exact ⟨rfl, H9.out⟩
        have MNIVz : Hid (∀ (L : Array Bool), L = #[true, true, true, true, true, true, true, true, true, true, true, false, false, false] → ∀ (b0 : Nat) (gp : Nat) (cp : Nat) (gv : Nat), ∀ a, a = (((A0.put (some 28) (.slice (some ⟨b0, 0, none⟩) 0 0)).put (some 30) (.slice (some ⟨gp, 0, none⟩) N cp)).put (some 33) (.slice (some ⟨gv, 0, none⟩) N N)) → ∀ v, Below U.heap.size U v → MkI U v l N gp cp → MkB U v N gv → Z0 3 L a v) := by
          intro L hL b0 gp cp gv a ha v hH hI hV
          subst hL ha hA0
          rw [hZ0]
          refine up_ready (rs := [11]) (by kernel_rfl) (by simp) ?_
          refine AllUp.cons rfl (fun K hK => ?_) AllUp.nil
          refine tr_mk hH rfl (.tmp 35) (.tmp 35) rfl rfl rfl HN3.out hK ?_
          intro v1 ga hn hB A1
          exact memo_use hZ0 (MNIVAz.out _ (by kernel_rfl) b0 gp cp gv ga _ (by kernel_rfl) v1 hB (hI.past hn.1) (hV.past hn.1) A1 (A1.ne hV hn.2))
        have MNIAz : Hid (∀ (L : Array Bool), L = #[true, true, true, true, true, true, true, true, false, true, true, true, false, false] → ∀ (b0 : Nat) (gp : Nat) (cp : Nat) (ga : Nat), ∀ a, a = (((A0.put (some 28) (.slice (some ⟨b0, 0, none⟩) 0 0)).put (some 30) (.slice (some ⟨gp, 0, none⟩) N cp)).put (some 36) (.slice (some ⟨ga, 0, none⟩) N N)) → ∀ v, Below U.heap.size U v → MkI U v l N gp cp → MkB U v N ga → Z0 3 L a v) := by
          intro L hL b0 gp cp ga a ha v hH hI hA
          subst hL ha hA0
          rw [hZ0]
          refine up_ready (rs := [8]) (by kernel_rfl) (by simp) ?_
          refine AllUp.cons rfl (fun K hK => ?_) AllUp.nil
          refine tr_mk hH rfl (.tmp 32) (.tmp 32) rfl rfl rfl HN3.out hK ?_
          intro v1 gv hn hB V1
          exact memo_use hZ0 (MNIVAz.out _ (by kernel_rfl) b0 gp cp gv ga _ (by kernel_rfl) v1 hB (hI.past hn.1) V1 (hA.past hn.1) (V1.ne hA hn.2).symm)
        have MNVAz : Hid (∀ (L : Array Bool), L = #[true, true, true, true, true, false, true, true, true, true, true, true, false, false] → ∀ (vb : World) (b0 : Nat) (gv : Nat) (ga : Nat), ∀ a, a = (((A0.put (some 28) (.slice (some ⟨b0, 0, none⟩) 0 0)).put (some 33) (.slice (some ⟨gv, 0, none⟩) N N)).put (some 36) (.slice (some ⟨ga, 0, none⟩) N N)) → ∀ v, Below U.heap.size U v → MkN U vb v b0 → MkB U v N gv → MkB U v N ga → gv ≠ ga → Z0 3 L a v) := by
          intro L hL vb b0 gv ga a ha v hH hN hV hA NE
          subst hL ha hA0
          rw [hZ0]
          refine up_ready (rs := [5]) (by kernel_rfl) (by simp) ?_
          refine AllUp.cons rfl (fun K hK => ?_) AllUp.nil
          refine tr_app hH rfl (.tmp 28) (.tmp 29) rfl rfl hN HL.out HN3.out HPOS.out (HSRC.out _ hH) rfl hK ?_
          intro v1 gp cp hn hB I1
          exact memo_use hZ0 (MNIVAz.out _ (by kernel_rfl) b0 gp cp gv ga _ (by kernel_rfl) v1 hB I1 (hV.app hN hn) (hA.app hN hn) NE)
        have MNIz : Hid (∀ (L : Array Bool), L = #[true, true, true, true, true, true, true, true, false, true, true, false, false, false] → ∀ (b0 : Nat) (gp : Nat) (cp : Nat), ∀ a, a = ((A0.put (some 28) (.slice (some ⟨b0, 0, none⟩) 0 0)).put (some 30) (.slice (some ⟨gp, 0, none⟩) N cp)) → ∀ v, Below U.heap.size U v → MkI U v l N gp cp → Z0 4 L a v) := by
          intro L hL b0 gp cp a ha v hH hI
          subst hL ha hA0
          rw [hZ0]
          refine up_ready (rs := [8, 11]) (by kernel_rfl) (by simp) ?_
          refine AllUp.cons rfl (fun K hK => ?_) ?_
          · refine tr_mk hH rfl (.tmp 32) (.tmp 32) rfl rfl rfl HN3.out hK ?_
            intro v1 gv hn hB V1
            exact memo_use hZ0 (MNIVz.out _ (by kernel_rfl) b0 gp cp gv _ (by kernel_rfl) v1 hB (hI.past hn.1) V1)
          refine AllUp.cons rfl (fun K hK => ?_) AllUp.nil
          refine tr_mk hH rfl (.tmp 35) (.tmp 35) rfl rfl rfl HN3.out hK ?_
          intro v1 ga hn hB A1
          exact memo_use hZ0 (MNIAz.out _ (by kernel_rfl) b0 gp cp ga _ (by kernel_rfl) v1 hB (hI.past hn.1) A1)
        have MNVz : Hid (∀ (L : Array Bool), L = #[true, true, true, true, true, false, true, true, true, true, true, false, false, false] → ∀ (vb : World) (b0 : Nat) (gv : Nat), ∀ a, a = ((A0.put (some 28) (.slice (some ⟨b0, 0, none⟩) 0 0)).put (some 33) (.slice (some ⟨gv, 0, none⟩) N N)) → ∀ v, Below U.heap.size U v → MkN U vb v b0 → MkB U v N gv → Z0 4 L a v) := by
          intro L hL vb b0 gv a ha v hH hN hV
          subst hL ha hA0
          rw [hZ0]
          refine up_ready (rs := [5, 11]) (by kernel_rfl) (by simp) ?_
          refine AllUp.cons rfl (fun K hK => ?_) ?_
          · refine tr_app hH rfl (.tmp 28) (.tmp 29) rfl rfl hN HL.out HN3.out HPOS.out (HSRC.out _ hH) rfl hK ?_
            intro v1 gp cp hn hB I1
            exact memo_use hZ0 (MNIVz.out _ (by kernel_rfl) b0 gp cp gv _ (by kernel_rfl) v1 hB I1 (hV.app hN hn))
          refine AllUp.cons rfl (fun K hK => ?_) AllUp.nil
          refine tr_mk hH rfl (.tmp 35) (.tmp 35) rfl rfl rfl HN3.out hK ?_
          intro v1 ga hn hB A1
          exact memo_use hZ0 (MNVAz.out _ (by kernel_rfl) vb b0 gv ga _ (by kernel_rfl) v1 hB (hN.past hn.1) (hV.past hn.1) A1 (A1.ne hV hn.2))
        have MNAz : Hid (∀ (L : Array Bool), L = #[true, true, true, true, true, false, true, true, false, true, true, true, false, false] → ∀ (vb : World) (b0 : Nat) (ga : Nat), ∀ a, a = ((A0.put (some 28) (.slice (some ⟨b0, 0, none⟩) 0 0)).put (some 36) (.slice (some ⟨ga, 0, none⟩) N N)) → ∀ v, Below U.heap.size U v → MkN U vb v b0 → MkB U v N ga → Z0 4 L a v) := by
          intro L hL vb b0 ga a ha v hH hN hA
          subst hL ha hA0
          rw [hZ0]
          refine up_ready (rs := [5, 8]) (by kernel_rfl) (by simp) ?_
          refine AllUp.cons rfl (fun K hK => ?_) ?_
          · refine tr_app hH rfl (.tmp 28) (.tmp 29) rfl rfl hN HL.out HN3.out HPOS.out (HSRC.out _ hH) rfl hK ?_
            intro v1 gp cp hn hB I1
            exact memo_use hZ0 (MNIAz.out _ (by kernel_rfl) b0 gp cp ga _ (by kernel_rfl) v1 hB I1 (hA.app hN hn))
          refine AllUp.cons rfl (fun K hK => ?_) AllUp.nil
          refine tr_mk hH rfl (.tmp 32) (.tmp 32) rfl rfl rfl HN3.out hK ?_
          intro v1 gv hn hB V1
          exact memo_use hZ0 (MNVAz.out _ (by kernel_rfl) vb b0 gv ga _ (by kernel_rfl) v1 hB (hN.past hn.1) V1 (hA.past hn.1) (V1.ne hA hn.2).symm)
        have MVAz : Hid (∀ (L : Array Bool), L = #[true, true, true, false, true, false, true, true, true, true, true, true, false, false] → ∀ (gv : Nat) (ga : Nat), ∀ a, a = ((A0.put (some 33) (.slice (some ⟨gv, 0, none⟩) N N)).put (some 36) (.slice (some ⟨ga, 0, none⟩) N N)) → ∀ v, Below U.heap.size U v → MkB U v N gv → MkB U v N ga → gv ≠ ga → Z0 4 L a v) := by
          intro L hL gv ga a ha v hH hV hA NE
          subst hL ha hA0
          rw [hZ0]
          refine up_ready (rs := [3]) (by kernel_rfl) (by simp) ?_
          refine AllUp.cons rfl (fun K hK => ?_) AllUp.nil
          refine tr_nil hH rfl rfl hK ?_
          intro v1 b0 hn hB N1
          exact memo_use hZ0 (MNVAz.out _ (by kernel_rfl) v b0 gv ga _ (by kernel_rfl) v1 hB N1 (hV.past hn.1) (hA.past hn.1) NE)
        have MNz : Hid (∀ (L : Array Bool), L = #[true, true, true, true, true, false, true, true, false, true, true, false, false, false] → ∀ (vb : World) (b0 : Nat), ∀ a, a = (A0.put (some 28) (.slice (some ⟨b0, 0, none⟩) 0 0)) → ∀ v, Below U.heap.size U v → MkN U vb v b0 → Z0 5 L a v) := by
          intro L hL vb b0 a ha v hH hN
          subst hL ha hA0
          rw [hZ0]
          refine up_ready (rs := [5, 8, 11]) (by kernel_rfl) (by simp) ?_
          refine AllUp.cons rfl (fun K hK => ?_) ?_
          · refine tr_app hH rfl (.tmp 28) (.tmp 29) rfl rfl hN HL.out HN3.out HPOS.out (HSRC.out _ hH) rfl hK ?_
            intro v1 gp cp hn hB I1
            exact memo_use hZ0 (MNIz.out _ (by kernel_rfl) b0 gp cp _ (by kernel_rfl) v1 hB I1)
          refine AllUp.cons rfl (fun K hK => ?_) ?_
          · refine tr_mk hH rfl (.tmp 32) (.tmp 32) rfl rfl rfl HN3.out hK ?_
            intro v1 gv hn hB V1
            exact memo_use hZ0 (MNVz.out _ (by kernel_rfl) vb b0 gv _ (by kernel_rfl) v1 hB (hN.past hn.1) V1)
          refine AllUp.cons rfl (fun K hK => ?_) AllUp.nil
          refine tr_mk hH rfl (.tmp 35) (.tmp 35) rfl rfl rfl HN3.out hK ?_
          intro v1 ga hn hB A1
          exact memo_use hZ0 (MNAz.out _ (by kernel_rfl) vb b0 ga _ (by kernel_rfl) v1 hB (hN.past hn.1) A1)
        have MVz : Hid (∀ (L : Array Bool), L = #[true, true, true, false, true, false, true, true, true, true, true, false, false, false] → ∀ (gv : Nat), ∀ a, a = (A0.put (some 33) (.slice (some ⟨gv, 0, none⟩) N N)) → ∀ v, Below U.heap.size U v → MkB U v N gv → Z0 5 L a v) := by
          intro L hL gv a ha v hH hV
          subst hL ha hA0
          rw [hZ0]
          refine up_ready (rs := [3, 11]) (by kernel_rfl) (by simp) ?_
          refine AllUp.cons rfl (fun K hK => ?_) ?_
          · refine tr_nil hH rfl rfl hK ?_
            intro v1 b0 hn hB N1
            exact memo_use hZ0 (MNVz.out _ (by kernel_rfl) v b0 gv _ (by kernel_rfl) v1 hB N1 (hV.past hn.1))
          refine AllUp.cons rfl (fun K hK => ?_) AllUp.nil
          refine tr_mk hH rfl (.tmp 35) (.tmp 35) rfl rfl rfl HN3.out hK ?_
          intro v1 ga hn hB A1
          exact memo_use hZ0 (MVAz.out _ (by kernel_rfl) gv ga _ (by kernel_rfl) v1 hB (hV.past hn.1) A1 (A1.ne hV hn.2))
        have MAz : Hid (∀ (L : Array Bool), L = #[true, true, true, false, true, false, true, true, false, true, true, true, false, false] → ∀ (ga : Nat), ∀ a, a = (A0.put (some 36) (.slice (some ⟨ga, 0, none⟩) N N)) → ∀ v, Below U.heap.size U v → MkB U v N ga → Z0 5 L a v) := by
          intro L hL ga a ha v hH hA
          subst hL ha hA0
          rw [hZ0]
          refine up_ready (rs := [3, 8]) (by kernel_rfl) (by simp) ?_
          refine AllUp.cons rfl (fun K hK => ?_) ?_
          · refine tr_nil hH rfl rfl hK ?_
            intro v1 b0 hn hB N1
            exact memo_use hZ0 (MNAz.out _ (by kernel_rfl) v b0 ga _ (by kernel_rfl) v1 hB N1 (hA.past hn.1))
          refine AllUp.cons rfl (fun K hK => ?_) AllUp.nil
          refine tr_mk hH rfl (.tmp 32) (.tmp 32) rfl rfl rfl HN3.out hK ?_
          intro v1 gv hn hB V1
          exact memo_use hZ0 (MVAz.out _ (by kernel_rfl) gv ga _ (by kernel_rfl) v1 hB V1 (hA.past hn.1) (V1.ne hA hn.2).symm)
        have Mz : Hid (∀ (L : Array Bool), L = #[true, true, true, false, true, false, true, true, false, true, true, false, false, false] → ∀ a, a = A0 → ∀ v, Below U.heap.size U v → Z0 6 L a v) := by
          intro L hL  a ha v hH 
          subst hL ha hA0
          rw [hZ0]
          refine up_ready (rs := [3, 8, 11]) (by kernel_rfl) (by simp) ?_
          refine AllUp.cons rfl (fun K hK => ?_) ?_
          · refine tr_nil hH rfl rfl hK ?_
            intro v1 b0 hn hB N1
            exact memo_use hZ0 (MNz.out _ (by kernel_rfl) v b0 _ (by kernel_rfl) v1 hB N1)
          refine AllUp.cons rfl (fun K hK => ?_) ?_
          · refine tr_mk hH rfl (.tmp 32) (.tmp 32) rfl rfl rfl HN3.out hK ?_
            intro v1 gv hn hB V1
            exact memo_use hZ0 (MVz.out _ (by kernel_rfl) gv _ (by kernel_rfl) v1 hB V1)
          refine AllUp.cons rfl (fun K hK => ?_) AllUp.nil
          refine tr_mk hH rfl (.tmp 35) (.tmp 35) rfl rfl rfl HN3.out hK ?_
          intro v1 ga hn hB A1
          exact memo_use hZ0 (MAz.out _ (by kernel_rfl) ga _ (by kernel_rfl) v1 hB A1)
        exact Mz.out _ (by kernel_rfl) _ rfl _ hH0
      · rw [h2] at HRB
        rw [h1] at CA
        have HR : Hid (beginC (decs M) id st sn l = (5, decs M)) := HRB
        have d2 : (0 : Int) ≤ (i : Int) := by omega
        clear h hl hN hc hat hW HRB hid hok hpb hnb hlp h1 h2 h3 h4
        go_enter Try.func20, Try.ntmps20
        go_wp2_with (first
          | (go_at_call 49; rw [HW.out]; refine (CG.out _).mono ?_; rintro e u1 ⟨rfl, hb1⟩; have B1 : Hid (Below W.heap.size W u1) := hb1; clear hb1)
          | (go_at_call 50; refine (CR.out _ B1.out).mono ?_; rintro e u2 ⟨rfl, hb2⟩; have B2 : Hid (Below W.heap.size W u2) := B1.out.trans (hb2.mono B1.out.size); clear hb2)
          | (go_at_call 51; refine (CA.out _ B2.out).mono ?_; rintro e w1 ⟨rfl, hw⟩; obtain rfl := hw.symm; clear hw))
        go_ret
        rw [HR.out]
        exact ⟨rfl, HS.out _ B2.out⟩
  · have CG : Hid (∀ u, Calls Try.prog 49 #[.agg #[.int .i64 st, .int .u8 sn]] u fun e w' => e = .returned (.bool false) ∧ Below u.heap.size u w') := fun u => by have := CG.out u; rwa [decide_eq_false hok] at this
    have HR : Hid (beginC (decs M) id st sn l = (1, decs M)) := by show _ = _; rw [HRB, if_pos (.inr (.inl hok))]
    clear h hl hN hc hat hW HRB CR CA hid hok
    go_enter Try.func20, Try.ntmps20
    go_wp2_with (go_at_call 49; rw [HW.out]; refine (CG.out _).mono ?_; rintro e u1 ⟨rfl, hb1⟩; have B1 : Hid (Below W.heap.size W u1) := hb1; clear hb1)
    go_ret
    rw [HR.out]
    exact ⟨rfl, HS.out _ B1.out⟩
end Go.Proofs.Ytcppihpehipelaa
