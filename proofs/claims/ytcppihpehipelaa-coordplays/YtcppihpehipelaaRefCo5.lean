/-
  The document's own table of decisions: one that is new is laid in.
-/
import Derived.Test.YtcppihpehipelaaAu60
import Derived.Test.YtcppihpehipelaaAu57
namespace Go.Proofs.Ytcppihpehipelaa
open Go.RowKit
set_option linter.unusedVariables false
set_option linter.unusedSimpArgs false

def zeroO : OneM := ⟨⟨0, 0, 0, [], [], 0, 0, 0, []⟩, none, 0, none, 0, none, 0⟩
abbrev ov (x : OneM) : Value := .agg (encO x).toArray
theorem info_rone : (Try.prog.info? 92).map (·.size) = some 9 := by kernel_rfl
theorem roneEl : ElT 49 92 9 120 := ElT.mk' (z := ov zeroO) Try.underlying49 (by kernel_rfl) (by kernel_rfl) (by decide) (by decide)
theorem run_build_rone (w : World) (x : OneM) : (Instr.buildSlice 49 1 #[(0, ov x)]).run Try.prog w = .ok (.slice (some ⟨w.heap.size, 0, none⟩) 1 1) (w.alloc (.cells (encO x).toArray 92)) := by
  have hf : Instr.fill (fun i => some (i * 9, 9)) (encO zeroO).toArray [(0, ov x)] = some (encO x).toArray := by
    rw [fill_step _ (encO zeroO) 0 0 9 (encO x) rfl rfl (by rw [encO_len]; omega)]
    rfl
  simp [Instr.buildSlice, run_underlying Try.underlying49]
  generalize hz : Array.map _ (Array.range 9) = Z
  have hz2 : Z = (encO zeroO).toArray := by rw [← hz]; kernel_rfl
  rw [hz2, hf]
  simp [newRow]
theorem step_build_rone {w : World} {ops : Array Oper} {o : Oper} {a : Act} {K : Act → World → Prop} {Q : Exit → Act → World → Prop} {E : Prop} (hgd : o.guard = none) (y : Operand) (ho : o.op = .buildSlice 49 1 #[(0, y)]) (x : OneM) (hx : a.eval y = ov x)
    (h : K (a.put o.dst (.slice (some ⟨w.heap.size, 0, none⟩) 1 1)) (w.alloc (.cells (encO x).toArray 92))) : if Region.wanted o (yielded ops a.tmps) = true then Oper.wp Try.prog o a w K Q else E := by
  have hw : Region.wanted o (yielded ops a.tmps) = true := by simp [Region.wanted, hgd]
  rw [if_pos hw]
  have hrun := run_build_rone w x
  unfold Oper.wp
  simp only [execOp, ho, List.map_toArray, List.map_cons, List.map_nil, hx, Sem.run_bind, hrun, Result.andThen]
  exact h
theorem slice_onesT (w : World) (a : Option Addr) (ha : ∀ ad, a = some ad → ∃ bb, ad = ⟨bb, 0, none⟩) (len cap h : Nat) (hh : h ≤ cap) (hn : a = none → cap = 0) (hlen : a = none → len = 0) :
    (Instr.slice 49 (.slice a len cap) none (some (.int .i64 (h : Int))) none).run Try.prog w = .ok (.slice a h cap) w := by
  cases a with
  | none =>
    obtain rfl := hn rfl
    obtain rfl := hlen rfl
    obtain rfl : h = 0 := by omega
    kernel_rfl
  | some ad =>
    obtain ⟨bb, rfl⟩ := ha ad rfl
    obtain ⟨i0, z, hi, _⟩ := roneEl.info
    have he : Try.prog.elem 49 = 92 := by kernel_rfl
    rw [run_slice_h w 49 _ len cap (by rw [he]; exact Try.underlying49) .i64 (h : Int) (by omega) (by omega), he, run_sizeOf w hi]
    simp [sliced, addr_add]
def dropO (a : Option Addr) (cap k : Nat) : Option Addr := match a with | none => none | some ad => if cap = k then some ad else some (ad.add (k * 9))
theorem slice_onesL (w : World) (a : Option Addr) (ha : ∀ ad, a = some ad → ∃ bb, ad = ⟨bb, 0, none⟩) (len cap k : Nat) (hk : k ≤ len) (hh : len ≤ cap) (hn : a = none → cap = 0) :
    (Instr.slice 49 (.slice a len cap) (some (.int .i64 (k : Int))) none none).run Try.prog w = .ok (.slice (dropO a cap k) (len - k) (cap - k)) w := by
  cases a with
  | none =>
    obtain rfl := hn rfl
    obtain rfl : len = 0 := by omega
    obtain rfl : k = 0 := by omega
    kernel_rfl
  | some ad =>
    obtain ⟨bb, rfl⟩ := ha ad rfl
    obtain ⟨i0, z, hi, _, hsz, _⟩ := roneEl.info
    have he : Try.prog.elem 49 = 92 := by kernel_rfl
    rw [run_slice_l w 49 _ len cap (by rw [he]; exact Try.underlying49) .i64 (k : Int) (by omega) (by omega), he, run_sizeOf w hi]
    have hc : Try.prog.cellsOf 92 = 9 := by kernel_rfl
    simp [sliced, addr_add, hc, dropO]
theorem dropO_none {a : Option Addr} {cap k : Nat} (h : dropO a cap k = none) : a = none := by
  cases a with
  | none => rfl
  | some ad => simp only [dropO] at h; split at h <;> cases h
theorem lies_dropO {u : World} {a : Option Addr} {cap k : Nat} {xs : List OneM} (ha : ∀ ad, a = some ad → ∃ bb, ad = ⟨bb, 0, none⟩) (h : Lies u a (xs.flatMap encO)) (hl : xs.length ≤ cap) : Lies u (dropO a cap k) ((xs.drop k).flatMap encO) := by
  by_cases hc : cap = k
  · have : xs.drop k = [] := List.drop_eq_nil_of_le (by omega)
    rw [this]; exact lies_nil _ _
  · cases a with
    | none => exact lies_none _ _
    | some ad =>
      obtain ⟨bb, rfl⟩ := ha ad rfl
      have := h.dropped (k * 9)
      rw [flat_drop xs k (fun x _ => encO_len x)] at this
      show Lies u (if cap = k then some ⟨bb, 0, none⟩ else some ((⟨bb, 0, none⟩ : Addr).add (k * 9))) _
      rw [if_neg hc, addr_add]
      exact this
theorem lies_takeO {u : World} {a : Option Addr} {k : Nat} {xs : List OneM} (ha : ∀ ad, a = some ad → ∃ bb, ad = ⟨bb, 0, none⟩) (h : Lies u a (xs.flatMap encO)) : Lies u a ((xs.take k).flatMap encO) := by
  cases a with
  | none => exact lies_none _ _
  | some ad =>
    obtain ⟨bb, rfl⟩ := ha ad rfl
    have := h.taken (k * 9)
    rw [flat_take xs k (fun x _ => encO_len x)] at this
    exact this
/-- One that is new: its lists lie in blocks of its own, from B on. -/
structure NewO (u : World) (B : Nat) (x : OneM) : Prop where
  out : ∃ gp gv ga, x.pa = some ⟨gp, 0, none⟩ ∧ x.va = some ⟨gv, 0, none⟩ ∧ x.aa = some ⟨ga, 0, none⟩ ∧ (B ≤ gp ∧ B ≤ gv ∧ B ≤ ga) ∧ (gp ≠ gv ∧ gp ≠ ga ∧ gv ≠ ga) ∧ IntsO u gp x.d.parts ∧ BoolsO u gv x.d.votes ∧ BoolsO u ga x.d.acks
  pr : x.d.parts.length ≤ x.pc
  vr : x.d.votes.length ≤ x.vc
  ar : x.d.acks.length ≤ x.ac
theorem NewO.past {u u' : World} {B : Nat} {x : OneM} (h : NewO u B x) (hb : Below u.heap.size u u') : NewO u' B x := by
  obtain ⟨gp, gv, ga, a, b, c, d, e, f, g, i⟩ := h.out
  exact ⟨⟨gp, gv, ga, a, b, c, d, e, f.past hb, g.past hb, i.past hb⟩, h.pr, h.vr, h.ar⟩
/-- What lay leaves. -/
structure LayD (w w' : World) (q B : Nat) (C' : List DecC) (F : Foot) : Prop where
  out : ∃ M' F', decs M' = C' ∧ CrdO w' q M' F' ∧ Chg w w' (fun k => k = q) ∧ ∀ k, F' k → (F k ∨ B ≤ k) ∧ k < w'.heap.size
theorem LayD.behind {w u w' : World} {q B : Nat} {C' : List DecC} {F : Foot} (h : LayD u w' q B C' F) (hb : Below w.heap.size w u) : LayD w w' q B C' F := by
  obtain ⟨M', F', h1, h2, h3, h4⟩ := h.out
  exact ⟨M', F', h1, h2, (Chg.of_below hb _).trans h3 (fun _ _ y => y), h4⟩
theorem LayD.did {w u w' : World} {q : Nat} {C' : List DecC} {F : Foot} (h : LayD u w' q w.heap.size C' F) (hb : Below w.heap.size w u) (hq : F q) : DidO w w' q C' F := by
  obtain ⟨M', F', h1, h2, h3, h4⟩ := h.out
  exact ⟨M', F', h1, h2, (Chg.of_below hb _).trans (h3.mono (fun k _ e => by rw [e]; exact hq)) (fun _ _ y => y), h4⟩
theorem layC_at {M : List OneM} {x : OneM} {J : Nat} (hJ : ((decs M).takeWhile (fun y => decide (y.id < x.d.id))).length = J) : decs (M.take J ++ x :: M.drop J) = layC (decs M) x.d := by
  have h := List.prefix_iff_eq_take.1 (List.takeWhile_prefix (fun y : DecC => decide (y.id < x.d.id)) (l := decs M))
  unfold layC
  rw [hJ] at h ⊢
  rw [h]
  unfold decs
  rw [List.map_append, List.map_cons, List.map_take, List.map_drop]
theorem CrdI.laid {U w5 : World} {q : Nat} {M : List OneM} {F : Foot} {O : Nat → Option (Int × Nat)} {a : Option Addr} {c B : Nat} (h : CrdI U q M F O a c) {x : OneM} (hx : NewO U B x) (hFB : ∀ k, F k → k < B) (hn : getC (decs M) x.d.id = none) {J : Nat} (hJ : decs (M.take J ++ x :: M.drop J) = layC (decs M) x.d)
    {a5 : Option Addr} {c5 n : Nat} (ho : OwnB 92 9 U w5 (.slice a5 n c5) n ((M.take J ++ x :: M.drop J).flatMap encO)) (hl : (M.take J ++ x :: M.drop J).length = n) : LayD U (w5.setCell ⟨q, 0, none⟩ (.slice a5 n c5)) q B (layC (decs M) x.d) F := by
  have hb := ho.below
  obtain ⟨g', cap', e1, e2, e3, e4⟩ := RowO.of_own ho.own hl (by rw [← hl, List.length_append, List.length_cons]; omega)
  injection e1 with e1 _ e1'
  subst e1
  subst e1'
  obtain ⟨gp, gv, ga, p1, p2, p3, ⟨b1, b2, b3⟩, ⟨n1, n2, n3⟩, i1, i2, i3⟩ := hx.out
  have l1 := i1.lt
  have l2 := i2.lt
  have l3 := i3.lt
  have hq := h.lt q h.fq
  have hqB := hFB q h.fq
  have hsz := hb.size
  have hk : ∀ k, k ≠ q → (w5.setCell ⟨q, 0, none⟩ (.slice (some ⟨g', 0, none⟩) n c5)).heap[k]? = w5.heap[k]? := fun k hne => Below.heap_setCell _ ⟨q, 0, none⟩ _ k hne
  have hkU : ∀ k, k < U.heap.size → k ≠ q → (w5.setCell ⟨q, 0, none⟩ (.slice (some ⟨g', 0, none⟩) n c5)).heap[k]? = U.heap[k]? := fun k h1 h2 => (hk k h2).trans (hb.block k h1)
  have hqc : w5.cell? ⟨q, 0, none⟩ = some (.slice a M.length c) := (hb.cell (p := ⟨q, 0, none⟩) hq).trans h.qc
  obtain ⟨O', hO'⟩ : ∃ O' : Nat → Option (Int × Nat), O' = fun k => if k = gp then some (x.d.id, 0) else if k = gv then some (x.d.id, 1) else if k = ga then some (x.d.id, 2) else if k = g' then none else O k := ⟨_, rfl⟩
  have hOF : ∀ k, k < B → O' k = O k := fun k hkB => by
    rw [hO']
    show (if k = gp then _ else _) = _
    rw [if_neg (by omega), if_neg (by omega), if_neg (by omega)]
    by_cases e : k = g'
    · exfalso
      have := i1.lt
      omega
    · rw [if_neg e]
  have hs6 : (w5.setCell ⟨q, 0, none⟩ (.slice (some ⟨g', 0, none⟩) n c5)).heap.size = w5.heap.size := World.size_setCell _ _ _
  have hg5 : g' < w5.heap.size := e4.lt
  have o1 : O' gp = some (x.d.id, 0) := by rw [hO']; exact if_pos rfl
  have o2 : O' gv = some (x.d.id, 1) := by rw [hO']; show (if gv = gp then _ else _) = _; rw [if_neg (Ne.symm n1), if_pos rfl]
  have o3 : O' ga = some (x.d.id, 2) := by rw [hO']; show (if ga = gp then _ else _) = _; rw [if_neg (Ne.symm n2), if_neg (Ne.symm n3), if_pos rfl]
  have o4 : O' g' = none := by rw [hO']; show (if g' = gp then _ else _) = _; rw [if_neg (by omega), if_neg (by omega), if_neg (by omega), if_pos rfl]
  refine ⟨M.take J ++ x :: M.drop J, fun k => F k ∨ k = gp ∨ k = gv ∨ k = ga ∨ k = g', hJ, ⟨O', some ⟨g', 0, none⟩, c5, ?_⟩, (Chg.of_below hb _).trans (Chg.set w5 ⟨q, 0, none⟩ _ (X := fun k => k = q) rfl) (fun _ _ y => y), fun k hk' => ?_⟩
  · refine ⟨fun k hk' => ?_, .inl h.fq, (hOF q hqB).trans h.qo, fun j => ?_, ?_, ?_, .inr ⟨g', rfl, .inr (.inr (.inr (.inr rfl))), by omega, o4, e4.kept (hk g' (by omega))⟩, fun y hy => ?_, ?_⟩
    · rw [hs6]
      rcases hk' with e | e | e | e | e
      · have := h.lt k e; omega
      · omega
      · omega
      · omega
      · omega
    · rw [World.frozen?_setCell]
      exact (hb.frozen (p := ⟨q, j, none⟩) hq).trans (h.qf j)
    · rw [hl]
      exact World.cell?_setCell_same _ _ _ hqc
    · rw [hl]; exact e2
    · rcases List.mem_append.1 hy with e | e
      · exact ((h.each y (List.mem_of_mem_take e)).kept (fun k s hF hO => hkU k (h.lt k hF) (fun e => by rw [e, h.qo] at hO; cases hO))).more (fun k hF => ⟨.inl hF, hOF k (hFB k hF)⟩)
      · rcases List.mem_cons.1 e with rfl | e
        · exact ⟨⟨gp, p1, .inr (.inl rfl), o1, i1.kept (hkU gp l1 (by omega))⟩, ⟨gv, p2, .inr (.inr (.inl rfl)), o2, i2.kept (hkU gv l2 (by omega))⟩, ⟨ga, p3, .inr (.inr (.inr (.inl rfl))), o3, i3.kept (hkU ga l3 (by omega))⟩, hx.pr, hx.vr, hx.ar⟩
        · exact ((h.each y (List.mem_of_mem_drop e)).kept (fun k s hF hO => hkU k (h.lt k hF) (fun e => by rw [e, h.qo] at hO; cases hO))).more (fun k hF => ⟨.inl hF, hOF k (hFB k hF)⟩)
    · rw [hJ]
      exact layC_sorted h.ids ((getC_no h.ids).1 hn)
  · rw [hs6]
    rcases hk' with e | e | e | e | e
    · exact ⟨.inl e, by have := h.lt k e; omega⟩
    · exact ⟨.inr (by omega), by omega⟩
    · exact ⟨.inr (by omega), by omega⟩
    · exact ⟨.inr (by omega), by omega⟩
    · exact ⟨.inr (by omega), by omega⟩
/-- What lay reads. -/
theorem CrdI.src {u : World} {q : Nat} {M : List OneM} {F : Foot} {O : Nat → Option (Int × Nat)} {a : Option Addr} {c : Nat} (h : CrdI u q M F O a c) : M.length ≤ c ∧ (a = none → c = 0 ∧ M.length = 0) ∧ (∀ ad, a = some ad → ∃ bb, ad = ⟨bb, 0, none⟩) ∧ (∀ v, Below u.heap.size u v → v.cell? ⟨q, 0, none⟩ = some (.slice a M.length c) ∧ v.frozen? ⟨q, 0, none⟩ = false) ∧ (∀ v, Below u.heap.size u v → Lies v a (M.flatMap encO)) ∧ ∀ i x, M[i]? = some x → ∃ g, a = some ⟨g, 0, none⟩ ∧ ∀ v, Below u.heap.size u v → v.cell? ⟨g, i * 9, none⟩ = some (.int .i64 x.d.id) := by
  have hq := h.lt q h.fq
  refine ⟨h.room, ?_⟩
  rcases h.row with ⟨e1, e2, e3⟩ | ⟨g, e1, e2, e3, e4, e5⟩
  · subst e1
    exact ⟨fun _ => ⟨e3, rfl⟩, fun ad e => (by rw [e2] at e; cases e), fun v hv => ⟨(hv.cell (p := ⟨q, 0, none⟩) hq).trans h.qc, (hv.frozen (p := ⟨q, 0, none⟩) hq).trans (h.qf 0)⟩, fun v hv => lies_nil _ _, fun i x hx => (by simp at hx)⟩
  · subst e1
    exact ⟨fun e => (by cases e), fun ad e => ⟨g, (Option.some.inj e).symm⟩, fun v hv => ⟨(hv.cell (p := ⟨q, 0, none⟩) hq).trans h.qc, (hv.frozen (p := ⟨q, 0, none⟩) hq).trans (h.qf 0)⟩, fun v hv => e5.lies.past hv, fun i x hx => ⟨g, rfl, fun v hv => (hv.cell (p := ⟨g, i * 9, none⟩) (h.lt g e2)).trans (e5.cell (j := 0) hx rfl)⟩⟩
set_option maxHeartbeats 16000000 in
set_option maxRecDepth 8000 in
theorem rclay_any {q B : Nat} {M : List OneM} {F : Foot} (x : OneM) (w : World) (h : CrdO w q M F) (hf : M.length ≤ 100000) (hx : NewO w B x) (hFB : ∀ k, F k → k < B) (hn : getC (decs M) x.d.id = none) :
    Calls Try.prog 52 #[.pointer (some ⟨q, 0, none⟩), ov x] w fun e w' => e = .returned (.tuple #[]) ∧ LayD w w' q B (layC (decs M) x.d) F := by
  obtain ⟨W, hW⟩ : ∃ W, W = w.alloc (.cells (encO x).toArray 92) := ⟨_, rfl⟩
  have HW : Hid (w.alloc (.cells (encO x).toArray 92) = W) := hW.symm
  have HBW : Hid (Below w.heap.size w W) := by rw [hW]; exact (Below.refl _ _).alloc (Nat.le_refl _) _
  have hbx : Lies W (some ⟨w.heap.size, 0, none⟩) (encO x) := by rw [hW]; exact lies_made w (encO x).toArray 92
  have HBX : Hid (∀ u, Below W.heap.size W u → u.rangeAt w.heap.size 0 (encO x)) := fun u hu => (hbx.past hu).range
  obtain ⟨O, a0, c0, h⟩ := h.out
  obtain ⟨hcap, hnil, hA0, hcell, hli, hs⟩ := (h.kept HBW.out.size (fun k hF => HBW.out.block k (h.lt k hF))).src
  have HLD : Hid (∀ (U w5 : World) (J : Nat) (a5 : Option Addr) (c5 n : Nat), Below W.heap.size W U → decs (M.take J ++ x :: M.drop J) = layC (decs M) x.d → OwnB 92 9 U w5 (.slice a5 n c5) n ((M.take J ++ x :: M.drop J).flatMap encO) → (M.take J ++ x :: M.drop J).length = n → LayD w (w5.setCell ⟨q, 0, none⟩ (.slice a5 n c5)) q B (layC (decs M) x.d) F) := fun U w5 J a5 c5 n hU h1 h2 h3 => by
    have hb := HBW.out.trans (hU.mono HBW.out.size)
    exact ((h.kept hb.size (fun k hF => hb.block k (h.lt k hF))).laid (hx.past hb) hFB hn h1 h2 h3).behind hb
  obtain ⟨N0, hN0⟩ : ∃ N0, N0 = M.length := ⟨_, rfl⟩
  rw [← hN0] at hcap hnil hcell hf
  have HN0 : Hid (M.length = N0) := hN0.symm
  have HQQ : Hid (∀ v, Below W.heap.size W v → v.cell? ⟨q, 0, none⟩ = some (.slice a0 N0 c0) ∧ v.frozen? ⟨q, 0, none⟩ = false) := hcell
  have HLI : Hid (∀ v, Below W.heap.size W v → Lies v a0 (M.flatMap encO)) := hli
  have HA0 : Hid (∀ ad, a0 = some ad → ∃ bb, ad = ⟨bb, 0, none⟩) := hA0
  have HSS : Hid (∀ i x, M[i]? = some x → ∃ g, a0 = some ⟨g, 0, none⟩ ∧ ∀ v, Below W.heap.size W v → v.cell? ⟨g, i * 9, none⟩ = some (.int .i64 x.d.id)) := hs
  have HXD : Hid (∀ v, Below W.heap.size W v → v.cell? ⟨w.heap.size, 0, none⟩ = some (.int .i64 x.d.id)) := fun v hv => HBX.out v hv 0 _ rfl
  clear h hx hFB hn hcell hli hs hA0 hbx hN0 hW
  go_enter Try.func52, Try.ntmps52
  go_wp2
  rw [HW.out]
  go_loopw [4] (fun kv wr => ∃ J : Nat, kv = .int .i64 J ∧ J ≤ N0 ∧ Hid (Below W.heap.size W wr) ∧ Hid (∀ j (y : OneM), j < J → M[j]? = some y → y.d.id < x.d.id)) (fun kv _ => N0 - (intOf kv).toNat)
  case atStart => exact ⟨0, rfl, Nat.zero_le _, Below.refl _ _, fun j y hj => absurd hj (Nat.not_lt_zero _)⟩
  case round =>
    obtain ⟨J, rfl, hJ, HB, HJ⟩ := hrel
    have hJ0 : (0 : Int) ≤ (J : Int) := by omega
    have FBX : Hid (∀ u, Below wr.heap.size wr u → u.cell? ⟨w.heap.size, 0, none⟩ = some (.int .i64 x.d.id)) := fun u hb => HXD.out u (HB.out.trans (hb.mono HB.out.size))
    by_cases hlt2 : J < N0
    · have h2 : (J : Int) < (N0 : Int) := by omega
      obtain ⟨y, hy⟩ : ∃ y, M[J]? = some y := ⟨_, List.getElem?_eq_getElem (by rw [HN0.out]; exact hlt2)⟩
      obtain ⟨g, hag, hgg⟩ := HSS.out J y hy
      have HYI : Hid (M[J]? = some y) := hy
      obtain ⟨yi, hyi⟩ : ∃ z, z = y.d.id := ⟨_, rfl⟩
      have HYE : Hid (yi = y.d.id) := hyi
      have FQ : Hid (∀ u, Below wr.heap.size wr u → u.cell? ⟨q, 0, none⟩ = some (.slice (some ⟨g, 0, none⟩) N0 c0)) := fun u hb => by rw [← hag]; exact (HQQ.out u (HB.out.trans (hb.mono HB.out.size))).1
      have FI : Hid (∀ u, Below wr.heap.size wr u → u.cell? ⟨g, J * 9, none⟩ = some (.int .i64 yi)) := fun u hb => by rw [hyi]; exact hgg u (HB.out.trans (hb.mono HB.out.size))
      clear hy hyi hgg
      by_cases hlx : yi < x.d.id
      · have bl : decide (yi < x.d.id) = true := decide_eq_true hlx
        have HJ2 : Hid (∀ j (y : OneM), j < J + 1 → M[j]? = some y → y.d.id < x.d.id) := fun j z hj hz => by
          by_cases e : j < J
          · exact HJ.out j z e hz
          · obtain rfl : j = J := by omega
            rw [HYI.out] at hz
            obtain rfl := Option.some.inj hz
            rw [← HYE.out]; exact hlx
        clear hlx hag
        go_wp2
        refine wp_region_noPanic ?_
        refine wp_region_held_drew (S := fun u => Below wr.heap.size wr u) (by kernel_rfl) ?_ (fun hHeld => ?_)
        · exact (Below.refl _ _).drew
        refine wpAnyH_take (i := 0) (v := ?_) rfl (by kernel_rfl) (by kernel_rfl) (by kernel_rfl) (fun _ _ _ h => h) (Or.inl ⟨by rfl, ?_⟩) hHeld ?_
        rotate_left
        · intro u hSu
          (go_simp) <;> (with_reducible rfl)
        change wpAnyH _ _ _ _ _ _ _ (Act.put _ (some 5) _) _
        simp only [Act.put, List.setIfInBounds_toArray, List.set_cons_zero, List.set_cons_succ]
        refine wpAnyH_take (i := 1) (v := ?_) rfl (by kernel_rfl) (by kernel_rfl) (by kernel_rfl) (fun _ _ _ h => h) (Or.inl ⟨by rfl, ?_⟩) hHeld ?_
        rotate_left
        · intro u hSu
          (go_simp) <;> (with_reducible rfl)
        change wpAnyH _ _ _ _ _ _ _ (Act.put _ (some 6) _) _
        simp only [Act.put, List.setIfInBounds_toArray, List.set_cons_zero, List.set_cons_succ]
        refine wpAnyH_take (i := 2) (v := ?_) rfl (by kernel_rfl) (by kernel_rfl) (by kernel_rfl) (fun _ _ _ h => h) (Or.inl ⟨by rfl, ?_⟩) hHeld ?_
        rotate_left
        · intro u hSu
          (go_simp) <;> (with_reducible rfl)
        change wpAnyH _ _ _ _ _ _ _ (Act.put _ (some 7) _) _
        simp only [Act.put, List.setIfInBounds_toArray, List.set_cons_zero, List.set_cons_succ]
        refine wpAnyH_take (i := 3) (v := ?_) rfl (by kernel_rfl) (by kernel_rfl) (by kernel_rfl) (fun _ _ _ h => h) (Or.inl ⟨by rfl, ?_⟩) hHeld ?_
        rotate_left
        · intro u hSu
          (go_simp) <;> (with_reducible rfl)
        change wpAnyH _ _ _ _ _ _ _ (Act.put _ (some 8) _) _
        simp only [Act.put, List.setIfInBounds_toArray, List.set_cons_zero, List.set_cons_succ]
        refine wpAnyH_take (i := 4) (v := ?_) rfl (by kernel_rfl) (by kernel_rfl) (by kernel_rfl) (fun _ _ _ h => h) (Or.inl ⟨by rfl, ?_⟩) hHeld ?_
        rotate_left
        · intro u hSu
          have r0 := FQ.out u hSu
          (go_simp) <;> (with_reducible rfl)
        change wpAnyH _ _ _ _ _ _ _ (Act.put _ (some 9) _) _
        simp only [Act.put, List.setIfInBounds_toArray, List.set_cons_zero, List.set_cons_succ]
        refine wpAnyH_take (i := 5) (v := ?_) rfl (by kernel_rfl) (by kernel_rfl) (by kernel_rfl) (fun _ _ _ h => h) (Or.inl ⟨by rfl, ?_⟩) hHeld ?_
        rotate_left
        · intro u hSu
          (go_simp) <;> (with_reducible rfl)
        change wpAnyH _ _ _ _ _ _ _ (Act.put _ (some 10) _) _
        simp only [Act.put, List.setIfInBounds_toArray, List.set_cons_zero, List.set_cons_succ]
        refine wpAnyH_take (i := 6) (v := ?_) rfl (by kernel_rfl) (by kernel_rfl) (by kernel_rfl) (fun _ _ _ h => h) (Or.inl ⟨by rfl, ?_⟩) hHeld ?_
        rotate_left
        · intro u hSu
          (go_simp) <;> (with_reducible rfl)
        change wpAnyH _ _ _ _ _ _ _ (Act.put _ (some 11) _) _
        simp only [Act.put, List.setIfInBounds_toArray, List.set_cons_zero, List.set_cons_succ]
        refine wpAnyH_take (i := 7) (v := ?_) rfl (by kernel_rfl) (by kernel_rfl) (by kernel_rfl) (fun _ _ _ h => h) (Or.inl ⟨by rfl, ?_⟩) hHeld ?_
        rotate_left
        · intro u hSu
          (go_simp) <;> (with_reducible rfl)
        change wpAnyH _ _ _ _ _ _ _ (Act.put _ (some 12) _) _
        simp only [Act.put, List.setIfInBounds_toArray, List.set_cons_zero, List.set_cons_succ]
        refine wpAnyH_take (i := 8) (v := ?_) rfl (by kernel_rfl) (by kernel_rfl) (by kernel_rfl) (fun _ _ _ h => h) (Or.inl ⟨by rfl, ?_⟩) hHeld ?_
        rotate_left
        · intro u hSu
          (go_simp) <;> (with_reducible rfl)
        change wpAnyH _ _ _ _ _ _ _ (Act.put _ (some 13) _) _
        simp only [Act.put, List.setIfInBounds_toArray, List.set_cons_zero, List.set_cons_succ]
        refine wpAnyH_take (i := 9) (v := ?_) rfl (by kernel_rfl) (by kernel_rfl) (by kernel_rfl) (fun _ _ _ h => h) (Or.inl ⟨by rfl, ?_⟩) hHeld ?_
        rotate_left
        · intro u hSu
          (go_simp) <;> (with_reducible rfl)
        change wpAnyH _ _ _ _ _ _ _ (Act.put _ (some 14) _) _
        simp only [Act.put, List.setIfInBounds_toArray, List.set_cons_zero, List.set_cons_succ]
        refine wpAnyH_take (i := 10) (v := ?_) rfl (by kernel_rfl) (by kernel_rfl) (by kernel_rfl) (fun _ _ _ h => h) (Or.inl ⟨by rfl, ?_⟩) hHeld ?_
        rotate_left
        · intro u hSu
          (go_simp) <;> (with_reducible rfl)
        change wpAnyH _ _ _ _ _ _ _ (Act.put _ (some 15) _) _
        simp only [Act.put, List.setIfInBounds_toArray, List.set_cons_zero, List.set_cons_succ]
        refine wpAnyH_take (i := 11) (v := ?_) rfl (by kernel_rfl) (by kernel_rfl) (by kernel_rfl) (fun _ _ _ h => h) (Or.inl ⟨by rfl, ?_⟩) hHeld ?_
        rotate_left
        · intro u hSu
          have r0 := FQ.out u hSu
          (go_simp) <;> (with_reducible rfl)
        change wpAnyH _ _ _ _ _ _ _ (Act.put _ (some 16) _) _
        simp only [Act.put, List.setIfInBounds_toArray, List.set_cons_zero, List.set_cons_succ]
        refine wpAnyH_take (i := 12) (v := ?_) rfl (by kernel_rfl) (by kernel_rfl) (by kernel_rfl) (fun _ _ _ h => h) (Or.inl ⟨by rfl, ?_⟩) hHeld ?_
        rotate_left
        · intro u hSu
          (go_simp) <;> (with_reducible rfl)
        change wpAnyH _ _ _ _ _ _ _ (Act.put _ (some 17) _) _
        simp only [Act.put, List.setIfInBounds_toArray, List.set_cons_zero, List.set_cons_succ]
        refine wpAnyH_take (i := 13) (v := ?_) rfl (by kernel_rfl) (by kernel_rfl) (by kernel_rfl) (fun _ _ _ h => h) (Or.inl ⟨by rfl, ?_⟩) hHeld ?_
        rotate_left
        · intro u hSu
          (go_simp) <;> (with_reducible rfl)
        change wpAnyH _ _ _ _ _ _ _ (Act.put _ (some 18) _) _
        simp only [Act.put, List.setIfInBounds_toArray, List.set_cons_zero, List.set_cons_succ]
        refine wpAnyH_take (i := 14) (v := ?_) rfl (by kernel_rfl) (by kernel_rfl) (by kernel_rfl) (fun _ _ _ h => h) (Or.inl ⟨by rfl, ?_⟩) hHeld ?_
        rotate_left
        · intro u hSu
          (go_simp) <;> (with_reducible rfl)
        change wpAnyH _ _ _ _ _ _ _ (Act.put _ (some 19) _) _
        simp only [Act.put, List.setIfInBounds_toArray, List.set_cons_zero, List.set_cons_succ]
        refine wpAnyH_take (i := 15) (v := ?_) rfl (by kernel_rfl) (by kernel_rfl) (by kernel_rfl) (fun _ _ _ h => h) (Or.inl ⟨by rfl, ?_⟩) hHeld ?_
        rotate_left
        · intro u hSu
          have r0 := FI.out u hSu
          (go_simp) <;> (with_reducible rfl)
        change wpAnyH _ _ _ _ _ _ _ (Act.put _ (some 20) _) _
        simp only [Act.put, List.setIfInBounds_toArray, List.set_cons_zero, List.set_cons_succ]
        refine wpAnyH_take (i := 16) (v := ?_) rfl (by kernel_rfl) (by kernel_rfl) (by kernel_rfl) (fun _ _ _ h => h) (Or.inl ⟨by rfl, ?_⟩) hHeld ?_
        rotate_left
        · intro u hSu
          (go_simp) <;> (with_reducible rfl)
        change wpAnyH _ _ _ _ _ _ _ (Act.put _ (some 21) _) _
        simp only [Act.put, List.setIfInBounds_toArray, List.set_cons_zero, List.set_cons_succ]
        refine wpAnyH_take (i := 17) (v := ?_) rfl (by kernel_rfl) (by kernel_rfl) (by kernel_rfl) (fun _ _ _ h => h) (Or.inl ⟨by rfl, ?_⟩) hHeld ?_
        rotate_left
        · intro u hSu
          have r0 := FBX.out u hSu
          (go_simp) <;> (with_reducible rfl)
        change wpAnyH _ _ _ _ _ _ _ (Act.put _ (some 22) _) _
        simp only [Act.put, List.setIfInBounds_toArray, List.set_cons_zero, List.set_cons_succ]
        refine wpAnyH_take (i := 18) (v := ?_) rfl (by kernel_rfl) (by kernel_rfl) (by kernel_rfl) (fun _ _ _ h => h) (Or.inl ⟨by rfl, ?_⟩) hHeld ?_
        rotate_left
        · intro u hSu
          (go_simp) <;> (with_reducible rfl)
        change wpAnyH _ _ _ _ _ _ _ (Act.put _ (some 23) _) _
        simp only [Act.put, List.setIfInBounds_toArray, List.set_cons_zero, List.set_cons_succ]
        refine wpAnyH_take (i := 19) (v := ?_) rfl (by kernel_rfl) (by kernel_rfl) (by kernel_rfl) (fun _ _ _ h => h) (Or.inl ⟨by rfl, ?_⟩) hHeld ?_
        rotate_left
        · intro u hSu
          (go_simp) <;> (with_reducible rfl)
        change wpAnyH _ _ _ _ _ _ _ (Act.put _ (some 24) _) _
        simp only [Act.put, List.setIfInBounds_toArray, List.set_cons_zero, List.set_cons_succ]
        refine wpAnyH_done (by kernel_rfl) ?_ _
        refine NoPanic.normal ?_
        go_wp2
        go_roundw
        case rel => exact ⟨J + 1, by go_num, by omega, HB.out.drew, HJ2⟩
        case measure => simp [intOf]; omega
      · have bl : decide (yi < x.d.id) = false := decide_eq_false hlx
        have HE : Hid (decs (M.take J ++ x :: M.drop J) = layC (decs M) x.d) := layC_at (tw_at (fun j z hj hz => by
          unfold decs at hz
          rw [List.getElem?_map] at hz
          cases hm : M[j]? with
          | none => rw [hm] at hz; cases hz
          | some m => rw [hm] at hz; injection hz with hz; rw [← hz]; exact decide_eq_true (HJ.out j m hj hm)) ⟨y.d, by unfold decs; rw [List.getElem?_map, HYI.out]; rfl, by rw [HYE.out] at hlx; exact decide_eq_false hlx⟩)
        clear hlx hag
        go_wp2
        refine wp_region_noPanic ?_
        refine wp_region_held_drew (S := fun u => Below wr.heap.size wr u) (by kernel_rfl) ?_ (fun hHeld => ?_)
        · exact (Below.refl _ _).drew
        refine wpAnyH_take (i := 0) (v := ?_) rfl (by kernel_rfl) (by kernel_rfl) (by kernel_rfl) (fun _ _ _ h => h) (Or.inl ⟨by rfl, ?_⟩) hHeld ?_
        rotate_left
        · intro u hSu
          (go_simp) <;> (with_reducible rfl)
        change wpAnyH _ _ _ _ _ _ _ (Act.put _ (some 5) _) _
        simp only [Act.put, List.setIfInBounds_toArray, List.set_cons_zero, List.set_cons_succ]
        refine wpAnyH_take (i := 1) (v := ?_) rfl (by kernel_rfl) (by kernel_rfl) (by kernel_rfl) (fun _ _ _ h => h) (Or.inl ⟨by rfl, ?_⟩) hHeld ?_
        rotate_left
        · intro u hSu
          (go_simp) <;> (with_reducible rfl)
        change wpAnyH _ _ _ _ _ _ _ (Act.put _ (some 6) _) _
        simp only [Act.put, List.setIfInBounds_toArray, List.set_cons_zero, List.set_cons_succ]
        refine wpAnyH_take (i := 2) (v := ?_) rfl (by kernel_rfl) (by kernel_rfl) (by kernel_rfl) (fun _ _ _ h => h) (Or.inl ⟨by rfl, ?_⟩) hHeld ?_
        rotate_left
        · intro u hSu
          (go_simp) <;> (with_reducible rfl)
        change wpAnyH _ _ _ _ _ _ _ (Act.put _ (some 7) _) _
        simp only [Act.put, List.setIfInBounds_toArray, List.set_cons_zero, List.set_cons_succ]
        refine wpAnyH_take (i := 3) (v := ?_) rfl (by kernel_rfl) (by kernel_rfl) (by kernel_rfl) (fun _ _ _ h => h) (Or.inl ⟨by rfl, ?_⟩) hHeld ?_
        rotate_left
        · intro u hSu
          (go_simp) <;> (with_reducible rfl)
        change wpAnyH _ _ _ _ _ _ _ (Act.put _ (some 8) _) _
        simp only [Act.put, List.setIfInBounds_toArray, List.set_cons_zero, List.set_cons_succ]
        refine wpAnyH_take (i := 4) (v := ?_) rfl (by kernel_rfl) (by kernel_rfl) (by kernel_rfl) (fun _ _ _ h => h) (Or.inl ⟨by rfl, ?_⟩) hHeld ?_
        rotate_left
        · intro u hSu
          have r0 := FQ.out u hSu
          (go_simp) <;> (with_reducible rfl)
        change wpAnyH _ _ _ _ _ _ _ (Act.put _ (some 9) _) _
        simp only [Act.put, List.setIfInBounds_toArray, List.set_cons_zero, List.set_cons_succ]
        refine wpAnyH_take (i := 5) (v := ?_) rfl (by kernel_rfl) (by kernel_rfl) (by kernel_rfl) (fun _ _ _ h => h) (Or.inl ⟨by rfl, ?_⟩) hHeld ?_
        rotate_left
        · intro u hSu
          (go_simp) <;> (with_reducible rfl)
        change wpAnyH _ _ _ _ _ _ _ (Act.put _ (some 10) _) _
        simp only [Act.put, List.setIfInBounds_toArray, List.set_cons_zero, List.set_cons_succ]
        refine wpAnyH_take (i := 6) (v := ?_) rfl (by kernel_rfl) (by kernel_rfl) (by kernel_rfl) (fun _ _ _ h => h) (Or.inl ⟨by rfl, ?_⟩) hHeld ?_
        rotate_left
        · intro u hSu
          (go_simp) <;> (with_reducible rfl)
        change wpAnyH _ _ _ _ _ _ _ (Act.put _ (some 11) _) _
        simp only [Act.put, List.setIfInBounds_toArray, List.set_cons_zero, List.set_cons_succ]
        refine wpAnyH_take (i := 7) (v := ?_) rfl (by kernel_rfl) (by kernel_rfl) (by kernel_rfl) (fun _ _ _ h => h) (Or.inl ⟨by rfl, ?_⟩) hHeld ?_
        rotate_left
        · intro u hSu
          (go_simp) <;> (with_reducible rfl)
        change wpAnyH _ _ _ _ _ _ _ (Act.put _ (some 12) _) _
        simp only [Act.put, List.setIfInBounds_toArray, List.set_cons_zero, List.set_cons_succ]
        refine wpAnyH_take (i := 8) (v := ?_) rfl (by kernel_rfl) (by kernel_rfl) (by kernel_rfl) (fun _ _ _ h => h) (Or.inl ⟨by rfl, ?_⟩) hHeld ?_
        rotate_left
        · intro u hSu
          (go_simp) <;> (with_reducible rfl)
        change wpAnyH _ _ _ _ _ _ _ (Act.put _ (some 13) _) _
        simp only [Act.put, List.setIfInBounds_toArray, List.set_cons_zero, List.set_cons_succ]
        refine wpAnyH_take (i := 9) (v := ?_) rfl (by kernel_rfl) (by kernel_rfl) (by kernel_rfl) (fun _ _ _ h => h) (Or.inl ⟨by rfl, ?_⟩) hHeld ?_
        rotate_left
        · intro u hSu
          (go_simp) <;> (with_reducible rfl)
        change wpAnyH _ _ _ _ _ _ _ (Act.put _ (some 14) _) _
        simp only [Act.put, List.setIfInBounds_toArray, List.set_cons_zero, List.set_cons_succ]
        refine wpAnyH_take (i := 10) (v := ?_) rfl (by kernel_rfl) (by kernel_rfl) (by kernel_rfl) (fun _ _ _ h => h) (Or.inl ⟨by rfl, ?_⟩) hHeld ?_
        rotate_left
        · intro u hSu
          (go_simp) <;> (with_reducible rfl)
        change wpAnyH _ _ _ _ _ _ _ (Act.put _ (some 15) _) _
        simp only [Act.put, List.setIfInBounds_toArray, List.set_cons_zero, List.set_cons_succ]
        refine wpAnyH_take (i := 11) (v := ?_) rfl (by kernel_rfl) (by kernel_rfl) (by kernel_rfl) (fun _ _ _ h => h) (Or.inl ⟨by rfl, ?_⟩) hHeld ?_
        rotate_left
        · intro u hSu
          have r0 := FQ.out u hSu
          (go_simp) <;> (with_reducible rfl)
        change wpAnyH _ _ _ _ _ _ _ (Act.put _ (some 16) _) _
        simp only [Act.put, List.setIfInBounds_toArray, List.set_cons_zero, List.set_cons_succ]
        refine wpAnyH_take (i := 12) (v := ?_) rfl (by kernel_rfl) (by kernel_rfl) (by kernel_rfl) (fun _ _ _ h => h) (Or.inl ⟨by rfl, ?_⟩) hHeld ?_
        rotate_left
        · intro u hSu
          (go_simp) <;> (with_reducible rfl)
        change wpAnyH _ _ _ _ _ _ _ (Act.put _ (some 17) _) _
        simp only [Act.put, List.setIfInBounds_toArray, List.set_cons_zero, List.set_cons_succ]
        refine wpAnyH_take (i := 13) (v := ?_) rfl (by kernel_rfl) (by kernel_rfl) (by kernel_rfl) (fun _ _ _ h => h) (Or.inl ⟨by rfl, ?_⟩) hHeld ?_
        rotate_left
        · intro u hSu
          (go_simp) <;> (with_reducible rfl)
        change wpAnyH _ _ _ _ _ _ _ (Act.put _ (some 18) _) _
        simp only [Act.put, List.setIfInBounds_toArray, List.set_cons_zero, List.set_cons_succ]
        refine wpAnyH_take (i := 14) (v := ?_) rfl (by kernel_rfl) (by kernel_rfl) (by kernel_rfl) (fun _ _ _ h => h) (Or.inl ⟨by rfl, ?_⟩) hHeld ?_
        rotate_left
        · intro u hSu
          (go_simp) <;> (with_reducible rfl)
        change wpAnyH _ _ _ _ _ _ _ (Act.put _ (some 19) _) _
        simp only [Act.put, List.setIfInBounds_toArray, List.set_cons_zero, List.set_cons_succ]
        refine wpAnyH_take (i := 15) (v := ?_) rfl (by kernel_rfl) (by kernel_rfl) (by kernel_rfl) (fun _ _ _ h => h) (Or.inl ⟨by rfl, ?_⟩) hHeld ?_
        rotate_left
        · intro u hSu
          have r0 := FI.out u hSu
          (go_simp) <;> (with_reducible rfl)
        change wpAnyH _ _ _ _ _ _ _ (Act.put _ (some 20) _) _
        simp only [Act.put, List.setIfInBounds_toArray, List.set_cons_zero, List.set_cons_succ]
        refine wpAnyH_take (i := 16) (v := ?_) rfl (by kernel_rfl) (by kernel_rfl) (by kernel_rfl) (fun _ _ _ h => h) (Or.inl ⟨by rfl, ?_⟩) hHeld ?_
        rotate_left
        · intro u hSu
          (go_simp) <;> (with_reducible rfl)
        change wpAnyH _ _ _ _ _ _ _ (Act.put _ (some 21) _) _
        simp only [Act.put, List.setIfInBounds_toArray, List.set_cons_zero, List.set_cons_succ]
        refine wpAnyH_take (i := 17) (v := ?_) rfl (by kernel_rfl) (by kernel_rfl) (by kernel_rfl) (fun _ _ _ h => h) (Or.inl ⟨by rfl, ?_⟩) hHeld ?_
        rotate_left
        · intro u hSu
          have r0 := FBX.out u hSu
          (go_simp) <;> (with_reducible rfl)
        change wpAnyH _ _ _ _ _ _ _ (Act.put _ (some 22) _) _
        simp only [Act.put, List.setIfInBounds_toArray, List.set_cons_zero, List.set_cons_succ]
        refine wpAnyH_take (i := 18) (v := ?_) rfl (by kernel_rfl) (by kernel_rfl) (by kernel_rfl) (fun _ _ _ h => h) (Or.inl ⟨by rfl, ?_⟩) hHeld ?_
        rotate_left
        · intro u hSu
          (go_simp) <;> (with_reducible rfl)
        change wpAnyH _ _ _ _ _ _ _ (Act.put _ (some 23) _) _
        simp only [Act.put, List.setIfInBounds_toArray, List.set_cons_zero, List.set_cons_succ]
        refine wpAnyH_take (i := 19) (v := ?_) rfl (by kernel_rfl) (by kernel_rfl) (by kernel_rfl) (fun _ _ _ h => h) (Or.inl ⟨by rfl, ?_⟩) hHeld ?_
        rotate_left
        · intro u hSu
          (go_simp) <;> (with_reducible rfl)
        change wpAnyH _ _ _ _ _ _ _ (Act.put _ (some 24) _) _
        simp only [Act.put, List.setIfInBounds_toArray, List.set_cons_zero, List.set_cons_succ]
        refine wpAnyH_done (by kernel_rfl) ?_ _
        refine NoPanic.normal ?_
        have HWB : Hid (Below W.heap.size W wr.drew) := HB.out.drew
        obtain ⟨U, hU⟩ : ∃ U, U = wr.drew := ⟨_, rfl⟩
        rw [← hU] at HWB ⊢
        clear hU FQ FBX FI HYI HYE HB HJ
        have HKU : Hid (∀ u, Below U.heap.size U u → u.cell? ⟨q, 0, none⟩ = some (.slice a0 N0 c0) ∧ u.frozen? ⟨q, 0, none⟩ = false) := fun u hb => HQQ.out u (HWB.out.trans (hb.mono HWB.out.size))
        have FVV : Hid (∀ u, Below U.heap.size U u → u.rangeAt w.heap.size 0 (encO x)) := fun u hb => HBX.out u (HWB.out.trans (hb.mono HWB.out.size))
        have hsT : ∀ u, (Instr.slice 49 (.slice a0 N0 c0) none (some (.int .i64 (J : Int))) none).run Try.prog u = .ok (.slice a0 J c0) u := fun u => slice_onesT u _ HA0.out N0 c0 J (by omega) (fun e => (hnil e).1) (fun e => (hnil e).2)
        obtain ⟨A2, hA2⟩ : ∃ A2, A2 = dropO a0 c0 J := ⟨_, rfl⟩
        have hsL : ∀ u, (Instr.slice 49 (.slice a0 N0 c0) (some (.int .i64 (J : Int))) none none).run Try.prog u = .ok (.slice A2 (N0 - J) (c0 - J)) u := fun u => by rw [hA2]; exact slice_onesL u _ HA0.out N0 c0 J (by omega) hcap (fun e => (hnil e).1)
        obtain ⟨AA, hAA⟩ : ∃ AA, AA = (M.take J).flatMap encO := ⟨_, rfl⟩
        obtain ⟨BB, hBB⟩ : ∃ BB, BB = (M.drop J).flatMap encO := ⟨_, rfl⟩
        have LA : Hid (AA.length = J * 9) := by show _ = _; rw [hAA, flat_len (enc := encO) (size := 9) _ (fun x hx => encO_len x), List.length_take, HN0.out]; omega
        have LB : Hid (BB.length = (N0 - J) * 9) := by show _ = _; rw [hBB, flat_len (enc := encO) (size := 9) _ (fun x hx => encO_len x), List.length_drop, HN0.out]
        have HLV : Hid ((encO x).length = 1 * 9) := encO_len x
        have S1 : Hid (∀ u, Below U.heap.size U u → Lies u a0 AA) := fun u hb => by rw [hAA]; exact lies_takeO HA0.out (HLI.out u (HWB.out.trans (hb.mono HWB.out.size)))
        have S2 : Hid (∀ u, Below U.heap.size U u → Lies u A2 BB) := fun u hb => by rw [hBB, hA2]; exact lies_dropO HA0.out (HLI.out u (HWB.out.trans (hb.mono HWB.out.size))) (by rw [HN0.out]; exact hcap)
        have O1 : Hid (∀ u ∈ AA, u.oneCell' = true) := by rw [hAA]; exact encOs_one _
        have O2 : Hid (∀ u ∈ BB, u.oneCell' = true) := by rw [hBB]; exact encOs_one _
        have OV : Hid (∀ u ∈ encO x, u.oneCell' = true) := encO_one x
        have N1 : Hid (a0 = none → J = 0 ∧ c0 = 0) := fun e => ⟨by have := (hnil e).2; omega, (hnil e).1⟩
        have N2 : Hid (A2 = none → N0 - J = 0 ∧ c0 - J = 0) := fun e => by
          have e' : a0 = none := dropO_none (by rw [← hA2]; exact e)
          have h1 := hnil e'; omega
        have HEND : Hid (∀ (w5 : World) (a5 : Option Addr) (c5 : Nat), OwnB 92 9 U w5 (.slice a5 (J + 1 + (N0 - J)) c5) (J + 1 + (N0 - J)) (AA ++ encO x ++ BB) → LayD w (w5.setCell ⟨q, 0, none⟩ (.slice a5 (J + 1 + (N0 - J)) c5)) q B (layC (decs M) x.d) F) := fun w5 a5 c5 ho => by
          have he : AA ++ encO x ++ BB = (M.take J ++ x :: M.drop J).flatMap encO := by rw [hAA, hBB]; simp
          rw [he] at ho
          exact HLD.out U w5 J a5 c5 _ HWB.out HE.out ho (by rw [List.length_append, List.length_cons, List.length_take, List.length_drop, HN0.out]; omega)
        clear hAA hBB hA2
        go_wp2
        refine wp_region_noPanic ?_
        refine region_till 21 (fun u => Below U.heap.size U u) (by kernel_rfl) ?_ (fun hHeld => ?_)
        · exact (Below.refl _ _).drew
        refine till_take (i := 0) (v := ?_) 0 (by kernel_rfl) (Or.inl rfl) (by kernel_rfl) rfl (by kernel_rfl) (by kernel_rfl) (by kernel_rfl) (fun _ _ _ h => h) (Or.inl ⟨by rfl, ?_⟩) hHeld ?_
        rotate_left
        · intro u hSu
          (go_simp) <;> (with_reducible rfl)
        change wpTill _ _ _ _ _ _ _ _ (Act.put _ (some 27) _) _
        simp only [Act.put, List.setIfInBounds_toArray, List.set_cons_zero, List.set_cons_succ]
        refine till_take (i := 2) (v := ?_) 2 (by kernel_rfl) (Or.inl rfl) (by kernel_rfl) rfl (by kernel_rfl) (by kernel_rfl) (by kernel_rfl) (fun _ _ _ h => h) (Or.inl ⟨by rfl, ?_⟩) hHeld ?_
        rotate_left
        · intro u hSu
          (go_simp) <;> (with_reducible rfl)
        change wpTill _ _ _ _ _ _ _ _ (Act.put _ (some 29) _) _
        simp only [Act.put, List.setIfInBounds_toArray, List.set_cons_zero, List.set_cons_succ]
        refine till_take (i := 3) (v := ?_) 3 (by kernel_rfl) (Or.inl rfl) (by kernel_rfl) rfl (by kernel_rfl) (by kernel_rfl) (by kernel_rfl) (fun _ _ _ h => h) (Or.inl ⟨by rfl, ?_⟩) hHeld ?_
        rotate_left
        · intro u hSu
          (go_simp) <;> (with_reducible rfl)
        change wpTill _ _ _ _ _ _ _ _ (Act.put _ (some 30) _) _
        simp only [Act.put, List.setIfInBounds_toArray, List.set_cons_zero, List.set_cons_succ]
        refine till_take (i := 4) (v := ?_) 4 (by kernel_rfl) (Or.inl rfl) (by kernel_rfl) rfl (by kernel_rfl) (by kernel_rfl) (by kernel_rfl) (fun _ _ _ h => h) (Or.inl ⟨by rfl, ?_⟩) hHeld ?_
        rotate_left
        · intro u hSu
          (go_simp) <;> (with_reducible rfl)
        change wpTill _ _ _ _ _ _ _ _ (Act.put _ (some 31) _) _
        simp only [Act.put, List.setIfInBounds_toArray, List.set_cons_zero, List.set_cons_succ]
        refine till_take (i := 5) (v := ?_) 5 (by kernel_rfl) (Or.inl rfl) (by kernel_rfl) rfl (by kernel_rfl) (by kernel_rfl) (by kernel_rfl) (fun _ _ _ h => h) (Or.inl ⟨by rfl, ?_⟩) hHeld ?_
        rotate_left
        · intro u hSu
          obtain ⟨q1, q5⟩ := HKU.out u hSu
          (go_simp) <;> (with_reducible rfl)
        change wpTill _ _ _ _ _ _ _ _ (Act.put _ (some 32) _) _
        simp only [Act.put, List.setIfInBounds_toArray, List.set_cons_zero, List.set_cons_succ]
        refine till_take (i := 6) (v := ?_) 6 (by kernel_rfl) (Or.inl rfl) (by kernel_rfl) rfl (by kernel_rfl) (by kernel_rfl) (by kernel_rfl) (fun _ _ _ h => h) (Or.inl ⟨by rfl, ?_⟩) hHeld ?_
        rotate_left
        · intro u hSu
          (go_simp) <;> (with_reducible rfl)
        change wpTill _ _ _ _ _ _ _ _ (Act.put _ (some 33) _) _
        simp only [Act.put, List.setIfInBounds_toArray, List.set_cons_zero, List.set_cons_succ]
        refine till_take (i := 7) (v := ?_) 7 (by kernel_rfl) (Or.inl rfl) (by kernel_rfl) rfl (by kernel_rfl) (by kernel_rfl) (by kernel_rfl) (fun _ _ _ h => h) (Or.inl ⟨by rfl, ?_⟩) hHeld ?_
        rotate_left
        · intro u hSu
          have q := hsT u
          (go_simp) <;> (with_reducible rfl)
        change wpTill _ _ _ _ _ _ _ _ (Act.put _ (some 34) _) _
        simp only [Act.put, List.setIfInBounds_toArray, List.set_cons_zero, List.set_cons_succ]
        refine till_take (i := 9) (v := ov x) 9 (by kernel_rfl) (Or.inl rfl) (by kernel_rfl) rfl (by kernel_rfl) (by kernel_rfl) (by kernel_rfl) (fun _ _ _ h => h) (yieldsIf_load_mid (by rfl) _ _ rfl _ _ rfl (encO x) _ (fun u hu => FVV.out u hu) Try.underlying92 rfl (by rw [info_rone, encO_len])) hHeld ?_
        change wpTill _ _ _ _ _ _ _ _ (Act.put _ (some 36) _) _
        simp only [Act.put, List.setIfInBounds_toArray, List.set_cons_zero, List.set_cons_succ]
        refine till_take (i := 12) (v := ?_) 12 (by kernel_rfl) (Or.inl rfl) (by kernel_rfl) rfl (by kernel_rfl) (by kernel_rfl) (by kernel_rfl) (fun _ _ _ h => h) (Or.inl ⟨by rfl, ?_⟩) hHeld ?_
        rotate_left
        · intro u hSu
          (go_simp) <;> (with_reducible rfl)
        change wpTill _ _ _ _ _ _ _ _ (Act.put _ (some 39) _) _
        simp only [Act.put, List.setIfInBounds_toArray, List.set_cons_zero, List.set_cons_succ]
        refine till_take (i := 13) (v := ?_) 13 (by kernel_rfl) (Or.inl rfl) (by kernel_rfl) rfl (by kernel_rfl) (by kernel_rfl) (by kernel_rfl) (fun _ _ _ h => h) (Or.inl ⟨by rfl, ?_⟩) hHeld ?_
        rotate_left
        · intro u hSu
          (go_simp) <;> (with_reducible rfl)
        change wpTill _ _ _ _ _ _ _ _ (Act.put _ (some 40) _) _
        simp only [Act.put, List.setIfInBounds_toArray, List.set_cons_zero, List.set_cons_succ]
        refine till_take (i := 14) (v := ?_) 14 (by kernel_rfl) (Or.inl rfl) (by kernel_rfl) rfl (by kernel_rfl) (by kernel_rfl) (by kernel_rfl) (fun _ _ _ h => h) (Or.inl ⟨by rfl, ?_⟩) hHeld ?_
        rotate_left
        · intro u hSu
          (go_simp) <;> (with_reducible rfl)
        change wpTill _ _ _ _ _ _ _ _ (Act.put _ (some 41) _) _
        simp only [Act.put, List.setIfInBounds_toArray, List.set_cons_zero, List.set_cons_succ]
        refine till_take (i := 15) (v := ?_) 15 (by kernel_rfl) (Or.inl rfl) (by kernel_rfl) rfl (by kernel_rfl) (by kernel_rfl) (by kernel_rfl) (fun _ _ _ h => h) (Or.inl ⟨by rfl, ?_⟩) hHeld ?_
        rotate_left
        · intro u hSu
          obtain ⟨q1, q5⟩ := HKU.out u hSu
          (go_simp) <;> (with_reducible rfl)
        change wpTill _ _ _ _ _ _ _ _ (Act.put _ (some 42) _) _
        simp only [Act.put, List.setIfInBounds_toArray, List.set_cons_zero, List.set_cons_succ]
        refine till_take (i := 16) (v := ?_) 16 (by kernel_rfl) (Or.inl rfl) (by kernel_rfl) rfl (by kernel_rfl) (by kernel_rfl) (by kernel_rfl) (fun _ _ _ h => h) (Or.inl ⟨by rfl, ?_⟩) hHeld ?_
        rotate_left
        · intro u hSu
          (go_simp) <;> (with_reducible rfl)
        change wpTill _ _ _ _ _ _ _ _ (Act.put _ (some 43) _) _
        simp only [Act.put, List.setIfInBounds_toArray, List.set_cons_zero, List.set_cons_succ]
        refine till_take (i := 17) (v := ?_) 17 (by kernel_rfl) (Or.inl rfl) (by kernel_rfl) rfl (by kernel_rfl) (by kernel_rfl) (by kernel_rfl) (fun _ _ _ h => h) (Or.inl ⟨by rfl, ?_⟩) hHeld ?_
        rotate_left
        · intro u hSu
          have q := hsL u
          (go_simp) <;> (with_reducible rfl)
        change wpTill _ _ _ _ _ _ _ _ (Act.put _ (some 44) _) _
        simp only [Act.put, List.setIfInBounds_toArray, List.set_cons_zero, List.set_cons_succ]
        refine till_ready (rs := [1, 10]) (by kernel_rfl) (by simp) ?_
        refine AllTill.cons rfl (fun K hK => ?_) ?_
        · go_simp
          refine hK.out _ _ ?_ (fun hHeld2 => ?_)
          · exact hHeld.alloc hHeld.size _
          clear hK K hHeld
          have hHeld := hHeld2
          clear hHeld2
          refine till_ready (rs := [8, 10]) (by kernel_rfl) (by simp) ?_
          refine AllTill.cons rfl (fun K hK => ?_) ?_
          · refine step_own roneEl (w0 := U) rfl (.tmp 28) (.tmp 34) rfl _ 0 [] AA rfl (own_one 92 9 U) _ _ _ rfl LA.out (S1.out _ (own_one 92 9 U).below) O1.out N1.out J (Nat.zero_add _) (by omega) AA (List.nil_append _) ?_
            intro a3 c3 w3 h1 h2
            have HO3 : Hid (OwnB 92 9 U w3 (.slice a3 J c3) J AA) := h1
            clear h1 h2
            refine hK.out _ _ ?_ (fun hHeld2 => ?_)
            · exact HO3.out.below
            clear hK K hHeld
            have hHeld := hHeld2
            clear hHeld2
            change wpTill _ _ _ _ _ _ _ _ (Act.put _ (some 35) _) _
            simp only [Act.put, List.setIfInBounds_toArray, List.set_cons_zero, List.set_cons_succ]
            refine till_ready (rs := [10]) (by kernel_rfl) (by simp) ?_
            refine AllTill.cons rfl (fun K hK => ?_) AllTill.nil
            refine step_build_rone rfl (.tmp 36) rfl x rfl ?_
            refine hK.out _ _ ?_ (fun hHeld2 => ?_)
            · exact hHeld.alloc hHeld.size _
            clear hK K hHeld
            have hHeld := hHeld2
            clear hHeld2
            change wpTill _ _ _ _ _ _ _ _ (Act.put _ (some 37) _) _
            simp only [Act.put, List.setIfInBounds_toArray, List.set_cons_zero, List.set_cons_succ]
            refine till_ready (rs := [11]) (by kernel_rfl) (by simp) ?_
            refine AllTill.cons rfl (fun K hK => ?_) AllTill.nil
            refine step_own roneEl (w0 := U) rfl (.tmp 35) (.tmp 37) rfl _ J AA (encO x) rfl (HO3.out.alloc _) _ _ _ rfl HLV.out (lies_made _ _ _) OV.out (fun h => by cases h) (J + 1) rfl (by omega) (AA ++ encO x) rfl ?_
            intro a4 c4 w4 h1 h2
            have HO4 : Hid (OwnB 92 9 U w4 (.slice a4 (J + 1) c4) (J + 1) (AA ++ encO x)) := h1
            clear h1 h2 HO3
            refine hK.out _ _ ?_ (fun hHeld2 => ?_)
            · exact HO4.out.below
            clear hK K hHeld
            have hHeld := hHeld2
            clear hHeld2
            change wpTill _ _ _ _ _ _ _ _ (Act.put _ (some 38) _) _
            simp only [Act.put, List.setIfInBounds_toArray, List.set_cons_zero, List.set_cons_succ]
            refine till_ready (rs := [18]) (by kernel_rfl) (by simp) ?_
            refine AllTill.cons rfl (fun K hK => ?_) AllTill.nil
            refine step_own roneEl (w0 := U) rfl (.tmp 38) (.tmp 44) rfl _ (J + 1) (AA ++ encO x) BB rfl HO4.out _ _ _ rfl LB.out (S2.out _ HO4.out.below) O2.out N2.out (J + 1 + (N0 - J)) rfl (by omega) (AA ++ encO x ++ BB) rfl ?_
            intro a5 c5 w5 h1 h2
            have HO5 : Hid (OwnB 92 9 U w5 (.slice a5 (J + 1 + (N0 - J)) c5) (J + 1 + (N0 - J)) (AA ++ encO x ++ BB)) := h1
            clear h1 h2 HO4
            refine hK.out _ _ ?_ (fun hHeld2 => ?_)
            · exact HO5.out.below
            clear hK K hHeld
            have hHeld := hHeld2
            clear hHeld2
            change wpTill _ _ _ _ _ _ _ _ (Act.put _ (some 45) _) _
            simp only [Act.put, List.setIfInBounds_toArray, List.set_cons_zero, List.set_cons_succ]
            refine till_take (i := 19) (v := ?_) 20 (by kernel_rfl) (Or.inr (by kernel_rfl)) (by kernel_rfl) rfl (by kernel_rfl) (by kernel_rfl) (by kernel_rfl) (fun _ _ _ h => h) (Or.inl ⟨by rfl, ?_⟩) hHeld ?_
            rotate_left
            · intro u hSu
              (go_simp) <;> (with_reducible rfl)
            change wpTill _ _ _ _ _ _ _ _ (Act.put _ (some 46) _) _
            simp only [Act.put, List.setIfInBounds_toArray, List.set_cons_zero, List.set_cons_succ]
            refine till_take (i := 20) (v := ?_) 20 (by kernel_rfl) (Or.inl rfl) (by kernel_rfl) rfl (by kernel_rfl) (by kernel_rfl) (by kernel_rfl) (fun _ _ _ h => h) (Or.inl ⟨by rfl, ?_⟩) hHeld ?_
            rotate_left
            · intro u hSu
              (go_simp) <;> (with_reducible rfl)
            change wpTill _ _ _ _ _ _ _ _ (Act.put _ (some 47) _) _
            simp only [Act.put, List.setIfInBounds_toArray, List.set_cons_zero, List.set_cons_succ]
            refine till_last (by kernel_rfl) (by kernel_rfl) rfl (fun K hK => ?_)
            obtain ⟨q1, q5⟩ := HKU.out w5 HO5.out.below
            go_simp
            refine hK.out _ _ ?_
            refine NoPanic.normal ?_
            clear hK K hHeld q1 q5
            go_wp2
            go_returns
            exact ⟨rfl, HEND.out w5 a5 c5 HO5.out⟩
          refine AllTill.cons rfl (fun K hK => ?_) AllTill.nil
          refine step_build_rone rfl (.tmp 36) rfl x rfl ?_
          refine hK.out _ _ ?_ (fun hHeld2 => ?_)
          · exact hHeld.alloc hHeld.size _
          clear hK K hHeld
          have hHeld := hHeld2
          clear hHeld2
          change wpTill _ _ _ _ _ _ _ _ (Act.put _ (some 37) _) _
          simp only [Act.put, List.setIfInBounds_toArray, List.set_cons_zero, List.set_cons_succ]
          refine till_ready (rs := [8]) (by kernel_rfl) (by simp) ?_
          refine AllTill.cons rfl (fun K hK => ?_) AllTill.nil
          refine step_own roneEl (w0 := U) rfl (.tmp 28) (.tmp 34) rfl _ 0 [] AA rfl (own_two 92 9 U _) _ _ _ rfl LA.out (S1.out _ (own_two 92 9 U _).below) O1.out N1.out J (Nat.zero_add _) (by omega) AA (List.nil_append _) ?_
          intro a3 c3 w3 h1 h2
          have HO3 : Hid (OwnB 92 9 U w3 (.slice a3 J c3) J AA) := h1
          have HX3 : Hid (Lies w3 (some ⟨(U.alloc (Obj.cells #[] 92)).drew.heap.size, 0, none⟩) (encO x)) := (by rw [show (U.alloc (Obj.cells #[] 92)).drew.heap.size = U.heap.size + 1 from by simp]; exact (made_two U 92 92 #[] _ _ _).step (v' := .slice none 0 0) h2)
          clear h1 h2
          refine hK.out _ _ ?_ (fun hHeld2 => ?_)
          · exact HO3.out.below
          clear hK K hHeld
          have hHeld := hHeld2
          clear hHeld2
          change wpTill _ _ _ _ _ _ _ _ (Act.put _ (some 35) _) _
          simp only [Act.put, List.setIfInBounds_toArray, List.set_cons_zero, List.set_cons_succ]
          refine till_ready (rs := [11]) (by kernel_rfl) (by simp) ?_
          refine AllTill.cons rfl (fun K hK => ?_) AllTill.nil
          refine step_own roneEl (w0 := U) rfl (.tmp 35) (.tmp 37) rfl _ J AA (encO x) rfl (HO3.out) _ _ _ rfl HLV.out (HX3.out) OV.out (fun h => by cases h) (J + 1) rfl (by omega) (AA ++ encO x) rfl ?_
          intro a4 c4 w4 h1 h2
          have HO4 : Hid (OwnB 92 9 U w4 (.slice a4 (J + 1) c4) (J + 1) (AA ++ encO x)) := h1
          clear h1 h2 HO3
          refine hK.out _ _ ?_ (fun hHeld2 => ?_)
          · exact HO4.out.below
          clear hK K hHeld
          have hHeld := hHeld2
          clear hHeld2
          change wpTill _ _ _ _ _ _ _ _ (Act.put _ (some 38) _) _
          simp only [Act.put, List.setIfInBounds_toArray, List.set_cons_zero, List.set_cons_succ]
          refine till_ready (rs := [18]) (by kernel_rfl) (by simp) ?_
          refine AllTill.cons rfl (fun K hK => ?_) AllTill.nil
          refine step_own roneEl (w0 := U) rfl (.tmp 38) (.tmp 44) rfl _ (J + 1) (AA ++ encO x) BB rfl HO4.out _ _ _ rfl LB.out (S2.out _ HO4.out.below) O2.out N2.out (J + 1 + (N0 - J)) rfl (by omega) (AA ++ encO x ++ BB) rfl ?_
          intro a5 c5 w5 h1 h2
          have HO5 : Hid (OwnB 92 9 U w5 (.slice a5 (J + 1 + (N0 - J)) c5) (J + 1 + (N0 - J)) (AA ++ encO x ++ BB)) := h1
          clear h1 h2 HO4
          refine hK.out _ _ ?_ (fun hHeld2 => ?_)
          · exact HO5.out.below
          clear hK K hHeld
          have hHeld := hHeld2
          clear hHeld2
          change wpTill _ _ _ _ _ _ _ _ (Act.put _ (some 45) _) _
          simp only [Act.put, List.setIfInBounds_toArray, List.set_cons_zero, List.set_cons_succ]
          refine till_take (i := 19) (v := ?_) 20 (by kernel_rfl) (Or.inr (by kernel_rfl)) (by kernel_rfl) rfl (by kernel_rfl) (by kernel_rfl) (by kernel_rfl) (fun _ _ _ h => h) (Or.inl ⟨by rfl, ?_⟩) hHeld ?_
          rotate_left
          · intro u hSu
            (go_simp) <;> (with_reducible rfl)
          change wpTill _ _ _ _ _ _ _ _ (Act.put _ (some 46) _) _
          simp only [Act.put, List.setIfInBounds_toArray, List.set_cons_zero, List.set_cons_succ]
          refine till_take (i := 20) (v := ?_) 20 (by kernel_rfl) (Or.inl rfl) (by kernel_rfl) rfl (by kernel_rfl) (by kernel_rfl) (by kernel_rfl) (fun _ _ _ h => h) (Or.inl ⟨by rfl, ?_⟩) hHeld ?_
          rotate_left
          · intro u hSu
            (go_simp) <;> (with_reducible rfl)
          change wpTill _ _ _ _ _ _ _ _ (Act.put _ (some 47) _) _
          simp only [Act.put, List.setIfInBounds_toArray, List.set_cons_zero, List.set_cons_succ]
          refine till_last (by kernel_rfl) (by kernel_rfl) rfl (fun K hK => ?_)
          obtain ⟨q1, q5⟩ := HKU.out w5 HO5.out.below
          go_simp
          refine hK.out _ _ ?_
          refine NoPanic.normal ?_
          clear hK K hHeld q1 q5
          go_wp2
          go_returns
          exact ⟨rfl, HEND.out w5 a5 c5 HO5.out⟩
        refine AllTill.cons rfl (fun K hK => ?_) AllTill.nil
        refine step_build_rone rfl (.tmp 36) rfl x rfl ?_
        refine hK.out _ _ ?_ (fun hHeld2 => ?_)
        · exact hHeld.alloc hHeld.size _
        clear hK K hHeld
        have hHeld := hHeld2
        clear hHeld2
        change wpTill _ _ _ _ _ _ _ _ (Act.put _ (some 37) _) _
        simp only [Act.put, List.setIfInBounds_toArray, List.set_cons_zero, List.set_cons_succ]
        refine till_ready (rs := [1]) (by kernel_rfl) (by simp) ?_
        refine AllTill.cons rfl (fun K hK => ?_) AllTill.nil
        go_simp
        refine hK.out _ _ ?_ (fun hHeld2 => ?_)
        · exact hHeld.alloc hHeld.size _
        clear hK K hHeld
        have hHeld := hHeld2
        clear hHeld2
        refine till_ready (rs := [8]) (by kernel_rfl) (by simp) ?_
        refine AllTill.cons rfl (fun K hK => ?_) AllTill.nil
        refine step_own roneEl (w0 := U) rfl (.tmp 28) (.tmp 34) rfl _ 0 [] AA rfl (own_behind 92 9 U _) _ _ _ rfl LA.out (S1.out _ (own_behind 92 9 U _).below) O1.out N1.out J (Nat.zero_add _) (by omega) AA (List.nil_append _) ?_
        intro a3 c3 w3 h1 h2
        have HO3 : Hid (OwnB 92 9 U w3 (.slice a3 J c3) J AA) := h1
        have HX3 : Hid (Lies w3 (some ⟨U.heap.size, 0, none⟩) (encO x)) := (made_ahead U 92 92 #[] _ _ _).step (v' := .slice none 0 0) h2
        clear h1 h2
        refine hK.out _ _ ?_ (fun hHeld2 => ?_)
        · exact HO3.out.below
        clear hK K hHeld
        have hHeld := hHeld2
        clear hHeld2
        change wpTill _ _ _ _ _ _ _ _ (Act.put _ (some 35) _) _
        simp only [Act.put, List.setIfInBounds_toArray, List.set_cons_zero, List.set_cons_succ]
        refine till_ready (rs := [11]) (by kernel_rfl) (by simp) ?_
        refine AllTill.cons rfl (fun K hK => ?_) AllTill.nil
        refine step_own roneEl (w0 := U) rfl (.tmp 35) (.tmp 37) rfl _ J AA (encO x) rfl (HO3.out) _ _ _ rfl HLV.out (HX3.out) OV.out (fun h => by cases h) (J + 1) rfl (by omega) (AA ++ encO x) rfl ?_
        intro a4 c4 w4 h1 h2
        have HO4 : Hid (OwnB 92 9 U w4 (.slice a4 (J + 1) c4) (J + 1) (AA ++ encO x)) := h1
        clear h1 h2 HO3
        refine hK.out _ _ ?_ (fun hHeld2 => ?_)
        · exact HO4.out.below
        clear hK K hHeld
        have hHeld := hHeld2
        clear hHeld2
        change wpTill _ _ _ _ _ _ _ _ (Act.put _ (some 38) _) _
        simp only [Act.put, List.setIfInBounds_toArray, List.set_cons_zero, List.set_cons_succ]
        refine till_ready (rs := [18]) (by kernel_rfl) (by simp) ?_
        refine AllTill.cons rfl (fun K hK => ?_) AllTill.nil
        refine step_own roneEl (w0 := U) rfl (.tmp 38) (.tmp 44) rfl _ (J + 1) (AA ++ encO x) BB rfl HO4.out _ _ _ rfl LB.out (S2.out _ HO4.out.below) O2.out N2.out (J + 1 + (N0 - J)) rfl (by omega) (AA ++ encO x ++ BB) rfl ?_
        intro a5 c5 w5 h1 h2
        have HO5 : Hid (OwnB 92 9 U w5 (.slice a5 (J + 1 + (N0 - J)) c5) (J + 1 + (N0 - J)) (AA ++ encO x ++ BB)) := h1
        clear h1 h2 HO4
        refine hK.out _ _ ?_ (fun hHeld2 => ?_)
        · exact HO5.out.below
        clear hK K hHeld
        have hHeld := hHeld2
        clear hHeld2
        change wpTill _ _ _ _ _ _ _ _ (Act.put _ (some 45) _) _
        simp only [Act.put, List.setIfInBounds_toArray, List.set_cons_zero, List.set_cons_succ]
        refine till_take (i := 19) (v := ?_) 20 (by kernel_rfl) (Or.inr (by kernel_rfl)) (by kernel_rfl) rfl (by kernel_rfl) (by kernel_rfl) (by kernel_rfl) (fun _ _ _ h => h) (Or.inl ⟨by rfl, ?_⟩) hHeld ?_
        rotate_left
        · intro u hSu
          (go_simp) <;> (with_reducible rfl)
        change wpTill _ _ _ _ _ _ _ _ (Act.put _ (some 46) _) _
        simp only [Act.put, List.setIfInBounds_toArray, List.set_cons_zero, List.set_cons_succ]
        refine till_take (i := 20) (v := ?_) 20 (by kernel_rfl) (Or.inl rfl) (by kernel_rfl) rfl (by kernel_rfl) (by kernel_rfl) (by kernel_rfl) (fun _ _ _ h => h) (Or.inl ⟨by rfl, ?_⟩) hHeld ?_
        rotate_left
        · intro u hSu
          (go_simp) <;> (with_reducible rfl)
        change wpTill _ _ _ _ _ _ _ _ (Act.put _ (some 47) _) _
        simp only [Act.put, List.setIfInBounds_toArray, List.set_cons_zero, List.set_cons_succ]
        refine till_last (by kernel_rfl) (by kernel_rfl) rfl (fun K hK => ?_)
        obtain ⟨q1, q5⟩ := HKU.out w5 HO5.out.below
        go_simp
        refine hK.out _ _ ?_
        refine NoPanic.normal ?_
        clear hK K hHeld q1 q5
        go_wp2
        go_returns
        exact ⟨rfl, HEND.out w5 a5 c5 HO5.out⟩
    · obtain rfl : J = N0 := by omega
      have h2 : ¬ (J : Int) < (J : Int) := by omega
      have FQ : Hid (∀ u, Below wr.heap.size wr u → u.cell? ⟨q, 0, none⟩ = some (.slice a0 J c0)) := fun u hb => (HQQ.out u (HB.out.trans (hb.mono HB.out.size))).1
      have HE : Hid (decs (M.take J ++ x :: M.drop J) = layC (decs M) x.d) := layC_at ((tw_none (fun j z hz => by
        unfold decs at hz
        rw [List.getElem?_map] at hz
        cases hm : M[j]? with
        | none => rw [hm] at hz; cases hz
        | some m => rw [hm] at hz; injection hz with hz; rw [← hz]; exact decide_eq_true (HJ.out j m (by have := (List.getElem?_eq_some_iff.1 hm).1; have := HN0.out; omega) hm))).trans (by unfold decs; rw [List.length_map]; exact HN0.out))
      go_wp2
      refine wp_region_noPanic ?_
      refine wp_region_held_drew (S := fun u => Below wr.heap.size wr u) (by kernel_rfl) ?_ (fun hHeld => ?_)
      · exact (Below.refl _ _).drew
      refine wpAnyH_take (i := 0) (v := ?_) rfl (by kernel_rfl) (by kernel_rfl) (by kernel_rfl) (fun _ _ _ h => h) (Or.inl ⟨by rfl, ?_⟩) hHeld ?_
      rotate_left
      · intro u hSu
        (go_simp) <;> (with_reducible rfl)
      change wpAnyH _ _ _ _ _ _ _ (Act.put _ (some 5) _) _
      simp only [Act.put, List.setIfInBounds_toArray, List.set_cons_zero, List.set_cons_succ]
      refine wpAnyH_take (i := 1) (v := ?_) rfl (by kernel_rfl) (by kernel_rfl) (by kernel_rfl) (fun _ _ _ h => h) (Or.inl ⟨by rfl, ?_⟩) hHeld ?_
      rotate_left
      · intro u hSu
        (go_simp) <;> (with_reducible rfl)
      change wpAnyH _ _ _ _ _ _ _ (Act.put _ (some 6) _) _
      simp only [Act.put, List.setIfInBounds_toArray, List.set_cons_zero, List.set_cons_succ]
      refine wpAnyH_take (i := 2) (v := ?_) rfl (by kernel_rfl) (by kernel_rfl) (by kernel_rfl) (fun _ _ _ h => h) (Or.inl ⟨by rfl, ?_⟩) hHeld ?_
      rotate_left
      · intro u hSu
        (go_simp) <;> (with_reducible rfl)
      change wpAnyH _ _ _ _ _ _ _ (Act.put _ (some 7) _) _
      simp only [Act.put, List.setIfInBounds_toArray, List.set_cons_zero, List.set_cons_succ]
      refine wpAnyH_take (i := 3) (v := ?_) rfl (by kernel_rfl) (by kernel_rfl) (by kernel_rfl) (fun _ _ _ h => h) (Or.inl ⟨by rfl, ?_⟩) hHeld ?_
      rotate_left
      · intro u hSu
        (go_simp) <;> (with_reducible rfl)
      change wpAnyH _ _ _ _ _ _ _ (Act.put _ (some 8) _) _
      simp only [Act.put, List.setIfInBounds_toArray, List.set_cons_zero, List.set_cons_succ]
      refine wpAnyH_take (i := 4) (v := ?_) rfl (by kernel_rfl) (by kernel_rfl) (by kernel_rfl) (fun _ _ _ h => h) (Or.inl ⟨by rfl, ?_⟩) hHeld ?_
      rotate_left
      · intro u hSu
        have r0 := FQ.out u hSu
        (go_simp) <;> (with_reducible rfl)
      change wpAnyH _ _ _ _ _ _ _ (Act.put _ (some 9) _) _
      simp only [Act.put, List.setIfInBounds_toArray, List.set_cons_zero, List.set_cons_succ]
      refine wpAnyH_take (i := 5) (v := ?_) rfl (by kernel_rfl) (by kernel_rfl) (by kernel_rfl) (fun _ _ _ h => h) (Or.inl ⟨by rfl, ?_⟩) hHeld ?_
      rotate_left
      · intro u hSu
        (go_simp) <;> (with_reducible rfl)
      change wpAnyH _ _ _ _ _ _ _ (Act.put _ (some 10) _) _
      simp only [Act.put, List.setIfInBounds_toArray, List.set_cons_zero, List.set_cons_succ]
      refine wpAnyH_take (i := 6) (v := ?_) rfl (by kernel_rfl) (by kernel_rfl) (by kernel_rfl) (fun _ _ _ h => h) (Or.inl ⟨by rfl, ?_⟩) hHeld ?_
      rotate_left
      · intro u hSu
        (go_simp) <;> (with_reducible rfl)
      change wpAnyH _ _ _ _ _ _ _ (Act.put _ (some 11) _) _
      simp only [Act.put, List.setIfInBounds_toArray, List.set_cons_zero, List.set_cons_succ]
      refine wpAnyH_take (i := 7) (v := ?_) rfl (by kernel_rfl) (by kernel_rfl) (by kernel_rfl) (fun _ _ _ h => h) (Or.inl ⟨by rfl, ?_⟩) hHeld ?_
      rotate_left
      · intro u hSu
        (go_simp) <;> (with_reducible rfl)
      change wpAnyH _ _ _ _ _ _ _ (Act.put _ (some 12) _) _
      simp only [Act.put, List.setIfInBounds_toArray, List.set_cons_zero, List.set_cons_succ]
      refine wpAnyH_take (i := 8) (v := undef) rfl (by kernel_rfl) (by kernel_rfl) (by kernel_rfl) (fun _ _ _ h => h) (Or.inr ⟨by rfl, rfl⟩) hHeld ?_
      change wpAnyH _ _ _ _ _ _ _ (Act.put _ (some 13) _) _
      simp only [Act.put, List.setIfInBounds_toArray, List.set_cons_zero, List.set_cons_succ]
      refine wpAnyH_take (i := 9) (v := undef) rfl (by kernel_rfl) (by kernel_rfl) (by kernel_rfl) (fun _ _ _ h => h) (Or.inr ⟨by rfl, rfl⟩) hHeld ?_
      change wpAnyH _ _ _ _ _ _ _ (Act.put _ (some 14) _) _
      simp only [Act.put, List.setIfInBounds_toArray, List.set_cons_zero, List.set_cons_succ]
      refine wpAnyH_take (i := 10) (v := undef) rfl (by kernel_rfl) (by kernel_rfl) (by kernel_rfl) (fun _ _ _ h => h) (Or.inr ⟨by rfl, rfl⟩) hHeld ?_
      change wpAnyH _ _ _ _ _ _ _ (Act.put _ (some 15) _) _
      simp only [Act.put, List.setIfInBounds_toArray, List.set_cons_zero, List.set_cons_succ]
      refine wpAnyH_take (i := 11) (v := undef) rfl (by kernel_rfl) (by kernel_rfl) (by kernel_rfl) (fun _ _ _ h => h) (Or.inr ⟨by rfl, rfl⟩) hHeld ?_
      change wpAnyH _ _ _ _ _ _ _ (Act.put _ (some 16) _) _
      simp only [Act.put, List.setIfInBounds_toArray, List.set_cons_zero, List.set_cons_succ]
      refine wpAnyH_take (i := 12) (v := undef) rfl (by kernel_rfl) (by kernel_rfl) (by kernel_rfl) (fun _ _ _ h => h) (Or.inr ⟨by rfl, rfl⟩) hHeld ?_
      change wpAnyH _ _ _ _ _ _ _ (Act.put _ (some 17) _) _
      simp only [Act.put, List.setIfInBounds_toArray, List.set_cons_zero, List.set_cons_succ]
      refine wpAnyH_take (i := 13) (v := undef) rfl (by kernel_rfl) (by kernel_rfl) (by kernel_rfl) (fun _ _ _ h => h) (Or.inr ⟨by rfl, rfl⟩) hHeld ?_
      change wpAnyH _ _ _ _ _ _ _ (Act.put _ (some 18) _) _
      simp only [Act.put, List.setIfInBounds_toArray, List.set_cons_zero, List.set_cons_succ]
      refine wpAnyH_take (i := 14) (v := undef) rfl (by kernel_rfl) (by kernel_rfl) (by kernel_rfl) (fun _ _ _ h => h) (Or.inr ⟨by rfl, rfl⟩) hHeld ?_
      change wpAnyH _ _ _ _ _ _ _ (Act.put _ (some 19) _) _
      simp only [Act.put, List.setIfInBounds_toArray, List.set_cons_zero, List.set_cons_succ]
      refine wpAnyH_take (i := 15) (v := undef) rfl (by kernel_rfl) (by kernel_rfl) (by kernel_rfl) (fun _ _ _ h => h) (Or.inr ⟨by rfl, rfl⟩) hHeld ?_
      change wpAnyH _ _ _ _ _ _ _ (Act.put _ (some 20) _) _
      simp only [Act.put, List.setIfInBounds_toArray, List.set_cons_zero, List.set_cons_succ]
      refine wpAnyH_take (i := 16) (v := undef) rfl (by kernel_rfl) (by kernel_rfl) (by kernel_rfl) (fun _ _ _ h => h) (Or.inr ⟨by rfl, rfl⟩) hHeld ?_
      change wpAnyH _ _ _ _ _ _ _ (Act.put _ (some 21) _) _
      simp only [Act.put, List.setIfInBounds_toArray, List.set_cons_zero, List.set_cons_succ]
      refine wpAnyH_take (i := 17) (v := undef) rfl (by kernel_rfl) (by kernel_rfl) (by kernel_rfl) (fun _ _ _ h => h) (Or.inr ⟨by rfl, rfl⟩) hHeld ?_
      change wpAnyH _ _ _ _ _ _ _ (Act.put _ (some 22) _) _
      simp only [Act.put, List.setIfInBounds_toArray, List.set_cons_zero, List.set_cons_succ]
      refine wpAnyH_take (i := 18) (v := undef) rfl (by kernel_rfl) (by kernel_rfl) (by kernel_rfl) (fun _ _ _ h => h) (Or.inr ⟨by rfl, rfl⟩) hHeld ?_
      change wpAnyH _ _ _ _ _ _ _ (Act.put _ (some 23) _) _
      simp only [Act.put, List.setIfInBounds_toArray, List.set_cons_zero, List.set_cons_succ]
      refine wpAnyH_take (i := 19) (v := ?_) rfl (by kernel_rfl) (by kernel_rfl) (by kernel_rfl) (fun _ _ _ h => h) (Or.inl ⟨by rfl, ?_⟩) hHeld ?_
      rotate_left
      · intro u hSu
        (go_simp) <;> (with_reducible rfl)
      change wpAnyH _ _ _ _ _ _ _ (Act.put _ (some 24) _) _
      simp only [Act.put, List.setIfInBounds_toArray, List.set_cons_zero, List.set_cons_succ]
      refine wpAnyH_done (by kernel_rfl) ?_ _
      refine NoPanic.normal ?_
      have HWB : Hid (Below W.heap.size W wr.drew) := HB.out.drew
      obtain ⟨U, hU⟩ : ∃ U, U = wr.drew := ⟨_, rfl⟩
      rw [← hU] at HWB ⊢
      clear hU FQ FBX  HB HJ
      have HKU : Hid (∀ u, Below U.heap.size U u → u.cell? ⟨q, 0, none⟩ = some (.slice a0 J c0) ∧ u.frozen? ⟨q, 0, none⟩ = false) := fun u hb => HQQ.out u (HWB.out.trans (hb.mono HWB.out.size))
      have FVV : Hid (∀ u, Below U.heap.size U u → u.rangeAt w.heap.size 0 (encO x)) := fun u hb => HBX.out u (HWB.out.trans (hb.mono HWB.out.size))
      have hsT : ∀ u, (Instr.slice 49 (.slice a0 J c0) none (some (.int .i64 (J : Int))) none).run Try.prog u = .ok (.slice a0 J c0) u := fun u => slice_onesT u _ HA0.out J c0 J (by omega) (fun e => (hnil e).1) (fun e => (hnil e).2)
      obtain ⟨A2, hA2⟩ : ∃ A2, A2 = dropO a0 c0 J := ⟨_, rfl⟩
      have hsL : ∀ u, (Instr.slice 49 (.slice a0 J c0) (some (.int .i64 (J : Int))) none none).run Try.prog u = .ok (.slice A2 0 (c0 - J)) u := fun u => by rw [hA2]; have q := slice_onesL u _ HA0.out J c0 J (by omega) hcap (fun e => (hnil e).1); rwa [Nat.sub_self] at q
      obtain ⟨AA, hAA⟩ : ∃ AA, AA = (M.take J).flatMap encO := ⟨_, rfl⟩
      obtain ⟨BB, hBB⟩ : ∃ BB, BB = (M.drop J).flatMap encO := ⟨_, rfl⟩
      have LA : Hid (AA.length = J * 9) := by show _ = _; rw [hAA, flat_len (enc := encO) (size := 9) _ (fun x hx => encO_len x), List.length_take, HN0.out]; omega
      have LB : Hid (BB.length = 0 * 9) := by show _ = _; rw [hBB, flat_len (enc := encO) (size := 9) _ (fun x hx => encO_len x), List.length_drop, HN0.out, Nat.sub_self]
      have HLV : Hid ((encO x).length = 1 * 9) := encO_len x
      have S1 : Hid (∀ u, Below U.heap.size U u → Lies u a0 AA) := fun u hb => by rw [hAA]; exact lies_takeO HA0.out (HLI.out u (HWB.out.trans (hb.mono HWB.out.size)))
      have S2 : Hid (∀ u, Below U.heap.size U u → Lies u A2 BB) := fun u hb => by rw [hBB, hA2]; exact lies_dropO HA0.out (HLI.out u (HWB.out.trans (hb.mono HWB.out.size))) (by rw [HN0.out]; exact hcap)
      have O1 : Hid (∀ u ∈ AA, u.oneCell' = true) := by rw [hAA]; exact encOs_one _
      have O2 : Hid (∀ u ∈ BB, u.oneCell' = true) := by rw [hBB]; exact encOs_one _
      have OV : Hid (∀ u ∈ encO x, u.oneCell' = true) := encO_one x
      have N1 : Hid (a0 = none → J = 0 ∧ c0 = 0) := fun e => ⟨by have := (hnil e).2; omega, (hnil e).1⟩
      have N2 : Hid (A2 = none → (0 : Nat) = 0 ∧ c0 - J = 0) := fun e => by
        have e' : a0 = none := dropO_none (by rw [← hA2]; exact e)
        have h1 := hnil e'; omega
      have HEND : Hid (∀ (w5 : World) (a5 : Option Addr) (c5 : Nat), OwnB 92 9 U w5 (.slice a5 (J + 1 + 0) c5) (J + 1 + 0) (AA ++ encO x ++ BB) → LayD w (w5.setCell ⟨q, 0, none⟩ (.slice a5 (J + 1 + 0) c5)) q B (layC (decs M) x.d) F) := fun w5 a5 c5 ho => by
        have he : AA ++ encO x ++ BB = (M.take J ++ x :: M.drop J).flatMap encO := by rw [hAA, hBB]; simp
        rw [he] at ho
        exact HLD.out U w5 J a5 c5 _ HWB.out HE.out ho (by rw [List.length_append, List.length_cons, List.length_take, List.length_drop, HN0.out]; omega)
      clear hAA hBB hA2
      go_wp2
      refine wp_region_noPanic ?_
      refine region_till 21 (fun u => Below U.heap.size U u) (by kernel_rfl) ?_ (fun hHeld => ?_)
      · exact (Below.refl _ _).drew
      refine till_take (i := 0) (v := ?_) 0 (by kernel_rfl) (Or.inl rfl) (by kernel_rfl) rfl (by kernel_rfl) (by kernel_rfl) (by kernel_rfl) (fun _ _ _ h => h) (Or.inl ⟨by rfl, ?_⟩) hHeld ?_
      rotate_left
      · intro u hSu
        (go_simp) <;> (with_reducible rfl)
      change wpTill _ _ _ _ _ _ _ _ (Act.put _ (some 27) _) _
      simp only [Act.put, List.setIfInBounds_toArray, List.set_cons_zero, List.set_cons_succ]
      refine till_take (i := 2) (v := ?_) 2 (by kernel_rfl) (Or.inl rfl) (by kernel_rfl) rfl (by kernel_rfl) (by kernel_rfl) (by kernel_rfl) (fun _ _ _ h => h) (Or.inl ⟨by rfl, ?_⟩) hHeld ?_
      rotate_left
      · intro u hSu
        (go_simp) <;> (with_reducible rfl)
      change wpTill _ _ _ _ _ _ _ _ (Act.put _ (some 29) _) _
      simp only [Act.put, List.setIfInBounds_toArray, List.set_cons_zero, List.set_cons_succ]
      refine till_take (i := 3) (v := ?_) 3 (by kernel_rfl) (Or.inl rfl) (by kernel_rfl) rfl (by kernel_rfl) (by kernel_rfl) (by kernel_rfl) (fun _ _ _ h => h) (Or.inl ⟨by rfl, ?_⟩) hHeld ?_
      rotate_left
      · intro u hSu
        (go_simp) <;> (with_reducible rfl)
      change wpTill _ _ _ _ _ _ _ _ (Act.put _ (some 30) _) _
      simp only [Act.put, List.setIfInBounds_toArray, List.set_cons_zero, List.set_cons_succ]
      refine till_take (i := 4) (v := ?_) 4 (by kernel_rfl) (Or.inl rfl) (by kernel_rfl) rfl (by kernel_rfl) (by kernel_rfl) (by kernel_rfl) (fun _ _ _ h => h) (Or.inl ⟨by rfl, ?_⟩) hHeld ?_
      rotate_left
      · intro u hSu
        (go_simp) <;> (with_reducible rfl)
      change wpTill _ _ _ _ _ _ _ _ (Act.put _ (some 31) _) _
      simp only [Act.put, List.setIfInBounds_toArray, List.set_cons_zero, List.set_cons_succ]
      refine till_take (i := 5) (v := ?_) 5 (by kernel_rfl) (Or.inl rfl) (by kernel_rfl) rfl (by kernel_rfl) (by kernel_rfl) (by kernel_rfl) (fun _ _ _ h => h) (Or.inl ⟨by rfl, ?_⟩) hHeld ?_
      rotate_left
      · intro u hSu
        obtain ⟨q1, q5⟩ := HKU.out u hSu
        (go_simp) <;> (with_reducible rfl)
      change wpTill _ _ _ _ _ _ _ _ (Act.put _ (some 32) _) _
      simp only [Act.put, List.setIfInBounds_toArray, List.set_cons_zero, List.set_cons_succ]
      refine till_take (i := 6) (v := ?_) 6 (by kernel_rfl) (Or.inl rfl) (by kernel_rfl) rfl (by kernel_rfl) (by kernel_rfl) (by kernel_rfl) (fun _ _ _ h => h) (Or.inl ⟨by rfl, ?_⟩) hHeld ?_
      rotate_left
      · intro u hSu
        (go_simp) <;> (with_reducible rfl)
      change wpTill _ _ _ _ _ _ _ _ (Act.put _ (some 33) _) _
      simp only [Act.put, List.setIfInBounds_toArray, List.set_cons_zero, List.set_cons_succ]
      refine till_take (i := 7) (v := ?_) 7 (by kernel_rfl) (Or.inl rfl) (by kernel_rfl) rfl (by kernel_rfl) (by kernel_rfl) (by kernel_rfl) (fun _ _ _ h => h) (Or.inl ⟨by rfl, ?_⟩) hHeld ?_
      rotate_left
      · intro u hSu
        have q := hsT u
        (go_simp) <;> (with_reducible rfl)
      change wpTill _ _ _ _ _ _ _ _ (Act.put _ (some 34) _) _
      simp only [Act.put, List.setIfInBounds_toArray, List.set_cons_zero, List.set_cons_succ]
      refine till_take (i := 9) (v := ov x) 9 (by kernel_rfl) (Or.inl rfl) (by kernel_rfl) rfl (by kernel_rfl) (by kernel_rfl) (by kernel_rfl) (fun _ _ _ h => h) (yieldsIf_load_mid (by rfl) _ _ rfl _ _ rfl (encO x) _ (fun u hu => FVV.out u hu) Try.underlying92 rfl (by rw [info_rone, encO_len])) hHeld ?_
      change wpTill _ _ _ _ _ _ _ _ (Act.put _ (some 36) _) _
      simp only [Act.put, List.setIfInBounds_toArray, List.set_cons_zero, List.set_cons_succ]
      refine till_take (i := 12) (v := ?_) 12 (by kernel_rfl) (Or.inl rfl) (by kernel_rfl) rfl (by kernel_rfl) (by kernel_rfl) (by kernel_rfl) (fun _ _ _ h => h) (Or.inl ⟨by rfl, ?_⟩) hHeld ?_
      rotate_left
      · intro u hSu
        (go_simp) <;> (with_reducible rfl)
      change wpTill _ _ _ _ _ _ _ _ (Act.put _ (some 39) _) _
      simp only [Act.put, List.setIfInBounds_toArray, List.set_cons_zero, List.set_cons_succ]
      refine till_take (i := 13) (v := ?_) 13 (by kernel_rfl) (Or.inl rfl) (by kernel_rfl) rfl (by kernel_rfl) (by kernel_rfl) (by kernel_rfl) (fun _ _ _ h => h) (Or.inl ⟨by rfl, ?_⟩) hHeld ?_
      rotate_left
      · intro u hSu
        (go_simp) <;> (with_reducible rfl)
      change wpTill _ _ _ _ _ _ _ _ (Act.put _ (some 40) _) _
      simp only [Act.put, List.setIfInBounds_toArray, List.set_cons_zero, List.set_cons_succ]
      refine till_take (i := 14) (v := ?_) 14 (by kernel_rfl) (Or.inl rfl) (by kernel_rfl) rfl (by kernel_rfl) (by kernel_rfl) (by kernel_rfl) (fun _ _ _ h => h) (Or.inl ⟨by rfl, ?_⟩) hHeld ?_
      rotate_left
      · intro u hSu
        (go_simp) <;> (with_reducible rfl)
      change wpTill _ _ _ _ _ _ _ _ (Act.put _ (some 41) _) _
      simp only [Act.put, List.setIfInBounds_toArray, List.set_cons_zero, List.set_cons_succ]
      refine till_take (i := 15) (v := ?_) 15 (by kernel_rfl) (Or.inl rfl) (by kernel_rfl) rfl (by kernel_rfl) (by kernel_rfl) (by kernel_rfl) (fun _ _ _ h => h) (Or.inl ⟨by rfl, ?_⟩) hHeld ?_
      rotate_left
      · intro u hSu
        obtain ⟨q1, q5⟩ := HKU.out u hSu
        (go_simp) <;> (with_reducible rfl)
      change wpTill _ _ _ _ _ _ _ _ (Act.put _ (some 42) _) _
      simp only [Act.put, List.setIfInBounds_toArray, List.set_cons_zero, List.set_cons_succ]
      refine till_take (i := 16) (v := ?_) 16 (by kernel_rfl) (Or.inl rfl) (by kernel_rfl) rfl (by kernel_rfl) (by kernel_rfl) (by kernel_rfl) (fun _ _ _ h => h) (Or.inl ⟨by rfl, ?_⟩) hHeld ?_
      rotate_left
      · intro u hSu
        (go_simp) <;> (with_reducible rfl)
      change wpTill _ _ _ _ _ _ _ _ (Act.put _ (some 43) _) _
      simp only [Act.put, List.setIfInBounds_toArray, List.set_cons_zero, List.set_cons_succ]
      refine till_take (i := 17) (v := ?_) 17 (by kernel_rfl) (Or.inl rfl) (by kernel_rfl) rfl (by kernel_rfl) (by kernel_rfl) (by kernel_rfl) (fun _ _ _ h => h) (Or.inl ⟨by rfl, ?_⟩) hHeld ?_
      rotate_left
      · intro u hSu
        have q := hsL u
        (go_simp) <;> (with_reducible rfl)
      change wpTill _ _ _ _ _ _ _ _ (Act.put _ (some 44) _) _
      simp only [Act.put, List.setIfInBounds_toArray, List.set_cons_zero, List.set_cons_succ]
      refine till_ready (rs := [1, 10]) (by kernel_rfl) (by simp) ?_
      refine AllTill.cons rfl (fun K hK => ?_) ?_
      · go_simp
        refine hK.out _ _ ?_ (fun hHeld2 => ?_)
        · exact hHeld.alloc hHeld.size _
        clear hK K hHeld
        have hHeld := hHeld2
        clear hHeld2
        refine till_ready (rs := [8, 10]) (by kernel_rfl) (by simp) ?_
        refine AllTill.cons rfl (fun K hK => ?_) ?_
        · refine step_own roneEl (w0 := U) rfl (.tmp 28) (.tmp 34) rfl _ 0 [] AA rfl (own_one 92 9 U) _ _ _ rfl LA.out (S1.out _ (own_one 92 9 U).below) O1.out N1.out J (Nat.zero_add _) (by omega) AA (List.nil_append _) ?_
          intro a3 c3 w3 h1 h2
          have HO3 : Hid (OwnB 92 9 U w3 (.slice a3 J c3) J AA) := h1
          clear h1 h2
          refine hK.out _ _ ?_ (fun hHeld2 => ?_)
          · exact HO3.out.below
          clear hK K hHeld
          have hHeld := hHeld2
          clear hHeld2
          change wpTill _ _ _ _ _ _ _ _ (Act.put _ (some 35) _) _
          simp only [Act.put, List.setIfInBounds_toArray, List.set_cons_zero, List.set_cons_succ]
          refine till_ready (rs := [10]) (by kernel_rfl) (by simp) ?_
          refine AllTill.cons rfl (fun K hK => ?_) AllTill.nil
          refine step_build_rone rfl (.tmp 36) rfl x rfl ?_
          refine hK.out _ _ ?_ (fun hHeld2 => ?_)
          · exact hHeld.alloc hHeld.size _
          clear hK K hHeld
          have hHeld := hHeld2
          clear hHeld2
          change wpTill _ _ _ _ _ _ _ _ (Act.put _ (some 37) _) _
          simp only [Act.put, List.setIfInBounds_toArray, List.set_cons_zero, List.set_cons_succ]
          refine till_ready (rs := [11]) (by kernel_rfl) (by simp) ?_
          refine AllTill.cons rfl (fun K hK => ?_) AllTill.nil
          refine step_own roneEl (w0 := U) rfl (.tmp 35) (.tmp 37) rfl _ J AA (encO x) rfl (HO3.out.alloc _) _ _ _ rfl HLV.out (lies_made _ _ _) OV.out (fun h => by cases h) (J + 1) rfl (by omega) (AA ++ encO x) rfl ?_
          intro a4 c4 w4 h1 h2
          have HO4 : Hid (OwnB 92 9 U w4 (.slice a4 (J + 1) c4) (J + 1) (AA ++ encO x)) := h1
          clear h1 h2 HO3
          refine hK.out _ _ ?_ (fun hHeld2 => ?_)
          · exact HO4.out.below
          clear hK K hHeld
          have hHeld := hHeld2
          clear hHeld2
          change wpTill _ _ _ _ _ _ _ _ (Act.put _ (some 38) _) _
          simp only [Act.put, List.setIfInBounds_toArray, List.set_cons_zero, List.set_cons_succ]
          refine till_ready (rs := [18]) (by kernel_rfl) (by simp) ?_
          refine AllTill.cons rfl (fun K hK => ?_) AllTill.nil
          refine step_own roneEl (w0 := U) rfl (.tmp 38) (.tmp 44) rfl _ (J + 1) (AA ++ encO x) BB rfl HO4.out _ _ _ rfl LB.out (S2.out _ HO4.out.below) O2.out (fun e => ⟨rfl, (N2.out e).2⟩) (J + 1 + 0) rfl (by omega) (AA ++ encO x ++ BB) rfl ?_
          intro a5 c5 w5 h1 h2
          have HO5 : Hid (OwnB 92 9 U w5 (.slice a5 (J + 1 + 0) c5) (J + 1 + 0) (AA ++ encO x ++ BB)) := h1
          clear h1 h2 HO4
          refine hK.out _ _ ?_ (fun hHeld2 => ?_)
          · exact HO5.out.below
          clear hK K hHeld
          have hHeld := hHeld2
          clear hHeld2
          change wpTill _ _ _ _ _ _ _ _ (Act.put _ (some 45) _) _
          simp only [Act.put, List.setIfInBounds_toArray, List.set_cons_zero, List.set_cons_succ]
          refine till_take (i := 19) (v := ?_) 20 (by kernel_rfl) (Or.inr (by kernel_rfl)) (by kernel_rfl) rfl (by kernel_rfl) (by kernel_rfl) (by kernel_rfl) (fun _ _ _ h => h) (Or.inl ⟨by rfl, ?_⟩) hHeld ?_
          rotate_left
          · intro u hSu
            (go_simp) <;> (with_reducible rfl)
          change wpTill _ _ _ _ _ _ _ _ (Act.put _ (some 46) _) _
          simp only [Act.put, List.setIfInBounds_toArray, List.set_cons_zero, List.set_cons_succ]
          refine till_take (i := 20) (v := ?_) 20 (by kernel_rfl) (Or.inl rfl) (by kernel_rfl) rfl (by kernel_rfl) (by kernel_rfl) (by kernel_rfl) (fun _ _ _ h => h) (Or.inl ⟨by rfl, ?_⟩) hHeld ?_
          rotate_left
          · intro u hSu
            (go_simp) <;> (with_reducible rfl)
          change wpTill _ _ _ _ _ _ _ _ (Act.put _ (some 47) _) _
          simp only [Act.put, List.setIfInBounds_toArray, List.set_cons_zero, List.set_cons_succ]
          refine till_last (by kernel_rfl) (by kernel_rfl) rfl (fun K hK => ?_)
          obtain ⟨q1, q5⟩ := HKU.out w5 HO5.out.below
          go_simp
          refine hK.out _ _ ?_
          refine NoPanic.normal ?_
          clear hK K hHeld q1 q5
          go_wp2
          go_returns
          exact ⟨rfl, HEND.out w5 a5 c5 HO5.out⟩
        refine AllTill.cons rfl (fun K hK => ?_) AllTill.nil
        refine step_build_rone rfl (.tmp 36) rfl x rfl ?_
        refine hK.out _ _ ?_ (fun hHeld2 => ?_)
        · exact hHeld.alloc hHeld.size _
        clear hK K hHeld
        have hHeld := hHeld2
        clear hHeld2
        change wpTill _ _ _ _ _ _ _ _ (Act.put _ (some 37) _) _
        simp only [Act.put, List.setIfInBounds_toArray, List.set_cons_zero, List.set_cons_succ]
        refine till_ready (rs := [8]) (by kernel_rfl) (by simp) ?_
        refine AllTill.cons rfl (fun K hK => ?_) AllTill.nil
        refine step_own roneEl (w0 := U) rfl (.tmp 28) (.tmp 34) rfl _ 0 [] AA rfl (own_two 92 9 U _) _ _ _ rfl LA.out (S1.out _ (own_two 92 9 U _).below) O1.out N1.out J (Nat.zero_add _) (by omega) AA (List.nil_append _) ?_
        intro a3 c3 w3 h1 h2
        have HO3 : Hid (OwnB 92 9 U w3 (.slice a3 J c3) J AA) := h1
        have HX3 : Hid (Lies w3 (some ⟨(U.alloc (Obj.cells #[] 92)).drew.heap.size, 0, none⟩) (encO x)) := (by rw [show (U.alloc (Obj.cells #[] 92)).drew.heap.size = U.heap.size + 1 from by simp]; exact (made_two U 92 92 #[] _ _ _).step (v' := .slice none 0 0) h2)
        clear h1 h2
        refine hK.out _ _ ?_ (fun hHeld2 => ?_)
        · exact HO3.out.below
        clear hK K hHeld
        have hHeld := hHeld2
        clear hHeld2
        change wpTill _ _ _ _ _ _ _ _ (Act.put _ (some 35) _) _
        simp only [Act.put, List.setIfInBounds_toArray, List.set_cons_zero, List.set_cons_succ]
        refine till_ready (rs := [11]) (by kernel_rfl) (by simp) ?_
        refine AllTill.cons rfl (fun K hK => ?_) AllTill.nil
        refine step_own roneEl (w0 := U) rfl (.tmp 35) (.tmp 37) rfl _ J AA (encO x) rfl (HO3.out) _ _ _ rfl HLV.out (HX3.out) OV.out (fun h => by cases h) (J + 1) rfl (by omega) (AA ++ encO x) rfl ?_
        intro a4 c4 w4 h1 h2
        have HO4 : Hid (OwnB 92 9 U w4 (.slice a4 (J + 1) c4) (J + 1) (AA ++ encO x)) := h1
        clear h1 h2 HO3
        refine hK.out _ _ ?_ (fun hHeld2 => ?_)
        · exact HO4.out.below
        clear hK K hHeld
        have hHeld := hHeld2
        clear hHeld2
        change wpTill _ _ _ _ _ _ _ _ (Act.put _ (some 38) _) _
        simp only [Act.put, List.setIfInBounds_toArray, List.set_cons_zero, List.set_cons_succ]
        refine till_ready (rs := [18]) (by kernel_rfl) (by simp) ?_
        refine AllTill.cons rfl (fun K hK => ?_) AllTill.nil
        refine step_own roneEl (w0 := U) rfl (.tmp 38) (.tmp 44) rfl _ (J + 1) (AA ++ encO x) BB rfl HO4.out _ _ _ rfl LB.out (S2.out _ HO4.out.below) O2.out (fun e => ⟨rfl, (N2.out e).2⟩) (J + 1 + 0) rfl (by omega) (AA ++ encO x ++ BB) rfl ?_
        intro a5 c5 w5 h1 h2
        have HO5 : Hid (OwnB 92 9 U w5 (.slice a5 (J + 1 + 0) c5) (J + 1 + 0) (AA ++ encO x ++ BB)) := h1
        clear h1 h2 HO4
        refine hK.out _ _ ?_ (fun hHeld2 => ?_)
        · exact HO5.out.below
        clear hK K hHeld
        have hHeld := hHeld2
        clear hHeld2
        change wpTill _ _ _ _ _ _ _ _ (Act.put _ (some 45) _) _
        simp only [Act.put, List.setIfInBounds_toArray, List.set_cons_zero, List.set_cons_succ]
        refine till_take (i := 19) (v := ?_) 20 (by kernel_rfl) (Or.inr (by kernel_rfl)) (by kernel_rfl) rfl (by kernel_rfl) (by kernel_rfl) (by kernel_rfl) (fun _ _ _ h => h) (Or.inl ⟨by rfl, ?_⟩) hHeld ?_
        rotate_left
        · intro u hSu
          (go_simp) <;> (with_reducible rfl)
        change wpTill _ _ _ _ _ _ _ _ (Act.put _ (some 46) _) _
        simp only [Act.put, List.setIfInBounds_toArray, List.set_cons_zero, List.set_cons_succ]
        refine till_take (i := 20) (v := ?_) 20 (by kernel_rfl) (Or.inl rfl) (by kernel_rfl) rfl (by kernel_rfl) (by kernel_rfl) (by kernel_rfl) (fun _ _ _ h => h) (Or.inl ⟨by rfl, ?_⟩) hHeld ?_
        rotate_left
        · intro u hSu
          (go_simp) <;> (with_reducible rfl)
        change wpTill _ _ _ _ _ _ _ _ (Act.put _ (some 47) _) _
        simp only [Act.put, List.setIfInBounds_toArray, List.set_cons_zero, List.set_cons_succ]
        refine till_last (by kernel_rfl) (by kernel_rfl) rfl (fun K hK => ?_)
        obtain ⟨q1, q5⟩ := HKU.out w5 HO5.out.below
        go_simp
        refine hK.out _ _ ?_
        refine NoPanic.normal ?_
        clear hK K hHeld q1 q5
        go_wp2
        go_returns
        exact ⟨rfl, HEND.out w5 a5 c5 HO5.out⟩
      refine AllTill.cons rfl (fun K hK => ?_) AllTill.nil
      refine step_build_rone rfl (.tmp 36) rfl x rfl ?_
      refine hK.out _ _ ?_ (fun hHeld2 => ?_)
      · exact hHeld.alloc hHeld.size _
      clear hK K hHeld
      have hHeld := hHeld2
      clear hHeld2
      change wpTill _ _ _ _ _ _ _ _ (Act.put _ (some 37) _) _
      simp only [Act.put, List.setIfInBounds_toArray, List.set_cons_zero, List.set_cons_succ]
      refine till_ready (rs := [1]) (by kernel_rfl) (by simp) ?_
      refine AllTill.cons rfl (fun K hK => ?_) AllTill.nil
      go_simp
      refine hK.out _ _ ?_ (fun hHeld2 => ?_)
      · exact hHeld.alloc hHeld.size _
      clear hK K hHeld
      have hHeld := hHeld2
      clear hHeld2
      refine till_ready (rs := [8]) (by kernel_rfl) (by simp) ?_
      refine AllTill.cons rfl (fun K hK => ?_) AllTill.nil
      refine step_own roneEl (w0 := U) rfl (.tmp 28) (.tmp 34) rfl _ 0 [] AA rfl (own_behind 92 9 U _) _ _ _ rfl LA.out (S1.out _ (own_behind 92 9 U _).below) O1.out N1.out J (Nat.zero_add _) (by omega) AA (List.nil_append _) ?_
      intro a3 c3 w3 h1 h2
      have HO3 : Hid (OwnB 92 9 U w3 (.slice a3 J c3) J AA) := h1
      have HX3 : Hid (Lies w3 (some ⟨U.heap.size, 0, none⟩) (encO x)) := (made_ahead U 92 92 #[] _ _ _).step (v' := .slice none 0 0) h2
      clear h1 h2
      refine hK.out _ _ ?_ (fun hHeld2 => ?_)
      · exact HO3.out.below
      clear hK K hHeld
      have hHeld := hHeld2
      clear hHeld2
      change wpTill _ _ _ _ _ _ _ _ (Act.put _ (some 35) _) _
      simp only [Act.put, List.setIfInBounds_toArray, List.set_cons_zero, List.set_cons_succ]
      refine till_ready (rs := [11]) (by kernel_rfl) (by simp) ?_
      refine AllTill.cons rfl (fun K hK => ?_) AllTill.nil
      refine step_own roneEl (w0 := U) rfl (.tmp 35) (.tmp 37) rfl _ J AA (encO x) rfl (HO3.out) _ _ _ rfl HLV.out (HX3.out) OV.out (fun h => by cases h) (J + 1) rfl (by omega) (AA ++ encO x) rfl ?_
      intro a4 c4 w4 h1 h2
      have HO4 : Hid (OwnB 92 9 U w4 (.slice a4 (J + 1) c4) (J + 1) (AA ++ encO x)) := h1
      clear h1 h2 HO3
      refine hK.out _ _ ?_ (fun hHeld2 => ?_)
      · exact HO4.out.below
      clear hK K hHeld
      have hHeld := hHeld2
      clear hHeld2
      change wpTill _ _ _ _ _ _ _ _ (Act.put _ (some 38) _) _
      simp only [Act.put, List.setIfInBounds_toArray, List.set_cons_zero, List.set_cons_succ]
      refine till_ready (rs := [18]) (by kernel_rfl) (by simp) ?_
      refine AllTill.cons rfl (fun K hK => ?_) AllTill.nil
      refine step_own roneEl (w0 := U) rfl (.tmp 38) (.tmp 44) rfl _ (J + 1) (AA ++ encO x) BB rfl HO4.out _ _ _ rfl LB.out (S2.out _ HO4.out.below) O2.out (fun e => ⟨rfl, (N2.out e).2⟩) (J + 1 + 0) rfl (by omega) (AA ++ encO x ++ BB) rfl ?_
      intro a5 c5 w5 h1 h2
      have HO5 : Hid (OwnB 92 9 U w5 (.slice a5 (J + 1 + 0) c5) (J + 1 + 0) (AA ++ encO x ++ BB)) := h1
      clear h1 h2 HO4
      refine hK.out _ _ ?_ (fun hHeld2 => ?_)
      · exact HO5.out.below
      clear hK K hHeld
      have hHeld := hHeld2
      clear hHeld2
      change wpTill _ _ _ _ _ _ _ _ (Act.put _ (some 45) _) _
      simp only [Act.put, List.setIfInBounds_toArray, List.set_cons_zero, List.set_cons_succ]
      refine till_take (i := 19) (v := ?_) 20 (by kernel_rfl) (Or.inr (by kernel_rfl)) (by kernel_rfl) rfl (by kernel_rfl) (by kernel_rfl) (by kernel_rfl) (fun _ _ _ h => h) (Or.inl ⟨by rfl, ?_⟩) hHeld ?_
      rotate_left
      · intro u hSu
        (go_simp) <;> (with_reducible rfl)
      change wpTill _ _ _ _ _ _ _ _ (Act.put _ (some 46) _) _
      simp only [Act.put, List.setIfInBounds_toArray, List.set_cons_zero, List.set_cons_succ]
      refine till_take (i := 20) (v := ?_) 20 (by kernel_rfl) (Or.inl rfl) (by kernel_rfl) rfl (by kernel_rfl) (by kernel_rfl) (by kernel_rfl) (fun _ _ _ h => h) (Or.inl ⟨by rfl, ?_⟩) hHeld ?_
      rotate_left
      · intro u hSu
        (go_simp) <;> (with_reducible rfl)
      change wpTill _ _ _ _ _ _ _ _ (Act.put _ (some 47) _) _
      simp only [Act.put, List.setIfInBounds_toArray, List.set_cons_zero, List.set_cons_succ]
      refine till_last (by kernel_rfl) (by kernel_rfl) rfl (fun K hK => ?_)
      obtain ⟨q1, q5⟩ := HKU.out w5 HO5.out.below
      go_simp
      refine hK.out _ _ ?_
      refine NoPanic.normal ?_
      clear hK K hHeld q1 q5
      go_wp2
      go_returns
      exact ⟨rfl, HEND.out w5 a5 c5 HO5.out⟩
end Go.Proofs.Ytcppihpehipelaa
