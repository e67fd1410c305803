/-
  What the document's GetStore holds in memory while it reads.
-/
import Derived.Test.YtpnjcflfnoamoaaGreatAu39
import Derived.Test.YtpnjcflfnoamoaaGreatAu25
import Derived.Test.YtpnjcflfnoamoaaGreatRefCk1
import Derived.Test.YtpnjcflfnoamoaaGreatAu33
import Derived.Test.YtpnjcflfnoamoaaGreatAu29
import Derived.Maps.AppendAt
import Derived.Deep.Onto
namespace Go.Proofs.YtpnjcflfnoamoaaGreat
open Go.RowKit
set_option linter.unusedVariables false
set_option linter.unusedSimpArgs false

theorem run_append_els_at {t e : TypeId} {size bytes : Nat} (E : ElT t e size bytes) (w : World) (B : Nat) (v : Value) (n : Nat) (xs : List Value) (hown : w.ownsRow B e size v n xs) (sa : Addr) (m c : Nat) (news : List Value) (hl : news.length = m * size) (hsrc : Lies w (some sa) news) (h1 : ∀ u ∈ news, u.oneCell' = true) (hn : n + m ≤ 1000000) (hB : B ≤ w.heap.size) (ty : TypeId) :
    ∃ a' cap' w', (Builtin.append_ #[t, t] ty #[v, .slice (some sa) m c]).run Tryz.prog w = .ok (.slice a' (n + m) cap') w' ∧ w'.ownsRow B e size (.slice a' (n + m) cap') (n + m) (xs ++ news) ∧ w.grownBy w' v.ownBlock ∧ ((Value.slice a' (n + m) cap').ownBlock = v.ownBlock ∨ (Value.slice a' (n + m) cap').ownBlock = some w.heap.size) := by
  obtain ⟨i0, z, hi, hz0, hz1, hz2, hz3⟩ := E.info
  have hbig : (n + m) * bytes ≤ 140737488355328 := Nat.le_trans (Nat.mul_le_mul hn E.small) (by decide)
  obtain ⟨v', w', hrun, h2, h3, _, h4⟩ := run_append_own_at (P := Tryz.prog) w B t ty e i0 z size bytes E.ht hi hz0 hz1 hz2 hz3 E.pos v n xs hown sa m c news hl (hsrc sa rfl).2 h1 (by unfold maxLen; omega) hbig hB
  obtain ⟨a', cap', rfl⟩ := own_form h2
  exact ⟨a', cap', w', hrun, h2, h3, h4⟩
theorem step_append_els_at {t e : TypeId} {size bytes : Nat} (E : ElT t e size bytes) {w : World} {ops : Array Oper} {o : Oper} {a : Act} {K : Act → World → Prop} {Q : Exit → Act → World → Prop} {X : Prop} (B : Nat) (hB : B ≤ w.heap.size) (hgd : o.guard = none) (s x : Operand)
    (ho : o.op = .call { callee := .builtin .append, args := #[s, x], argTypes := #[t, t] })
    (v : Value) (n : Nat) (xs news : List Value) (hs : a.eval s = v) (hown : w.ownsRow B e size v n xs) (sa : Addr) (m c : Nat) (hx : a.eval x = .slice (some sa) m c) (hl : news.length = m * size) (hsrc : Lies w (some sa) news) (h1 : ∀ u ∈ news, u.oneCell' = true) (hn : n + m ≤ 1000000)
    (h : ∀ a' cap' w', w'.ownsRow B e size (.slice a' (n + m) cap') (n + m) (xs ++ news) → w.grownBy w' v.ownBlock → ((Value.slice a' (n + m) cap').ownBlock = v.ownBlock ∨ (Value.slice a' (n + m) cap').ownBlock = some w.heap.size) → K (a.put o.dst (.slice a' (n + m) cap')) w') :
    if Region.wanted o (yielded ops a.tmps) = true then Oper.wp Tryz.prog o a w K Q else X := by
  have hw : Region.wanted o (yielded ops a.tmps) = true := by simp [Region.wanted, hgd]
  rw [if_pos hw]
  obtain ⟨a', cap', w', hrun, h2, h3, h4⟩ := run_append_els_at E w B v n xs hown sa m c news hl hsrc h1 hn hB o.type
  unfold Oper.wp
  simp [execOp, ho, resolve, invoke, builtin, hs, hx, hrun, Result.andThen]
  exact h a' cap' w' h2 h3 h4
/-- A version of its key, its stamp, whether it is gone. -/
theorem run_build_v3 (w : World) (k : List Int) (t n : Int) (g : Bool) (hk : Ky k) : (Instr.build 67 #[(0, kv k), (1, .agg #[.int .i64 t, .int .u8 n]), (3, .bool g)]).run Tryz.prog w = .ok (vv ⟨k, t, n, [], g⟩) w := by
  have hl := kc_len hk
  have hf : Instr.fill (fun x => [(0, 16), (16, 2), (18, 1), (19, 1)][x]?) (encV zeroV).toArray [(0, kv k), (1, .agg #[.int .i64 t, .int .u8 n]), (3, .bool g)] = some (encV ⟨k, t, n, [], g⟩).toArray := by
    show Instr.fill (fun x => [(0, 16), (16, 2), (18, 1), (19, 1)][x]?) (encV zeroV).toArray [(0, .agg (kc k).toArray), (1, .agg [Value.int .i64 t, .int .u8 n].toArray), (3, .bool g)] = _
    rw [fill_step (fun x => [(0, 16), (16, 2), (18, 1), (19, 1)][x]?) (encV zeroV) 0 0 16 (kc k) rfl hl (by rw [enc_len zeroV_ky]; omega)]
    rw [fill_step (fun x => [(0, 16), (16, 2), (18, 1), (19, 1)][x]?) _ 1 16 2 [.int .i64 t, .int .u8 n] rfl rfl (by simp only [List.length_append, List.length_take, List.length_drop, hl, enc_len zeroV_ky]; omega)]
    rw [fill_cell (fun x => [(0, 16), (16, 2), (18, 1), (19, 1)][x]?) _ 3 19 (.bool g) rfl rfl (by simp only [List.length_append, List.length_take, List.length_drop, hl, enc_len zeroV_ky]; simp)]
    show some _ = some _
    congr 2
    have e1 : (encV zeroV).take 0 ++ kc k ++ (encV zeroV).drop (0 + 16) = kc k ++ [.int .i64 0, .int .u8 0, .string ⟨#[]⟩, .bool false] := rfl
    rw [e1, List.take_append, List.take_of_length_le (by omega), hl, Nat.sub_self, List.take_zero, List.append_nil, List.drop_append, List.drop_eq_nil_of_le (by omega), List.nil_append, hl]
    unfold encV
    rw [List.append_assoc, List.set_append_right _ _ (by omega), hl]
    rfl
  simp [Instr.build, run_underlying Tryz.underlying67]
  have hf2 : Instr.fill (fun x => [(0, 16), (16, 2), (18, 1), (19, 1)][x]?) (Value.agg #[.int .u8 0, .int .u8 0, .int .u8 0, .int .u8 0, .int .u8 0, .int .u8 0, .int .u8 0, .int .u8 0, .int .u8 0, .int .u8 0, .int .u8 0, .int .u8 0, .int .u8 0, .int .u8 0, .int .u8 0, .int .u8 0, .int .i64 0, .int .u8 0, .string ⟨#[]⟩, .bool false]).cells [(0, kv k), (1, .agg #[.int .i64 t, .int .u8 n]), (3, .bool g)] = some (encV ⟨k, t, n, [], g⟩).toArray := hf
  rw [hf2]
  rfl
theorem yieldsIf_build_v3 {ops : Array Oper} {S : World → Prop} {op : Oper} {a : Act} (hw : Region.wanted op (yielded ops a.tmps) = true) (x0 x1 x3 : Operand) (ho : op.op = .build 67 #[(0, x0), (1, x1), (3, x3)]) (k : List Int) (t n : Int) (g : Bool) (hk : Ky k) (h0 : a.eval x0 = kv k) (h1 : a.eval x1 = .agg #[.int .i64 t, .int .u8 n]) (h3 : a.eval x3 = .bool g) : YieldsIf Tryz.prog ops S op (vv ⟨k, t, n, [], g⟩) a :=
  .inl ⟨hw, fun w _ => by
    unfold execOp
    simp only [ho, List.map_toArray, List.map_cons, List.map_nil, h0, h1, h3, Sem.run_bind, run_build_v3 w k t n g hk, Result.andThen, Sem.run_pure]⟩
/-- Which blocks the reader, the store's box, the last key and the call's own boxes (F) are; what lies in them. -/
structure GS (W0 u : World) (B g q lb : Nat) (a : Option Addr) (cap : Nat) (zs : List Int) (k : Nat) (b : Bool) (M : List Ver) (K : List Int) (F : Foot) : Prop where
  rd : Rd u g a cap zs k b
  base : Rd W0 g a cap zs 0 false
  chg : Chg W0 u (fun j => j = g)
  q0 : W0.heap.size ≤ q
  q1 : q < B
  l0 : W0.heap.size ≤ lb
  l1 : lb < B
  ql : q ≠ lb
  bu : B ≤ u.heap.size
  list : ∃ la lc, u.cell? ⟨q, 0, none⟩ = some (.slice la M.length lc) ∧ u.ownsRow B 67 20 (.slice la M.length lc) M.length (M.flatMap encV) ∧ ∀ j, F j → (Value.slice la M.length lc).ownBlock ≠ some j
  free : u.frozen? ⟨q, 0, none⟩ = false
  last : KeyMine u lb 0 K
  oks : OkL M
  far : ∀ j, F j → B ≤ j ∧ j < u.heap.size
theorem GS.hg {W0 u : World} {B g q lb : Nat} {a : Option Addr} {cap : Nat} {zs : List Int} {k : Nat} {b : Bool} {M : List Ver} {K : List Int} {F : Foot} (h : GS W0 u B g q lb a cap zs k b M K F) : g < W0.heap.size := lt_of_cell h.base.c0
/-- The reader has read on. -/
theorem GS.turn {W0 u u' : World} {B g q lb : Nat} {a : Option Addr} {cap : Nat} {zs : List Int} {k k' : Nat} {b b' : Bool} {M : List Ver} {K : List Int} {F : Foot} (h : GS W0 u B g q lb a cap zs k b M K F) (hc : Chg u u' (fun j => j = g)) (hr : Rd u' g a cap zs k' b') : GS W0 u' B g q lb a cap zs k' b' M K F := by
  have hg := h.hg
  have hs := hc.size
  have h0 := h.q0; have h1 := h.q1; have h2 := h.l0; have h3 := h.l1; have h4 := h.bu
  obtain ⟨la, lc, c1, c2, c3⟩ := h.list
  have bq := hc.block q (by omega) (by omega)
  refine ⟨hr, h.base, h.chg.trans hc (fun _ _ x => x), h0, h1, h2, h3, h.ql, by omega, ⟨la, lc, (cell_of_block bq 0).1.trans c1, owns_stay c2 (fun r r1 r2 => hc.block r r2 (by omega)), c3⟩, (cell_of_block bq 0).2.trans h.free, h.last.chg hc (by omega), h.oks, fun j hj => ⟨(h.far j hj).1, by have := (h.far j hj).2; omega⟩⟩
theorem GS.past {W0 u u' : World} {B g q lb : Nat} {a : Option Addr} {cap : Nat} {zs : List Int} {k : Nat} {b : Bool} {M : List Ver} {K : List Int} {F : Foot} (h : GS W0 u B g q lb a cap zs k b M K F) (hb : Below u.heap.size u u') : GS W0 u' B g q lb a cap zs k b M K F := h.turn (Chg.of_below hb _) (h.rd.past hb)
/-- A box more. -/
theorem GS.new {W0 u : World} {B g q lb : Nat} {a : Option Addr} {cap : Nat} {zs : List Int} {k : Nat} {b : Bool} {M : List Ver} {K : List Int} {F : Foot} (h : GS W0 u B g q lb a cap zs k b M K F) (o : Obj) : GS W0 (u.alloc o) B g q lb a cap zs k b M K (fun j => F j ∨ j = u.heap.size) := by
  have h1 := h.past ((Below.refl _ _).alloc (Nat.le_refl _) o)
  obtain ⟨la, lc, c1, c2, c3⟩ := h.list
  obtain ⟨la', lc', d1, d2, d3⟩ := h1.list
  have e : la' = la ∧ lc' = lc := by
    have hq : q < u.heap.size := by have := h.q1; have := h.bu; omega
    have h2 : (u.alloc o).cell? ⟨q, 0, none⟩ = u.cell? ⟨q, 0, none⟩ := ((Below.refl u.heap.size u).alloc (Nat.le_refl _) o).cell (p := ⟨q, 0, none⟩) hq
    rw [h2, c1] at d1
    injection d1 with d1
    injection d1 with e1 e2 e3
    exact ⟨e1.symm, e3.symm⟩
  obtain ⟨rfl, rfl⟩ := e
  refine ⟨h1.rd, h1.base, h1.chg, h1.q0, h1.q1, h1.l0, h1.l1, h1.ql, h1.bu, ⟨la', lc', d1, d2, fun j hj => ?_⟩, h1.free, h1.last, h1.oks, fun j hj => ?_⟩
  · rcases hj with hj | rfl
    · exact d3 j hj
    · intro e
      have := (c2.lt _ e).2
      omega
  · rcases hj with hj | rfl
    · exact h1.far j hj
    · exact ⟨h.bu, by simp⟩
/-- Fewer boxes are told of. -/
theorem GS.less {W0 u : World} {B g q lb : Nat} {a : Option Addr} {cap : Nat} {zs : List Int} {k : Nat} {b : Bool} {M : List Ver} {K : List Int} {F G : Foot} (h : GS W0 u B g q lb a cap zs k b M K F) (hG : ∀ j, G j → F j) : GS W0 u B g q lb a cap zs k b M K G := by
  obtain ⟨la, lc, c1, c2, c3⟩ := h.list
  exact ⟨h.rd, h.base, h.chg, h.q0, h.q1, h.l0, h.l1, h.ql, h.bu, ⟨la, lc, c1, c2, fun j hj => c3 j (hG j hj)⟩, h.free, h.last, h.oks, fun j hj => h.far j (hG j hj)⟩
/-- A store into one of the boxes. -/
theorem GS.box {W0 u u' : World} {B g q lb : Nat} {a : Option Addr} {cap : Nat} {zs : List Int} {k : Nat} {b : Bool} {M : List Ver} {K : List Int} {F : Foot} (h : GS W0 u B g q lb a cap zs k b M K F) (hc : Chg u u' F) : GS W0 u' B g q lb a cap zs k b M K F := by
  have hg := h.hg
  have hs := hc.size
  have h0 := h.q0; have h1 := h.q1; have h2 := h.l0; have h3 := h.l1; have h4 := h.bu
  obtain ⟨la, lc, c1, c2, c3⟩ := h.list
  have nf : ∀ j, j < B → ¬ F j := fun j hj e => by have := (h.far j e).1; omega
  have bq := hc.block q (by omega) (nf q h1)
  have bg := hc.block g (by omega) (nf g (by omega))
  have cw : Chg W0 u' (fun j => j = g) := h.chg.trans hc (fun j hj e => absurd e (nf j (by omega)))
  refine ⟨h.base.as cw h.rd bg, h.base, cw, h0, h1, h2, h3, h.ql, by omega, ⟨la, lc, (cell_of_block bq 0).1.trans c1, ?_, c3⟩, (cell_of_block bq 0).2.trans h.free, h.last.chg hc (nf lb h3), h.oks, fun j hj => ⟨(h.far j hj).1, by have := (h.far j hj).2; omega⟩⟩
  refine ⟨c2.1, c2.2.imp id ?_⟩
  rintro ⟨r, cc, cur, e1, r1, r2, r3⟩
  refine ⟨r, cc, cur, e1, r1, (hc.block r (Array.getElem?_eq_some_iff.1 r2).1 (fun e => c3 r e (by rw [e1]; rfl))).trans r2, r3⟩
/-- Another last key. -/
theorem GS.key {W0 u : World} {B g q lb : Nat} {a : Option Addr} {cap : Nat} {zs : List Int} {k : Nat} {b : Bool} {M : List Ver} {K : List Int} {F : Foot} (h : GS W0 u B g q lb a cap zs k b M K F) {K' : List Int} (hk : Ky K') : GS W0 (u.setCells lb 0 (K'.map (Value.int .u8))) B g q lb a cap zs k b M K' F := by
  have hg := h.hg
  have hc := chg_cells lb (K'.map (Value.int .u8)) 0 u
  have hs := hc.size
  have h0 := h.q0; have h1 := h.q1; have h2 := h.l0; have h3 := h.l1; have h4 := h.bu; have h5 := h.ql
  obtain ⟨la, lc, c1, c2, c3⟩ := h.list
  have bq := hc.block q (by omega) (by omega)
  have bg := hc.block g (by omega) (by omega)
  have cw : Chg W0 (u.setCells lb 0 (K'.map (Value.int .u8))) (fun j => j = g) := h.chg.trans hc (fun j hj e => by omega)
  exact ⟨h.base.as cw h.rd bg, h.base, cw, h0, h1, h2, h3, h.ql, by omega, ⟨la, lc, (cell_of_block bq 0).1.trans c1, owns_stay c2 (fun r r1 r2 => hc.block r r2 (by omega)), c3⟩, (cell_of_block bq 0).2.trans h.free, h.last.store hk, h.oks, fun j hj => ⟨(h.far j hj).1, by have := (h.far j hj).2; omega⟩⟩
/-- A version more. -/
theorem GS.more {W0 u w4 : World} {B g q lb : Nat} {a : Option Addr} {cap : Nat} {zs : List Int} {k : Nat} {b : Bool} {M : List Ver} {K : List Int} {F : Foot} (h : GS W0 u B g q lb a cap zs k b M K F) {la la' : Option Addr} {lc lc' N : Nat} {V : Ver} (hcell : u.cell? ⟨q, 0, none⟩ = some (.slice la M.length lc)) (hown : u.ownsRow B 67 20 (.slice la M.length lc) M.length (M.flatMap encV)) (hc : Chg u w4 (fun j => (Value.slice la M.length lc).ownBlock = some j)) (hN : N = M.length + 1)
    (hrow : w4.ownsRow B 67 20 (.slice la' N lc') N ((M ++ [V]).flatMap encV)) (hat : ∀ j, (Value.slice la' N lc').ownBlock = some j → (Value.slice la M.length lc).ownBlock = some j ∨ u.heap.size ≤ j) (hV : VerOk V) : GS W0 (w4.setCell ⟨q, 0, none⟩ (.slice la' N lc')) B g q lb a cap zs k b (M ++ [V]) K F := by
  have hN2 : N = (M ++ [V]).length := by rw [hN]; simp
  subst hN2
  have hg := h.hg
  have h0 := h.q0; have h1 := h.q1; have h2 := h.l0; have h3 := h.l1; have h4 := h.bu; have h5 := h.ql
  obtain ⟨la0, lc0, c1, c2, c3⟩ := h.list
  rw [hcell] at c1
  injection c1 with c1
  injection c1 with e1 e2 e3
  subst e1 e3
  have hs := hc.size
  have nb : ∀ j, (Value.slice la M.length lc).ownBlock = some j → B ≤ j := fun j e => (hown.lt j e).1
  have c5 : Chg u (w4.setCell ⟨q, 0, none⟩ (.slice la' (M ++ [V]).length lc')) (fun j => (Value.slice la M.length lc).ownBlock = some j ∨ j = q) := (hc.mono (Y := fun j => (Value.slice la M.length lc).ownBlock = some j ∨ j = q) (fun _ _ x => .inl x)).trans (Chg.set (X := fun j => (Value.slice la M.length lc).ownBlock = some j ∨ j = q) w4 ⟨q, 0, none⟩ _ (.inr rfl)) (fun _ _ x => x)
  have bq := hc.block q (by omega) (fun e => by have := nb q e; omega)
  have bg := c5.block g (by omega) (fun e => e.elim (fun e => by have := nb g e; omega) (fun e => by omega))
  have cw : Chg W0 (w4.setCell ⟨q, 0, none⟩ (.slice la' (M ++ [V]).length lc')) (fun j => j = g) := h.chg.trans c5 (fun j hj e => by
    rcases e with e | e
    · have := nb j e; omega
    · omega)
  refine ⟨h.base.as cw h.rd bg, h.base, cw, h0, h1, h2, h3, h.ql, by rw [World.size_setCell]; omega, ⟨la', lc', World.cell?_setCell_same _ _ _ ((cell_of_block bq 0).1.trans hcell), owns_stay hrow (fun r r1 r2 => Below.heap_setCell _ _ _ r (fun e2 => by have e2 : r = q := e2; omega)), fun j hj e => ?_⟩, by rw [World.frozen?_setCell]; exact (cell_of_block bq 0).2.trans h.free, h.last.chg c5 (fun e => e.elim (fun e => by have := nb lb e; omega) (fun e => by omega)), fun X hX => ?_, fun j hj => ⟨(h.far j hj).1, by rw [World.size_setCell]; have := (h.far j hj).2; omega⟩⟩
  · rcases hat j e with e2 | e2
    · exact c3 j hj e2
    · have := (h.far j hj).2; omega
  · rcases List.mem_append.1 hX with e | e
    · exact h.oks X e
    · simp at e; rw [e]; exact hV
/-- A box of F stays when a version more is laid behind the others. -/
theorem GS.keeps {W0 u w4 : World} {B g q lb : Nat} {a : Option Addr} {cap : Nat} {zs : List Int} {k : Nat} {b : Bool} {M : List Ver} {K : List Int} {F : Foot} (h : GS W0 u B g q lb a cap zs k b M K F) {la : Option Addr} {lc : Nat} (hcell : u.cell? ⟨q, 0, none⟩ = some (.slice la M.length lc)) (hc : Chg u w4 (fun j => (Value.slice la M.length lc).ownBlock = some j)) (v : Value) : ∀ j, F j → (w4.setCell ⟨q, 0, none⟩ v).heap[j]? = u.heap[j]? := by
  intro j hj
  obtain ⟨la0, lc0, c1, c2, c3⟩ := h.list
  rw [hcell] at c1
  injection c1 with c1
  injection c1 with e1 e2 e3
  subst e1 e3
  have h1 := h.q1
  have h2 := h.far j hj
  rw [Below.heap_setCell _ _ _ j (fun e2 => by have e2 : j = q := e2; omega)]
  exact hc.block j h2.2 (c3 j hj)
/-- The store that was read. -/
theorem GS.store {W0 u : World} {B g q lb : Nat} {a : Option Addr} {cap : Nat} {zs : List Int} {k : Nat} {b : Bool} {M : List Ver} {K : List Int} {F : Foot} (h : GS W0 u B g q lb a cap zs k b M K F) {B0 : Nat} (hB : B0 ≤ q) (hf : M.length ≤ 1000000) : StoreR u B0 q M := by
  obtain ⟨la, lc, c1, c2, c3⟩ := h.list
  have h1 := h.q1; have h2 := h.bu
  exact ⟨by omega, hB, ⟨la, lc, c1, World.ownsRow.mono c2 (by omega), fun r e => by have := (c2.lt r e).1; omega⟩, h.free, h.oks, hf⟩
end Go.Proofs.YtpnjcflfnoamoaaGreat
