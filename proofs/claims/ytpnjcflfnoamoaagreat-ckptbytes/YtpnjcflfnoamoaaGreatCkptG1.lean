/-
  The landed ckpt: getVersion, getChain.
-/
import Derived.Test.YtpnjcflfnoamoaaGreatAu39
import Derived.Test.YtpnjcflfnoamoaaGreatAu32
import Derived.Test.YtpnjcflfnoamoaaGreatAu33
import Derived.Test.YtpnjcflfnoamoaaGreatStB
import Derived.Test.YtpnjcflfnoamoaaGreatStA
import Derived.Test.YtpnjcflfnoamoaaGreatAu24
import Derived.Test.YtpnjcflfnoamoaaGreatAu29
import Derived.Deep.DeepCutAuto
namespace Go.Proofs.YtpnjcflfnoamoaaGreat
open Go.RowKit
set_option linter.unusedVariables false
set_option linter.unusedSimpArgs false

theorem step_store_wrt {ops : Array Oper} {o : Oper} {a : Act} {w : World} {K : Act → World → Prop} {Q : Exit → Act → World → Prop} {X : Prop} (hgd : o.guard = none) (x y : Operand) (ho : o.op = .store 95 x y)
    (b o' : Nat) (W W' : Wrt) (hx : a.eval x = .pointer (some ⟨b, o', none⟩)) (hy : a.eval y = wv W') (hk : Ky W'.k) (hat : WrtMine w b o' W)
    (h : ∀ u, u = w.setCells b o' (encW W') → K (a.put o.dst undef) u) : if Region.wanted o (yielded ops a.tmps) = true then Oper.wp Tryz.prog o a w K Q else X := by
  have hw : Region.wanted o (yielded ops a.tmps) = true := by simp [Region.wanted, hgd]
  rw [if_pos hw]
  have hl : (encW W').toArray.size = 18 := by simp [encW_len hk]
  exact wp_store_mid 95 x y ho b o' (encW W').toArray hx hy (by rw [hl]; exact hat.there) (by rw [info_wrt, hl]) (encW_all W') (h _ rfl)
theorem yieldsIf_build_w3 {ops : Array Oper} {S : World → Prop} {op : Oper} {a : Act} (hw : Region.wanted op (yielded ops a.tmps) = true) (x0 x2 : Operand) (ho : op.op = .build 95 #[(0, x0), (2, x2)]) (k : List Int) (g : Bool) (hk : Ky k) (h0 : a.eval x0 = kv k) (h2 : a.eval x2 = .bool g) : YieldsIf Tryz.prog ops S op (wv ⟨k, [], g⟩) a :=
  .inl ⟨hw, fun w _ => by
    unfold execOp
    simp only [ho, List.map_toArray, List.map_cons, List.map_nil, h0, h2, Sem.run_bind, run_build_w3 w k g hk, Result.andThen, Sem.run_pure]⟩
theorem wpList_build_ws1w (d : Tmp) {ops : Array Oper} {rest : List Oper} {op : Oper} {a : Act} {w : World} {Q : Exit → Act → World → Prop} (hd : op.dst = some d) (hw : Region.wanted op (yielded ops a.tmps) = true) (x : Operand) (ho : op.op = .buildSlice 43 1 #[(0, x)])
    (A : Wrt) (hA : Ky A.k) (ex : a.eval x = wv A)
    (h : wpList Tryz.prog ops Q rest (a.put op.dst (.slice (some ⟨w.heap.size, 0, none⟩) 1 1)) (w.alloc (.cells (encW A).toArray 95))) : wpList Tryz.prog ops Q (op :: rest) a w :=
  wpList_step fun K hK => by
    rw [if_pos hw]
    have hrun := run_build_ws1 w A hA
    unfold Oper.wp
    simp only [execOp, ho, List.map_toArray, List.map_cons, List.map_nil, ex, Sem.run_bind, hrun, Result.andThen]
    exact hK _ _ h
theorem KeyAt.keptG {u u' : World} {b : Nat} {k : List Int} (h : KeyAt u b 0 k) (hk : u'.heap[b]? = u.heap[b]?) : KeyAt u' b 0 k := ⟨fun j hj => (cell_of_block hk _).1.trans (h.cell j hj)⟩
/-- What a call of getVersion holds: the reader, the store, the boxes of the key (the first new one), of the stamp, of the write. -/
structure GV (w u : World) (g p q1 q2 : Nat) (k : List Int) (t n : Int) (W : Wrt) (zs : List Int) (b : Bool) (M : List Ver) (X : Foot) : Prop where
  lr : LR u g zs b
  chg : Chg w u (fun j => j = g)
  sto : StD u p M X
  key : KeyAt u w.heap.size 0 k
  s0 : u.cell? ⟨q1, 0, none⟩ = some (.int .i64 t)
  s1 : u.cell? ⟨q1, 1, none⟩ = some (.int .u8 n)
  mine : WrtMine u q2 0 W
  hq1 : w.heap.size < q1
  hq2 : w.heap.size < q2
  hne : q1 ≠ q2
  hg : g < w.heap.size
  hX : ∀ j, X j → g < j
theorem GV.turn {w u u' : World} {g p q1 q2 : Nat} {k : List Int} {t n : Int} {W : Wrt} {zs zs' : List Int} {b b' : Bool} {M : List Ver} {X : Foot} (h : GV w u g p q1 q2 k t n W zs b M X) (hc : Chg u u' (fun j => j = g)) (hl : LR u' g zs' b') : GV w u' g p q1 q2 k t n W zs' b' M X := by
  have hg := h.hg
  have h1 := h.hq1
  have h2 := h.hq2
  have bq := hc.block q1 (lt_of_cell h.s0) (by omega)
  exact ⟨hl, h.chg.trans hc (fun _ _ x => x), h.sto.kept hc.size (fun j hj => hc.block j (h.sto.lt j hj) (fun e => by have := h.hX j hj; omega)), h.key.keptG (hc.block _ h.key.lt (by omega)), (cell_of_block bq 0).1.trans h.s0, (cell_of_block bq 1).1.trans h.s1, h.mine.chg hc (by omega), h.hq1, h.hq2, h.hne, hg, h.hX⟩
/-- Something is stored into the write's box. -/
theorem GV.put {w u u' : World} {g p q1 q2 : Nat} {k : List Int} {t n : Int} {W W' : Wrt} {zs : List Int} {b : Bool} {M : List Ver} {X : Foot} (h : GV w u g p q1 q2 k t n W zs b M X) (hc : Chg u u' (fun j => j = q2)) (hXw : ∀ j, X j → j < w.heap.size) (hm : WrtMine u' q2 0 W') : GV w u' g p q1 q2 k t n W' zs b M X := by
  have hg := h.hg
  have h1 := h.hq1
  have h2 := h.hq2
  have h3 := h.hne
  have bq := hc.block q1 (lt_of_cell h.s0) (by omega)
  exact ⟨h.lr.above hc (fun j e => by omega), h.chg.trans hc (fun j hj e => by omega), h.sto.kept hc.size (fun j hj => hc.block j (h.sto.lt j hj) (fun e => by have := hXw j hj; omega)), h.key.keptG (hc.block _ h.key.lt (by omega)), (cell_of_block bq 0).1.trans h.s0, (cell_of_block bq 1).1.trans h.s1, hm, h1, h2, h3, hg, h.hX⟩
/-- What getVersion leaves. -/
structure GvR (w w' : World) (g p : Nat) (M : List Ver) (X : Foot) (k : List Int) (j i : Nat) (pv : Option (Int × Int)) (zs : List Int) (b r : Bool) : Prop where
  chg : Chg w w' (fun q => q = g ∨ X q)
  yes : r = true → goodK k = true ∧ ∃ (V : Ver) (zs' : List Int) (X' : Foot), Rds (verP k pv) (stL zs b) (some zs') V ∧ LR w' g zs' false ∧ StD w' p (M ++ [V]) X' ∧ (∀ q, X' q → X q ∨ w.heap.size ≤ q) ∧ CvS (M ++ [V]) k (j + 1) i (some (V.t, V.n))
  no : r = false → goodK k = false ∨ (stL zs b).bind (verP k pv) = none
theorem stL_bys {w : World} {g : Nat} {zs : List Int} {b : Bool} (h : LR w g zs b) : ∀ ys, stL zs b = some ys → Bys ys := fun ys e => by
  obtain ⟨a, c, h⟩ := h
  cases b with
  | true => cases e
  | false =>
    injection e with e
    subst e
    exact h.bytes
/-- What Apply leaves, held against what was read. -/
structure GvA (w u : World) (g p q1 : Nat) (k : List Int) (t n : Int) (zs : List Int) (b : Bool) (M : List Ver) (X X' : Foot) : Prop where
  lr : LR u g zs b
  chg : Chg w u (fun q => q = g ∨ X q)
  sto : StD u p M X'
  key : KeyAt u w.heap.size 0 k
  s0 : u.cell? ⟨q1, 0, none⟩ = some (.int .i64 t)
  s1 : u.cell? ⟨q1, 1, none⟩ = some (.int .u8 n)
  sub : ∀ q, X' q → X q ∨ w.heap.size ≤ q
theorem GvA.past {w u u' : World} {g p q1 : Nat} {k : List Int} {t n : Int} {zs : List Int} {b : Bool} {M : List Ver} {X X' : Foot} (h : GvA w u g p q1 k t n zs b M X X') (hb : Below u.heap.size u u') : GvA w u' g p q1 k t n zs b M X X' :=
  ⟨h.lr.past hb, h.chg.trans (Chg.of_below hb (fun q => q = g ∨ X q)) (fun _ _ x => x), h.sto.past hb, h.key.past hb, (hb.cell (p := ⟨q1, 0, none⟩) (cell_lt h.s0)).trans h.s0, (hb.cell (p := ⟨q1, 1, none⟩) (cell_lt h.s1)).trans h.s1, h.sub⟩
theorem GV.applied {w u u1 w' : World} {g p q1 q2 : Nat} {k : List Int} {t n : Int} {W : Wrt} {zs : List Int} {b : Bool} {M M' : List Ver} {X X' : Foot} (h : GV w u g p q1 q2 k t n W zs b M X) (hb : Below u.heap.size u u1) (hXw : ∀ j, X j → j < w.heap.size) (hs : StD w' p M' X') (hd : Did u1 w' X X') : GvA w w' g p q1 k t n zs b M' X X' := by
  have hg := h.hg
  have h1 := h.hq1
  have hlt := h.key.lt
  have lq := cell_lt h.s0
  have hu := hb.size
  have bk : ∀ j, w.heap.size ≤ j → j < u.heap.size → w'.heap[j]? = u.heap[j]? := fun j e1 e2 => (hd.chg.block j (by omega) (fun e => by have := hXw j e; omega)).trans (hb.block j e2)
  have lqn : q1 < u.heap.size := lq
  refine ⟨(h.lr.past hb).above hd.chg h.hX, ((h.chg.mono (Y := fun q => q = g ∨ X q) (fun _ _ e => .inl e)).trans (Chg.of_below hb (fun q => q = g ∨ X q)) (fun _ _ x => x)).trans hd.chg (fun _ _ x => .inr x), hs, h.key.keptG (bk _ (Nat.le_refl _) hlt), (cell_of_block (bk q1 (by omega) lqn) 0).1.trans h.s0, (cell_of_block (bk q1 (by omega) lqn) 1).1.trans h.s1, fun q e => ?_⟩
  rcases (hd.new q e).1 with e | e
  · exact .inl e
  · have := h.chg.size
    exact .inr (by omega)
theorem gv_made {w u : World} {g p : Nat} {k : List Int} {t n : Int} {zs : List Int} {b : Bool} {M : List Ver} {X : Foot} (hk : Ky k) (h : LR u g zs b) (hc : Chg (w.alloc (.cells (kcs k) 57)) u (fun j => j = g)) (hs : StD w p M X) (hg : g < w.heap.size) (hX : ∀ j, X j → g < j) (v : World) (q2 : Nat) (W : Wrt) (zs' : List Int) (b' : Bool) (hv : Chg (u.alloc (.cells #[.int .i64 t, .int .u8 n] 42)) v (fun j => j = g)) (hl : LR v g zs' b') (hm : WrtMine v q2 0 W) (hq : u.heap.size + 1 ≤ q2) : GV w v g p u.heap.size q2 k t n W zs' b' M X := by
  have hb : Below w.heap.size w (w.alloc (.cells (kcs k) 57)) := (Below.refl _ _).alloc (Nat.le_refl _) _
  have ha : Below u.heap.size u (u.alloc (.cells #[.int .i64 t, .int .u8 n] 42)) := (Below.refl _ _).alloc (Nat.le_refl _) _
  have s1 : (w.alloc (.cells (kcs k) 57)).heap.size = w.heap.size + 1 := World.size_alloc _ _
  have s2 : (u.alloc (.cells #[.int .i64 t, .int .u8 n] 42)).heap.size = u.heap.size + 1 := World.size_alloc _ _
  have hu := hc.size
  rw [s1] at hu
  have bl : ∀ j, j < u.heap.size → j ≠ g → v.heap[j]? = u.heap[j]? := fun j e1 e2 => (hv.block j (by omega) e2).trans (ha.block j e1)
  have hcw : Chg w v (fun j => j = g) := (((Chg.of_below hb (fun j => j = g)).trans hc (fun _ _ x => x)).trans (Chg.of_below ha (fun j => j = g)) (fun _ _ x => x)).trans hv (fun _ _ x => x)
  have c0 : (u.alloc (.cells #[.int .i64 t, .int .u8 n] 42)).cell? ⟨u.heap.size, 0, none⟩ = some (.int .i64 t) := by rw [World.cell?_alloc_new]; rfl
  have c1 : (u.alloc (.cells #[.int .i64 t, .int .u8 n] 42)).cell? ⟨u.heap.size, 1, none⟩ = some (.int .u8 n) := by rw [World.cell?_alloc_new]; rfl
  have bq := hv.block u.heap.size (by omega) (by omega)
  have kk : KeyAt u w.heap.size 0 k := (KeyAt.made w 57 k hk).keptG (hc.block _ (by omega) (by omega))
  refine ⟨hl, hcw, hs.kept hcw.size (fun j hj => hcw.block j (hs.lt j hj) (fun e => by have := hX j hj; omega)), kk.keptG (bl _ (by omega) (by omega)), (cell_of_block bq 0).1.trans c0, (cell_of_block bq 1).1.trans c1, hm, by omega, by omega, by omega, hg, hX⟩
theorem gv_end {w u : World} {g p q1 j i : Nat} {k zs zs1 zs2 zs3 v : List Int} {t n : Int} {b b1 b2 r gn : Bool} {pv : Option (Int × Int)} {M : List Ver} {X X' : Foot} (hcv : CvS M k j i pv) (hj : j < 50) (hi : i ≤ 200) (hz : ∀ ys, stL zs b = some ys → Bys ys) (D1 : Rds stampP (stL zs b) (stL zs1 b1) (t, n)) (D2 : Rds flagP (stL zs1 b1) (stL zs2 b2) gn) (D3 : Rds txtP (stL zs2 b2) (stL zs3 false) v)
    (hA : GvA w u g p q1 k t n zs3 false (applyV M t n [⟨k, v, gn⟩]).2 X X') (hr : r = true ↔ ((applyV M t n [⟨k, v, gn⟩]).1 = 0 ∧ newT (newestV (applyV M t n [⟨k, v, gn⟩]).2 k) = t ∧ newN (newestV (applyV M t n [⟨k, v, gn⟩]).2 k) = n)) : GvR w u g p M X k j i pv zs b r := by
  have hju := hcv.just (W := ⟨k, v, gn⟩) (t := t) (n := n) rfl hj hi
  refine ⟨hA.chg, fun e => ?_, fun e => ?_⟩
  · have h1 := hju.1 (hr.1 e)
    obtain ⟨a1, a2, a3⟩ := hcv.yes (W := ⟨k, v, gn⟩) rfl h1.1 h1.2 hj hi
    have hs := hA.sto
    rw [a1] at hs
    exact ⟨h1.1, _, zs3, X', (verL_rds hz D1 D2 D3).2 zs3 rfl h1.2, hA.lr, hs, hA.sub, a3⟩
  · cases hg : goodK k with
    | false => exact .inl rfl
    | true =>
      refine .inr ((verL_rds hz D1 D2 D3).1 (.inr ?_))
      cases hm : mayVer pv ⟨k, t, n, v, gn⟩ with
      | false => rfl
      | true =>
        have := hr.2 (hju.2 ⟨hg, hm⟩)
        rw [this] at e
        cases e
set_option maxHeartbeats 8000000 in
set_option maxRecDepth 8000 in
theorem lgetv_any (g p j i : Nat) (M : List Ver) (X : Foot) (k zs : List Int) (b : Bool) (pv : Option (Int × Int)) (w : World) (h : LR w g zs b) (hs : StD w p M X) (hX : ∀ q, X q → g < q) (hk : Ky k) (hv : CvS M k j i pv) (hj : j < 50) (hi : i ≤ 200) :
    Calls Tryz.prog 95 #[.pointer (some ⟨g, 0, none⟩), .pointer (some ⟨p, 0, none⟩), kv k] w fun e w' => ∃ r : Bool, e = .returned (.bool r) ∧ GvR w w' g p M X k j i pv zs b r := by
  have hg := h.lt
  have HG : Hid (g < w.heap.size) := hg
  have HXG : Hid (∀ q, X q → g < q) := hX
  have HXW : Hid (∀ q, X q → q < w.heap.size) := hs.lt
  have KY : Hid (Ky k) := hk
  have HCV : Hid (CvS M k j i pv ∧ j < 50 ∧ i ≤ 200) := ⟨hv, hj, hi⟩
  have HZ : Hid (∀ ys, stL zs b = some ys → Bys ys) := stL_bys h
  obtain ⟨U, hU⟩ : ∃ U, U = w.alloc (.cells (kcs k) 57) := ⟨_, rfl⟩
  have HU : Hid (w.alloc (.cells (kcs k) 57) = U) := hU.symm
  have hUb : Below w.heap.size w U := by rw [hU]; exact (Below.refl _ _).alloc (Nat.le_refl _) _
  have HL : Hid (LR U g zs b) := h.past hUb
  have HMK : Hid (∀ (u v : World) (t n : Int) (q2 : Nat) (W : Wrt) (zs1 zs' : List Int) (b1 b' : Bool), LR u g zs1 b1 → Chg U u (fun j => j = g) → Chg (u.alloc (.cells #[.int .i64 t, .int .u8 n] 42)) v (fun j => j = g) → LR v g zs' b' → WrtMine v q2 0 W → u.heap.size + 1 ≤ q2 → GV w v g p u.heap.size q2 k t n W zs' b' M X) := fun u v t n q2 W zs1 zs' b1 b' h1 h2 h3 h4 h5 h6 => by
    rw [hU] at h2
    exact gv_made hk h1 h2 hs hg hX v q2 W zs' b' h3 h4 h5 h6
  have HKU : Hid (KeyAt U w.heap.size 0 k) := by rw [hU]; exact KeyAt.made w 57 k hk
  have HSU : Hid (w.heap.size < U.heap.size) := HKU.out.lt
  clear h hs hX hv hj hi hU hUb hg
  go_enter Tryz.func95, Tryz.ntmps95
  go_upto_region 2 with (first | (go_at_call 108; rw [HU.out]; refine (lstamp_any g zs b _ HL.out).mono ?_; rintro e w1 ⟨t, n, rfl, ok, n0, n1, ⟨⟨zs1, b1, L1, C1, D1⟩⟩⟩; have H1 : Hid (LR w1 g zs1 b1 ∧ Chg U w1 (fun j => j = g)) := ⟨L1, C1⟩; have HD1 : Hid ((okS t ∧ 0 ≤ n ∧ n ≤ 255) ∧ Rds stampP (stL zs b) (stL zs1 b1) (t, n)) := ⟨⟨ok, n0, n1⟩, D1⟩; clear ok n0 n1 L1 C1 D1 HL))
  obtain ⟨B, hB⟩ : ∃ B, B = w1.alloc (.cells #[.int .i64 t, .int .u8 n] 42) := ⟨_, rfl⟩
  have hBb : Below w1.heap.size w1 B := by rw [hB]; exact (Below.refl _ _).alloc (Nat.le_refl _) _
  have HBS : Hid (B.heap.size = w1.heap.size + 1 ∧ w.heap.size < w1.heap.size) := ⟨by rw [hB]; exact World.size_alloc _ _, Nat.lt_of_lt_of_le HSU.out H1.out.2.size⟩
  have HLB : Hid (LR B g zs1 b1 ∧ LR B.drew g zs1 b1) := ⟨H1.out.1.past hBb, H1.out.1.past hBb.drew⟩
  have HMK2 : Hid (∀ (v : World) (q2 : Nat) (W : Wrt) (zs' : List Int) (b' : Bool), Chg B v (fun j => j = g) → LR v g zs' b' → WrtMine v q2 0 W → B.heap.size ≤ q2 → GV w v g p w1.heap.size q2 k t n W zs' b' M X) := fun v q2 W zs' b' h1 h2 h3 h4 => by
    rw [hB] at h1
    exact HMK.out w1 v t n q2 W zs1 zs' b1 b' H1.out.1 H1.out.2 h1 h2 h3 (by rw [← HBS.out.1]; exact h4)
  obtain ⟨GG, hGG⟩ : ∃ GG : Foot, GG = fun j => j = g := ⟨_, rfl⟩
  have HGS : Hid (∀ u u', Chg u u' (fun j => j = g) → Chg u u' GG) := fun u u' h => by rw [hGG]; exact h
  have FK : Hid (∀ u, Chg B u GG → KeyAt u w.heap.size 0 k) := fun u hu => by
    rw [hGG] at hu
    have h1 := H1.out.2
    have hk1 : KeyAt w1 w.heap.size 0 k := HKU.out.keptG (h1.block _ HSU.out (by have := HG.out; omega))
    exact (hk1.past hBb).keptG (hu.block _ (by have := HBS.out; omega) (by have := HG.out; omega))
  have HGB : Hid (g < B.heap.size ∧ g < w1.heap.size) := by have := HBS.out; have := HG.out; exact ⟨by omega, by omega⟩
  rw [← hB]
  clear hBb HMK HKU hGG hB
  go_cut [8] (fun pv2 wx => ∃ (q2 : Nat) (zs2 : List Int) (b2 gn : Bool), pv2 = .pointer (some ⟨q2, 0, none⟩) ∧ Hid (GV w wx g p w1.heap.size q2 k t n ⟨k, [], gn⟩ zs2 b2 M X) ∧ Hid (Rds flagP (stL zs1 b1) (stL zs2 b2) gn))
  case first =>
    refine wp_region_noPanic ?_
    refine region_till 5 (fun u => Chg B u GG) (by kernel_rfl) ?_ (fun hHeld => ?_)
    · exact (Chg.refl _ _).drew
    refine till_take (i := 0) (v := kv k) 3 (by kernel_rfl) (Or.inr (by kernel_rfl)) (by kernel_rfl) rfl (by kernel_rfl) (by kernel_rfl) (by kernel_rfl) (fun _ _ _ h => h) (yieldsIf_load_mid (by rfl) _ _ rfl _ _ rfl (k.map (Value.int .u8)) _ (fun u hu => (FK.out u hu).range KY.out) Tryz.underlying57 rfl (info_keyl k KY.out)) hHeld ?_
    change wpTill _ _ _ _ _ _ _ _ (Act.put _ (some 13) _) _
    simp only [Act.put, List.setIfInBounds_toArray, List.set_cons_zero, List.set_cons_succ]
    refine till_take (i := 1) (v := ?_) 2 (by kernel_rfl) (Or.inr (by kernel_rfl)) (by kernel_rfl) rfl (by kernel_rfl) (by kernel_rfl) (by kernel_rfl) (fun _ _ _ h => h) (Or.inl ⟨by rfl, ?_⟩) hHeld ?_
    rotate_left
    · intro u hSu
      (go_simp) <;> (with_reducible rfl)
    change wpTill _ _ _ _ _ _ _ _ (Act.put _ (some 14) _) _
    simp only [Act.put, List.setIfInBounds_toArray, List.set_cons_zero, List.set_cons_succ]
    refine till_ready (rs := [2, 4]) (by kernel_rfl) (by simp) ?_
    refine AllTill.cons rfl (fun K hK => ?_) ?_
    · go_simp
      go_at_call 109
      refine (lflag_any g zs1 b1 _ (HLB.out.2)).mono ?_
      rintro e y2 ⟨gn, rfl, ⟨⟨zs2, b2, L2, C2, D2⟩⟩⟩
      have P2 : Hid (Chg B y2 (fun j => j = g) ∧ LR y2 g zs2 b2) := ⟨⟨C2.os, C2.tape, C2.output, C2.size, C2.block⟩, L2⟩
      have HD2 : Hid (Rds flagP (stL zs1 b1) (stL zs2 b2) gn) := D2
      clear L2 C2 D2
      refine hK.out _ _ ?_ (fun hHeld2 => ?_)
      · exact HGS.out _ _ P2.out.1
      clear hK K hHeld
      have hHeld := hHeld2
      clear hHeld2
      refine till_take (i := 3) (v := wv ⟨k, [], gn⟩) 3 (by kernel_rfl) (Or.inl rfl) (by kernel_rfl) rfl (by kernel_rfl) (by kernel_rfl) (by kernel_rfl) (fun _ _ _ h => h) (yieldsIf_build_w3 (by rfl) (.tmp 13) (.tmp 15) rfl k gn KY.out rfl rfl) hHeld ?_
      change wpTill _ _ _ _ _ _ _ _ (Act.put _ (some 16) _) _
      simp only [Act.put, List.setIfInBounds_toArray, List.set_cons_zero, List.set_cons_succ]
      refine till_ready (rs := [4]) (by kernel_rfl) (by simp) ?_
      refine AllTill.cons rfl (fun K hK => ?_) AllTill.nil
      go_simp
      refine hK.out _ _ ?_ (fun hHeld2 => ?_)
      · exact hHeld.alloc _
      clear hK K hHeld
      have hHeld := hHeld2
      clear hHeld2
      refine till_last (by kernel_rfl) (by kernel_rfl) rfl (fun K hK => ?_)
      refine step_store_wrt rfl (.tmp 8) (.tmp 16) rfl (y2.heap.size) 0 zeroW ⟨k, [], gn⟩ rfl rfl KY.out (WrtMine.made y2 95 zeroW zeroW_ky) ?_
      intro u8 hu8
      have G9 : Hid (GV w u8 g p w1.heap.size (y2.heap.size) k t n ⟨k, [], gn⟩ zs2 b2 M X) := (by have hm := WrtMine.made y2 95 zeroW zeroW_ky; have c8 := chg_cells (y2.heap.size) (encW ⟨k, [], gn⟩) 0 (y2.alloc (.cells #[.int .u8 0, .int .u8 0, .int .u8 0, .int .u8 0, .int .u8 0, .int .u8 0, .int .u8 0, .int .u8 0, .int .u8 0, .int .u8 0, .int .u8 0, .int .u8 0, .int .u8 0, .int .u8 0, .int .u8 0, .int .u8 0, .string ⟨#[]⟩, .bool false] 95)); rw [← hu8] at c8; exact (HMK2.out (y2.alloc (.cells #[.int .u8 0, .int .u8 0, .int .u8 0, .int .u8 0, .int .u8 0, .int .u8 0, .int .u8 0, .int .u8 0, .int .u8 0, .int .u8 0, .int .u8 0, .int .u8 0, .int .u8 0, .int .u8 0, .int .u8 0, .int .u8 0, .string ⟨#[]⟩, .bool false] 95)) (y2.heap.size) zeroW zs2 b2 (P2.out.1.alloc _) (P2.out.2.past ((Below.refl _ _).alloc (Nat.le_refl _) _)) hm (P2.out.1.size)).put c8 HXW.out (by rw [hu8]; exact hm.store KY.out))
      clear hu8
      refine hK.out _ _ ?_
      refine NoPanic.normal ?_
      clear hK K hHeld
      go_wp2_with fail
      go_meet
      case rel => exact ⟨_, zs2, b2, gn, rfl, G9, HD2⟩
    refine AllTill.cons rfl (fun K hK => ?_) AllTill.nil
    go_simp
    refine hK.out _ _ ?_ (fun hHeld2 => ?_)
    · exact hHeld.alloc _
    clear hK K hHeld
    have hHeld := hHeld2
    clear hHeld2
    refine till_ready (rs := [2]) (by kernel_rfl) (by simp) ?_
    refine AllTill.cons rfl (fun K hK => ?_) AllTill.nil
    go_simp
    go_at_call 109
    refine (lflag_any g zs1 b1 _ (HLB.out.2.past ((Below.refl _ _).alloc (Nat.le_refl _) _))).mono ?_
    rintro e y2 ⟨gn, rfl, ⟨⟨zs2, b2, L2, C2, D2⟩⟩⟩
    have P2 : Hid (Chg B y2 (fun j => j = g) ∧ LR y2 g zs2 b2) := ⟨(Chg.of_below ((Below.refl _ _).drew.alloc (Nat.le_refl _) _) _).trans C2 (fun _ _ x => x), L2⟩
    have HD2 : Hid (Rds flagP (stL zs1 b1) (stL zs2 b2) gn) := D2
    have MV : Hid (WrtMine y2 B.heap.size 0 zeroW) := (WrtMine.made B.drew 95 zeroW zeroW_ky).chg C2 (by have := HGB.out.1; show ¬ B.heap.size = g; omega)
    clear L2 C2 D2
    refine hK.out _ _ ?_ (fun hHeld2 => ?_)
    · exact HGS.out _ _ P2.out.1
    clear hK K hHeld
    have hHeld := hHeld2
    clear hHeld2
    refine till_take (i := 3) (v := wv ⟨k, [], gn⟩) 3 (by kernel_rfl) (Or.inl rfl) (by kernel_rfl) rfl (by kernel_rfl) (by kernel_rfl) (by kernel_rfl) (fun _ _ _ h => h) (yieldsIf_build_w3 (by rfl) (.tmp 13) (.tmp 15) rfl k gn KY.out rfl rfl) hHeld ?_
    change wpTill _ _ _ _ _ _ _ _ (Act.put _ (some 16) _) _
    simp only [Act.put, List.setIfInBounds_toArray, List.set_cons_zero, List.set_cons_succ]
    refine till_last (by kernel_rfl) (by kernel_rfl) rfl (fun K hK => ?_)
    refine step_store_wrt rfl (.tmp 8) (.tmp 16) rfl (B.heap.size) 0 zeroW ⟨k, [], gn⟩ rfl rfl KY.out (MV.out) ?_
    intro u8 hu8
    have G9 : Hid (GV w u8 g p w1.heap.size (B.heap.size) k t n ⟨k, [], gn⟩ zs2 b2 M X) := (by have hm := MV.out; have c8 := chg_cells (B.heap.size) (encW ⟨k, [], gn⟩) 0 (y2); rw [← hu8] at c8; exact (HMK2.out (y2) (B.heap.size) zeroW zs2 b2 (P2.out.1) (P2.out.2) hm (Nat.le_refl _)).put c8 HXW.out (by rw [hu8]; exact hm.store KY.out))
    clear hu8
    refine hK.out _ _ ?_
    refine NoPanic.normal ?_
    clear hK K hHeld
    go_wp2_with fail
    go_meet
    case rel => exact ⟨_, zs2, b2, gn, rfl, G9, HD2⟩
  case rest =>
    obtain ⟨q2, zs2, b2, gn, rfl, G2, HD2⟩ := hcut
    have HGT : Hid (∀ (v : World) (zs3 : List Int) (b3 : Bool) (lv : List Int), LR v g zs3 b3 → Chg wc v (fun j => j = g) → GV w v g p w1.heap.size q2 k t n ⟨k, [], gn⟩ zs3 b3 M X) := fun v zs3 b3 lv h1 h2 => G2.out.turn h2 h1
    clear HMK2 HLB FK HGS
    go_upto_region 4 with (first | (have hgo := G2.out; clear hgo; go_at_call 110; refine (ltext_any g zs2 b2 _ G2.out.lr).mono ?_; rintro e y4 ⟨lv, rfl, lb, ll, ⟨⟨zs3, b3, L3, C3, D3⟩⟩⟩; have G3 : Hid (GV w y4 g p w1.heap.size q2 k t n ⟨k, [], gn⟩ zs3 b3 M X) := HGT.out y4 zs3 b3 lv L3 C3; have HD3 : Hid (Rds txtP (stL zs2 b2) (stL zs3 b3) lv ∧ Bys lv ∧ lv.length ≤ 200) := ⟨D3, lb, ll⟩; have c16 : y4.cell? ⟨q2, 16, none⟩ = some (.string (strOfNums [])) := (by have := (G3.out.mine.at_.cells G3.out.mine.key).1; rwa [Nat.zero_add] at this); have f16 : y4.frozen? ⟨q2, 16, none⟩ = false := (by have := G3.out.mine.free 16 (by omega); rwa [Nat.zero_add] at this); clear lb ll L3 C3 D3 G2 HGT))
    obtain ⟨y5, hy5⟩ : ∃ y5, y5 = y4.setCell ⟨q2, 16, none⟩ (.string (strOfNums lv)) := ⟨_, rfl⟩
    rw [← hy5]
    have G5 : Hid (GV w y5 g p w1.heap.size q2 k t n ⟨k, lv, gn⟩ zs3 b3 M X) := by
      have hc : Chg y4 y5 (fun j => j = q2) := by rw [hy5]; exact Chg.set y4 ⟨q2, 16, none⟩ _ rfl
      exact G3.out.put hc HXW.out (by rw [hy5]; exact G3.out.mine.setV lv)
    have s0 := G5.out.s0
    have s1 := G5.out.s1
    clear c16 f16 hy5 G3
    cases b3 with
    | true =>
      have HE : Hid (GvR w y5 g p M X k j i pv zs b false) := ⟨G5.out.chg.mono (fun _ _ e => .inl e), fun e => by (cases e), fun _ => .inr ((verL_rds HZ.out HD1.out.2 HD2.out HD3.out.1).1 (.inl rfl))⟩
      go_wp2_with (first | (have hgo := G5.out; clear hgo; go_at_call 69; refine (lbad_any g zs3 true _ G5.out.lr).mono ?_; rintro e u1 ⟨rfl, hu⟩; obtain rfl := hu.symm; clear hu))
      go_ret
      exact ⟨false, rfl, HE.out⟩
    | false =>
      have hWok : WrtOk ⟨k, lv, gn⟩ := ⟨KY.out, HD3.out.2.1, by have := HD3.out.2.2; show lv.length ≤ maxLen; unfold maxLen; omega⟩
      have hba : Below y5.heap.size y5 (y5.alloc (.cells (encW ⟨k, lv, gn⟩).toArray 95)) := (Below.refl _ _).alloc (Nat.le_refl _) _
      obtain ⟨AP, hAP⟩ : ∃ AP, AP = applyV M t n [⟨k, lv, gn⟩] := ⟨_, rfl⟩
      obtain ⟨E, hE⟩ : ∃ E, E = AP.1 := ⟨_, rfl⟩
      have CA : Hid (Calls Tryz.prog 16 #[.pointer (some ⟨p, 0, none⟩), .agg #[.int .i64 t, .int .u8 n], .slice (some ⟨y5.heap.size, 0, none⟩) 1 1] (y5.alloc (.cells (encW ⟨k, lv, gn⟩).toArray 95)) fun e w' => e = .returned (.int .i64 E) ∧ ∃ X', GvA w w' g p w1.heap.size k t n zs3 false AP.2 X X') := by
        have hwm := wrts_made y5 [⟨k, lv, gn⟩] (fun W hW => by rw [List.mem_singleton] at hW; rw [hW]; exact hWok)
        have e1 : ([⟨k, lv, gn⟩] : List Wrt).flatMap encW = encW ⟨k, lv, gn⟩ := by simp
        rw [e1] at hwm
        rw [hE, hAP]
        refine (sapply_any p M X t n ⟨HD1.out.1.2.1, HD1.out.1.2.2⟩ (some ⟨y5.heap.size, 0, none⟩) 1 1 [⟨k, lv, gn⟩] _ (G5.out.sto.past hba) rfl (Nat.le_refl _) (by omega) hwm (fun _ => ?_)).mono ?_
        · intro b o e hx
          injection e with e
          injection e with e
          have h1 := HXW.out _ hx
          have h2 := G5.out.key.lt
          omega
        · rintro e w' ⟨rfl, X', h1, h2⟩
          exact ⟨rfl, X', G5.out.applied hba HXW.out h1 h2⟩
      have HAP : Hid (AP = applyV M t n [⟨k, lv, gn⟩] ∧ E = AP.1) := ⟨hAP, hE⟩
      have HWK : Hid (WrtAt y5 q2 0 ⟨k, lv, gn⟩) := G5.out.mine.at_
      have HLR : Hid (LR y5 g zs3 false) := G5.out.lr
      obtain ⟨T, hT⟩ : ∃ T, T = newT (newestV AP.2 k) := ⟨_, rfl⟩
      obtain ⟨N, hN⟩ : ∃ N, N = newN (newestV AP.2 k) := ⟨_, rfl⟩
      obtain ⟨ok, hok⟩ : ∃ ok, ok = (newestV AP.2 k).isSome := ⟨_, rfl⟩
      obtain ⟨R, hR⟩ : ∃ R, R = decide (T = t ∧ N = n) := ⟨_, rfl⟩
      have CNW : Hid (∀ u X', GvA w u g p w1.heap.size k t n zs3 false AP.2 X X' → Calls Tryz.prog 111 #[.pointer (some ⟨p, 0, none⟩), kv k] u fun e w' => e = .returned (.tuple #[.agg #[.int .i64 T, .int .u8 N], .bool ok]) ∧ GvA w w' g p w1.heap.size k t n zs3 false AP.2 X X') := fun u X' h => by
        rw [hT, hN, hok]
        exact (snewest_any p AP.2 X' k KY.out u h.sto).mono (by rintro e w' ⟨rfl, hb⟩; exact ⟨rfl, h.past hb⟩)
      have HQ : ∀ u, (Op.equalIn 10000 42 (.agg #[.int .i64 T, .int .u8 N]) (.agg #[.int .i64 t, .int .u8 n])).run Tryz.prog u = .ok R u := fun u => by rw [hR]; exact eq_stm u _ _ _ _
      have HTN : Hid (T = newT (newestV AP.2 k) ∧ N = newN (newestV AP.2 k)) := ⟨hT, hN⟩
      have HR : Hid (R = decide (T = t ∧ N = n)) := hR
      have HEND : Hid (∀ u X' r, GvA w u g p w1.heap.size k t n zs3 false AP.2 X X' → (r = true ↔ (E = 0 ∧ T = t ∧ N = n)) → GvR w u g p M X k j i pv zs b r) := fun u X' r h1 h2 => by
        have ha := HAP.out
        rw [ha.2, HTN.out.1, HTN.out.2] at h2
        rw [ha.1] at h1 h2
        exact gv_end HCV.out.1 HCV.out.2.1 HCV.out.2.2 HZ.out HD1.out.2 HD2.out HD3.out.1 h1 h2
      clear hba hAP hE hT hN hok hR hWok HAP HTN HXG HXW HCV HZ HD1 HD2 HD3 G5 H1 HBS HGB HU
      go_wp2_with (first
        | (have hgo := HNA.out; clear hgo; (with_reducible show wpList _ _ _ (Oper.mk (some 32) _ _ _ _ _ :: _) _ _); refine wpList_load_keyN 32 (by rfl) (by rfl) _ (by rfl) w.heap.size 0 (by rfl) k KY.out HNA.out.key ?_)
        | (have hgo := HNA.out; clear hgo; go_at_call 111; refine (CNW.out _ _ HNA.out).mono ?_; rintro e w7 ⟨rfl, h7⟩; have H7 : Hid (GvA w (w7.alloc (.cells #[.int .i64 T, .int .u8 N] 42)) g p w1.heap.size k t n zs3 false AP.2 X X6) := h7.past ((Below.refl _ _).alloc (Nat.le_refl _) _); have z0 := H7.out.s0; have z1 := H7.out.s1; clear h7 HNA)
        | (have hgo := CA.out; clear hgo; go_at_call 16; refine CA.out.mono ?_; rintro e w6 ⟨rfl, X6, h6⟩; have HNA : Hid (GvA w w6 g p w1.heap.size k t n zs3 false AP.2 X X6) := h6; clear h6 CA s0 s1)
        | ((with_reducible show wpList _ _ _ (Oper.mk (some 26) _ _ _ _ _ :: _) _ _); refine wpList_build_ws1w 26 (by rfl) (by rfl) (.tmp 25) (by rfl) ⟨k, lv, gn⟩ KY.out (by rfl) ?_)
        | ((with_reducible show wpList _ _ _ (Oper.mk (some 25) _ _ _ _ _ :: _) _ _); refine wpList_load_wrt 25 (by rfl) (by rfl) _ (by rfl) q2 0 (by rfl) ⟨k, lv, gn⟩ KY.out HWK.out ?_)
        | (have hgo := HLR.out; clear hgo; go_at_call 69; refine (lbad_any g zs3 false _ HLR.out).mono ?_; rintro e u1 ⟨rfl, hu⟩; obtain rfl := hu.symm; clear hu HLR))
      · rename_i hne
        have hE : E ≠ 0 := by simpa using hne
        go_ret
        exact ⟨false, rfl, HEND.out _ X6 false HNA.out ⟨fun e => by (cases e), fun e => absurd e.1 hE⟩⟩
      · rename_i hne
        have hE : E = 0 := by simpa using hne
        go_ret
        exact ⟨R, rfl, HEND.out _ X6 R H7.out ⟨fun e => ⟨hE, of_decide_eq_true (HR.out ▸ e)⟩, fun e => by rw [HR.out]; exact decide_eq_true e.2⟩⟩
/-- What getChain leaves. -/
structure GcR (w w' : World) (g p : Nat) (M : List Ver) (X : Foot) (k : List Int) (i : Nat) (zs : List Int) (b r : Bool) : Prop where
  chg : Chg w w' (fun q => q = g ∨ X q)
  yes : r = true → ∃ (m : Int) (o2 : Option (List Int)) (M' : List Ver) (zs' : List Int) (X' : Foot), goodK k = true ∧ m ≠ 0 ∧ Rds (countP 50) (stL zs b) o2 m ∧ (∀ n, resV M k m.toNat none n o2 = resK M' n (some k) (some zs')) ∧ LR w' g zs' false ∧ StD w' p M' X' ∧ (∀ q, X' q → X q ∨ w.heap.size ≤ q) ∧ CkS M' i (some k)
  no : r = false → ∃ (m : Int) (o2 : Option (List Int)), Rds (countP 50) (stL zs b) o2 m ∧ (goodK k = false ∨ m = 0 ∨ ∀ n, resV M k m.toNat none n o2 = none)
/-- What its rounds hold. -/
structure GcL (w u : World) (g p : Nat) (M : List Ver) (X : Foot) (k : List Int) (i N q : Nat) (o2 : Option (List Int)) : Prop where
  ex : ∃ (M' : List Ver) (zs' : List Int) (b' : Bool) (X' : Foot) (pv : Option (Int × Int)), LR u g zs' b' ∧ StD u p M' X' ∧ (∀ j, X' j → X j ∨ w.heap.size + 1 ≤ j) ∧ CvS M' k q i pv ∧ (∀ n, resV M k N none n o2 = resV M' k (N - q) pv n (stL zs' b')) ∧ (0 < q → goodK k = true ∧ b' = false ∧ ∃ x, pv = some x)
  chg : Chg w u (fun j => j = g ∨ X j)
  key : KeyAt u w.heap.size 0 k
theorem GcL.start {w u : World} {g p i N : Nat} {M : List Ver} {X : Foot} {k zs1 : List Int} {b1 : Bool} (hk : Ky k) (hs : StD w p M X) (hX : ∀ q, X q → g < q) (hg : g < w.heap.size) (hv : CvS M k 0 i none) (hc : Chg (w.alloc (.cells (kcs k) 57)) u (fun j => j = g)) (hl : LR u g zs1 b1) : GcL w u g p M X k i N 0 (stL zs1 b1) := by
  have hb : Below w.heap.size w (w.alloc (.cells (kcs k) 57)) := (Below.refl _ _).alloc (Nat.le_refl _) _
  have hcw : Chg w u (fun j => j = g) := (Chg.of_below hb (fun j => j = g)).trans hc (fun _ _ x => x)
  have sz : (w.alloc (.cells (kcs k) 57)).heap.size = w.heap.size + 1 := World.size_alloc _ _
  refine ⟨⟨M, zs1, b1, X, none, hl, hs.kept hcw.size (fun j hj => hcw.block j (hs.lt j hj) (fun e => by have := hX j hj; omega)), fun j e => .inl e, hv, fun n => by rw [Nat.sub_zero], fun e => absurd e (Nat.lt_irrefl 0)⟩, hcw.mono (fun _ _ e => .inl e), (KeyAt.made w 57 k hk).keptG (hc.block _ (by omega) (by omega))⟩
theorem GcL.next {w wr w1 : World} {g p i N q : Nat} {M M' : List Ver} {X X' : Foot} {k zs' : List Int} {b' : Bool} {pv : Option (Int × Int)} {o2 : Option (List Int)} (hg : g < w.heap.size) (hXw : ∀ j, X j → j < w.heap.size) (hq : q < N)
    (hsub : ∀ j, X' j → X j ∨ w.heap.size + 1 ≤ j) (hres : ∀ n, resV M k N none n o2 = resV M' k (N - q) pv n (stL zs' b')) (hchg : Chg w wr (fun j => j = g ∨ X j)) (hkey : KeyAt wr w.heap.size 0 k) (hr : GvR wr w1 g p M' X' k q i pv zs' b' true) : GcL w w1 g p M X k i N (q + 1) o2 := by
  obtain ⟨h1, V, zs2, X2, D, L2, S2, sub2, C2⟩ := hr.yes rfl
  have hsz := hkey.lt
  obtain ⟨Q, hQ⟩ : ∃ Q, N - q = Q + 1 := ⟨N - q - 1, by omega⟩
  have hQ2 : N - (q + 1) = Q := by omega
  refine ⟨⟨M' ++ [V], zs2, false, X2, some (V.t, V.n), L2, S2, fun j e => ?_, C2, fun n => ?_, fun _ => ⟨h1, rfl, _, rfl⟩⟩, hchg.trans hr.chg (fun j hj e => ?_), hkey.keptG (hr.chg.block _ hsz (fun e => ?_))⟩
  · rcases sub2 j e with e | e
    · exact hsub j e
    · exact .inr (by omega)
  · rw [hres, hQ, hQ2]
    exact resV_next D
  · rcases e with e | e
    · exact .inl e
    · rcases hsub j e with e | e
      · exact .inr e
      · omega
  · rcases e with e | e
    · omega
    · rcases hsub _ e with e | e
      · have := hXw _ e; omega
      · omega
theorem GcL.stop {w wr w1 : World} {g p i N q : Nat} {M M' : List Ver} {X X' : Foot} {k zs zs' : List Int} {b b' : Bool} {pv : Option (Int × Int)} {o2 : Option (List Int)} (hq : q < N)
    (hsub : ∀ j, X' j → X j ∨ w.heap.size + 1 ≤ j) (hres : ∀ n, resV M k N none n o2 = resV M' k (N - q) pv n (stL zs' b')) (hchg : Chg w wr (fun j => j = g ∨ X j)) (hr : GvR wr w1 g p M' X' k q i pv zs' b' false) (D : Rds (countP 50) (stL zs b) o2 (N : Int)) : GcR w w1 g p M X k i zs b false := by
  obtain ⟨Q, hQ⟩ : ∃ Q, N - q = Q + 1 := ⟨N - q - 1, by omega⟩
  refine ⟨hchg.trans hr.chg (fun j hj e => ?_), fun e => by (cases e), fun _ => ⟨(N : Int), o2, D, ?_⟩⟩
  · rcases e with e | e
    · exact .inl e
    · rcases hsub j e with e | e
      · exact .inr e
      · omega
  · rcases hr.no rfl with e | e
    · exact .inl e
    · refine .inr (.inr (fun n => ?_))
      rw [Int.toNat_natCast, hres, hQ]
      exact resV_bad (V := ⟨k, 0, 0, [], false⟩) (rds_none _ e)
theorem GcL.done {w wr : World} {g p i N : Nat} {M : List Ver} {X : Foot} {k zs : List Int} {b : Bool} {o2 : Option (List Int)} (h : GcL w wr g p M X k i N N o2) (D : Rds (countP 50) (stL zs b) o2 (N : Int)) : GcR w wr g p M X k i zs b (decide (0 < N)) := by
  refine ⟨h.chg, fun e => ?_, fun e => ⟨(N : Int), o2, D, .inr (.inl ?_)⟩⟩
  · have hN : 0 < N := of_decide_eq_true e
    obtain ⟨M', zs', b', X', pv, h1, h2, h3, h4, h5, h6⟩ := h.ex
    obtain ⟨g1, rfl, x, rfl⟩ := h6 hN
    refine ⟨(N : Int), o2, M', zs', X', g1, by omega, D, fun n => ?_, h1, h2, fun q e => (h3 q e).imp id (fun e => by omega), h4.key⟩
    rw [Int.toNat_natCast, h5, Nat.sub_self, resV_end]
    rfl
  · have := of_decide_eq_false e
    omega
set_option maxHeartbeats 4000000 in
set_option maxRecDepth 8000 in
theorem lgetc_any (g p i : Nat) (M : List Ver) (X : Foot) (k zs : List Int) (b : Bool) (w : World) (h : LR w g zs b) (hs : StD w p M X) (hX : ∀ q, X q → g < q) (hk : Ky k) (hv : CvS M k 0 i none) (hi : i ≤ 200) :
    Calls Tryz.prog 68 #[.pointer (some ⟨g, 0, none⟩), .pointer (some ⟨p, 0, none⟩), kv k] w fun e w' => ∃ r : Bool, e = .returned (.bool r) ∧ GcR w w' g p M X k i zs b r := by
  have hg := h.lt
  have HG : Hid (g < w.heap.size) := hg
  have HXG : Hid (∀ q, X q → g < q) := hX
  have HXW : Hid (∀ q, X q → q < w.heap.size) := hs.lt
  have KY : Hid (Ky k) := hk
  have HI : Hid (i ≤ 200) := hi
  have HST : Hid (∀ u zs1 b1 N, Chg (w.alloc (.cells (kcs k) 57)) u (fun j => j = g) → LR u g zs1 b1 → GcL w u g p M X k i N 0 (stL zs1 b1)) := fun u zs1 b1 N h1 h2 => GcL.start hk hs hX hg hv h1 h2
  have HL : Hid (LR (w.alloc (.cells (kcs k) 57)) g zs b) := h.past ((Below.refl _ _).alloc (Nat.le_refl _) _)
  clear h hs hX hv hi hg
  go_enter Tryz.func68, Tryz.ntmps68
  go_wp2_with (first | (go_at_call 66; refine (lupto_any g zs b 50 (by omega) (by omega) _ HL.out).mono ?_; rintro e w0 ⟨n, rfl, n0, n1, ⟨zs0, b0, L0, C0, D0⟩⟩; obtain ⟨N, rfl⟩ : ∃ N : Nat, n = N := ⟨n.toNat, by omega⟩; have HN : Hid (N ≤ 50) := (by show N ≤ 50; omega); have HS0 : Hid (GcL w w0 g p M X k i N 0 (stL zs0 b0)) := HST.out _ _ _ N C0 L0; have HD0 : Hid (Rds (countP 50) (stL zs b) (stL zs0 b0) (N : Int)) := D0; clear L0 C0 D0 HL HST))
  go_loopw [11] (fun iv wr => ∃ q : Nat, q ≤ N ∧ iv = .int .i64 q ∧ Hid (GcL w wr g p M X k i N q (stL zs0 b0))) (fun iv _ => N - (intOf iv).toNat)
  case atStart => exact ⟨0, Nat.zero_le _, rfl, HS0⟩
  case round =>
    obtain ⟨q, hqN, rfl, HL⟩ := hrel
    have hq0 : (0 : Int) ≤ (q : Int) := by omega
    have hq1 : (q : Int) ≤ 50 := by have := HN.out; omega
    clear HS0
    by_cases hlt : q < N
    · have hltI : (q : Int) < (N : Int) := by omega
      obtain ⟨M', zs', b', X', pv, h1, h2, h3, h4, h5, h6⟩ := HL.out.ex
      have HK : Hid (KeyAt wr w.heap.size 0 k) := HL.out.key
      have CV : Hid (Calls Tryz.prog 95 #[.pointer (some ⟨g, 0, none⟩), .pointer (some ⟨p, 0, none⟩), kv k] wr fun e w' => ∃ r : Bool, e = .returned (.bool r) ∧ GvR wr w' g p M' X' k q i pv zs' b' r) := lgetv_any g p q i M' X' k zs' b' pv wr h1 h2 (fun j e => by
        rcases h3 j e with e | e
        · exact HXG.out j e
        · have := HG.out; omega) KY.out h4 (by have := HN.out; omega) HI.out
      have HNX : Hid (∀ w1, GvR wr w1 g p M' X' k q i pv zs' b' true → GcL w w1 g p M X k i N (q + 1) (stL zs0 b0)) := fun w1 hr => GcL.next HG.out HXW.out hlt h3 h5 HL.out.chg HL.out.key hr
      have HSP : Hid (∀ w1, GvR wr w1 g p M' X' k q i pv zs' b' false → GcR w w1 g p M X k i zs b false) := fun w1 hr => GcL.stop hlt h3 h5 HL.out.chg hr HD0.out
      clear h1 h2 h3 h4 h5 h6 HL
      go_wp2_with (first
        | (have hgo := CV.out; clear hgo; go_at_call 95; refine CV.out.mono ?_; rintro e w1 ⟨r, rfl, hr⟩; have HR : Hid (GvR wr w1 g p M' X' k q i pv zs' b' r) := hr; clear hr CV HK; cases r)
        | ((with_reducible show wpList _ _ _ (Oper.mk (some 15) _ _ _ _ _ :: _) _ _); refine wpList_load_keyN 15 (by rfl) (by rfl) _ (by rfl) w.heap.size 0 (by rfl) k KY.out HK.out ?_))
      · go_ret
        exact ⟨false, rfl, HSP.out _ HR.out⟩
      · go_roundw
        case rel => exact ⟨q + 1, by omega, by go_num, HNX.out _ HR.out⟩
        case measure => simp [intOf]; omega
    · obtain rfl : q = N := by omega
      have HE : Hid (GcR w wr g p M X k i zs b (decide (0 < q))) := GcL.done HL.out HD0.out
      clear HL HD0
      by_cases hz : 0 < q
      · have hzI : (0 : Int) < (q : Int) := by omega
        rw [decide_eq_true hz] at HE
        go_wp2
        go_ret
        first | exact ⟨true, rfl, HE.out⟩ | exact .inr ⟨rfl, HE.out⟩
      · have hzI : ¬ (0 : Int) < (q : Int) := by omega
        rw [decide_eq_false hz] at HE
        go_wp2
        go_ret
        first | exact ⟨false, rfl, HE.out⟩ | exact .inl ⟨rfl, HE.out⟩
end Go.Proofs.YtpnjcflfnoamoaaGreat
