/-
  Lists of layer 13's acts (each a number and an entry) that came in.
-/
import Derived.Test.YthgkbabikeknlaaSActs
import Derived.Test.YthgkbabikeknlaaPrepMem
namespace Go.Proofs.Ythgkbabikeknlaa
open Go.RowKit Go.ChangeShapes Go.WideShapes Go.ChangeAt Go.Deep
set_option linter.unusedVariables false

/-- An act. -/
structure PAct where
  op : Int
  x : EntM
/-- An act's seven cells. -/
structure PActAt (w : World) (b o : Nat) (y : PAct) : Prop where
  c0 : w.cell? ⟨b, o, none⟩ = some (.int .i64 y.op)
  ent : EntAt w b (o + 1) y.x
theorem PActAt.lt {w : World} {b o : Nat} {y : PAct} (h : PActAt w b o y) : b < w.heap.size := lt_of_cell h.c0
theorem PActAt.past {w w' : World} {b o : Nat} {y : PAct} (h : PActAt w b o y) (hb : Below w.heap.size w w') : PActAt w' b o y :=
  ⟨(hb.cell (p := ⟨b, o, none⟩) h.lt).trans h.c0, h.ent.past hb⟩
structure PActOk (w : World) (y : PAct) : Prop where
  wr : WrtsOf w y.x.a y.x.c y.x.e.l
  op : -9223372036854775808 ≤ y.op ∧ y.op ≤ 9223372036854775807
  ok : EntOk y.x.e
/-- A list of acts that came in. -/
structure PActsOf (w : World) (a : Option Addr) (cap : Nat) (ys : List PAct) : Prop where
  room : ys.length ≤ cap
  cells : ys = [] ∨ ∃ b off, a = some ⟨b, off, none⟩ ∧ ∀ i y, ys[i]? = some y → PActAt w b (off + i * 7) y
  oks : ∀ y ∈ ys, PActOk w y
theorem PActsOf.act {w : World} {a : Option Addr} {cap : Nat} {ys : List PAct} (h : PActsOf w a cap ys) {i : Nat} {y : PAct} (hy : ys[i]? = some y) : ∃ b off, a = some ⟨b, off, none⟩ ∧ PActAt w b (off + i * 7) y ∧ PActOk w y := by
  rcases h.cells with rfl | ⟨b, off, e, hc⟩
  · simp at hy
  · exact ⟨b, off, e, hc i y hy, h.oks y (List.mem_of_getElem? hy)⟩
section
variable {H : Type} {enc : TypeId × Value → H} {w : World} {base : Nat} {held : Bool}
theorem pacts_open {P : Program} {t e q s : TypeId} {k0 k1 h0 h1 h2 h3 g0 g1 f0 f1 f2 : Field} {fuel : Nat} {a : Option Addr} {len cap : Nat} {x : DataW H × List MemPlace} (ht : P.underlying t = some (.slice e)) (he : P.underlying e = some (.struct #[k0, k1]))
    (v0 : P.underlying k0.type = some (.int .i64)) (v1 : P.underlying k1.type = some (.struct #[h0, h1, h2, h3])) (x0 : P.underlying h0.type = some (.int .i64)) (x1 : P.underlying h1.type = some (.struct #[g0, g1])) (x2 : P.underlying h2.type = some (.struct #[g0, g1])) (w0 : P.underlying g0.type = some (.int .i64)) (w1 : P.underlying g1.type = some (.int .u8)) (x3 : P.underlying h3.type = some (.slice s)) (hs : P.underlying s = some (.struct #[f0, f1, f2]))
    (u0 : P.underlying f0.type = some (.array 16 q)) (uq : P.underlying q = some (.int .u8)) (u1 : P.underlying f1.type = some .string) (u2 : P.underlying f2.type = some .bool)
    (m0 : k0.offset = 0) (m1 : k1.offset = 1) (r0 : h0.offset = 0) (r1 : h1.offset = 1) (r2 : h2.offset = 3) (r3 : h3.offset = 5) (p0 : g0.offset = 0) (p1 : g1.offset = 1) (o0 : f0.offset = 0) (o1 : f1.offset = 16) (o2 : f2.offset = 17)
    (n0 : P.cellsOf k0.type = 1) (n1 : P.cellsOf k1.type = 6) (s0 : P.cellsOf h0.type = 1) (s1 : P.cellsOf h1.type = 2) (s2 : P.cellsOf h2.type = 2) (s3 : P.cellsOf h3.type = 1) (d0 : P.cellsOf g0.type = 1) (d1 : P.cellsOf g1.type = 1) (c0 : P.cellsOf f0.type = 16) (c1 : P.cellsOf f1.type = 1) (c2 : P.cellsOf f2.type = 1) (cq : P.cellsOf q = 1) (cs' : P.cellsOf s = 18) (ce : P.cellsOf e = 7)
    (h : DataW.trod enc P w base (fun _ => true) held fuel t [.slice a len cap] = some x) : ∃ ys : List PAct, ys.length = len ∧ PActsOf w a cap ys := by
  rcases open_slice ht h with ⟨hcs, _⟩ | ⟨ad, l, c, m, n, D, Pl, hcs, _, hl, _, hmm, _, hx⟩
  · simp at hcs
    obtain ⟨rfl, rfl, rfl⟩ := hcs
    exact ⟨[], rfl, ⟨Nat.le_refl _, .inl rfl, fun V hV => by simp at hV⟩⟩
  · simp at hcs
    obtain ⟨rfl, rfl, rfl⟩ := hcs
    simp only [if_true] at hmm
    by_cases hz : len = 0
    · subst hz
      exact ⟨[], rfl, ⟨Nat.zero_le _, .inl rfl, fun V hV => by simp at hV⟩⟩
    have key : ∀ i, i < len → ∃ Y : PAct, PActOk w Y ∧ w.cell? (ad.add (i * 7)) = some (.int .i64 Y.op) ∧ ∀ b off, ad = ⟨b, off, none⟩ → PActAt w b (off + i * 7) Y := by
      intro i hi
      obtain ⟨cs, hc, htr⟩ := hx i (by omega)
      rw [ce] at hc
      obtain ⟨_, hlen, hcell⟩ := World.cells?_some hc
      match cs, hlen with
      | [z0, z1, z2, z3, z4, z5, z6], _ =>
        obtain ⟨y0, y1, k, _, _, j0, j1⟩ := trod_struct2 he htr
        rw [m0, n0] at j0
        rw [m1, n1] at j1
        simp only [List.drop_zero, List.drop_succ_cons, List.take_succ_cons, List.take_zero, List.take_nil] at j0 j1
        obtain ⟨a0, e0, _, b0⟩ := DataW.trod_int v0 j0
        obtain ⟨t0, t1, t2, t3, k', _, _, i0, i1, i2, i3⟩ := Go.Joins.trod_struct4 v1 j1
        rw [r0, s0] at i0
        rw [r1, s1] at i1
        rw [r2, s2] at i2
        rw [r3, s3] at i3
        simp only [List.drop_zero, List.drop_succ_cons, List.take_succ_cons, List.take_zero, List.take_nil] at i0 i1 i2 i3
        obtain ⟨a1, e1, _, b1⟩ := DataW.trod_int x0 i0
        obtain ⟨_, _, _, _, _, gA, gB⟩ := trod_struct2 x1 i1
        obtain ⟨_, _, _, _, _, gC, gD⟩ := trod_struct2 x2 i2
        rw [p0, d0] at gA gC
        rw [p1, d1] at gB gD
        simp only [List.drop_zero, List.drop_succ_cons, List.take_succ_cons, List.take_zero, List.take_nil] at gA gB gC gD
        obtain ⟨a2, e2, _, b2⟩ := DataW.trod_int w0 gA
        obtain ⟨a3, e3, _, b3⟩ := DataW.trod_int w1 gB
        obtain ⟨a4, e4, _, b4⟩ := DataW.trod_int w0 gC
        obtain ⟨a5, e5, _, b5⟩ := DataW.trod_int w1 gD
        simp at e0 e1 e2 e3 e4 e5
        subst e0; subst e1; subst e2; subst e3; subst e4; subst e5
        obtain ⟨la, ll, lc, rfl⟩ : ∃ la ll lc, z6 = .slice la ll lc := by
          rcases open_slice x3 i3 with ⟨hz, _⟩ | ⟨ad', l', c', _, _, _, _, hz, _⟩
          · simp at hz; exact ⟨_, _, _, hz⟩
          · simp at hz; exact ⟨_, _, _, hz⟩
        obtain ⟨ws, hwl, hws⟩ := wrts_open x3 hs u0 uq u1 u2 o0 o1 o2 c0 c1 c2 cq cs' i3
        have q0 := hcell 0 (by omega)
        have q1 := hcell 1 (by omega)
        have q2 := hcell 2 (by omega)
        have q3 := hcell 3 (by omega)
        have q4 := hcell 4 (by omega)
        have q5 := hcell 5 (by omega)
        have q6 := hcell 6 (by omega)
        refine ⟨⟨a0, ⟨⟨a1, a2, a3, a4, a5, ws⟩, la, lc⟩⟩, ⟨hws, bounds_i64 b0, ⟨bounds_i64 b1, bounds_i64 b2, bounds_u8 b3, bounds_i64 b4, bounds_u8 b5⟩⟩, by simpa [Addr.add] using q0, fun b off hb => ?_⟩
        subst hb
        simp only [add_atV] at q0 q1 q2 q3 q4 q5 q6
        refine ⟨q0, ⟨lies_of fun j u hj => ?_⟩⟩
        have hj6 : j < 6 := by have := (List.getElem?_eq_some_iff.1 hj).1; rwa [encE_len] at this
        have hj' : j = 0 ∨ j = 1 ∨ j = 2 ∨ j = 3 ∨ j = 4 ∨ j = 5 := by omega
        rcases hj' with rfl | rfl | rfl | rfl | rfl | rfl <;> (injection hj with hj; rw [← hj])
        · exact q1
        · exact q2
        · exact q3
        · exact q4
        · exact q5
        · show w.cell? _ = some (.slice la ws.length lc)
          rw [hwl]
          exact q6
    obtain ⟨b, off, spot⟩ := ad
    have hsp : spot = none := by
      obtain ⟨X, _, hX, _⟩ := key 0 (by omega)
      simpa [Addr.add] using World.cell?_spot hX
    subst hsp
    have hch : ∃ f : Nat → PAct, ∀ i, i < len → PActOk w (f i) ∧ PActAt w b (off + i * 7) (f i) := by
      refine ⟨fun i => if hi : i < len then (key i hi).choose else ⟨0, ⟨⟨0, 0, 0, 0, 0, []⟩, none, 0⟩⟩, fun i hi => ?_⟩
      simp only [dif_pos hi]
      exact ⟨(key i hi).choose_spec.1, (key i hi).choose_spec.2.2 b off rfl⟩
    obtain ⟨f, hf⟩ := hch
    refine ⟨(List.range len).map f, by simp, ⟨by simpa using hl, .inr ⟨b, off, rfl, fun i X hX => ?_⟩, fun V hV => ?_⟩⟩
    · rw [List.getElem?_map] at hX
      by_cases hi : i < len
      · rw [List.getElem?_range hi] at hX
        simp at hX
        subst hX
        exact (hf i hi).2
      · rw [List.getElem?_eq_none (by simp; omega)] at hX
        simp at hX
    · obtain ⟨i, hi, rfl⟩ := List.mem_map.1 hV
      exact (hf i (List.mem_range.1 hi)).1
end
end Go.Proofs.Ythgkbabikeknlaa
