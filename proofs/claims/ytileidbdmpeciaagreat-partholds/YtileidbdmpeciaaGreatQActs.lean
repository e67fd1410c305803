/-
  Entries and records that came in, by value or in a list; lists of layer 16's acts (each a number, an entry, a stamp, a record).
-/
import Derived.Test.YtileidbdmpeciaaGreatAu59
namespace Go.Proofs.YtileidbdmpeciaaGreat
open Go.RowKit Go.ChangeShapes Go.WideShapes Go.ChangeAt Go.Deep
set_option linter.unusedVariables false

/-- An entry that came in. -/
structure EntIn (w : World) (x : EntM) : Prop where
  wr : WrtsOf w x.a x.c x.e.l
  ok : EntOk x.e
structure QAct where
  op : Int
  x : EntM
  t : Int
  n : Int
  r : RcM
def encQ (y : QAct) : List Value := .int .i64 y.op :: (encE y.x ++ (.int .i64 y.t :: .int .u8 y.n :: encR y.r))
theorem encQ_len (y : QAct) : (encQ y).length = 18 := rfl
structure QActOk (w : World) (y : QAct) : Prop where
  op : -9223372036854775808 ≤ y.op ∧ y.op ≤ 9223372036854775807
  ent : EntIn w y.x
  t : -9223372036854775808 ≤ y.t ∧ y.t ≤ 9223372036854775807
  n : 0 ≤ y.n ∧ y.n ≤ 255
  rcd : RcIn w y.r
structure QActAt (w : World) (b o : Nat) (y : QAct) : Prop where
  lies : Lies w (some ⟨b, o, none⟩) (encQ y)
theorem QActAt.past {w w' : World} {b o : Nat} {y : QAct} (h : QActAt w b o y) (hb : Below w.heap.size w w') : QActAt w' b o y := ⟨h.lies.past hb⟩
/-- A list of acts that came in. -/
structure QActsOf (w : World) (a : Option Addr) (cap : Nat) (ys : List QAct) : Prop where
  room : ys.length ≤ cap
  cells : ys = [] ∨ ∃ b off, a = some ⟨b, off, none⟩ ∧ ∀ i y, ys[i]? = some y → QActAt w b (off + i * 18) y
  oks : ∀ y ∈ ys, QActOk w y
  nil : a = none → cap = 0
theorem QActsOf.act {w : World} {a : Option Addr} {cap : Nat} {ys : List QAct} (h : QActsOf w a cap ys) {i : Nat} {y : QAct} (hy : ys[i]? = some y) : ∃ b off, a = some ⟨b, off, none⟩ ∧ QActAt w b (off + i * 18) y ∧ QActOk w y := by
  rcases h.cells with rfl | ⟨b, off, e, hc⟩
  · simp at hy
  · exact ⟨b, off, e, hc i y hy, h.oks y (List.mem_of_getElem? hy)⟩
section
variable {H : Type} {enc : TypeId × Value → H} {w : World} {base : Nat} {held : Bool}
theorem ent_trod {P : Program} {t s q : TypeId} {h0 h1 h2 h3 g0 g1 f0 f1 f2 : Field} {fuel : Nat} {cs : List Value} {x : DataW H × List MemPlace} (v1 : P.underlying t = some (.struct #[h0, h1, h2, h3])) (x0 : P.underlying h0.type = some (.int .i64)) (x1 : P.underlying h1.type = some (.struct #[g0, g1])) (x2 : P.underlying h2.type = some (.struct #[g0, g1])) (w0 : P.underlying g0.type = some (.int .i64)) (w1 : P.underlying g1.type = some (.int .u8)) (x3 : P.underlying h3.type = some (.slice s)) (hs : P.underlying s = some (.struct #[f0, f1, f2]))
    (u0 : P.underlying f0.type = some (.array 16 q)) (uq : P.underlying q = some (.int .u8)) (u1 : P.underlying f1.type = some .string) (u2 : P.underlying f2.type = some .bool)
    (r0 : h0.offset = 0) (r1 : h1.offset = 1) (r2 : h2.offset = 3) (r3 : h3.offset = 5) (p0 : g0.offset = 0) (p1 : g1.offset = 1) (o0 : f0.offset = 0) (o1 : f1.offset = 16) (o2 : f2.offset = 17)
    (s0 : P.cellsOf h0.type = 1) (s1 : P.cellsOf h1.type = 2) (s2 : P.cellsOf h2.type = 2) (s3 : P.cellsOf h3.type = 1) (d0 : P.cellsOf g0.type = 1) (d1 : P.cellsOf g1.type = 1) (c0 : P.cellsOf f0.type = 16) (c1 : P.cellsOf f1.type = 1) (c2 : P.cellsOf f2.type = 1) (cq : P.cellsOf q = 1) (cs' : P.cellsOf s = 18)
    (j1 : DataW.trod enc P w base (fun _ => true) held fuel t cs = some x) (hl : cs.length = 6) : ∃ X : EntM, cs = encE X ∧ EntIn w X := by
  match cs, hl with
  | [z1, z2, z3, z4, z5, z6], _ =>
    obtain ⟨t0, t1, t2, t3, k', _, _, i0, i1, i2, i3⟩ := Go.Joins.trod_struct4 v1 j1
    rw [r0, s0] at i0
    rw [r1, s1] at i1
    rw [r2, s2] at i2
    rw [r3, s3] at i3
    simp only [List.drop_zero, List.drop_succ_cons, List.take_succ_cons, List.take_zero, List.take_nil] at i0 i1 i2 i3
    obtain ⟨a1, e1, _, b1⟩ := DataW.trod_int x0 i0
    obtain ⟨_, _, _, _, _, gA, gB⟩ := trod_struct2 x1 i1
    obtain ⟨_, _, _, _, _, gC, gD⟩ := trod_struct2 x2 i2
    rw [p0, d0] at gA gC
    rw [p1, d1] at gB gD
    simp only [List.drop_zero, List.drop_succ_cons, List.take_succ_cons, List.take_zero, List.take_nil] at gA gB gC gD
    obtain ⟨a2, e2, _, b2⟩ := DataW.trod_int w0 gA
    obtain ⟨a3, e3, _, b3⟩ := DataW.trod_int w1 gB
    obtain ⟨a4, e4, _, b4⟩ := DataW.trod_int w0 gC
    obtain ⟨a5, e5, _, b5⟩ := DataW.trod_int w1 gD
    simp at e1 e2 e3 e4 e5
    subst e1; subst e2; subst e3; subst e4; subst e5
    obtain ⟨la, ll, lc, rfl⟩ : ∃ la ll lc, z6 = .slice la ll lc := by
      rcases open_slice x3 i3 with ⟨hz, _⟩ | ⟨ad', l', c', _, _, _, _, hz, _⟩
      · simp at hz; exact ⟨_, _, _, hz⟩
      · simp at hz; exact ⟨_, _, _, hz⟩
    obtain ⟨ws, hwl, hws⟩ := wrts_open x3 hs u0 uq u1 u2 o0 o1 o2 c0 c1 c2 cq cs' i3
    refine ⟨⟨⟨a1, a2, a3, a4, a5, ws⟩, la, lc⟩, ?_, ⟨hws, ⟨bounds_i64 b1, bounds_i64 b2, bounds_u8 b3, bounds_i64 b4, bounds_u8 b5⟩⟩⟩
    unfold encE
    simp only [hwl]
theorem rcd_trod {P : Program} {t s q qi : TypeId} {h0 h1 h2 h3 h4 h5 h6 g0 g1 f0 f1 f2 : Field} {fuel : Nat} {cs : List Value} {x : DataW H × List MemPlace} (ht : P.underlying t = some (.struct #[h0, h1, h2, h3, h4, h5, h6]))
    (x0 : P.underlying h0.type = some (.int .i64)) (x1 : P.underlying h1.type = some (.int .i64)) (x2 : P.underlying h2.type = some (.struct #[g0, g1])) (x3 : P.underlying h3.type = some (.struct #[g0, g1])) (w0 : P.underlying g0.type = some (.int .i64)) (w1 : P.underlying g1.type = some (.int .u8)) (x4 : P.underlying h4.type = some (.slice s)) (hs : P.underlying s = some (.struct #[f0, f1, f2]))
    (u0 : P.underlying f0.type = some (.array 16 q)) (uq : P.underlying q = some (.int .u8)) (u1 : P.underlying f1.type = some .string) (u2 : P.underlying f2.type = some .bool) (x5 : P.underlying h5.type = some .bool) (x6 : P.underlying h6.type = some (.slice qi)) (ui : P.underlying qi = some (.int .i64))
    (r0 : h0.offset = 0) (r1 : h1.offset = 1) (r2 : h2.offset = 2) (r3 : h3.offset = 4) (r4 : h4.offset = 6) (r5 : h5.offset = 7) (r6 : h6.offset = 8) (p0 : g0.offset = 0) (p1 : g1.offset = 1) (o0 : f0.offset = 0) (o1 : f1.offset = 16) (o2 : f2.offset = 17)
    (s0 : P.cellsOf h0.type = 1) (s1 : P.cellsOf h1.type = 1) (s2 : P.cellsOf h2.type = 2) (s3 : P.cellsOf h3.type = 2) (s4 : P.cellsOf h4.type = 1) (s5 : P.cellsOf h5.type = 1) (s6 : P.cellsOf h6.type = 1) (d0 : P.cellsOf g0.type = 1) (d1 : P.cellsOf g1.type = 1) (c0 : P.cellsOf f0.type = 16) (c1 : P.cellsOf f1.type = 1) (c2 : P.cellsOf f2.type = 1) (cq : P.cellsOf q = 1) (cs' : P.cellsOf s = 18) (ci : P.cellsOf qi = 1)
    (hf : DataW.trod enc P w base (fun _ => true) held fuel t cs = some x) (hl : cs.length = 9) : ∃ X : RcM, cs = encR X ∧ RcIn w X := by
  match cs, hl with
  | [z0, z1, z2, z3, z4, z5, z6, z7, z8], _ =>
    obtain ⟨_, _, _, _, _, _, _, k, i0, i1, i2, i3, i4, i5, i6⟩ := trod_struct7 ht hf
    rw [r0, s0] at i0
    rw [r1, s1] at i1
    rw [r2, s2] at i2
    rw [r3, s3] at i3
    rw [r4, s4] at i4
    rw [r5, s5] at i5
    rw [r6, s6] at i6
    simp only [List.drop_zero, List.drop_succ_cons, List.take_succ_cons, List.take_zero, List.take_nil] at i0 i1 i2 i3 i4 i5 i6
    obtain ⟨a0, e0, _, b0⟩ := DataW.trod_int x0 i0
    obtain ⟨a1, e1, _, b1⟩ := DataW.trod_int x1 i1
    obtain ⟨_, _, _, _, _, gA, gB⟩ := trod_struct2 x2 i2
    obtain ⟨_, _, _, _, _, gC, gD⟩ := trod_struct2 x3 i3
    rw [p0, d0] at gA gC
    rw [p1, d1] at gB gD
    simp only [List.drop_zero, List.drop_succ_cons, List.take_succ_cons, List.take_zero, List.take_nil] at gA gB gC gD
    obtain ⟨a2, e2, _, b2⟩ := DataW.trod_int w0 gA
    obtain ⟨a3, e3, _, b3⟩ := DataW.trod_int w1 gB
    obtain ⟨a4, e4, _, b4⟩ := DataW.trod_int w0 gC
    obtain ⟨a5, e5, _, b5⟩ := DataW.trod_int w1 gD
    obtain ⟨yy, e7, _⟩ := DataW.trod_bool x5 i5
    simp at e0 e1 e2 e3 e4 e5 e7
    subst e0; subst e1; subst e2; subst e3; subst e4; subst e5; subst e7
    obtain ⟨la, ll, lc, rfl⟩ : ∃ la ll lc, z6 = .slice la ll lc := by
      rcases open_slice x4 i4 with ⟨hz, _⟩ | ⟨ad', l', c', _, _, _, _, hz, _⟩
      · simp at hz; exact ⟨_, _, _, hz⟩
      · simp at hz; exact ⟨_, _, _, hz⟩
    obtain ⟨ws, hwl, hws⟩ := wrts_open x4 hs u0 uq u1 u2 o0 o1 o2 c0 c1 c2 cq cs' i4
    obtain ⟨qa, qn, qc, rfl, zs, hzl, hzr, hzm, hzi⟩ : ∃ qa qn qc, z8 = .slice qa qn qc ∧ ∃ zs : List Int, zs.length = qn ∧ qn ≤ qc ∧ qn ≤ maxLen ∧ IntsAt w qa zs := by
      rcases open_ints x6 ui ci i6 with ⟨hcs, _⟩ | ⟨x, ln, c, zs, hcs, _, hl, hm, hz, _, hcell, hwz⟩
      · simp at hcs
        exact ⟨_, _, _, hcs, [], rfl, Nat.le_refl _, Nat.zero_le _, ⟨.inl rfl, fun z hz => by simp at hz⟩⟩
      · simp at hcs
        refine ⟨_, _, _, hcs, zs.take ln, ?_, hl, by omega, ?_⟩
        · rw [List.length_take]; simp at hz; omega
        · refine ⟨?_, fun z hz => bounds_i64 (hwz z (List.mem_of_mem_take hz))⟩
          by_cases hn : ln = 0
          · left; rw [hn]; rfl
          · right
            obtain ⟨b, off, spot⟩ := x
            simp at hz
            have hc0 := hcell 0 (by omega)
            have hspot : spot = none := by simpa [Addr.add] using World.cell?_spot hc0
            subst hspot
            refine ⟨b, off, rfl, fun j hj => ?_⟩
            rw [List.length_take] at hj
            have := hcell j (by omega)
            rw [add_plain] at this
            rw [this]
            have hjl : j < ln := by omega
            simp [List.getD, hjl]
    refine ⟨⟨⟨a0, a1, a2, a3, a4, a5, ws, yy, zs⟩, la, lc, qa, qc⟩, ?_, ⟨hws, hzi, by show zs.length ≤ qc; omega, by show zs.length ≤ maxLen; omega, bounds_i64 b0, ⟨(bounds_i64 b1).1, (bounds_i64 b1).2, (bounds_u8 b3).1, (bounds_u8 b3).2, (bounds_u8 b5).1, (bounds_u8 b5).2, fun W hW => (hws.at_.oks W hW).key, fun W hW => (hws.at_.oks W hW).val⟩⟩⟩
    unfold encR
    simp only [hwl, hzl]
/-- An entry that came in, by value. -/
theorem ent_open {P : Program} {t s q : TypeId} {h0 h1 h2 h3 g0 g1 f0 f1 f2 : Field} {v : Value} {r : Reach} {b0 : Nat} {d : DataW H} {pls : List MemPlace} (v1 : P.underlying t = some (.struct #[h0, h1, h2, h3])) (x0 : P.underlying h0.type = some (.int .i64)) (x1 : P.underlying h1.type = some (.struct #[g0, g1])) (x2 : P.underlying h2.type = some (.struct #[g0, g1])) (w0 : P.underlying g0.type = some (.int .i64)) (w1 : P.underlying g1.type = some (.int .u8)) (x3 : P.underlying h3.type = some (.slice s)) (hs : P.underlying s = some (.struct #[f0, f1, f2]))
    (u0 : P.underlying f0.type = some (.array 16 q)) (uq : P.underlying q = some (.int .u8)) (u1 : P.underlying f1.type = some .string) (u2 : P.underlying f2.type = some .bool)
    (r0 : h0.offset = 0) (r1 : h1.offset = 1) (r2 : h2.offset = 3) (r3 : h3.offset = 5) (p0 : g0.offset = 0) (p1 : g1.offset = 1) (o0 : f0.offset = 0) (o1 : f1.offset = 16) (o2 : f2.offset = 17)
    (s0 : P.cellsOf h0.type = 1) (s1 : P.cellsOf h1.type = 2) (s2 : P.cellsOf h2.type = 2) (s3 : P.cellsOf h3.type = 1) (d0 : P.cellsOf g0.type = 1) (d1 : P.cellsOf g1.type = 1) (c0 : P.cellsOf f0.type = 16) (c1 : P.cellsOf f1.type = 1) (c2 : P.cellsOf f2.type = 1) (cq : P.cellsOf q = 1) (cs' : P.cellsOf s = 18) (ct : P.cellsOf t = 6)
    (hval : Value.okWide P w r b0 t v) (hd : DataW.Trod enc P w base (fun _ => true) held t v d pls) : ∃ x : EntM, v = ev x ∧ EntIn w x := by
  obtain ⟨cs, rfl, hsz⟩ := okWide_struct v1 hval
  rw [ct] at hsz
  obtain ⟨fuel, hf⟩ := hd
  obtain ⟨l⟩ := cs
  obtain ⟨X, e, h⟩ := ent_trod v1 x0 x1 x2 w0 w1 x3 hs u0 uq u1 u2 r0 r1 r2 r3 p0 p1 o0 o1 o2 s0 s1 s2 s3 d0 d1 c0 c1 c2 cq cs' hf hsz
  have e2 : l = encE X := e
  exact ⟨X, by rw [e2], h⟩
theorem qacts_open {P : Program} {t e s q qi te tr ts : TypeId} {k0 k1 k2 k3 h0 h1 h2 h3 m0 m1 m2 m3 m4 m5 m6 g0 g1 f0 f1 f2 : Field} {fuel : Nat} {a : Option Addr} {len cap : Nat} {x : DataW H × List MemPlace} (ht : P.underlying t = some (.slice e)) (he : P.underlying e = some (.struct #[k0, k1, k2, k3])) (v0 : P.underlying k0.type = some (.int .i64))
    (ke : k1.type = te) (ks : k2.type = ts) (kr : k3.type = tr)
    (v1 : P.underlying te = some (.struct #[h0, h1, h2, h3])) (x0 : P.underlying h0.type = some (.int .i64)) (x1 : P.underlying h1.type = some (.struct #[g0, g1])) (x2 : P.underlying h2.type = some (.struct #[g0, g1])) (w0 : P.underlying g0.type = some (.int .i64)) (w1 : P.underlying g1.type = some (.int .u8)) (x3 : P.underlying h3.type = some (.slice s)) (hs : P.underlying s = some (.struct #[f0, f1, f2]))
    (u0 : P.underlying f0.type = some (.array 16 q)) (uq : P.underlying q = some (.int .u8)) (u1 : P.underlying f1.type = some .string) (u2 : P.underlying f2.type = some .bool)
    (r0 : h0.offset = 0) (r1 : h1.offset = 1) (r2 : h2.offset = 3) (r3 : h3.offset = 5) (p0 : g0.offset = 0) (p1 : g1.offset = 1) (o0 : f0.offset = 0) (o1 : f1.offset = 16) (o2 : f2.offset = 17)
    (s0 : P.cellsOf h0.type = 1) (s1 : P.cellsOf h1.type = 2) (s2 : P.cellsOf h2.type = 2) (s3 : P.cellsOf h3.type = 1) (d0 : P.cellsOf g0.type = 1) (d1 : P.cellsOf g1.type = 1) (c0 : P.cellsOf f0.type = 16) (c1 : P.cellsOf f1.type = 1) (c2 : P.cellsOf f2.type = 1) (cq : P.cellsOf q = 1) (cs' : P.cellsOf s = 18)
    (vs : P.underlying ts = some (.struct #[g0, g1]))
    (vr : P.underlying tr = some (.struct #[m0, m1, m2, m3, m4, m5, m6])) (y0 : P.underlying m0.type = some (.int .i64)) (y1 : P.underlying m1.type = some (.int .i64)) (y2 : P.underlying m2.type = some (.struct #[g0, g1])) (y3 : P.underlying m3.type = some (.struct #[g0, g1])) (y4 : P.underlying m4.type = some (.slice s)) (y5 : P.underlying m5.type = some .bool) (y6 : P.underlying m6.type = some (.slice qi)) (ui : P.underlying qi = some (.int .i64))
    (l0 : m0.offset = 0) (l1 : m1.offset = 1) (l2 : m2.offset = 2) (l3 : m3.offset = 4) (l4 : m4.offset = 6) (l5 : m5.offset = 7) (l6 : m6.offset = 8)
    (b0 : P.cellsOf m0.type = 1) (b1 : P.cellsOf m1.type = 1) (b2 : P.cellsOf m2.type = 2) (b3 : P.cellsOf m3.type = 2) (b4 : P.cellsOf m4.type = 1) (b5 : P.cellsOf m5.type = 1) (b6 : P.cellsOf m6.type = 1) (ci : P.cellsOf qi = 1)
    (q0 : k0.offset = 0) (q1 : k1.offset = 1) (q2 : k2.offset = 7) (q3 : k3.offset = 9) (n0 : P.cellsOf k0.type = 1) (n1 : P.cellsOf te = 6) (n2 : P.cellsOf ts = 2) (n3 : P.cellsOf tr = 9) (ce : P.cellsOf e = 18)
    (h : DataW.trod enc P w base (fun _ => true) held fuel t [.slice a len cap] = some x) : ∃ ys : List QAct, ys.length = len ∧ QActsOf w a cap ys := by
  subst ke; subst ks; subst kr
  rcases open_slice ht h with ⟨hcs, _⟩ | ⟨ad, l, c, m, n, D, Pl, hcs, _, hl, _, hmm, _, hx⟩
  · simp at hcs
    obtain ⟨rfl, rfl, rfl⟩ := hcs
    exact ⟨[], rfl, ⟨Nat.le_refl _, .inl rfl, fun V hV => by simp at hV, fun _ => rfl⟩⟩
  · simp at hcs
    obtain ⟨rfl, rfl, rfl⟩ := hcs
    simp only [if_true] at hmm
    by_cases hz : len = 0
    · subst hz
      exact ⟨[], rfl, ⟨Nat.zero_le _, .inl rfl, fun V hV => by simp at hV, fun e => by cases e⟩⟩
    have key : ∀ i, i < len → ∃ Y : QAct, QActOk w Y ∧ w.cell? (ad.add (i * 18)) = some (.int .i64 Y.op) ∧ ∀ b off, ad = ⟨b, off, none⟩ → QActAt w b (off + i * 18) Y := by
      intro i hi
      obtain ⟨cs, hc, htr⟩ := hx i (by omega)
      rw [ce] at hc
      obtain ⟨_, hlen, hcell⟩ := World.cells?_some hc
      match cs, hlen with
      | [z0, z1, z2, z3, z4, z5, z6, z7, z8, z9, z10, z11, z12, z13, z14, z15, z16, z17], _ =>
        obtain ⟨_, _, _, _, k, _, _, j0, j1, j2, j3⟩ := Go.Joins.trod_struct4 he htr
        rw [q0, n0] at j0
        rw [q1, n1] at j1
        rw [q2, n2] at j2
        rw [q3, n3] at j3
        simp only [List.drop_zero, List.drop_succ_cons, List.take_succ_cons, List.take_zero, List.take_nil] at j0 j1 j2 j3
        obtain ⟨a0, e0, _, bb0⟩ := DataW.trod_int v0 j0
        obtain ⟨X, eX, hX⟩ := ent_trod v1 x0 x1 x2 w0 w1 x3 hs u0 uq u1 u2 r0 r1 r2 r3 p0 p1 o0 o1 o2 s0 s1 s2 s3 d0 d1 c0 c1 c2 cq cs' j1 rfl
        obtain ⟨_, _, _, _, _, gA, gB⟩ := trod_struct2 vs j2
        rw [p0, d0] at gA
        rw [p1, d1] at gB
        simp only [List.drop_zero, List.drop_succ_cons, List.take_succ_cons, List.take_zero, List.take_nil] at gA gB
        obtain ⟨a2, e2, _, bb2⟩ := DataW.trod_int w0 gA
        obtain ⟨a3, e3, _, bb3⟩ := DataW.trod_int w1 gB
        obtain ⟨Z, eZ, hZ⟩ := rcd_trod vr y0 y1 y2 y3 w0 w1 y4 hs u0 uq u1 u2 y5 y6 ui l0 l1 l2 l3 l4 l5 l6 p0 p1 o0 o1 o2 b0 b1 b2 b3 b4 b5 b6 d0 d1 c0 c1 c2 cq cs' ci j3 rfl
        simp at e0 e2 e3
        have hall : [z0, z1, z2, z3, z4, z5, z6, z7, z8, z9, z10, z11, z12, z13, z14, z15, z16, z17] = encQ ⟨a0, X, a2, a3, Z⟩ := by
          unfold encQ
          rw [← eX, ← eZ, e0, e2, e3]
          rfl
        rw [hall] at hcell
        refine ⟨⟨a0, X, a2, a3, Z⟩, ⟨bounds_i64 bb0, hX, bounds_i64 bb2, bounds_u8 bb3, hZ⟩, ?_, fun b off hb => ?_⟩
        · have := hcell 0 (by omega)
          have h0 : (encQ ⟨a0, X, a2, a3, Z⟩)[0]? = some (.int .i64 a0) := rfl
          rw [h0] at this
          simpa [Addr.add] using this
        · subst hb
          refine ⟨lies_of fun j u hj => ?_⟩
          have hjl : j < (encQ ⟨a0, X, a2, a3, Z⟩).length := (List.getElem?_eq_some_iff.1 hj).1
          have := hcell j (by rw [encQ_len] at hjl; exact hjl)
          rw [hj] at this
          simpa only [add_atV] using this
    obtain ⟨b, off, spot⟩ := ad
    have hsp : spot = none := by
      obtain ⟨X, _, hX, _⟩ := key 0 (by omega)
      simpa [Addr.add] using World.cell?_spot hX
    subst hsp
    have hch : ∃ f : Nat → QAct, ∀ i, i < len → QActOk w (f i) ∧ QActAt w b (off + i * 18) (f i) := by
      refine ⟨fun i => if hi : i < len then (key i hi).choose else ⟨0, ⟨⟨0, 0, 0, 0, 0, []⟩, none, 0⟩, 0, 0, ⟨⟨0, 0, 0, 0, 0, 0, [], false, []⟩, none, 0, none, 0⟩⟩, fun i hi => ?_⟩
      simp only [dif_pos hi]
      exact ⟨(key i hi).choose_spec.1, (key i hi).choose_spec.2.2 b off rfl⟩
    obtain ⟨f, hf⟩ := hch
    refine ⟨(List.range len).map f, by simp, ⟨by simpa using hl, .inr ⟨b, off, rfl, fun i X hX => ?_⟩, fun V hV => ?_, fun e => by cases e⟩⟩
    · rw [List.getElem?_map] at hX
      by_cases hi : i < len
      · rw [List.getElem?_range hi] at hX
        simp at hX
        subst hX
        exact (hf i hi).2
      · rw [List.getElem?_eq_none (by simp; omega)] at hX
        simp at hX
    · obtain ⟨i, hi, rfl⟩ := List.mem_map.1 hV
      exact (hf i (List.mem_range.1 hi)).1
end
end Go.Proofs.YtileidbdmpeciaaGreat
