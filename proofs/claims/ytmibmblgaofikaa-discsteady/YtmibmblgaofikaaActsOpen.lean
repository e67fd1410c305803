/-
  A list of layer 7's acts that came in: each a number, another, a list of numbers, a stamp.
-/
import Derived.Test.YtmibmblgaofikaaProg
import Derived.ProofKit
import Derived.OpenShut
import Derived.ChangeSame
import Derived.Lib.SmallJoins
import Derived.Deep.Slices
import Derived.Below
namespace Go.Proofs.Ytmibmblgaofikaa
open Go.RowKit Go.ChangeShapes Go.WideShapes Go.ChangeAt Go.Deep
set_option linter.unusedVariables false

/-- A list of 64-bit numbers that lies somewhere: its numbers, and where they are. -/
structure Row64 (w : World) (a : Option Addr) (zs : List Int) : Prop where
  nums : ∀ z ∈ zs, -9223372036854775808 ≤ z ∧ z ≤ 9223372036854775807
  cells : zs = [] ∨ ∃ b off, a = some ⟨b, off, none⟩ ∧ ∀ j, j < zs.length → w.cell? ⟨b, off + j, none⟩ = some (.int .i64 (zs.getD j 0))
/-- An act. -/
structure ActV where
  op : Int
  v : Int
  a : Option Addr
  cap : Nat
  zs : List Int
  t : Int
  n : Int
/-- An act's five cells, and its list. -/
structure ActAt (w : World) (b o : Nat) (x : ActV) : Prop where
  c0 : w.cell? ⟨b, o, none⟩ = some (.int .i64 x.op)
  c1 : w.cell? ⟨b, o + 1, none⟩ = some (.int .i64 x.v)
  c2 : w.cell? ⟨b, o + 2, none⟩ = some (.slice x.a x.zs.length x.cap)
  c3 : w.cell? ⟨b, o + 3, none⟩ = some (.int .i64 x.t)
  c4 : w.cell? ⟨b, o + 4, none⟩ = some (.int .u8 x.n)
  row : Row64 w x.a x.zs
  room : x.zs.length ≤ x.cap
  nil : x.a = none → x.zs = [] ∧ x.cap = 0
  bop : -9223372036854775808 ≤ x.op ∧ x.op ≤ 9223372036854775807
  bv : -9223372036854775808 ≤ x.v ∧ x.v ≤ 9223372036854775807
  bt : -9223372036854775808 ≤ x.t ∧ x.t ≤ 9223372036854775807
  bn : 0 ≤ x.n ∧ x.n ≤ 255
/-- A list of acts that came in. -/
structure ActsOf (w : World) (a : Option Addr) (cap : Nat) (xs : List ActV) : Prop where
  room : xs.length ≤ cap
  cells : xs = [] ∨ ∃ b off, a = some ⟨b, off, none⟩ ∧ ∀ i x, xs[i]? = some x → ActAt w b (off + i * 5) x
theorem add_at (b off j : Nat) : (⟨b, off, none⟩ : Addr).add j = ⟨b, off + j, none⟩ := by unfold Addr.add; split <;> simp_all
theorem row64_of {w : World} {a : Addr} {len : Nat} {zs : List Int} (hl : len ≤ zs.length) (hc : ∀ i, i < zs.length → w.cell? (a.add i) = some (.int .i64 (zs.getD i 0))) (hw : ∀ n ∈ zs, (Lit.int .i64 n).wf = true) : Row64 w (some a) (zs.take len) := by
  refine ⟨fun z hz => bounds_i64 (hw z (List.mem_of_mem_take hz)), ?_⟩
  by_cases h0 : zs.take len = []
  · exact .inl h0
  · have hpos : 0 < zs.length := by
      rcases Nat.eq_zero_or_pos zs.length with h | h
      · rw [List.eq_nil_of_length_eq_zero h] at h0; simp at h0
      · exact h
    obtain ⟨b, off, spot⟩ := a
    have hs : spot = none := by simpa [Addr.add] using World.cell?_spot (hc 0 hpos)
    subst hs
    refine .inr ⟨b, off, rfl, fun j hj => ?_⟩
    rw [List.length_take] at hj
    have := hc j (by omega)
    rw [add_at] at this
    rw [this]
    have hjl : j < len := by omega
    simp [List.getD, List.getElem?_take_of_lt hjl]
section
variable {H : Type} {enc : TypeId × Value → H} {w : World} {base : Nat} {held : Bool}
theorem acts_open {P : Program} {t e q : TypeId} {f0 f1 f2 f3 g0 g1 : Field} {fuel : Nat} {a : Option Addr} {len cap : Nat} {x : DataW H × List MemPlace} (ht : P.underlying t = some (.slice e)) (he : P.underlying e = some (.struct #[f0, f1, f2, f3]))
    (u0 : P.underlying f0.type = some (.int .i64)) (u1 : P.underlying f1.type = some (.int .i64)) (u2 : P.underlying f2.type = some (.slice q)) (uq : P.underlying q = some (.int .i64)) (u3 : P.underlying f3.type = some (.struct #[g0, g1])) (v0 : P.underlying g0.type = some (.int .i64)) (v1 : P.underlying g1.type = some (.int .u8))
    (o0 : f0.offset = 0) (o1 : f1.offset = 1) (o2 : f2.offset = 2) (o3 : f3.offset = 3) (p0 : g0.offset = 0) (p1 : g1.offset = 1)
    (c0 : P.cellsOf f0.type = 1) (c1 : P.cellsOf f1.type = 1) (c2 : P.cellsOf f2.type = 1) (c3 : P.cellsOf f3.type = 2) (d0 : P.cellsOf g0.type = 1) (d1 : P.cellsOf g1.type = 1) (cq : P.cellsOf q = 1) (ce : P.cellsOf e = 5)
    (h : DataW.trod enc P w base (fun _ => true) held fuel t [.slice a len cap] = some x) : ∃ xs : List ActV, xs.length = len ∧ ActsOf w a cap xs := by
  rcases open_slice ht h with ⟨hcs, _⟩ | ⟨ad, l, c, m, n, D, Pl, hcs, _, hl, _, hmm, _, hx⟩
  · simp at hcs
    obtain ⟨rfl, rfl, rfl⟩ := hcs
    exact ⟨[], rfl, ⟨Nat.le_refl _, .inl rfl⟩⟩
  · simp at hcs
    obtain ⟨rfl, rfl, rfl⟩ := hcs
    simp only [if_true] at hmm
    by_cases h0 : len = 0
    · subst h0
      exact ⟨[], rfl, ⟨Nat.zero_le _, .inl rfl⟩⟩
    have key : ∀ i, i < len → ∃ X : ActV, w.cell? (ad.add (i * 5)) = some (.int .i64 X.op) ∧ ∀ b off, ad = ⟨b, off, none⟩ → ActAt w b (off + i * 5) X := by
      intro i hi
      obtain ⟨cs, hc, htr⟩ := hx i (by omega)
      rw [ce] at hc
      obtain ⟨_, hlen, hcell⟩ := World.cells?_some hc
      match cs, hlen with
      | [z0, z1, z2, z3, z4], _ =>
        obtain ⟨y0, y1, y2, y3, k, _, _, h0, h1, h2, h3⟩ := Go.Joins.trod_struct4 he htr
        rw [o0, c0] at h0
        rw [o1, c1] at h1
        rw [o2, c2] at h2
        rw [o3, c3] at h3
        simp only [List.drop_zero, List.drop_succ_cons, List.take_succ_cons, List.take_zero] at h0 h1 h2 h3
        obtain ⟨a0, e0, _, w0⟩ := DataW.trod_int u0 h0
        obtain ⟨a1, e1, _, w1⟩ := DataW.trod_int u1 h1
        obtain ⟨s0, s1, k', _, _, g0h, g1h⟩ := trod_struct2 u3 h3
        rw [p0, d0] at g0h
        rw [p1, d1] at g1h
        simp only [List.drop_zero, List.drop_succ_cons, List.take_succ_cons, List.take_zero] at g0h g1h
        obtain ⟨a3, e3, _, w3⟩ := DataW.trod_int v0 g0h
        obtain ⟨a4, e4, _, w4⟩ := DataW.trod_int v1 g1h
        simp at e0 e1 e3 e4
        subst e0; subst e1; subst e3; subst e4
        have q0 := hcell 0 (by omega)
        have q1 := hcell 1 (by omega)
        have q2 := hcell 2 (by omega)
        have q3 := hcell 3 (by omega)
        have q4 := hcell 4 (by omega)
        rcases open_ints u2 uq cq h2 with ⟨hz, _⟩ | ⟨la, ll, lc, zs, hz, _, hll, _, hzl, _, hzc, hzw⟩
        · simp at hz
          subst hz
          refine ⟨⟨a0, a1, none, 0, [], a3, a4⟩, by simpa [Addr.add] using q0, fun b off hb => ?_⟩
          subst hb
          simp only [add_at] at q0 q1 q2 q3 q4
          exact ⟨q0, q1, q2, q3, q4, ⟨fun z hz => by simp at hz, .inl rfl⟩, Nat.le_refl _, fun _ => ⟨rfl, rfl⟩, bounds_i64 w0, bounds_i64 w1, bounds_i64 w3, bounds_u8 w4⟩
        · simp at hz
          subst hz
          simp only [if_true] at hzl
          have hlt : (zs.take ll).length = ll := by rw [List.length_take]; omega
          refine ⟨⟨a0, a1, some la, lc, zs.take ll, a3, a4⟩, by simpa [Addr.add] using q0, fun b off hb => ?_⟩
          subst hb
          simp only [add_at] at q0 q1 q2 q3 q4
          exact ⟨q0, q1, by rw [hlt]; exact q2, q3, q4, row64_of (by omega) hzc hzw, by rw [hlt]; exact hll, fun h => by simp at h, bounds_i64 w0, bounds_i64 w1, bounds_i64 w3, bounds_u8 w4⟩
    obtain ⟨b, off, spot⟩ := ad
    have hs : spot = none := by
      obtain ⟨X, hX, _⟩ := key 0 (by omega)
      simpa [Addr.add] using World.cell?_spot hX
    subst hs
    have hch : ∃ f : Nat → ActV, ∀ i, i < len → ActAt w b (off + i * 5) (f i) := by
      refine ⟨fun i => if hi : i < len then (key i hi).choose else ⟨0, 0, none, 0, [], 0, 0⟩, fun i hi => ?_⟩
      simp only [dif_pos hi]
      exact (key i hi).choose_spec.2 b off rfl
    obtain ⟨f, hf⟩ := hch
    refine ⟨(List.range len).map f, by simp, ⟨by simpa using hl, .inr ⟨b, off, rfl, fun i X hX => ?_⟩⟩⟩
    rw [List.getElem?_map] at hX
    by_cases hi : i < len
    · rw [List.getElem?_range hi] at hX
      simp at hX
      subst hX
      exact hf i hi
    · rw [List.getElem?_eq_none (by simp; omega)] at hX
      simp at hX
end
end Go.Proofs.Ytmibmblgaofikaa
