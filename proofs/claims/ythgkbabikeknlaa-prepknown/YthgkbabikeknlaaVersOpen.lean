/-
  Lists of versions of one key, and of calls on a chain, that came in: where their cells lie.
-/
import Derived.Test.YthgkbabikeknlaaPa
import Derived.Test.YthgkbabikeknlaaBase
import Derived.ProofKit
import Derived.OpenShut
import Derived.ChangeSame
import Derived.Deep.Strs
import Derived.Deep.Slices
import Derived.Below
namespace Go.Proofs.Ythgkbabikeknlaa
open Go.RowKit Go.ChangeShapes Go.WideShapes Go.ChangeAt Go.Deep
set_option linter.unusedVariables false

theorem str_numsV (S : ByteArray) : ∃ ns : List Int, (∀ z ∈ ns, 0 ≤ z ∧ z ≤ 255) ∧ S = strOfNums ns := by
  refine ⟨S.data.toList.map fun b => (b.toNat : Int), fun z hz => ?_, ?_⟩
  · obtain ⟨b, _, rfl⟩ := List.mem_map.1 hz
    have := b.toNat_lt
    omega
  · apply ByteArray.ext
    apply Array.toList_inj.1
    have : (strOfNums (S.data.toList.map fun b => (b.toNat : Int))).data.toList = (S.data.toList.map fun b => (b.toNat : Int)).map fun n => UInt8.ofNat n.toNat := by rw [strOfNums_data]
    rw [this, List.map_map]
    have e : ((fun n : Int => UInt8.ofNat n.toNat) ∘ fun b : UInt8 => (b.toNat : Int)) = id := by
      funext b
      simp
    rw [e, List.map_id]
/-- A version of no key, as four cells. -/
def encC (V : Ver) : List Value := [.int .i64 V.t, .int .u8 V.n, .string (strOfNums V.v), .bool V.g]
abbrev cvv (V : Ver) : Value := .agg #[.int .i64 V.t, .int .u8 V.n, .string (strOfNums V.v), .bool V.g]
/-- A version that came in: of no key, its numbers in their bounds. -/
structure VerIn (V : Ver) : Prop where
  key : V.k = zeroK
  t : -9223372036854775808 ≤ V.t ∧ V.t ≤ 9223372036854775807
  n : 0 ≤ V.n ∧ V.n ≤ 255
  val : ∀ z ∈ V.v, 0 ≤ z ∧ z ≤ 255
  few : V.v.length ≤ maxLen
theorem VerIn.ok {V : Ver} (h : VerIn V) (hl : V.v.length ≤ 1000000) : VerOk V := ⟨by rw [h.key]; exact zeroK_ky, h.t.1, h.t.2, h.n.1, h.n.2, h.val, hl⟩
structure CVerAt (w : World) (b o : Nat) (V : Ver) : Prop where
  c0 : w.cell? ⟨b, o, none⟩ = some (.int .i64 V.t)
  c1 : w.cell? ⟨b, o + 1, none⟩ = some (.int .u8 V.n)
  c2 : w.cell? ⟨b, o + 2, none⟩ = some (.string (strOfNums V.v))
  c3 : w.cell? ⟨b, o + 3, none⟩ = some (.bool V.g)
theorem CVerAt.lt {w : World} {b o : Nat} {V : Ver} (h : CVerAt w b o V) : b < w.heap.size := lt_of_cell h.c0
theorem CVerAt.past {w w' : World} {b o : Nat} {V : Ver} (h : CVerAt w b o V) (hb : Below w.heap.size w w') : CVerAt w' b o V :=
  ⟨(hb.cell (p := ⟨b, o, none⟩) h.lt).trans h.c0, (hb.cell (p := ⟨b, o + 1, none⟩) h.lt).trans h.c1, (hb.cell (p := ⟨b, o + 2, none⟩) h.lt).trans h.c2, (hb.cell (p := ⟨b, o + 3, none⟩) h.lt).trans h.c3⟩
/-- A list of versions that came in. -/
structure CVersOf (w : World) (a : Option Addr) (cap : Nat) (xs : List Ver) : Prop where
  room : xs.length ≤ cap
  cells : xs = [] ∨ ∃ b off, a = some ⟨b, off, none⟩ ∧ ∀ i V, xs[i]? = some V → CVerAt w b (off + i * 4) V
  ins : ∀ V ∈ xs, VerIn V
/-- A call on a chain: which, and its version. -/
structure CAct where
  op : Int
  V : Ver
structure CActsOf (w : World) (a : Option Addr) (cap : Nat) (xs : List CAct) : Prop where
  room : xs.length ≤ cap
  cells : xs = [] ∨ ∃ b off, a = some ⟨b, off, none⟩ ∧ ∀ i x, xs[i]? = some x → w.cell? ⟨b, off + i * 5, none⟩ = some (.int .i64 x.op) ∧ CVerAt w b (off + i * 5 + 1) x.V
  ins : ∀ x ∈ xs, VerIn x.V ∧ -9223372036854775808 ≤ x.op ∧ x.op ≤ 9223372036854775807
theorem add_atV (b off j : Nat) : (⟨b, off, none⟩ : Addr).add j = ⟨b, off + j, none⟩ := by unfold Addr.add; split <;> simp_all
section
variable {H : Type} {enc : TypeId × Value → H} {w : World} {base : Nat} {held : Bool}
theorem ver_open {P : Program} {e : TypeId} {f0 f1 f2 g0 g1 : Field} {fuel : Nat} {cs : List Value} {x : DataW H × List MemPlace} {sp : Nat → Bool} (he : P.underlying e = some (.struct #[f0, f1, f2]))
    (u0 : P.underlying f0.type = some (.struct #[g0, g1])) (v0 : P.underlying g0.type = some (.int .i64)) (v1 : P.underlying g1.type = some (.int .u8)) (u1 : P.underlying f1.type = some .string) (u2 : P.underlying f2.type = some .bool)
    (o0 : f0.offset = 0) (o1 : f1.offset = 2) (o2 : f2.offset = 3) (p0 : g0.offset = 0) (p1 : g1.offset = 1) (c0 : P.cellsOf f0.type = 2) (c1 : P.cellsOf f1.type = 1) (c2 : P.cellsOf f2.type = 1) (d0 : P.cellsOf g0.type = 1) (d1 : P.cellsOf g1.type = 1)
    (hl : cs.length = 4) (h : DataW.trod enc P w base sp held fuel e cs = some x) : ∃ V, VerIn V ∧ cs = encC V := by
  match cs, hl with
  | [z0, z1, z2, z3], _ =>
    obtain ⟨y0, y1, y2, k, _, _, h0, h1, h2⟩ := trod_struct3 he h
    rw [o0, c0] at h0
    rw [o1, c1] at h1
    rw [o2, c2] at h2
    simp only [List.drop_zero, List.drop_succ_cons, List.take_succ_cons, List.take_zero] at h0 h1 h2
    obtain ⟨s0, s1, k', _, _, g0h, g1h⟩ := trod_struct2 u0 h0
    rw [p0, d0] at g0h
    rw [p1, d1] at g1h
    simp only [List.drop_zero, List.drop_succ_cons, List.take_succ_cons, List.take_zero] at g0h g1h
    obtain ⟨a0, e0, _, w0⟩ := DataW.trod_int v0 g0h
    obtain ⟨a1, e1, _, w1⟩ := DataW.trod_int v1 g1h
    obtain ⟨s2, e2, _, w2⟩ := DataW.trod_string u1 h1
    obtain ⟨b3, e3, _⟩ := DataW.trod_bool u2 h2
    simp at e0 e1 e2 e3
    subst e0; subst e1; subst e2; subst e3
    obtain ⟨ns, hns, rfl⟩ := str_numsV s2
    exact ⟨⟨zeroK, a0, a1, ns, b3⟩, ⟨rfl, bounds_i64 w0, bounds_u8 w1, hns, by rw [strOfNums_size] at w2; exact w2⟩, rfl⟩
theorem vers_open {P : Program} {t e : TypeId} {f0 f1 f2 g0 g1 : Field} {fuel : Nat} {a : Option Addr} {len cap : Nat} {x : DataW H × List MemPlace} (ht : P.underlying t = some (.slice e)) (he : P.underlying e = some (.struct #[f0, f1, f2]))
    (u0 : P.underlying f0.type = some (.struct #[g0, g1])) (v0 : P.underlying g0.type = some (.int .i64)) (v1 : P.underlying g1.type = some (.int .u8)) (u1 : P.underlying f1.type = some .string) (u2 : P.underlying f2.type = some .bool)
    (o0 : f0.offset = 0) (o1 : f1.offset = 2) (o2 : f2.offset = 3) (p0 : g0.offset = 0) (p1 : g1.offset = 1) (c0 : P.cellsOf f0.type = 2) (c1 : P.cellsOf f1.type = 1) (c2 : P.cellsOf f2.type = 1) (d0 : P.cellsOf g0.type = 1) (d1 : P.cellsOf g1.type = 1) (ce : P.cellsOf e = 4)
    (h : DataW.trod enc P w base (fun _ => true) held fuel t [.slice a len cap] = some x) : ∃ xs : List Ver, xs.length = len ∧ CVersOf w a cap xs := by
  rcases open_slice ht h with ⟨hcs, _⟩ | ⟨ad, l, c, m, n, D, Pl, hcs, _, hl, _, hmm, _, hx⟩
  · simp at hcs
    obtain ⟨rfl, rfl, rfl⟩ := hcs
    exact ⟨[], rfl, ⟨Nat.le_refl _, .inl rfl, fun V hV => by simp at hV⟩⟩
  · simp at hcs
    obtain ⟨rfl, rfl, rfl⟩ := hcs
    simp only [if_true] at hmm
    by_cases h0 : len = 0
    · subst h0
      exact ⟨[], rfl, ⟨Nat.zero_le _, .inl rfl, fun V hV => by simp at hV⟩⟩
    have key : ∀ i, i < len → ∃ V : Ver, VerIn V ∧ w.cell? (ad.add (i * 4)) = some (.int .i64 V.t) ∧ ∀ b off, ad = ⟨b, off, none⟩ → CVerAt w b (off + i * 4) V := by
      intro i hi
      obtain ⟨cs, hc, htr⟩ := hx i (by omega)
      rw [ce] at hc
      obtain ⟨_, hlen, hcell⟩ := World.cells?_some hc
      obtain ⟨V, hV, rfl⟩ := ver_open he u0 v0 v1 u1 u2 o0 o1 o2 p0 p1 c0 c1 c2 d0 d1 hlen htr
      have q0 := hcell 0 (by omega)
      have q1 := hcell 1 (by omega)
      have q2 := hcell 2 (by omega)
      have q3 := hcell 3 (by omega)
      refine ⟨V, hV, by simpa [Addr.add, encC] using q0, fun b off hb => ?_⟩
      subst hb
      simp only [add_atV] at q0 q1 q2 q3
      exact ⟨q0, q1, q2, q3⟩
    obtain ⟨b, off, spot⟩ := ad
    have hs : spot = none := by
      obtain ⟨X, _, hX, _⟩ := key 0 (by omega)
      simpa [Addr.add] using World.cell?_spot hX
    subst hs
    have hch : ∃ f : Nat → Ver, ∀ i, i < len → VerIn (f i) ∧ CVerAt w b (off + i * 4) (f i) := by
      refine ⟨fun i => if hi : i < len then (key i hi).choose else ⟨zeroK, 0, 0, [], false⟩, fun i hi => ?_⟩
      simp only [dif_pos hi]
      exact ⟨(key i hi).choose_spec.1, (key i hi).choose_spec.2.2 b off rfl⟩
    obtain ⟨f, hf⟩ := hch
    refine ⟨(List.range len).map f, by simp, ⟨by simpa using hl, .inr ⟨b, off, rfl, fun i X hX => ?_⟩, fun V hV => ?_⟩⟩
    · rw [List.getElem?_map] at hX
      by_cases hi : i < len
      · rw [List.getElem?_range hi] at hX
        simp at hX
        subst hX
        exact (hf i hi).2
      · rw [List.getElem?_eq_none (by simp; omega)] at hX
        simp at hX
    · obtain ⟨i, hi, rfl⟩ := List.mem_map.1 hV
      exact (hf i (List.mem_range.1 hi)).1
theorem cacts_open {P : Program} {t e e2 : TypeId} {k0 k1 f0 f1 f2 g0 g1 : Field} {fuel : Nat} {a : Option Addr} {len cap : Nat} {x : DataW H × List MemPlace} (ht : P.underlying t = some (.slice e2)) (he2 : P.underlying e2 = some (.struct #[k0, k1])) (hk0 : P.underlying k0.type = some (.int .i64)) (he : P.underlying k1.type = some (.struct #[f0, f1, f2]))
    (u0 : P.underlying f0.type = some (.struct #[g0, g1])) (v0 : P.underlying g0.type = some (.int .i64)) (v1 : P.underlying g1.type = some (.int .u8)) (u1 : P.underlying f1.type = some .string) (u2 : P.underlying f2.type = some .bool)
    (m0 : k0.offset = 0) (m1 : k1.offset = 1) (o0 : f0.offset = 0) (o1 : f1.offset = 2) (o2 : f2.offset = 3) (p0 : g0.offset = 0) (p1 : g1.offset = 1) (n0 : P.cellsOf k0.type = 1) (n1 : P.cellsOf k1.type = 4) (c0 : P.cellsOf f0.type = 2) (c1 : P.cellsOf f1.type = 1) (c2 : P.cellsOf f2.type = 1) (d0 : P.cellsOf g0.type = 1) (d1 : P.cellsOf g1.type = 1) (ce : P.cellsOf e2 = 5)
    (h : DataW.trod enc P w base (fun _ => true) held fuel t [.slice a len cap] = some x) : ∃ xs : List CAct, xs.length = len ∧ CActsOf w a cap xs := by
  rcases open_slice ht h with ⟨hcs, _⟩ | ⟨ad, l, c, m, n, D, Pl, hcs, _, hl, _, hmm, _, hx⟩
  · simp at hcs
    obtain ⟨rfl, rfl, rfl⟩ := hcs
    exact ⟨[], rfl, ⟨Nat.le_refl _, .inl rfl, fun V hV => by simp at hV⟩⟩
  · simp at hcs
    obtain ⟨rfl, rfl, rfl⟩ := hcs
    simp only [if_true] at hmm
    by_cases h0 : len = 0
    · subst h0
      exact ⟨[], rfl, ⟨Nat.zero_le _, .inl rfl, fun V hV => by simp at hV⟩⟩
    have key : ∀ i, i < len → ∃ X : CAct, (VerIn X.V ∧ -9223372036854775808 ≤ X.op ∧ X.op ≤ 9223372036854775807) ∧ w.cell? (ad.add (i * 5)) = some (.int .i64 X.op) ∧ ∀ b off, ad = ⟨b, off, none⟩ → w.cell? ⟨b, off + i * 5, none⟩ = some (.int .i64 X.op) ∧ CVerAt w b (off + i * 5 + 1) X.V := by
      intro i hi
      obtain ⟨cs, hc, htr⟩ := hx i (by omega)
      rw [ce] at hc
      obtain ⟨_, hlen, hcell⟩ := World.cells?_some hc
      match cs, hlen with
      | [z0, z1, z2, z3, z4], _ =>
        obtain ⟨y0, y1, k', _, _, g0h, g1h⟩ := trod_struct2 he2 htr
        rw [m0, n0] at g0h
        rw [m1, n1] at g1h
        simp only [List.drop_zero, List.drop_succ_cons, List.take_succ_cons, List.take_zero] at g0h g1h
        obtain ⟨a0, e0, _, w0⟩ := DataW.trod_int hk0 g0h
        simp at e0
        subst e0
        obtain ⟨V, hV, hcs⟩ := ver_open he u0 v0 v1 u1 u2 o0 o1 o2 p0 p1 c0 c1 c2 d0 d1 rfl g1h
        unfold encC at hcs
        simp at hcs
        obtain ⟨rfl, rfl, rfl, rfl⟩ := hcs
        have q0 := hcell 0 (by omega)
        have q1 := hcell 1 (by omega)
        have q2 := hcell 2 (by omega)
        have q3 := hcell 3 (by omega)
        have q4 := hcell 4 (by omega)
        refine ⟨⟨a0, V⟩, ⟨hV, bounds_i64 w0⟩, by simpa [Addr.add] using q0, fun b off hb => ?_⟩
        subst hb
        simp only [add_atV] at q0 q1 q2 q3 q4
        exact ⟨q0, q1, q2, q3, q4⟩
    obtain ⟨b, off, spot⟩ := ad
    have hs : spot = none := by
      obtain ⟨X, _, hX, _⟩ := key 0 (by omega)
      simpa [Addr.add] using World.cell?_spot hX
    subst hs
    have hch : ∃ f : Nat → CAct, ∀ i, i < len → (VerIn (f i).V ∧ -9223372036854775808 ≤ (f i).op ∧ (f i).op ≤ 9223372036854775807) ∧ w.cell? ⟨b, off + i * 5, none⟩ = some (.int .i64 (f i).op) ∧ CVerAt w b (off + i * 5 + 1) (f i).V := by
      refine ⟨fun i => if hi : i < len then (key i hi).choose else ⟨0, ⟨zeroK, 0, 0, [], false⟩⟩, fun i hi => ?_⟩
      simp only [dif_pos hi]
      exact ⟨(key i hi).choose_spec.1, (key i hi).choose_spec.2.2 b off rfl⟩
    obtain ⟨f, hf⟩ := hch
    refine ⟨(List.range len).map f, by simp, ⟨by simpa using hl, .inr ⟨b, off, rfl, fun i X hX => ?_⟩, fun V hV => ?_⟩⟩
    · rw [List.getElem?_map] at hX
      by_cases hi : i < len
      · rw [List.getElem?_range hi] at hX
        simp at hX
        subst hX
        exact (hf i hi).2
      · rw [List.getElem?_eq_none (by simp; omega)] at hX
        simp at hX
    · obtain ⟨i, hi, rfl⟩ := List.mem_map.1 hV
      exact (hf i (List.mem_range.1 hi)).1
end
end Go.Proofs.Ythgkbabikeknlaa
