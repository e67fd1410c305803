/-
  A list of keys that came in.
  Lists of writes, and of layer 12's acts (each a number, a stamp, a list of writes), that came in.
-/
import Derived.Test.YtpnjcflfnoamoaaGreatAu22
import Derived.Test.YtpnjcflfnoamoaaGreatBase
import Derived.ProofKit
import Derived.OpenShut
import Derived.ChangeSame
import Derived.Deep.Slices
import Derived.Test.YtpnjcflfnoamoaaGreatAu32
import Derived.Test.YtpnjcflfnoamoaaGreatAu34
import Derived.Lib.SmallJoins
namespace Go.Proofs.YtpnjcflfnoamoaaGreat
open Go.RowKit Go.ChangeShapes Go.WideShapes Go.ChangeAt Go.Deep
set_option linter.unusedVariables false

theorem add_add (a : Addr) (x y : Nat) : (a.add x).add y = a.add (x + y) := by
  unfold Addr.add
  by_cases h1 : x = 0
  · simp [h1]
  · by_cases h2 : y = 0
    · simp [h2]
    · have h3 : ¬ (x + y = 0) := by omega
      simp only [if_neg h1, if_neg h2, if_neg h3, Nat.add_assoc]
section
variable {H : Type} {enc : TypeId × Value → H} {w : World} {base : Nat} {held : Bool}
theorem arr_cells {P : Program} {t e : TypeId} {k : IntKind} {n fuel : Nat} {sp : Nat → Bool} {cs : List Value} {x : DataW H × List MemPlace} (ht : P.underlying t = some (.array n e)) (he : P.underlying e = some (.int k)) (ct : P.cellsOf t = n) (ce : P.cellsOf e = 1) (hs : cs.length = n)
    (hf : DataW.trod enc P w base sp held fuel t cs = some x) : ∃ zs : List Int, cs = zs.map (Value.int k) ∧ IsArr k n zs := by
  cases fuel with
  | zero => simp [DataW.trod] at hf
  | succ m =>
    rw [DataW.trod_step] at hf
    unfold DataW.trodStep at hf
    simp only [ht] at hf
    rw [if_pos (by rw [ct]; exact hs)] at hf
    simp only [Option.map_eq_some_iff] at hf
    obtain ⟨ys, hy, _⟩ := hf
    have each : ∀ i, i < n → ∃ z : Int, cs[i]? = some (.int k z) ∧ (Lit.int k z).wf = true := by
      intro i hi
      obtain ⟨y, hy'⟩ := mapM_each hy i (by simpa using hi)
      obtain ⟨z, hz, _, hwf⟩ := DataW.trod_int he hy'
      rw [ce, Nat.mul_one] at hz
      refine ⟨z, ?_, hwf⟩
      have h2 := congrArg (fun l => l[0]?) hz
      simpa using h2
    obtain ⟨f, hfz⟩ := choose_lt each
    refine ⟨(List.range n).map f, ?_, by simp, fun z hz => ?_⟩
    · apply List.ext_getElem
      · simp; omega
      · intro i h1 h2
        simp at h2
        have := (hfz i h2).1
        rw [List.getElem?_eq_getElem h1] at this
        simp at this
        simp [this]
    · simp at hz
      obtain ⟨i, hi, rfl⟩ := hz
      exact (hfz i hi).2
theorem IsArr.ky {zs : List Int} (h : IsArr .u8 16 zs) : Ky zs := ⟨h.1, fun z hz => bounds_u8 (h.2 z hz)⟩
end
end Go.Proofs.YtpnjcflfnoamoaaGreat

namespace Go.Proofs.YtpnjcflfnoamoaaGreat
open Go.RowKit Go.ChangeShapes Go.WideShapes Go.ChangeAt Go.Deep
set_option linter.unusedVariables false

/-- An act. -/
structure SAct where
  op : Int
  t : Int
  n : Int
  a : Option Addr
  cap : Nat
  l : List Wrt
/-- An act's four cells, and its writes. -/
structure SActAt (w : World) (b o : Nat) (x : SAct) : Prop where
  c0 : w.cell? ⟨b, o, none⟩ = some (.int .i64 x.op)
  c1 : w.cell? ⟨b, o + 1, none⟩ = some (.int .i64 x.t)
  c2 : w.cell? ⟨b, o + 2, none⟩ = some (.int .u8 x.n)
  c3 : w.cell? ⟨b, o + 3, none⟩ = some (.slice x.a x.l.length x.cap)
theorem SActAt.lt {w : World} {b o : Nat} {x : SAct} (h : SActAt w b o x) : b < w.heap.size := lt_of_cell h.c0
theorem SActAt.past {w w' : World} {b o : Nat} {x : SAct} (h : SActAt w b o x) (hb : Below w.heap.size w w') : SActAt w' b o x :=
  ⟨(hb.cell (p := ⟨b, o, none⟩) h.lt).trans h.c0, (hb.cell (p := ⟨b, o + 1, none⟩) h.lt).trans h.c1, (hb.cell (p := ⟨b, o + 2, none⟩) h.lt).trans h.c2, (hb.cell (p := ⟨b, o + 3, none⟩) h.lt).trans h.c3⟩
/-- A list of writes that came in. -/
structure WrtsOf (w : World) (a : Option Addr) (cap : Nat) (l : List Wrt) : Prop where
  at_ : WrtsAt w a l
  room : l.length ≤ cap
  few : l.length ≤ 9223372036854775807
structure SActOk (w : World) (x : SAct) : Prop where
  wr : WrtsOf w x.a x.cap x.l
  op : -9223372036854775808 ≤ x.op ∧ x.op ≤ 9223372036854775807
  t : -9223372036854775808 ≤ x.t ∧ x.t ≤ 9223372036854775807
  n : 0 ≤ x.n ∧ x.n ≤ 255
/-- A list of acts that came in. -/
structure SActsOf (w : World) (a : Option Addr) (cap : Nat) (xs : List SAct) : Prop where
  room : xs.length ≤ cap
  cells : xs = [] ∨ ∃ b off, a = some ⟨b, off, none⟩ ∧ ∀ i x, xs[i]? = some x → SActAt w b (off + i * 4) x
  oks : ∀ x ∈ xs, SActOk w x
theorem SActsOf.act {w : World} {a : Option Addr} {cap : Nat} {xs : List SAct} (h : SActsOf w a cap xs) {i : Nat} {x : SAct} (hx : xs[i]? = some x) : ∃ b off, a = some ⟨b, off, none⟩ ∧ SActAt w b (off + i * 4) x ∧ SActOk w x := by
  rcases h.cells with rfl | ⟨b, off, e, hc⟩
  · simp at hx
  · exact ⟨b, off, e, hc i x hx, h.oks x (List.mem_of_getElem? hx)⟩
section
variable {H : Type} {enc : TypeId × Value → H} {w : World} {base : Nat} {held : Bool}
theorem wrt_open {P : Program} {e q : TypeId} {f0 f1 f2 : Field} {fuel : Nat} {cs : List Value} {x : DataW H × List MemPlace} {sp : Nat → Bool} (he : P.underlying e = some (.struct #[f0, f1, f2]))
    (u0 : P.underlying f0.type = some (.array 16 q)) (uq : P.underlying q = some (.int .u8)) (u1 : P.underlying f1.type = some .string) (u2 : P.underlying f2.type = some .bool)
    (o0 : f0.offset = 0) (o1 : f1.offset = 16) (o2 : f2.offset = 17) (c0 : P.cellsOf f0.type = 16) (c1 : P.cellsOf f1.type = 1) (c2 : P.cellsOf f2.type = 1) (cq : P.cellsOf q = 1)
    (hl : cs.length = 18) (h : DataW.trod enc P w base sp held fuel e cs = some x) : ∃ W, WrtOk W ∧ cs = encW W := by
  obtain ⟨y0, y1, y2, k, _, _, h0, h1, h2⟩ := trod_struct3 he h
  rw [o0, c0, List.drop_zero] at h0
  rw [o1, c1] at h1
  rw [o2, c2] at h2
  obtain ⟨zs, hz0, hz⟩ := arr_cells u0 uq c0 cq (by rw [List.length_take]; omega) h0
  obtain ⟨s2, e2, _, w2⟩ := DataW.trod_string u1 h1
  obtain ⟨b3, e3, _⟩ := DataW.trod_bool u2 h2
  obtain ⟨ns, hns, rfl⟩ := str_numsV s2
  refine ⟨⟨zs, ns, b3⟩, ⟨hz.ky, hns, by rw [strOfNums_size] at w2; exact w2⟩, ?_⟩
  have e4 : cs = cs.take 16 ++ (cs.drop 16).take 1 ++ (cs.drop 17).take 1 := by
    apply List.ext_getElem
    · simp only [List.length_append, List.length_take, List.length_drop]; omega
    · intro i h1 h2
      by_cases hi : i < 16
      · rw [List.getElem_append_left (by simp only [List.length_append, List.length_take, List.length_drop]; omega), List.getElem_append_left (by simp only [List.length_take]; omega), List.getElem_take]
      · by_cases hi2 : i = 16
        · subst hi2
          rw [List.getElem_append_left (by simp only [List.length_append, List.length_take, List.length_drop]; omega), List.getElem_append_right (by simp only [List.length_take]; omega)]
          simp only [List.getElem_take, List.getElem_drop, List.length_take]
          congr 1
          omega
        · have : i = 17 := by omega
          subst this
          rw [List.getElem_append_right (by simp only [List.length_append, List.length_take, List.length_drop]; omega)]
          simp only [List.getElem_take, List.getElem_drop, List.length_take, List.length_append, List.length_drop]
          congr 1
          omega
  rw [e4, hz0, e2, e3]
  show zs.map (Value.int .u8) ++ [.string (strOfNums ns)] ++ [.bool b3] = kc zs ++ [.string (strOfNums ns), .bool b3]
  rw [List.append_assoc]
  rfl
theorem wrts_open {P : Program} {t e q : TypeId} {f0 f1 f2 : Field} {fuel : Nat} {a : Option Addr} {len cap : Nat} {x : DataW H × List MemPlace} (ht : P.underlying t = some (.slice e)) (he : P.underlying e = some (.struct #[f0, f1, f2]))
    (u0 : P.underlying f0.type = some (.array 16 q)) (uq : P.underlying q = some (.int .u8)) (u1 : P.underlying f1.type = some .string) (u2 : P.underlying f2.type = some .bool)
    (o0 : f0.offset = 0) (o1 : f1.offset = 16) (o2 : f2.offset = 17) (c0 : P.cellsOf f0.type = 16) (c1 : P.cellsOf f1.type = 1) (c2 : P.cellsOf f2.type = 1) (cq : P.cellsOf q = 1) (ce : P.cellsOf e = 18)
    (h : DataW.trod enc P w base (fun _ => true) held fuel t [.slice a len cap] = some x) : ∃ l : List Wrt, l.length = len ∧ WrtsOf w a cap l := by
  rcases open_slice ht h with ⟨hcs, _⟩ | ⟨ad, l, c, m, n, D, Pl, hcs, _, hl, hlm, hmm, _, hx⟩
  · simp at hcs
    obtain ⟨rfl, rfl, rfl⟩ := hcs
    exact ⟨[], rfl, ⟨⟨.inl rfl, fun V hV => by simp at hV⟩, Nat.le_refl _, by simp⟩⟩
  · simp at hcs
    obtain ⟨rfl, rfl, rfl⟩ := hcs
    simp only [if_true] at hmm
    by_cases h0 : len = 0
    · subst h0
      exact ⟨[], rfl, ⟨⟨.inl rfl, fun V hV => by simp at hV⟩, Nat.zero_le _, by simp⟩⟩
    have key : ∀ i, i < len → ∃ W : Wrt, WrtOk W ∧ (∃ v, w.cell? (ad.add (i * 18)) = some v) ∧ ∀ b off, ad = ⟨b, off, none⟩ → WrtAt w b (off + i * 18) W := by
      intro i hi
      obtain ⟨cs, hc, htr⟩ := hx i (by omega)
      rw [ce] at hc
      obtain ⟨_, hlen, hcell⟩ := World.cells?_some hc
      obtain ⟨W, hW, rfl⟩ := wrt_open he u0 uq u1 u2 o0 o1 o2 c0 c1 c2 cq hlen htr
      refine ⟨W, hW, ?_, fun b off hb => ⟨lies_of fun j u hj => ?_⟩⟩
      · have q0 := hcell 0 (by omega)
        obtain ⟨v, hv⟩ : ∃ v, (encW W)[0]? = some v := ⟨_, List.getElem?_eq_getElem (by omega)⟩
        rw [hv] at q0
        exact ⟨v, by simpa [Addr.add] using q0⟩
      · have hjl : j < 18 := by rw [← hlen]; exact (List.getElem?_eq_some_iff.1 hj).1
        have q0 := hcell j (by omega)
        subst hb
        rw [add_add, add_atV] at q0
        rw [Nat.add_assoc, q0]
        exact hj
    obtain ⟨b, off, spot⟩ := ad
    have hs : spot = none := by
      obtain ⟨X, _, ⟨v, hX⟩, _⟩ := key 0 (by omega)
      simpa [Addr.add] using World.cell?_spot hX
    subst hs
    have hch : ∃ f : Nat → Wrt, ∀ i, i < len → WrtOk (f i) ∧ WrtAt w b (off + i * 18) (f i) := by
      refine ⟨fun i => if hi : i < len then (key i hi).choose else ⟨zeroK, [], false⟩, fun i hi => ?_⟩
      simp only [dif_pos hi]
      exact ⟨(key i hi).choose_spec.1, (key i hi).choose_spec.2.2 b off rfl⟩
    obtain ⟨f, hf⟩ := hch
    refine ⟨(List.range len).map f, by simp, ⟨⟨.inr ⟨b, off, rfl, fun i X hX => ?_⟩, fun V hV => ?_⟩, by simpa using hl, ?_⟩⟩
    · rw [List.getElem?_map] at hX
      by_cases hi : i < len
      · rw [List.getElem?_range hi] at hX
        simp at hX
        subst hX
        exact (hf i hi).2
      · rw [List.getElem?_eq_none (by simp; omega)] at hX
        simp at hX
    · obtain ⟨i, hi, rfl⟩ := List.mem_map.1 hV
      exact (hf i (List.mem_range.1 hi)).1
    · simp
      unfold maxLen at hlm
      omega
theorem sacts_open {P : Program} {t e q s : TypeId} {k0 k1 k2 g0 g1 f0 f1 f2 : Field} {fuel : Nat} {a : Option Addr} {len cap : Nat} {x : DataW H × List MemPlace} (ht : P.underlying t = some (.slice e)) (he : P.underlying e = some (.struct #[k0, k1, k2]))
    (v0 : P.underlying k0.type = some (.int .i64)) (v1 : P.underlying k1.type = some (.struct #[g0, g1])) (w0 : P.underlying g0.type = some (.int .i64)) (w1 : P.underlying g1.type = some (.int .u8)) (v2 : P.underlying k2.type = some (.slice s)) (hs : P.underlying s = some (.struct #[f0, f1, f2]))
    (u0 : P.underlying f0.type = some (.array 16 q)) (uq : P.underlying q = some (.int .u8)) (u1 : P.underlying f1.type = some .string) (u2 : P.underlying f2.type = some .bool)
    (m0 : k0.offset = 0) (m1 : k1.offset = 1) (m2 : k2.offset = 3) (p0 : g0.offset = 0) (p1 : g1.offset = 1) (o0 : f0.offset = 0) (o1 : f1.offset = 16) (o2 : f2.offset = 17)
    (n0 : P.cellsOf k0.type = 1) (n1 : P.cellsOf k1.type = 2) (n2 : P.cellsOf k2.type = 1) (d0 : P.cellsOf g0.type = 1) (d1 : P.cellsOf g1.type = 1) (c0 : P.cellsOf f0.type = 16) (c1 : P.cellsOf f1.type = 1) (c2 : P.cellsOf f2.type = 1) (cq : P.cellsOf q = 1) (cs' : P.cellsOf s = 18) (ce : P.cellsOf e = 4)
    (h : DataW.trod enc P w base (fun _ => true) held fuel t [.slice a len cap] = some x) : ∃ xs : List SAct, xs.length = len ∧ SActsOf w a cap xs := by
  rcases open_slice ht h with ⟨hcs, _⟩ | ⟨ad, l, c, m, n, D, Pl, hcs, _, hl, _, hmm, _, hx⟩
  · simp at hcs
    obtain ⟨rfl, rfl, rfl⟩ := hcs
    exact ⟨[], rfl, ⟨Nat.le_refl _, .inl rfl, fun V hV => by simp at hV⟩⟩
  · simp at hcs
    obtain ⟨rfl, rfl, rfl⟩ := hcs
    simp only [if_true] at hmm
    by_cases h0 : len = 0
    · subst h0
      exact ⟨[], rfl, ⟨Nat.zero_le _, .inl rfl, fun V hV => by simp at hV⟩⟩
    have key : ∀ i, i < len → ∃ X : SAct, SActOk w X ∧ w.cell? (ad.add (i * 4)) = some (.int .i64 X.op) ∧ ∀ b off, ad = ⟨b, off, none⟩ → SActAt w b (off + i * 4) X := by
      intro i hi
      obtain ⟨cs, hc, htr⟩ := hx i (by omega)
      rw [ce] at hc
      obtain ⟨_, hlen, hcell⟩ := World.cells?_some hc
      match cs, hlen with
      | [z0, z1, z2, z3], _ =>
        obtain ⟨y0, y1, y2, k, _, _, h0, h1, h2⟩ := trod_struct3 he htr
        rw [m0, n0] at h0
        rw [m1, n1] at h1
        rw [m2, n2] at h2
        simp only [List.drop_zero, List.drop_succ_cons, List.take_succ_cons, List.take_zero] at h0 h1 h2
        obtain ⟨a0, e0, _, b0⟩ := DataW.trod_int v0 h0
        obtain ⟨s0, s1, k', _, _, g0h, g1h⟩ := trod_struct2 v1 h1
        rw [p0, d0] at g0h
        rw [p1, d1] at g1h
        simp only [List.drop_zero, List.drop_succ_cons, List.take_succ_cons, List.take_zero] at g0h g1h
        obtain ⟨a1, e1, _, b1⟩ := DataW.trod_int w0 g0h
        obtain ⟨a2, e2, _, b2⟩ := DataW.trod_int w1 g1h
        simp at e0 e1 e2
        subst e0; subst e1; subst e2
        obtain ⟨la, ll, lc, rfl⟩ : ∃ la ll lc, z3 = .slice la ll lc := by
          rcases open_slice v2 h2 with ⟨hz, _⟩ | ⟨ad', l', c', _, _, _, _, hz, _⟩
          · simp at hz; exact ⟨_, _, _, hz⟩
          · simp at hz; exact ⟨_, _, _, hz⟩
        obtain ⟨ws, hwl, hws⟩ := wrts_open v2 hs u0 uq u1 u2 o0 o1 o2 c0 c1 c2 cq cs' h2
        have q0 := hcell 0 (by omega)
        have q1 := hcell 1 (by omega)
        have q2 := hcell 2 (by omega)
        have q3 := hcell 3 (by omega)
        refine ⟨⟨a0, a1, a2, la, lc, ws⟩, ⟨hws, bounds_i64 b0, bounds_i64 b1, bounds_u8 b2⟩, by simpa [Addr.add] using q0, fun b off hb => ?_⟩
        subst hb
        simp only [add_atV] at q0 q1 q2 q3
        exact ⟨q0, q1, q2, by rw [hwl]; exact q3⟩
    obtain ⟨b, off, spot⟩ := ad
    have hs : spot = none := by
      obtain ⟨X, _, hX, _⟩ := key 0 (by omega)
      simpa [Addr.add] using World.cell?_spot hX
    subst hs
    have hch : ∃ f : Nat → SAct, ∀ i, i < len → SActOk w (f i) ∧ SActAt w b (off + i * 4) (f i) := by
      refine ⟨fun i => if hi : i < len then (key i hi).choose else ⟨0, 0, 0, none, 0, []⟩, fun i hi => ?_⟩
      simp only [dif_pos hi]
      exact ⟨(key i hi).choose_spec.1, (key i hi).choose_spec.2.2 b off rfl⟩
    obtain ⟨f, hf⟩ := hch
    refine ⟨(List.range len).map f, by simp, ⟨by simpa using hl, .inr ⟨b, off, rfl, fun i X hX => ?_⟩, fun V hV => ?_⟩⟩
    · rw [List.getElem?_map] at hX
      by_cases hi : i < len
      · rw [List.getElem?_range hi] at hX
        simp at hX
        subst hX
        exact (hf i hi).2
      · rw [List.getElem?_eq_none (by simp; omega)] at hX
        simp at hX
    · obtain ⟨i, hi, rfl⟩ := List.mem_map.1 hV
      exact (hf i (List.mem_range.1 hi)).1
end
end Go.Proofs.YtpnjcflfnoamoaaGreat

