/-
  A list of keys that came in.
  Lists of writes, and of layer 12's acts (each a number, a stamp, a list of writes), that came in.
  Lists of layer 13's acts (each a number and an entry) that came in.
  A record that came in, by value.
  Entries and records that came in, by value or in a list; lists of layer 16's acts (each a number, an entry, a stamp, a record).
-/
import Derived.Test.YtileidbdmpeciaaGreatAu79
import Derived.Test.YtileidbdmpeciaaGreatAu113
import Derived.ProofKit
import Derived.OpenShut
import Derived.ChangeSame
import Derived.Deep.Slices
import Derived.Test.YtileidbdmpeciaaGreatAu96
import Derived.Test.YtileidbdmpeciaaGreatAu114
import Derived.Lib.SmallJoins
import Derived.Test.YtileidbdmpeciaaGreatAu73
namespace Go.Proofs.YtileidbdmpeciaaGreat
open Go.RowKit Go.ChangeShapes Go.WideShapes Go.ChangeAt Go.Deep
set_option linter.unusedVariables false

theorem add_add (a : Addr) (x y : Nat) : (a.add x).add y = a.add (x + y) := by
  unfold Addr.add
  by_cases h1 : x = 0
  · simp [h1]
  · by_cases h2 : y = 0
    · simp [h2]
    · have h3 : ¬ (x + y = 0) := by omega
      simp only [if_neg h1, if_neg h2, if_neg h3, Nat.add_assoc]
section
variable {H : Type} {enc : TypeId × Value → H} {w : World} {base : Nat} {held : Bool}
theorem arr_cells {P : Program} {t e : TypeId} {k : IntKind} {n fuel : Nat} {sp : Nat → Bool} {cs : List Value} {x : DataW H × List MemPlace} (ht : P.underlying t = some (.array n e)) (he : P.underlying e = some (.int k)) (ct : P.cellsOf t = n) (ce : P.cellsOf e = 1) (hs : cs.length = n)
    (hf : DataW.trod enc P w base sp held fuel t cs = some x) : ∃ zs : List Int, cs = zs.map (Value.int k) ∧ IsArr k n zs := by
  cases fuel with
  | zero => simp [DataW.trod] at hf
  | succ m =>
    rw [DataW.trod_step] at hf
    unfold DataW.trodStep at hf
    simp only [ht] at hf
    rw [if_pos (by rw [ct]; exact hs)] at hf
    simp only [Option.map_eq_some_iff] at hf
    obtain ⟨ys, hy, _⟩ := hf
    have each : ∀ i, i < n → ∃ z : Int, cs[i]? = some (.int k z) ∧ (Lit.int k z).wf = true := by
      intro i hi
      obtain ⟨y, hy'⟩ := mapM_each hy i (by simpa using hi)
      obtain ⟨z, hz, _, hwf⟩ := DataW.trod_int he hy'
      rw [ce, Nat.mul_one] at hz
      refine ⟨z, ?_, hwf⟩
      have h2 := congrArg (fun l => l[0]?) hz
      simpa using h2
    obtain ⟨f, hfz⟩ := choose_lt each
    refine ⟨(List.range n).map f, ?_, by simp, fun z hz => ?_⟩
    · apply List.ext_getElem
      · simp; omega
      · intro i h1 h2
        simp at h2
        have := (hfz i h2).1
        rw [List.getElem?_eq_getElem h1] at this
        simp at this
        simp [this]
    · simp at hz
      obtain ⟨i, hi, rfl⟩ := hz
      exact (hfz i hi).2
theorem IsArr.ky {zs : List Int} (h : IsArr .u8 16 zs) : Ky zs := ⟨h.1, fun z hz => bounds_u8 (h.2 z hz)⟩
end
end Go.Proofs.YtileidbdmpeciaaGreat

namespace Go.Proofs.YtileidbdmpeciaaGreat
open Go.RowKit Go.ChangeShapes Go.WideShapes Go.ChangeAt Go.Deep
set_option linter.unusedVariables false

/-- An act. -/
structure SAct where
  op : Int
  t : Int
  n : Int
  a : Option Addr
  cap : Nat
  l : List Wrt
/-- An act's four cells, and its writes. -/
structure SActAt (w : World) (b o : Nat) (x : SAct) : Prop where
  c0 : w.cell? ⟨b, o, none⟩ = some (.int .i64 x.op)
  c1 : w.cell? ⟨b, o + 1, none⟩ = some (.int .i64 x.t)
  c2 : w.cell? ⟨b, o + 2, none⟩ = some (.int .u8 x.n)
  c3 : w.cell? ⟨b, o + 3, none⟩ = some (.slice x.a x.l.length x.cap)
theorem SActAt.lt {w : World} {b o : Nat} {x : SAct} (h : SActAt w b o x) : b < w.heap.size := lt_of_cell h.c0
theorem SActAt.past {w w' : World} {b o : Nat} {x : SAct} (h : SActAt w b o x) (hb : Below w.heap.size w w') : SActAt w' b o x :=
  ⟨(hb.cell (p := ⟨b, o, none⟩) h.lt).trans h.c0, (hb.cell (p := ⟨b, o + 1, none⟩) h.lt).trans h.c1, (hb.cell (p := ⟨b, o + 2, none⟩) h.lt).trans h.c2, (hb.cell (p := ⟨b, o + 3, none⟩) h.lt).trans h.c3⟩
/-- A list of writes that came in. -/
structure WrtsOf (w : World) (a : Option Addr) (cap : Nat) (l : List Wrt) : Prop where
  at_ : WrtsAt w a l
  room : l.length ≤ cap
  few : l.length ≤ 9223372036854775807
structure SActOk (w : World) (x : SAct) : Prop where
  wr : WrtsOf w x.a x.cap x.l
  op : -9223372036854775808 ≤ x.op ∧ x.op ≤ 9223372036854775807
  t : -9223372036854775808 ≤ x.t ∧ x.t ≤ 9223372036854775807
  n : 0 ≤ x.n ∧ x.n ≤ 255
/-- A list of acts that came in. -/
structure SActsOf (w : World) (a : Option Addr) (cap : Nat) (xs : List SAct) : Prop where
  room : xs.length ≤ cap
  cells : xs = [] ∨ ∃ b off, a = some ⟨b, off, none⟩ ∧ ∀ i x, xs[i]? = some x → SActAt w b (off + i * 4) x
  oks : ∀ x ∈ xs, SActOk w x
theorem SActsOf.act {w : World} {a : Option Addr} {cap : Nat} {xs : List SAct} (h : SActsOf w a cap xs) {i : Nat} {x : SAct} (hx : xs[i]? = some x) : ∃ b off, a = some ⟨b, off, none⟩ ∧ SActAt w b (off + i * 4) x ∧ SActOk w x := by
  rcases h.cells with rfl | ⟨b, off, e, hc⟩
  · simp at hx
  · exact ⟨b, off, e, hc i x hx, h.oks x (List.mem_of_getElem? hx)⟩
section
variable {H : Type} {enc : TypeId × Value → H} {w : World} {base : Nat} {held : Bool}
theorem wrt_open {P : Program} {e q : TypeId} {f0 f1 f2 : Field} {fuel : Nat} {cs : List Value} {x : DataW H × List MemPlace} {sp : Nat → Bool} (he : P.underlying e = some (.struct #[f0, f1, f2]))
    (u0 : P.underlying f0.type = some (.array 16 q)) (uq : P.underlying q = some (.int .u8)) (u1 : P.underlying f1.type = some .string) (u2 : P.underlying f2.type = some .bool)
    (o0 : f0.offset = 0) (o1 : f1.offset = 16) (o2 : f2.offset = 17) (c0 : P.cellsOf f0.type = 16) (c1 : P.cellsOf f1.type = 1) (c2 : P.cellsOf f2.type = 1) (cq : P.cellsOf q = 1)
    (hl : cs.length = 18) (h : DataW.trod enc P w base sp held fuel e cs = some x) : ∃ W, WrtOk W ∧ cs = encW W := by
  obtain ⟨y0, y1, y2, k, _, _, h0, h1, h2⟩ := trod_struct3 he h
  rw [o0, c0, List.drop_zero] at h0
  rw [o1, c1] at h1
  rw [o2, c2] at h2
  obtain ⟨zs, hz0, hz⟩ := arr_cells u0 uq c0 cq (by rw [List.length_take]; omega) h0
  obtain ⟨s2, e2, _, w2⟩ := DataW.trod_string u1 h1
  obtain ⟨b3, e3, _⟩ := DataW.trod_bool u2 h2
  obtain ⟨ns, hns, rfl⟩ := str_numsV s2
  refine ⟨⟨zs, ns, b3⟩, ⟨hz.ky, hns, by rw [strOfNums_size] at w2; exact w2⟩, ?_⟩
  have e4 : cs = cs.take 16 ++ (cs.drop 16).take 1 ++ (cs.drop 17).take 1 := by
    apply List.ext_getElem
    · simp only [List.length_append, List.length_take, List.length_drop]; omega
    · intro i h1 h2
      by_cases hi : i < 16
      · rw [List.getElem_append_left (by simp only [List.length_append, List.length_take, List.length_drop]; omega), List.getElem_append_left (by simp only [List.length_take]; omega), List.getElem_take]
      · by_cases hi2 : i = 16
        · subst hi2
          rw [List.getElem_append_left (by simp only [List.length_append, List.length_take, List.length_drop]; omega), List.getElem_append_right (by simp only [List.length_take]; omega)]
          simp only [List.getElem_take, List.getElem_drop, List.length_take]
          congr 1
          omega
        · have : i = 17 := by omega
          subst this
          rw [List.getElem_append_right (by simp only [List.length_append, List.length_take, List.length_drop]; omega)]
          simp only [List.getElem_take, List.getElem_drop, List.length_take, List.length_append, List.length_drop]
          congr 1
          omega
  rw [e4, hz0, e2, e3]
  show zs.map (Value.int .u8) ++ [.string (strOfNums ns)] ++ [.bool b3] = kc zs ++ [.string (strOfNums ns), .bool b3]
  rw [List.append_assoc]
  rfl
theorem wrts_open {P : Program} {t e q : TypeId} {f0 f1 f2 : Field} {fuel : Nat} {a : Option Addr} {len cap : Nat} {x : DataW H × List MemPlace} (ht : P.underlying t = some (.slice e)) (he : P.underlying e = some (.struct #[f0, f1, f2]))
    (u0 : P.underlying f0.type = some (.array 16 q)) (uq : P.underlying q = some (.int .u8)) (u1 : P.underlying f1.type = some .string) (u2 : P.underlying f2.type = some .bool)
    (o0 : f0.offset = 0) (o1 : f1.offset = 16) (o2 : f2.offset = 17) (c0 : P.cellsOf f0.type = 16) (c1 : P.cellsOf f1.type = 1) (c2 : P.cellsOf f2.type = 1) (cq : P.cellsOf q = 1) (ce : P.cellsOf e = 18)
    (h : DataW.trod enc P w base (fun _ => true) held fuel t [.slice a len cap] = some x) : ∃ l : List Wrt, l.length = len ∧ WrtsOf w a cap l := by
  rcases open_slice ht h with ⟨hcs, _⟩ | ⟨ad, l, c, m, n, D, Pl, hcs, _, hl, hlm, hmm, _, hx⟩
  · simp at hcs
    obtain ⟨rfl, rfl, rfl⟩ := hcs
    exact ⟨[], rfl, ⟨⟨.inl rfl, fun V hV => by simp at hV⟩, Nat.le_refl _, by simp⟩⟩
  · simp at hcs
    obtain ⟨rfl, rfl, rfl⟩ := hcs
    simp only [if_true] at hmm
    by_cases h0 : len = 0
    · subst h0
      exact ⟨[], rfl, ⟨⟨.inl rfl, fun V hV => by simp at hV⟩, Nat.zero_le _, by simp⟩⟩
    have key : ∀ i, i < len → ∃ W : Wrt, WrtOk W ∧ (∃ v, w.cell? (ad.add (i * 18)) = some v) ∧ ∀ b off, ad = ⟨b, off, none⟩ → WrtAt w b (off + i * 18) W := by
      intro i hi
      obtain ⟨cs, hc, htr⟩ := hx i (by omega)
      rw [ce] at hc
      obtain ⟨_, hlen, hcell⟩ := World.cells?_some hc
      obtain ⟨W, hW, rfl⟩ := wrt_open he u0 uq u1 u2 o0 o1 o2 c0 c1 c2 cq hlen htr
      refine ⟨W, hW, ?_, fun b off hb => ⟨lies_of fun j u hj => ?_⟩⟩
      · have q0 := hcell 0 (by omega)
        obtain ⟨v, hv⟩ : ∃ v, (encW W)[0]? = some v := ⟨_, List.getElem?_eq_getElem (by omega)⟩
        rw [hv] at q0
        exact ⟨v, by simpa [Addr.add] using q0⟩
      · have hjl : j < 18 := by rw [← hlen]; exact (List.getElem?_eq_some_iff.1 hj).1
        have q0 := hcell j (by omega)
        subst hb
        rw [add_add, add_atV] at q0
        rw [Nat.add_assoc, q0]
        exact hj
    obtain ⟨b, off, spot⟩ := ad
    have hs : spot = none := by
      obtain ⟨X, _, ⟨v, hX⟩, _⟩ := key 0 (by omega)
      simpa [Addr.add] using World.cell?_spot hX
    subst hs
    have hch : ∃ f : Nat → Wrt, ∀ i, i < len → WrtOk (f i) ∧ WrtAt w b (off + i * 18) (f i) := by
      refine ⟨fun i => if hi : i < len then (key i hi).choose else ⟨zeroK, [], false⟩, fun i hi => ?_⟩
      simp only [dif_pos hi]
      exact ⟨(key i hi).choose_spec.1, (key i hi).choose_spec.2.2 b off rfl⟩
    obtain ⟨f, hf⟩ := hch
    refine ⟨(List.range len).map f, by simp, ⟨⟨.inr ⟨b, off, rfl, fun i X hX => ?_⟩, fun V hV => ?_⟩, by simpa using hl, ?_⟩⟩
    · rw [List.getElem?_map] at hX
      by_cases hi : i < len
      · rw [List.getElem?_range hi] at hX
        simp at hX
        subst hX
        exact (hf i hi).2
      · rw [List.getElem?_eq_none (by simp; omega)] at hX
        simp at hX
    · obtain ⟨i, hi, rfl⟩ := List.mem_map.1 hV
      exact (hf i (List.mem_range.1 hi)).1
    · simp
      unfold maxLen at hlm
      omega
end
end Go.Proofs.YtileidbdmpeciaaGreat

namespace Go.Proofs.YtileidbdmpeciaaGreat
open Go.RowKit Go.ChangeShapes Go.WideShapes Go.ChangeAt Go.Deep
set_option linter.unusedVariables false

/-- An act. -/
structure PAct where
  op : Int
  x : EntM
/-- An act's seven cells. -/
structure PActAt (w : World) (b o : Nat) (y : PAct) : Prop where
  c0 : w.cell? ⟨b, o, none⟩ = some (.int .i64 y.op)
  ent : EntAt w b (o + 1) y.x
theorem PActAt.lt {w : World} {b o : Nat} {y : PAct} (h : PActAt w b o y) : b < w.heap.size := lt_of_cell h.c0
theorem PActAt.past {w w' : World} {b o : Nat} {y : PAct} (h : PActAt w b o y) (hb : Below w.heap.size w w') : PActAt w' b o y :=
  ⟨(hb.cell (p := ⟨b, o, none⟩) h.lt).trans h.c0, h.ent.past hb⟩
structure PActOk (w : World) (y : PAct) : Prop where
  wr : WrtsOf w y.x.a y.x.c y.x.e.l
  op : -9223372036854775808 ≤ y.op ∧ y.op ≤ 9223372036854775807
  ok : EntOk y.x.e
/-- A list of acts that came in. -/
structure PActsOf (w : World) (a : Option Addr) (cap : Nat) (ys : List PAct) : Prop where
  room : ys.length ≤ cap
  cells : ys = [] ∨ ∃ b off, a = some ⟨b, off, none⟩ ∧ ∀ i y, ys[i]? = some y → PActAt w b (off + i * 7) y
  oks : ∀ y ∈ ys, PActOk w y
theorem PActsOf.act {w : World} {a : Option Addr} {cap : Nat} {ys : List PAct} (h : PActsOf w a cap ys) {i : Nat} {y : PAct} (hy : ys[i]? = some y) : ∃ b off, a = some ⟨b, off, none⟩ ∧ PActAt w b (off + i * 7) y ∧ PActOk w y := by
  rcases h.cells with rfl | ⟨b, off, e, hc⟩
  · simp at hy
  · exact ⟨b, off, e, hc i y hy, h.oks y (List.mem_of_getElem? hy)⟩
section
variable {H : Type} {enc : TypeId × Value → H} {w : World} {base : Nat} {held : Bool}
end
end Go.Proofs.YtileidbdmpeciaaGreat

namespace Go.Proofs.YtileidbdmpeciaaGreat
open Go.RowKit Go.ChangeShapes Go.WideShapes Go.ChangeAt Go.Deep
set_option linter.unusedVariables false

/-- Its lists, and what its numbers are, however long they are. -/
structure RcIn (w : World) (x : RcM) : Prop where
  wr : WrtsOf w x.a x.c x.r.l
  ps : IntsAt w x.pa x.r.ps
  proom : x.r.ps.length ≤ x.pc
  pfew : x.r.ps.length ≤ maxLen
  kd : -9223372036854775808 ≤ x.r.kd ∧ x.r.kd ≤ 9223372036854775807
  ok : RcdOk x.r
theorem RcIn.rc {w : World} {x : RcM} (h : RcIn w x) (h1 : x.r.l.length ≤ 1000) (h2 : x.r.ps.length ≤ 1000) : RcW w x := ⟨h.wr.at_, h.wr.room, h1, h.ps, h.proom, h2, h.kd, h.ok⟩
section
variable {H : Type} {enc : TypeId × Value → H} {w : World} {base : Nat} {held : Bool}
theorem trod_struct7 {P : Program} {spare : Nat → Bool} {t : TypeId} {f0 f1 f2 f3 f4 f5 f6 : Field} {fuel : Nat} {cs : List Value} {x : DataW H × List MemPlace} (ht : P.underlying t = some (.struct #[f0, f1, f2, f3, f4, f5, f6])) (h : DataW.trod enc P w base spare held fuel t cs = some x) :
    ∃ y0 y1 y2 y3 y4 y5 y6 n, DataW.trod enc P w base spare held n f0.type ((cs.drop f0.offset).take (P.cellsOf f0.type)) = some y0 ∧
      DataW.trod enc P w base spare held n f1.type ((cs.drop f1.offset).take (P.cellsOf f1.type)) = some y1 ∧ DataW.trod enc P w base spare held n f2.type ((cs.drop f2.offset).take (P.cellsOf f2.type)) = some y2 ∧
      DataW.trod enc P w base spare held n f3.type ((cs.drop f3.offset).take (P.cellsOf f3.type)) = some y3 ∧ DataW.trod enc P w base spare held n f4.type ((cs.drop f4.offset).take (P.cellsOf f4.type)) = some y4 ∧
      DataW.trod enc P w base spare held n f5.type ((cs.drop f5.offset).take (P.cellsOf f5.type)) = some y5 ∧ DataW.trod enc P w base spare held n f6.type ((cs.drop f6.offset).take (P.cellsOf f6.type)) = some y6 := by
  obtain ⟨xs, n, _, rfl, hl, hlen, hf⟩ := DataW.trod_struct ht h
  match xs, hlen with
  | [y0, y1, y2, y3, y4, y5, y6], _ => exact ⟨y0, y1, y2, y3, y4, y5, y6, n, by simpa using hf 0 f0 rfl, by simpa using hf 1 f1 rfl, by simpa using hf 2 f2 rfl, by simpa using hf 3 f3 rfl, by simpa using hf 4 f4 rfl, by simpa using hf 5 f5 rfl, by simpa using hf 6 f6 rfl⟩
end
end Go.Proofs.YtileidbdmpeciaaGreat

namespace Go.Proofs.YtileidbdmpeciaaGreat
open Go.RowKit Go.ChangeShapes Go.WideShapes Go.ChangeAt Go.Deep
set_option linter.unusedVariables false

/-- An entry that came in. -/
structure EntIn (w : World) (x : EntM) : Prop where
  wr : WrtsOf w x.a x.c x.e.l
  ok : EntOk x.e
structure QAct where
  op : Int
  x : EntM
  t : Int
  n : Int
  r : RcM
def encQ (y : QAct) : List Value := .int .i64 y.op :: (encE y.x ++ (.int .i64 y.t :: .int .u8 y.n :: encR y.r))
theorem encQ_len (y : QAct) : (encQ y).length = 18 := rfl
structure QActOk (w : World) (y : QAct) : Prop where
  op : -9223372036854775808 ≤ y.op ∧ y.op ≤ 9223372036854775807
  ent : EntIn w y.x
  t : -9223372036854775808 ≤ y.t ∧ y.t ≤ 9223372036854775807
  n : 0 ≤ y.n ∧ y.n ≤ 255
  rcd : RcIn w y.r
structure QActAt (w : World) (b o : Nat) (y : QAct) : Prop where
  lies : Lies w (some ⟨b, o, none⟩) (encQ y)
theorem QActAt.past {w w' : World} {b o : Nat} {y : QAct} (h : QActAt w b o y) (hb : Below w.heap.size w w') : QActAt w' b o y := ⟨h.lies.past hb⟩
/-- A list of acts that came in. -/
structure QActsOf (w : World) (a : Option Addr) (cap : Nat) (ys : List QAct) : Prop where
  room : ys.length ≤ cap
  cells : ys = [] ∨ ∃ b off, a = some ⟨b, off, none⟩ ∧ ∀ i y, ys[i]? = some y → QActAt w b (off + i * 18) y
  oks : ∀ y ∈ ys, QActOk w y
  nil : a = none → cap = 0
theorem QActsOf.act {w : World} {a : Option Addr} {cap : Nat} {ys : List QAct} (h : QActsOf w a cap ys) {i : Nat} {y : QAct} (hy : ys[i]? = some y) : ∃ b off, a = some ⟨b, off, none⟩ ∧ QActAt w b (off + i * 18) y ∧ QActOk w y := by
  rcases h.cells with rfl | ⟨b, off, e, hc⟩
  · simp at hy
  · exact ⟨b, off, e, hc i y hy, h.oks y (List.mem_of_getElem? hy)⟩
section
variable {H : Type} {enc : TypeId × Value → H} {w : World} {base : Nat} {held : Bool}
theorem ent_trod {P : Program} {t s q : TypeId} {h0 h1 h2 h3 g0 g1 f0 f1 f2 : Field} {fuel : Nat} {cs : List Value} {x : DataW H × List MemPlace} (v1 : P.underlying t = some (.struct #[h0, h1, h2, h3])) (x0 : P.underlying h0.type = some (.int .i64)) (x1 : P.underlying h1.type = some (.struct #[g0, g1])) (x2 : P.underlying h2.type = some (.struct #[g0, g1])) (w0 : P.underlying g0.type = some (.int .i64)) (w1 : P.underlying g1.type = some (.int .u8)) (x3 : P.underlying h3.type = some (.slice s)) (hs : P.underlying s = some (.struct #[f0, f1, f2]))
    (u0 : P.underlying f0.type = some (.array 16 q)) (uq : P.underlying q = some (.int .u8)) (u1 : P.underlying f1.type = some .string) (u2 : P.underlying f2.type = some .bool)
    (r0 : h0.offset = 0) (r1 : h1.offset = 1) (r2 : h2.offset = 3) (r3 : h3.offset = 5) (p0 : g0.offset = 0) (p1 : g1.offset = 1) (o0 : f0.offset = 0) (o1 : f1.offset = 16) (o2 : f2.offset = 17)
    (s0 : P.cellsOf h0.type = 1) (s1 : P.cellsOf h1.type = 2) (s2 : P.cellsOf h2.type = 2) (s3 : P.cellsOf h3.type = 1) (d0 : P.cellsOf g0.type = 1) (d1 : P.cellsOf g1.type = 1) (c0 : P.cellsOf f0.type = 16) (c1 : P.cellsOf f1.type = 1) (c2 : P.cellsOf f2.type = 1) (cq : P.cellsOf q = 1) (cs' : P.cellsOf s = 18)
    (j1 : DataW.trod enc P w base (fun _ => true) held fuel t cs = some x) (hl : cs.length = 6) : ∃ X : EntM, cs = encE X ∧ EntIn w X := by
  match cs, hl with
  | [z1, z2, z3, z4, z5, z6], _ =>
    obtain ⟨t0, t1, t2, t3, k', _, _, i0, i1, i2, i3⟩ := Go.Joins.trod_struct4 v1 j1
    rw [r0, s0] at i0
    rw [r1, s1] at i1
    rw [r2, s2] at i2
    rw [r3, s3] at i3
    simp only [List.drop_zero, List.drop_succ_cons, List.take_succ_cons, List.take_zero, List.take_nil] at i0 i1 i2 i3
    obtain ⟨a1, e1, _, b1⟩ := DataW.trod_int x0 i0
    obtain ⟨_, _, _, _, _, gA, gB⟩ := trod_struct2 x1 i1
    obtain ⟨_, _, _, _, _, gC, gD⟩ := trod_struct2 x2 i2
    rw [p0, d0] at gA gC
    rw [p1, d1] at gB gD
    simp only [List.drop_zero, List.drop_succ_cons, List.take_succ_cons, List.take_zero, List.take_nil] at gA gB gC gD
    obtain ⟨a2, e2, _, b2⟩ := DataW.trod_int w0 gA
    obtain ⟨a3, e3, _, b3⟩ := DataW.trod_int w1 gB
    obtain ⟨a4, e4, _, b4⟩ := DataW.trod_int w0 gC
    obtain ⟨a5, e5, _, b5⟩ := DataW.trod_int w1 gD
    simp at e1 e2 e3 e4 e5
    subst e1; subst e2; subst e3; subst e4; subst e5
    obtain ⟨la, ll, lc, rfl⟩ : ∃ la ll lc, z6 = .slice la ll lc := by
      rcases open_slice x3 i3 with ⟨hz, _⟩ | ⟨ad', l', c', _, _, _, _, hz, _⟩
      · simp at hz; exact ⟨_, _, _, hz⟩
      · simp at hz; exact ⟨_, _, _, hz⟩
    obtain ⟨ws, hwl, hws⟩ := wrts_open x3 hs u0 uq u1 u2 o0 o1 o2 c0 c1 c2 cq cs' i3
    refine ⟨⟨⟨a1, a2, a3, a4, a5, ws⟩, la, lc⟩, ?_, ⟨hws, ⟨bounds_i64 b1, bounds_i64 b2, bounds_u8 b3, bounds_i64 b4, bounds_u8 b5⟩⟩⟩
    unfold encE
    simp only [hwl]
theorem rcd_trod {P : Program} {t s q qi : TypeId} {h0 h1 h2 h3 h4 h5 h6 g0 g1 f0 f1 f2 : Field} {fuel : Nat} {cs : List Value} {x : DataW H × List MemPlace} (ht : P.underlying t = some (.struct #[h0, h1, h2, h3, h4, h5, h6]))
    (x0 : P.underlying h0.type = some (.int .i64)) (x1 : P.underlying h1.type = some (.int .i64)) (x2 : P.underlying h2.type = some (.struct #[g0, g1])) (x3 : P.underlying h3.type = some (.struct #[g0, g1])) (w0 : P.underlying g0.type = some (.int .i64)) (w1 : P.underlying g1.type = some (.int .u8)) (x4 : P.underlying h4.type = some (.slice s)) (hs : P.underlying s = some (.struct #[f0, f1, f2]))
    (u0 : P.underlying f0.type = some (.array 16 q)) (uq : P.underlying q = some (.int .u8)) (u1 : P.underlying f1.type = some .string) (u2 : P.underlying f2.type = some .bool) (x5 : P.underlying h5.type = some .bool) (x6 : P.underlying h6.type = some (.slice qi)) (ui : P.underlying qi = some (.int .i64))
    (r0 : h0.offset = 0) (r1 : h1.offset = 1) (r2 : h2.offset = 2) (r3 : h3.offset = 4) (r4 : h4.offset = 6) (r5 : h5.offset = 7) (r6 : h6.offset = 8) (p0 : g0.offset = 0) (p1 : g1.offset = 1) (o0 : f0.offset = 0) (o1 : f1.offset = 16) (o2 : f2.offset = 17)
    (s0 : P.cellsOf h0.type = 1) (s1 : P.cellsOf h1.type = 1) (s2 : P.cellsOf h2.type = 2) (s3 : P.cellsOf h3.type = 2) (s4 : P.cellsOf h4.type = 1) (s5 : P.cellsOf h5.type = 1) (s6 : P.cellsOf h6.type = 1) (d0 : P.cellsOf g0.type = 1) (d1 : P.cellsOf g1.type = 1) (c0 : P.cellsOf f0.type = 16) (c1 : P.cellsOf f1.type = 1) (c2 : P.cellsOf f2.type = 1) (cq : P.cellsOf q = 1) (cs' : P.cellsOf s = 18) (ci : P.cellsOf qi = 1)
    (hf : DataW.trod enc P w base (fun _ => true) held fuel t cs = some x) (hl : cs.length = 9) : ∃ X : RcM, cs = encR X ∧ RcIn w X := by
  match cs, hl with
  | [z0, z1, z2, z3, z4, z5, z6, z7, z8], _ =>
    obtain ⟨_, _, _, _, _, _, _, k, i0, i1, i2, i3, i4, i5, i6⟩ := trod_struct7 ht hf
    rw [r0, s0] at i0
    rw [r1, s1] at i1
    rw [r2, s2] at i2
    rw [r3, s3] at i3
    rw [r4, s4] at i4
    rw [r5, s5] at i5
    rw [r6, s6] at i6
    simp only [List.drop_zero, List.drop_succ_cons, List.take_succ_cons, List.take_zero, List.take_nil] at i0 i1 i2 i3 i4 i5 i6
    obtain ⟨a0, e0, _, b0⟩ := DataW.trod_int x0 i0
    obtain ⟨a1, e1, _, b1⟩ := DataW.trod_int x1 i1
    obtain ⟨_, _, _, _, _, gA, gB⟩ := trod_struct2 x2 i2
    obtain ⟨_, _, _, _, _, gC, gD⟩ := trod_struct2 x3 i3
    rw [p0, d0] at gA gC
    rw [p1, d1] at gB gD
    simp only [List.drop_zero, List.drop_succ_cons, List.take_succ_cons, List.take_zero, List.take_nil] at gA gB gC gD
    obtain ⟨a2, e2, _, b2⟩ := DataW.trod_int w0 gA
    obtain ⟨a3, e3, _, b3⟩ := DataW.trod_int w1 gB
    obtain ⟨a4, e4, _, b4⟩ := DataW.trod_int w0 gC
    obtain ⟨a5, e5, _, b5⟩ := DataW.trod_int w1 gD
    obtain ⟨yy, e7, _⟩ := DataW.trod_bool x5 i5
    simp at e0 e1 e2 e3 e4 e5 e7
    subst e0; subst e1; subst e2; subst e3; subst e4; subst e5; subst e7
    obtain ⟨la, ll, lc, rfl⟩ : ∃ la ll lc, z6 = .slice la ll lc := by
      rcases open_slice x4 i4 with ⟨hz, _⟩ | ⟨ad', l', c', _, _, _, _, hz, _⟩
      · simp at hz; exact ⟨_, _, _, hz⟩
      · simp at hz; exact ⟨_, _, _, hz⟩
    obtain ⟨ws, hwl, hws⟩ := wrts_open x4 hs u0 uq u1 u2 o0 o1 o2 c0 c1 c2 cq cs' i4
    obtain ⟨qa, qn, qc, rfl, zs, hzl, hzr, hzm, hzi⟩ : ∃ qa qn qc, z8 = .slice qa qn qc ∧ ∃ zs : List Int, zs.length = qn ∧ qn ≤ qc ∧ qn ≤ maxLen ∧ IntsAt w qa zs := by
      rcases open_ints x6 ui ci i6 with ⟨hcs, _⟩ | ⟨x, ln, c, zs, hcs, _, hl, hm, hz, _, hcell, hwz⟩
      · simp at hcs
        exact ⟨_, _, _, hcs, [], rfl, Nat.le_refl _, Nat.zero_le _, ⟨.inl rfl, fun z hz => by simp at hz⟩⟩
      · simp at hcs
        refine ⟨_, _, _, hcs, zs.take ln, ?_, hl, by omega, ?_⟩
        · rw [List.length_take]; simp at hz; omega
        · refine ⟨?_, fun z hz => bounds_i64 (hwz z (List.mem_of_mem_take hz))⟩
          by_cases hn : ln = 0
          · left; rw [hn]; rfl
          · right
            obtain ⟨b, off, spot⟩ := x
            simp at hz
            have hc0 := hcell 0 (by omega)
            have hspot : spot = none := by simpa [Addr.add] using World.cell?_spot hc0
            subst hspot
            refine ⟨b, off, rfl, fun j hj => ?_⟩
            rw [List.length_take] at hj
            have := hcell j (by omega)
            rw [add_plain] at this
            rw [this]
            have hjl : j < ln := by omega
            simp [List.getD, hjl]
    refine ⟨⟨⟨a0, a1, a2, a3, a4, a5, ws, yy, zs⟩, la, lc, qa, qc⟩, ?_, ⟨hws, hzi, by show zs.length ≤ qc; omega, by show zs.length ≤ maxLen; omega, bounds_i64 b0, ⟨(bounds_i64 b1).1, (bounds_i64 b1).2, (bounds_u8 b3).1, (bounds_u8 b3).2, (bounds_u8 b5).1, (bounds_u8 b5).2, fun W hW => (hws.at_.oks W hW).key, fun W hW => (hws.at_.oks W hW).val⟩⟩⟩
    unfold encR
    simp only [hwl, hzl]
theorem qacts_open {P : Program} {t e s q qi te tr ts : TypeId} {k0 k1 k2 k3 h0 h1 h2 h3 m0 m1 m2 m3 m4 m5 m6 g0 g1 f0 f1 f2 : Field} {fuel : Nat} {a : Option Addr} {len cap : Nat} {x : DataW H × List MemPlace} (ht : P.underlying t = some (.slice e)) (he : P.underlying e = some (.struct #[k0, k1, k2, k3])) (v0 : P.underlying k0.type = some (.int .i64))
    (ke : k1.type = te) (ks : k2.type = ts) (kr : k3.type = tr)
    (v1 : P.underlying te = some (.struct #[h0, h1, h2, h3])) (x0 : P.underlying h0.type = some (.int .i64)) (x1 : P.underlying h1.type = some (.struct #[g0, g1])) (x2 : P.underlying h2.type = some (.struct #[g0, g1])) (w0 : P.underlying g0.type = some (.int .i64)) (w1 : P.underlying g1.type = some (.int .u8)) (x3 : P.underlying h3.type = some (.slice s)) (hs : P.underlying s = some (.struct #[f0, f1, f2]))
    (u0 : P.underlying f0.type = some (.array 16 q)) (uq : P.underlying q = some (.int .u8)) (u1 : P.underlying f1.type = some .string) (u2 : P.underlying f2.type = some .bool)
    (r0 : h0.offset = 0) (r1 : h1.offset = 1) (r2 : h2.offset = 3) (r3 : h3.offset = 5) (p0 : g0.offset = 0) (p1 : g1.offset = 1) (o0 : f0.offset = 0) (o1 : f1.offset = 16) (o2 : f2.offset = 17)
    (s0 : P.cellsOf h0.type = 1) (s1 : P.cellsOf h1.type = 2) (s2 : P.cellsOf h2.type = 2) (s3 : P.cellsOf h3.type = 1) (d0 : P.cellsOf g0.type = 1) (d1 : P.cellsOf g1.type = 1) (c0 : P.cellsOf f0.type = 16) (c1 : P.cellsOf f1.type = 1) (c2 : P.cellsOf f2.type = 1) (cq : P.cellsOf q = 1) (cs' : P.cellsOf s = 18)
    (vs : P.underlying ts = some (.struct #[g0, g1]))
    (vr : P.underlying tr = some (.struct #[m0, m1, m2, m3, m4, m5, m6])) (y0 : P.underlying m0.type = some (.int .i64)) (y1 : P.underlying m1.type = some (.int .i64)) (y2 : P.underlying m2.type = some (.struct #[g0, g1])) (y3 : P.underlying m3.type = some (.struct #[g0, g1])) (y4 : P.underlying m4.type = some (.slice s)) (y5 : P.underlying m5.type = some .bool) (y6 : P.underlying m6.type = some (.slice qi)) (ui : P.underlying qi = some (.int .i64))
    (l0 : m0.offset = 0) (l1 : m1.offset = 1) (l2 : m2.offset = 2) (l3 : m3.offset = 4) (l4 : m4.offset = 6) (l5 : m5.offset = 7) (l6 : m6.offset = 8)
    (b0 : P.cellsOf m0.type = 1) (b1 : P.cellsOf m1.type = 1) (b2 : P.cellsOf m2.type = 2) (b3 : P.cellsOf m3.type = 2) (b4 : P.cellsOf m4.type = 1) (b5 : P.cellsOf m5.type = 1) (b6 : P.cellsOf m6.type = 1) (ci : P.cellsOf qi = 1)
    (q0 : k0.offset = 0) (q1 : k1.offset = 1) (q2 : k2.offset = 7) (q3 : k3.offset = 9) (n0 : P.cellsOf k0.type = 1) (n1 : P.cellsOf te = 6) (n2 : P.cellsOf ts = 2) (n3 : P.cellsOf tr = 9) (ce : P.cellsOf e = 18)
    (h : DataW.trod enc P w base (fun _ => true) held fuel t [.slice a len cap] = some x) : ∃ ys : List QAct, ys.length = len ∧ QActsOf w a cap ys := by
  subst ke; subst ks; subst kr
  rcases open_slice ht h with ⟨hcs, _⟩ | ⟨ad, l, c, m, n, D, Pl, hcs, _, hl, _, hmm, _, hx⟩
  · simp at hcs
    obtain ⟨rfl, rfl, rfl⟩ := hcs
    exact ⟨[], rfl, ⟨Nat.le_refl _, .inl rfl, fun V hV => by simp at hV, fun _ => rfl⟩⟩
  · simp at hcs
    obtain ⟨rfl, rfl, rfl⟩ := hcs
    simp only [if_true] at hmm
    by_cases hz : len = 0
    · subst hz
      exact ⟨[], rfl, ⟨Nat.zero_le _, .inl rfl, fun V hV => by simp at hV, fun e => by cases e⟩⟩
    have key : ∀ i, i < len → ∃ Y : QAct, QActOk w Y ∧ w.cell? (ad.add (i * 18)) = some (.int .i64 Y.op) ∧ ∀ b off, ad = ⟨b, off, none⟩ → QActAt w b (off + i * 18) Y := by
      intro i hi
      obtain ⟨cs, hc, htr⟩ := hx i (by omega)
      rw [ce] at hc
      obtain ⟨_, hlen, hcell⟩ := World.cells?_some hc
      match cs, hlen with
      | [z0, z1, z2, z3, z4, z5, z6, z7, z8, z9, z10, z11, z12, z13, z14, z15, z16, z17], _ =>
        obtain ⟨_, _, _, _, k, _, _, j0, j1, j2, j3⟩ := Go.Joins.trod_struct4 he htr
        rw [q0, n0] at j0
        rw [q1, n1] at j1
        rw [q2, n2] at j2
        rw [q3, n3] at j3
        simp only [List.drop_zero, List.drop_succ_cons, List.take_succ_cons, List.take_zero, List.take_nil] at j0 j1 j2 j3
        obtain ⟨a0, e0, _, bb0⟩ := DataW.trod_int v0 j0
        obtain ⟨X, eX, hX⟩ := ent_trod v1 x0 x1 x2 w0 w1 x3 hs u0 uq u1 u2 r0 r1 r2 r3 p0 p1 o0 o1 o2 s0 s1 s2 s3 d0 d1 c0 c1 c2 cq cs' j1 rfl
        obtain ⟨_, _, _, _, _, gA, gB⟩ := trod_struct2 vs j2
        rw [p0, d0] at gA
        rw [p1, d1] at gB
        simp only [List.drop_zero, List.drop_succ_cons, List.take_succ_cons, List.take_zero, List.take_nil] at gA gB
        obtain ⟨a2, e2, _, bb2⟩ := DataW.trod_int w0 gA
        obtain ⟨a3, e3, _, bb3⟩ := DataW.trod_int w1 gB
        obtain ⟨Z, eZ, hZ⟩ := rcd_trod vr y0 y1 y2 y3 w0 w1 y4 hs u0 uq u1 u2 y5 y6 ui l0 l1 l2 l3 l4 l5 l6 p0 p1 o0 o1 o2 b0 b1 b2 b3 b4 b5 b6 d0 d1 c0 c1 c2 cq cs' ci j3 rfl
        simp at e0 e2 e3
        have hall : [z0, z1, z2, z3, z4, z5, z6, z7, z8, z9, z10, z11, z12, z13, z14, z15, z16, z17] = encQ ⟨a0, X, a2, a3, Z⟩ := by
          unfold encQ
          rw [← eX, ← eZ, e0, e2, e3]
          rfl
        rw [hall] at hcell
        refine ⟨⟨a0, X, a2, a3, Z⟩, ⟨bounds_i64 bb0, hX, bounds_i64 bb2, bounds_u8 bb3, hZ⟩, ?_, fun b off hb => ?_⟩
        · have := hcell 0 (by omega)
          have h0 : (encQ ⟨a0, X, a2, a3, Z⟩)[0]? = some (.int .i64 a0) := rfl
          rw [h0] at this
          simpa [Addr.add] using this
        · subst hb
          refine ⟨lies_of fun j u hj => ?_⟩
          have hjl : j < (encQ ⟨a0, X, a2, a3, Z⟩).length := (List.getElem?_eq_some_iff.1 hj).1
          have := hcell j (by rw [encQ_len] at hjl; exact hjl)
          rw [hj] at this
          simpa only [add_atV] using this
    obtain ⟨b, off, spot⟩ := ad
    have hsp : spot = none := by
      obtain ⟨X, _, hX, _⟩ := key 0 (by omega)
      simpa [Addr.add] using World.cell?_spot hX
    subst hsp
    have hch : ∃ f : Nat → QAct, ∀ i, i < len → QActOk w (f i) ∧ QActAt w b (off + i * 18) (f i) := by
      refine ⟨fun i => if hi : i < len then (key i hi).choose else ⟨0, ⟨⟨0, 0, 0, 0, 0, []⟩, none, 0⟩, 0, 0, ⟨⟨0, 0, 0, 0, 0, 0, [], false, []⟩, none, 0, none, 0⟩⟩, fun i hi => ?_⟩
      simp only [dif_pos hi]
      exact ⟨(key i hi).choose_spec.1, (key i hi).choose_spec.2.2 b off rfl⟩
    obtain ⟨f, hf⟩ := hch
    refine ⟨(List.range len).map f, by simp, ⟨by simpa using hl, .inr ⟨b, off, rfl, fun i X hX => ?_⟩, fun V hV => ?_, fun e => by cases e⟩⟩
    · rw [List.getElem?_map] at hX
      by_cases hi : i < len
      · rw [List.getElem?_range hi] at hX
        simp at hX
        subst hX
        exact (hf i hi).2
      · rw [List.getElem?_eq_none (by simp; omega)] at hX
        simp at hX
    · obtain ⟨i, hi, rfl⟩ := List.mem_map.1 hV
      exact (hf i (List.mem_range.1 hi)).1
end
end Go.Proofs.YtileidbdmpeciaaGreat

