/-
  Lists of writes, and of layer 12's acts (each a number, a stamp, a list of writes), that came in.
-/
import Derived.Test.YtcppihpehipelaaWrtMem
import Derived.Test.YtcppihpehipelaaAu43
import Derived.Lib.SmallJoins
namespace Go.Proofs.Ytcppihpehipelaa
open Go.RowKit Go.ChangeShapes Go.WideShapes Go.ChangeAt Go.Deep
set_option linter.unusedVariables false

/-- An act. -/
structure SAct where
  op : Int
  t : Int
  n : Int
  a : Option Addr
  cap : Nat
  l : List Wrt
/-- An act's four cells, and its writes. -/
structure SActAt (w : World) (b o : Nat) (x : SAct) : Prop where
  c0 : w.cell? ⟨b, o, none⟩ = some (.int .i64 x.op)
  c1 : w.cell? ⟨b, o + 1, none⟩ = some (.int .i64 x.t)
  c2 : w.cell? ⟨b, o + 2, none⟩ = some (.int .u8 x.n)
  c3 : w.cell? ⟨b, o + 3, none⟩ = some (.slice x.a x.l.length x.cap)
theorem SActAt.lt {w : World} {b o : Nat} {x : SAct} (h : SActAt w b o x) : b < w.heap.size := lt_of_cell h.c0
theorem SActAt.past {w w' : World} {b o : Nat} {x : SAct} (h : SActAt w b o x) (hb : Below w.heap.size w w') : SActAt w' b o x :=
  ⟨(hb.cell (p := ⟨b, o, none⟩) h.lt).trans h.c0, (hb.cell (p := ⟨b, o + 1, none⟩) h.lt).trans h.c1, (hb.cell (p := ⟨b, o + 2, none⟩) h.lt).trans h.c2, (hb.cell (p := ⟨b, o + 3, none⟩) h.lt).trans h.c3⟩
/-- A list of writes that came in. -/
structure WrtsOf (w : World) (a : Option Addr) (cap : Nat) (l : List Wrt) : Prop where
  at_ : WrtsAt w a l
  room : l.length ≤ cap
  few : l.length ≤ 9223372036854775807
structure SActOk (w : World) (x : SAct) : Prop where
  wr : WrtsOf w x.a x.cap x.l
  op : -9223372036854775808 ≤ x.op ∧ x.op ≤ 9223372036854775807
  t : -9223372036854775808 ≤ x.t ∧ x.t ≤ 9223372036854775807
  n : 0 ≤ x.n ∧ x.n ≤ 255
/-- A list of acts that came in. -/
structure SActsOf (w : World) (a : Option Addr) (cap : Nat) (xs : List SAct) : Prop where
  room : xs.length ≤ cap
  cells : xs = [] ∨ ∃ b off, a = some ⟨b, off, none⟩ ∧ ∀ i x, xs[i]? = some x → SActAt w b (off + i * 4) x
  oks : ∀ x ∈ xs, SActOk w x
theorem SActsOf.act {w : World} {a : Option Addr} {cap : Nat} {xs : List SAct} (h : SActsOf w a cap xs) {i : Nat} {x : SAct} (hx : xs[i]? = some x) : ∃ b off, a = some ⟨b, off, none⟩ ∧ SActAt w b (off + i * 4) x ∧ SActOk w x := by
  rcases h.cells with rfl | ⟨b, off, e, hc⟩
  · simp at hx
  · exact ⟨b, off, e, hc i x hx, h.oks x (List.mem_of_getElem? hx)⟩
section
variable {H : Type} {enc : TypeId × Value → H} {w : World} {base : Nat} {held : Bool}
theorem wrt_open {P : Program} {e q : TypeId} {f0 f1 f2 : Field} {fuel : Nat} {cs : List Value} {x : DataW H × List MemPlace} {sp : Nat → Bool} (he : P.underlying e = some (.struct #[f0, f1, f2]))
    (u0 : P.underlying f0.type = some (.array 16 q)) (uq : P.underlying q = some (.int .u8)) (u1 : P.underlying f1.type = some .string) (u2 : P.underlying f2.type = some .bool)
    (o0 : f0.offset = 0) (o1 : f1.offset = 16) (o2 : f2.offset = 17) (c0 : P.cellsOf f0.type = 16) (c1 : P.cellsOf f1.type = 1) (c2 : P.cellsOf f2.type = 1) (cq : P.cellsOf q = 1)
    (hl : cs.length = 18) (h : DataW.trod enc P w base sp held fuel e cs = some x) : ∃ W, WrtOk W ∧ cs = encW W := by
  obtain ⟨y0, y1, y2, k, _, _, h0, h1, h2⟩ := trod_struct3 he h
  rw [o0, c0, List.drop_zero] at h0
  rw [o1, c1] at h1
  rw [o2, c2] at h2
  obtain ⟨zs, hz0, hz⟩ := arr_cells u0 uq c0 cq (by rw [List.length_take]; omega) h0
  obtain ⟨s2, e2, _, w2⟩ := DataW.trod_string u1 h1
  obtain ⟨b3, e3, _⟩ := DataW.trod_bool u2 h2
  obtain ⟨ns, hns, rfl⟩ := str_numsV s2
  refine ⟨⟨zs, ns, b3⟩, ⟨hz.ky, hns, by rw [strOfNums_size] at w2; exact w2⟩, ?_⟩
  have e4 : cs = cs.take 16 ++ (cs.drop 16).take 1 ++ (cs.drop 17).take 1 := by
    apply List.ext_getElem
    · simp only [List.length_append, List.length_take, List.length_drop]; omega
    · intro i h1 h2
      by_cases hi : i < 16
      · rw [List.getElem_append_left (by simp only [List.length_append, List.length_take, List.length_drop]; omega), List.getElem_append_left (by simp only [List.length_take]; omega), List.getElem_take]
      · by_cases hi2 : i = 16
        · subst hi2
          rw [List.getElem_append_left (by simp only [List.length_append, List.length_take, List.length_drop]; omega), List.getElem_append_right (by simp only [List.length_take]; omega)]
          simp only [List.getElem_take, List.getElem_drop, List.length_take]
          congr 1
          omega
        · have : i = 17 := by omega
          subst this
          rw [List.getElem_append_right (by simp only [List.length_append, List.length_take, List.length_drop]; omega)]
          simp only [List.getElem_take, List.getElem_drop, List.length_take, List.length_append, List.length_drop]
          congr 1
          omega
  rw [e4, hz0, e2, e3]
  show zs.map (Value.int .u8) ++ [.string (strOfNums ns)] ++ [.bool b3] = kc zs ++ [.string (strOfNums ns), .bool b3]
  rw [List.append_assoc]
  rfl
theorem wrts_open {P : Program} {t e q : TypeId} {f0 f1 f2 : Field} {fuel : Nat} {a : Option Addr} {len cap : Nat} {x : DataW H × List MemPlace} (ht : P.underlying t = some (.slice e)) (he : P.underlying e = some (.struct #[f0, f1, f2]))
    (u0 : P.underlying f0.type = some (.array 16 q)) (uq : P.underlying q = some (.int .u8)) (u1 : P.underlying f1.type = some .string) (u2 : P.underlying f2.type = some .bool)
    (o0 : f0.offset = 0) (o1 : f1.offset = 16) (o2 : f2.offset = 17) (c0 : P.cellsOf f0.type = 16) (c1 : P.cellsOf f1.type = 1) (c2 : P.cellsOf f2.type = 1) (cq : P.cellsOf q = 1) (ce : P.cellsOf e = 18)
    (h : DataW.trod enc P w base (fun _ => true) held fuel t [.slice a len cap] = some x) : ∃ l : List Wrt, l.length = len ∧ WrtsOf w a cap l := by
  rcases open_slice ht h with ⟨hcs, _⟩ | ⟨ad, l, c, m, n, D, Pl, hcs, _, hl, hlm, hmm, _, hx⟩
  · simp at hcs
    obtain ⟨rfl, rfl, rfl⟩ := hcs
    exact ⟨[], rfl, ⟨⟨.inl rfl, fun V hV => by simp at hV⟩, Nat.le_refl _, by simp⟩⟩
  · simp at hcs
    obtain ⟨rfl, rfl, rfl⟩ := hcs
    simp only [if_true] at hmm
    by_cases h0 : len = 0
    · subst h0
      exact ⟨[], rfl, ⟨⟨.inl rfl, fun V hV => by simp at hV⟩, Nat.zero_le _, by simp⟩⟩
    have key : ∀ i, i < len → ∃ W : Wrt, WrtOk W ∧ (∃ v, w.cell? (ad.add (i * 18)) = some v) ∧ ∀ b off, ad = ⟨b, off, none⟩ → WrtAt w b (off + i * 18) W := by
      intro i hi
      obtain ⟨cs, hc, htr⟩ := hx i (by omega)
      rw [ce] at hc
      obtain ⟨_, hlen, hcell⟩ := World.cells?_some hc
      obtain ⟨W, hW, rfl⟩ := wrt_open he u0 uq u1 u2 o0 o1 o2 c0 c1 c2 cq hlen htr
      refine ⟨W, hW, ?_, fun b off hb => ⟨lies_of fun j u hj => ?_⟩⟩
      · have q0 := hcell 0 (by omega)
        obtain ⟨v, hv⟩ : ∃ v, (encW W)[0]? = some v := ⟨_, List.getElem?_eq_getElem (by omega)⟩
        rw [hv] at q0
        exact ⟨v, by simpa [Addr.add] using q0⟩
      · have hjl : j < 18 := by rw [← hlen]; exact (List.getElem?_eq_some_iff.1 hj).1
        have q0 := hcell j (by omega)
        subst hb
        rw [add_add, add_atV] at q0
        rw [Nat.add_assoc, q0]
        exact hj
    obtain ⟨b, off, spot⟩ := ad
    have hs : spot = none := by
      obtain ⟨X, _, ⟨v, hX⟩, _⟩ := key 0 (by omega)
      simpa [Addr.add] using World.cell?_spot hX
    subst hs
    have hch : ∃ f : Nat → Wrt, ∀ i, i < len → WrtOk (f i) ∧ WrtAt w b (off + i * 18) (f i) := by
      refine ⟨fun i => if hi : i < len then (key i hi).choose else ⟨zeroK, [], false⟩, fun i hi => ?_⟩
      simp only [dif_pos hi]
      exact ⟨(key i hi).choose_spec.1, (key i hi).choose_spec.2.2 b off rfl⟩
    obtain ⟨f, hf⟩ := hch
    refine ⟨(List.range len).map f, by simp, ⟨⟨.inr ⟨b, off, rfl, fun i X hX => ?_⟩, fun V hV => ?_⟩, by simpa using hl, ?_⟩⟩
    · rw [List.getElem?_map] at hX
      by_cases hi : i < len
      · rw [List.getElem?_range hi] at hX
        simp at hX
        subst hX
        exact (hf i hi).2
      · rw [List.getElem?_eq_none (by simp; omega)] at hX
        simp at hX
    · obtain ⟨i, hi, rfl⟩ := List.mem_map.1 hV
      exact (hf i (List.mem_range.1 hi)).1
    · simp
      unfold maxLen at hlm
      omega
end
end Go.Proofs.Ytcppihpehipelaa
