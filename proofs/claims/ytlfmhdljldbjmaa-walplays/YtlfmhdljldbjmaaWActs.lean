/-
  A list of layer 9's acts that came in: each two numbers, a byte, a text, a list of bytes, a list of such lists.
-/
import Derived.Test.YtlfmhdljldbjmaaBase
import Derived.Lib.SmallJoins
import Derived.Deep.Slices
import Derived.ChangeArms
namespace Go.Proofs.Ytlfmhdljldbjmaa
open Go.RowKit Go.ChangeShapes Go.WideShapes Go.ChangeAt Go.Deep
set_option linter.unusedVariables false

/-- A text's bytes as numbers. -/
theorem str_nums (S : ByteArray) : ∃ ns : List Int, By ns ∧ S = strOfNums ns := by
  refine ⟨S.data.toList.map (fun c => (c.toNat : Int)), fun z hz => ?_, ?_⟩
  · obtain ⟨c, _, rfl⟩ := List.mem_map.1 hz
    have := c.toNat_lt
    omega
  · apply ByteArray.ext
    apply Array.toList_inj.1
    rw [strOfNums_data, List.map_map]
    conv => lhs; rw [← List.map_id S.data.toList]
    exact List.map_congr_left (fun c _ => by simp)
/-- An act. -/
structure WAct where
  op : Int
  n : Int
  y : Int
  s : List Int
  a : Option Addr
  cap : Nat
  zs : List Int
  la : Option Addr
  lcap : Nat
  L : List (List Int)
/-- An act's six cells, and what they lead to. -/
structure WActAt (w : World) (b o : Nat) (x : WAct) : Prop where
  c0 : w.cell? ⟨b, o, none⟩ = some (.int .i64 x.op)
  c1 : w.cell? ⟨b, o + 1, none⟩ = some (.int .i64 x.n)
  c2 : w.cell? ⟨b, o + 2, none⟩ = some (.int .u8 x.y)
  c3 : w.cell? ⟨b, o + 3, none⟩ = some (.string (strOfNums x.s))
  c4 : w.cell? ⟨b, o + 4, none⟩ = some (.slice x.a x.zs.length x.cap)
  c5 : w.cell? ⟨b, o + 5, none⟩ = some (.slice x.la x.L.length x.lcap)
  row : Row w x.a x.zs
  room : x.zs.length ≤ x.cap
  nil : x.a = none → x.zs = [] ∧ x.cap = 0
  rows : RowsOf w x.la x.lcap x.L
  bop : -9223372036854775808 ≤ x.op ∧ x.op ≤ 9223372036854775807
  bn : -9223372036854775808 ≤ x.n ∧ x.n ≤ 9223372036854775807
  yb : 0 ≤ x.y ∧ x.y ≤ 255
  sb : By x.s
/-- A list of acts that came in. -/
structure WActsOf (w : World) (a : Option Addr) (cap : Nat) (xs : List WAct) : Prop where
  room : xs.length ≤ cap
  cells : xs = [] ∨ ∃ b off, a = some ⟨b, off, none⟩ ∧ ∀ i x, xs[i]? = some x → WActAt w b (off + i * 6) x
theorem row_taken {w : World} {a : Addr} {len : Nat} {zs : List Int} (hl : len ≤ zs.length) (hc : ∀ i, i < zs.length → w.cell? (a.add i) = some (.int .u8 (zs.getD i 0))) (hw : ∀ n ∈ zs, (Lit.int .u8 n).wf = true) : Row w (some a) (zs.take len) := by
  refine ⟨fun z hz => bounds_u8 (hw z (List.mem_of_mem_take hz)), ?_⟩
  by_cases h0 : zs.take len = []
  · exact .inl h0
  · have hpos : 0 < zs.length := by
      rcases Nat.eq_zero_or_pos zs.length with h | h
      · rw [List.eq_nil_of_length_eq_zero h] at h0; simp at h0
      · exact h
    obtain ⟨b, off, spot⟩ := a
    have hs : spot = none := by simpa [Addr.add] using World.cell?_spot (hc 0 hpos)
    subst hs
    refine .inr ⟨b, off, rfl, fun j hj => ?_⟩
    rw [List.length_take] at hj
    have := hc j (by omega)
    rw [add_plain] at this
    rw [this]
    have hjl : j < len := by omega
    simp [List.getD, List.getElem?_take_of_lt hjl]
section
variable {H : Type} {enc : TypeId × Value → H} {w : World} {base : Nat} {held : Bool}
theorem trod_struct6 {P : Program} {spare : Nat → Bool} {t : TypeId} {f0 f1 f2 f3 f4 f5 : Field} {fuel : Nat} {cs : List Value} {x : DataW H × List MemPlace} (ht : P.underlying t = some (.struct #[f0, f1, f2, f3, f4, f5])) (h : DataW.trod enc P w base spare held fuel t cs = some x) :
    ∃ (y0 y1 y2 y3 y4 y5 : DataW H × List MemPlace) (n : Nat), DataW.trod enc P w base spare held n f0.type ((cs.drop f0.offset).take (P.cellsOf f0.type)) = some y0 ∧ DataW.trod enc P w base spare held n f1.type ((cs.drop f1.offset).take (P.cellsOf f1.type)) = some y1 ∧ DataW.trod enc P w base spare held n f2.type ((cs.drop f2.offset).take (P.cellsOf f2.type)) = some y2 ∧
      DataW.trod enc P w base spare held n f3.type ((cs.drop f3.offset).take (P.cellsOf f3.type)) = some y3 ∧ DataW.trod enc P w base spare held n f4.type ((cs.drop f4.offset).take (P.cellsOf f4.type)) = some y4 ∧ DataW.trod enc P w base spare held n f5.type ((cs.drop f5.offset).take (P.cellsOf f5.type)) = some y5 := by
  obtain ⟨xs, n, _, rfl, hl, hlen, hf⟩ := DataW.trod_struct ht h
  match xs, hlen with
  | [y0, y1, y2, y3, y4, y5], _ => exact ⟨y0, y1, y2, y3, y4, y5, n, by simpa using hf 0 f0 rfl, by simpa using hf 1 f1 rfl, by simpa using hf 2 f2 rfl, by simpa using hf 3 f3 rfl, by simpa using hf 4 f4 rfl, by simpa using hf 5 f5 rfl⟩
theorem wacts_open {t e e5 : TypeId} {f0 f1 f2 f3 f4 f5 : Field} {fuel : Nat} {a : Option Addr} {len cap : Nat} {x : DataW H × List MemPlace} (ht : Try.prog.underlying t = some (.slice e)) (he : Try.prog.underlying e = some (.struct #[f0, f1, f2, f3, f4, f5]))
    (u0 : Try.prog.underlying f0.type = some (.int .i64)) (u1 : Try.prog.underlying f1.type = some (.int .i64)) (u2 : Try.prog.underlying f2.type = some (.int .u8)) (u3 : Try.prog.underlying f3.type = some .string) (u4 : Try.prog.underlying f4.type = some (.slice 5)) (v5 : Try.prog.underlying 5 = some (.int .u8)) (u5 : Try.prog.underlying f5.type = some (.slice e5)) (ue : Try.prog.underlying e5 = some (.slice 5))
    (o0 : f0.offset = 0) (o1 : f1.offset = 1) (o2 : f2.offset = 2) (o3 : f3.offset = 3) (o4 : f4.offset = 4) (o5 : f5.offset = 5)
    (c0 : Try.prog.cellsOf f0.type = 1) (c1 : Try.prog.cellsOf f1.type = 1) (c2 : Try.prog.cellsOf f2.type = 1) (c3 : Try.prog.cellsOf f3.type = 1) (c4 : Try.prog.cellsOf f4.type = 1) (c5 : Try.prog.cellsOf f5.type = 1) (cq : Try.prog.cellsOf 5 = 1) (cr : Try.prog.cellsOf e5 = 1) (ce : Try.prog.cellsOf e = 6)
    (h : DataW.trod enc Try.prog w base (fun _ => true) held fuel t [.slice a len cap] = some x) : ∃ xs : List WAct, xs.length = len ∧ WActsOf w a cap xs := by
  rcases open_slice ht h with ⟨hcs, _⟩ | ⟨ad, l, c, m, n, D, Pl, hcs, _, hl, _, hmm, _, hx⟩
  · simp at hcs
    obtain ⟨rfl, rfl, rfl⟩ := hcs
    exact ⟨[], rfl, ⟨Nat.le_refl _, .inl rfl⟩⟩
  · simp at hcs
    obtain ⟨rfl, rfl, rfl⟩ := hcs
    simp only [if_true] at hmm
    by_cases h0 : len = 0
    · subst h0
      exact ⟨[], rfl, ⟨Nat.zero_le _, .inl rfl⟩⟩
    have key : ∀ i, i < len → ∃ X : WAct, w.cell? (ad.add (i * 6)) = some (.int .i64 X.op) ∧ ∀ b off, ad = ⟨b, off, none⟩ → WActAt w b (off + i * 6) X := by
      intro i hi
      obtain ⟨cs, hc, htr⟩ := hx i (by omega)
      rw [ce] at hc
      obtain ⟨_, hlen, hcell⟩ := World.cells?_some hc
      match cs, hlen with
      | [z0, z1, z2, z3, z4, z5], _ =>
        obtain ⟨y0, y1, y2, y3, y4, y5, k, h0, h1, h2, h3, h4, h5⟩ := trod_struct6 he htr
        rw [o0, c0] at h0
        rw [o1, c1] at h1
        rw [o2, c2] at h2
        rw [o3, c3] at h3
        rw [o4, c4] at h4
        rw [o5, c5] at h5
        simp only [List.drop_zero, List.drop_succ_cons, List.take_succ_cons, List.take_zero] at h0 h1 h2 h3 h4 h5
        obtain ⟨a0, e0, _, w0⟩ := DataW.trod_int u0 h0
        obtain ⟨a1, e1, _, w1⟩ := DataW.trod_int u1 h1
        obtain ⟨a2, e2, _, w2⟩ := DataW.trod_int u2 h2
        obtain ⟨s3, e3, _, w3⟩ := DataW.trod_string u3 h3
        simp at e0 e1 e2 e3
        subst e0; subst e1; subst e2; subst e3
        obtain ⟨ns, hns, rfl⟩ := str_nums s3
        have q0 := hcell 0 (by omega)
        have q1 := hcell 1 (by omega)
        have q2 := hcell 2 (by omega)
        have q3 := hcell 3 (by omega)
        have q4 := hcell 4 (by omega)
        have q5 := hcell 5 (by omega)
        obtain ⟨la, ll, lc, rfl⟩ : ∃ la ll lc, z5 = .slice la ll lc := by
          rcases open_slice u5 h5 with ⟨hz, _⟩ | ⟨la, ll, lc, _, _, _, _, hz, _⟩
          · simp at hz; exact ⟨none, 0, 0, hz⟩
          · simp at hz; exact ⟨_, _, _, hz⟩
        obtain ⟨LL, hLL, hrows⟩ := rows_open u5 ue cr cq h5
        subst hLL
        rcases open_ints u4 v5 cq h4 with ⟨hz, _⟩ | ⟨ba, bl, bc, zs, hz, _, hll, _, hzl, _, hzc, hzw⟩
        · simp at hz
          subst hz
          refine ⟨⟨a0, a1, a2, ns, none, 0, [], la, lc, LL⟩, by simpa [Addr.add] using q0, fun b off hb => ?_⟩
          subst hb
          simp only [add_plain] at q0 q1 q2 q3 q4 q5
          exact ⟨q0, q1, q2, q3, q4, q5, ⟨fun z hz => by simp at hz, .inl rfl⟩, Nat.le_refl _, fun _ => ⟨rfl, rfl⟩, hrows, bounds_i64 w0, bounds_i64 w1, bounds_u8 w2, hns⟩
        · simp at hz
          subst hz
          simp only [if_true] at hzl
          have hlt : (zs.take bl).length = bl := by rw [List.length_take]; omega
          refine ⟨⟨a0, a1, a2, ns, some ba, bc, zs.take bl, la, lc, LL⟩, by simpa [Addr.add] using q0, fun b off hb => ?_⟩
          subst hb
          simp only [add_plain] at q0 q1 q2 q3 q4 q5
          exact ⟨q0, q1, q2, q3, by rw [hlt]; exact q4, q5, row_taken (by omega) hzc hzw, by rw [hlt]; exact hll, fun h => by simp at h, hrows, bounds_i64 w0, bounds_i64 w1, bounds_u8 w2, hns⟩
    obtain ⟨b, off, spot⟩ := ad
    have hs : spot = none := by
      obtain ⟨X, hX, _⟩ := key 0 (by omega)
      simpa [Addr.add] using World.cell?_spot hX
    subst hs
    have hch : ∃ f : Nat → WAct, ∀ i, i < len → WActAt w b (off + i * 6) (f i) := by
      refine ⟨fun i => if hi : i < len then (key i hi).choose else ⟨0, 0, 0, [], none, 0, [], none, 0, []⟩, fun i hi => ?_⟩
      simp only [dif_pos hi]
      exact (key i hi).choose_spec.2 b off rfl
    obtain ⟨f, hf⟩ := hch
    refine ⟨(List.range len).map f, by simp, ⟨by simpa using hl, .inr ⟨b, off, rfl, fun i X hX => ?_⟩⟩⟩
    rw [List.getElem?_map] at hX
    by_cases hi : i < len
    · rw [List.getElem?_range hi] at hX
      simp at hX
      subst hX
      exact hf i hi
    · rw [List.getElem?_eq_none (by simp; omega)] at hX
      simp at hX
end
end Go.Proofs.Ytlfmhdljldbjmaa
