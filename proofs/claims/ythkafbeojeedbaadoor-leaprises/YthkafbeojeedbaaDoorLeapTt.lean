/-
  What the landed text of a table (leap: Text) answers, where the library's table of powers of ten holds what its text lays.
-/
import Derived.Test.YthkafbeojeedbaaDoorLeapTx
namespace Go.Proofs.YthkafbeojeedbaaDoor
open Go.RowKit
set_option linter.unusedVariables false

theorem text_len : ∀ (tb : Tb) (xs : List Int), TextOf tb xs → xs.length ≤ 18 * tb.length
  | [], xs, h => by rw [show xs = [] from h]; simp
  | p :: tb, xs, h => by
    obtain ⟨y, m, d, r, hg, hd, hr, ht, rfl⟩ := h
    have ih := text_len tb r ht
    have h1 : (txt y m d).length ≤ 11 := by unfold txt; split <;> simp [body_len]
    have h2 : (ot p.2).length ≤ 5 := by
      unfold ot
      have a := nd_range (-p.2); have b := nd_range p.2
      split <;> simp [pd_len] <;> omega
    simp only [List.length_append, List.length_cons]
    omega
theorem bts_str' (xs : List Int) : (⟨(bts xs).toArray⟩ : ByteArray) = strOfNums xs := by simp [strOfNums, bts]
/-- The builder that the call has made, holding these bytes. -/
def Bd (w v : World) (xs : List Int) : Prop := Lib.IsBuilder 65 5 w.heap.size w.heap.size (Lib.byteCells (bts xs)) v
theorem bld_step {B b : Nat} {p : Value} {bs : List Value} {w w' : World} (h : Lib.BuilderAt 65 5 B b p bs w) {C : Nat} (hb : Below C w w') (hC : w.heap.size ≤ C) : Lib.BuilderAt 65 5 B b p bs w' := by
  obtain ⟨h1, v, h2, h3, h4⟩ := h
  have hlt : b < w.heap.size := (Array.getElem?_eq_some_iff.1 h2).1
  exact ⟨h1, v, by rw [hb.block b (by omega)]; exact h2, own_below h3 hb hC, h4⟩
theorem Bd.step {w v v' : World} {xs : List Int} (h : Bd w v xs) (hb : Below v.heap.size v v') : Bd w v' xs := by
  rcases h with h | h
  · exact .inl (bld_step h hb (Nat.le_refl _))
  · exact .inr (bld_step h hb (Nat.le_refl _))
theorem Bd.made (w : World) : Bd w (w.alloc (.cells #[.pointer none, .slice none 0 0] 65)) [] :=
  .inl ⟨Nat.le_refl _, .slice none 0 0, by show (w.heap.push _)[w.heap.size]? = _; simp, World.ownsRow_nil _ _ _ _, by simp [Value.ownBlock]⟩
/-- A line is written behind what is there. -/
structure Wr (w v : World) (lb : Nat) (D n : Int) (xs : List Int) : Prop where
  bd : Bd w v xs
  below : Below w.heap.size w v
  c0 : v.cell? ⟨lb, 0, none⟩ = some (.int .i64 D)
  c1 : v.cell? ⟨lb, 1, none⟩ = some (.int .i64 n)
theorem line_str (y m d n : Int) : strOfNums (txt y m d) ++ ⟨#[32]⟩ ++ strOfNums (ot n) ++ ⟨#[10]⟩ = strOfNums (txt y m d ++ 32 :: (ot n ++ [10])) := by
  have e1 : (⟨#[32]⟩ : ByteArray) = strOfNums [32] := rfl
  have e2 : (⟨#[10]⟩ : ByteArray) = strOfNums [10] := rfl
  rw [e1, e2]
  simp only [nums_app]
  simp
theorem text_next {tb : Tb} {k : Nat} {p : Int × Int} {rest : List Int} (hp : tb[k]? = some p) (h : TextOf (tb.drop k) rest) : ∃ y m d xs, Gd y m d ∧ dayN y m d = p.1 ∧ (-9999 ≤ p.2 ∧ p.2 ≤ 9999) ∧ TextOf (tb.drop (k + 1)) xs ∧ rest = (txt y m d ++ 32 :: (ot p.2 ++ [10])) ++ xs := by
  have hk : k < tb.length := (List.getElem?_eq_some_iff.1 hp).1
  have hpp : tb[k] = p := (List.getElem?_eq_some_iff.1 hp).2
  rw [List.drop_eq_getElem_cons hk, hpp] at h
  obtain ⟨y, m, d, r, hg, hd, hr, ht, rfl⟩ := h
  exact ⟨y, m, d, r, hg, hd, hr, ht, by simp⟩
set_option maxRecDepth 4000 in
set_option maxHeartbeats 4000000 in
theorem ltext_any (p : Addr) (tb : Tb) (xs : List Int) (w : World) (hR : Ready w) (h : TB w p tb xs) (hg : GoodT tb) :
    Calls Tryd.prog 19 #[.pointer (some p)] w fun e w' => e = .returned (.string (strOfNums xs)) ∧ Below w.heap.size w w' := by
  obtain ⟨⟨B, b, v, rfl, hT⟩, htx⟩ := h
  have hxl := text_len _ _ htx
  have hfew := hg.few
  obtain ⟨len, hlen⟩ : ∃ len, len = tb.length := ⟨_, rfl⟩
  have HLN : Hid (len = tb.length) := hlen
  rw [← hlen] at hfew hxl
  obtain ⟨gv, cv, hv, hcv, hgv, _⟩ := hT.shape hg.ne
  rw [← hlen] at hv hcv
  have HCE : Hid (∀ u, Below w.heap.size w u → ∀ (k : Nat) (p : Int × Int), tb[k]? = some p → u.cell? ⟨gv, k * 2, none⟩ = some (.int .i64 p.1) ∧ u.cell? ⟨gv, k * 2 + 1, none⟩ = some (.int .i64 p.2)) := fun u hb k p hk => by
    obtain ⟨gv', cv', hv', _, _, hc⟩ := (hT.step hb (Nat.le_refl _)).shape hg.ne
    rw [hv] at hv'
    injection hv' with h1 _ _
    injection h1 with h2
    injection h2 with h3
    rw [← h3] at hc
    exact hc k p hk
  have t0 : (w.alloc (.cells #[.pointer none, .slice none 0 0] 65)).cell? ⟨b, 0, none⟩ = some (.slice (some ⟨gv, 0, none⟩) len cv) := by rw [← hv]; exact (hT.past _).c0
  have HTX : Hid (TextOf tb xs) := htx
  have RR : Hid (Ready w) := hR
  have HXL : Hid (xs.length ≤ 18 * len) := hxl
  have M0 : Hid (Bd w (w.alloc (.cells #[.pointer none, .slice none 0 0] 65)) []) := Bd.made w
  obtain ⟨XS, hXS⟩ : ∃ X, X = strOfNums xs := ⟨_, rfl⟩
  have HXS : Hid (XS = strOfNums xs) := hXS
  rw [← hXS]
  clear hlen hgv hT hg htx hR hxl hv hXS
  go_enter Tryd.func19, Tryd.ntmps19
  go_wp2
  go_loopw [11] (fun iv wr => ∃ (k : Nat) (don rst : List Int), iv = .int .i64 k ∧ k ≤ len ∧ Hid (Bd w wr don) ∧ Hid (Below w.heap.size w wr) ∧ Hid (TextOf (tb.drop k) rst) ∧ Hid (don ++ rst = xs)) (fun iv _ => len - (intOf iv).toNat)
  case atStart => exact ⟨0, [], xs, rfl, by omega, M0, (Below.refl _ _).alloc (Nat.le_refl _) _, HTX, rfl⟩
  case round =>
    obtain ⟨k, don, rst, rfl, hk, HB, HW, HT, HX⟩ := hrel
    by_cases hlt : k < len
    · obtain ⟨q, hq⟩ : ∃ q, tb[k]? = some q := ⟨tb[k]'(by rw [← HLN.out]; exact hlt), by simp [show k < tb.length by rw [← HLN.out]; exact hlt]⟩
      have c0 := (HCE.out _ HW.out k q hq).1
      have c1 := (HCE.out _ HW.out k q hq).2
      obtain ⟨y, m, d, ys, hgd, hd, hr, hty, hrst⟩ := text_next hq HT.out
      obtain ⟨D, n⟩ := q
      simp only at c0 c1 hd hr hrst
      have HTY : Hid (TextOf (tb.drop (k + 1)) ys) := hty
      obtain ⟨L, hL⟩ : ∃ L, L = txt y m d ++ 32 :: (ot n ++ [10]) := ⟨_, rfl⟩
      have HXY : Hid ((don ++ L) ++ ys = xs) := by
        show _ = _
        rw [hL, List.append_assoc, ← hrst]; exact HX.out
      have hlen2 : (don ++ L).length ≤ 18 * len := by
        have h1 := congrArg List.length HXY.out
        have h2 := HXL.out
        simp only [List.length_append] at h1 ⊢
        omega
      obtain ⟨X, hX⟩ : ∃ X, X = strOfNums (txt y m d) := ⟨_, rfl⟩
      obtain ⟨I, hI⟩ : ∃ I, I = strOfNums (ot n) := ⟨_, rfl⟩
      have hLs : X ++ ⟨#[32]⟩ ++ I ++ ⟨#[10]⟩ = strOfNums L := by rw [hX, hI, hL]; exact line_str y m d n
      have sX : X.size ≤ 11 := by
        rw [hX, strOfNums_size]; unfold txt; split <;> simp [body_len]
      have sI : I.size ≤ 5 := by
        rw [hI, strOfNums_size]
        unfold ot
        have a := nd_range (-n); have b := nd_range n
        split <;> simp [pd_len] <;> omega
      have z1 : ¬ 9223372036854775807 < X.size + 1 := by omega
      have z2 : ¬ 9223372036854775807 < X.size + 1 + I.size := by omega
      have z3 : ¬ 9223372036854775807 < X.size + 1 + I.size + 1 := by omega
      clear sX sI
      obtain ⟨V, hV⟩ : ∃ V, V = wr.alloc (.cells #[.int .i64 D, .int .i64 n] 53) := ⟨_, rfl⟩
      have hVb : Below wr.heap.size wr V := by rw [hV]; exact (Below.refl _ _).alloc (Nat.le_refl _) _
      have HVW : Hid (Below w.heap.size w V) := HW.out.trans (hVb.mono HW.out.size)
      have HVB : Hid (Bd w V don) := HB.out.step hVb
      have hvc : V.heap[wr.heap.size]? = some (.cells #[.int .i64 D, .int .i64 n] 53 (0, 0)) := by rw [hV]; show (wr.heap.push _)[wr.heap.size]? = _; simp
      have hwb : w.heap.size < wr.heap.size := by
        rcases HB.out with h | h
        · exact (Array.getElem?_eq_some_iff.1 h.2.choose_spec.1).1
        · exact (Array.getElem?_eq_some_iff.1 h.2.choose_spec.1).1
      have hVs : wr.heap.size < V.heap.size := by rw [hV]; simp
      have HKS : Hid (∀ u, Below V.heap.size V u → u.heap[wr.heap.size]? = some (.cells #[.int .i64 D, .int .i64 n] 53 (0, 0))) := fun u hb => by rw [hb.block _ hVs]; exact hvc
      have KS : Hid (∀ u, Below V.heap.size V u → u.cell? ⟨wr.heap.size, 0, none⟩ = some (.int .i64 D) ∧ u.cell? ⟨wr.heap.size, 1, none⟩ = some (.int .i64 n)) := fun u hb => by
        have := HKS.out u hb
        exact ⟨by rw [Lib.cell_of_heap this]; rfl, by rw [Lib.cell_of_heap this]; rfl⟩
      have KW : Hid (∀ u, Wr w u wr.heap.size D n (don ++ L) → u.cell? ⟨wr.heap.size, 0, none⟩ = some (.int .i64 D) ∧ u.cell? ⟨wr.heap.size, 1, none⟩ = some (.int .i64 n)) := fun u h => ⟨h.c0, h.c1⟩
      have QR : Hid (∀ u, Below V.heap.size V u → Ready u) := fun u hb => RR.out.on (HVW.out.trans (hb.mono HVW.out.size))
      have QD : Hid (∀ u, Below V.heap.size V u → Calls Tryd.prog 24 #[.int .i64 D] u fun e u' => e = .returned (.string X) ∧ Below V.heap.size V u') := fun u hb => by
        rw [hX]
        exact (dtext_any y m d D hgd hd u (QR.out u hb)).mono (by rintro e u' ⟨rfl, h'⟩; exact ⟨rfl, hb.trans (h'.mono hb.size)⟩)
      have QI : Hid (∀ u, Below V.heap.size V u → Calls Tryd.prog 32 #[.int .i64 n] u fun e u' => e = .returned (.string I) ∧ Below V.heap.size V u') := fun u hb =>
        (itoa_at n (by omega) (by omega) I (by rw [hI, itoa_ot hr, bts_str']) u (QR.out u hb)).mono (by rintro e u' ⟨rfl, h'⟩; exact ⟨rfl, hb.trans (h'.mono hb.size)⟩)
      have QW : Hid (∀ u, Below V.heap.size V u → Calls Tryd.prog 31 #[.pointer (some ⟨w.heap.size, 0, none⟩), .string (X ++ ⟨#[32]⟩ ++ I ++ ⟨#[10]⟩)] u fun e u' => (∃ z, e = .returned (.tuple #[.int .i64 z, .nilIface])) ∧ Wr w u' wr.heap.size D n (don ++ L)) := fun u hb => by
        rw [hLs]
        have hbw := HVW.out.trans (hb.mono HVW.out.size)
        refine (write_any w.heap.size w.heap.size (Lib.byteCells (bts don)) (strOfNums L) u (HVB.out.step hb) ?_ hbw.size).mono ?_
        · rw [Lib.byteCells_length, strOfNums_size]
          simp only [List.length_append] at hlen2
          simp only [bts, List.length_map]
          omega
        · rintro e u' ⟨rfl, h1, h2, h3⟩
          refine ⟨⟨_, rfl⟩, ?_⟩
          have hcc := h3 wr.heap.size _ 53 _ (by omega) (by decide) (HKS.out u hb)
          refine ⟨.inr ?_, hbw.trans h2, by rw [Lib.cell_of_heap hcc]; rfl, by rw [Lib.cell_of_heap hcc]; rfl⟩
          have e1 : Lib.byteCells (bts don) ++ Lib.strCells (strOfNums L) = Lib.byteCells (bts (don ++ L)) := by
            simp [Lib.byteCells, Lib.strCells, strOfNums, bts]
          rw [e1] at h1
          exact h1
      clear hX hI hL hLs hgd hd hr hty hrst hq hVb hvc hVs hwb
      go_wp2
      rw [← hV]
      clear hV
      go_region_held3 (fun u => u.cell? ⟨wr.heap.size, 0, none⟩ = some (.int .i64 D) ∧ u.cell? ⟨wr.heap.size, 1, none⟩ = some (.int .i64 n)) (first | exact KS.out _ (by assumption) | exact KS.out _ (Below.refl _ _).drew | exact KW.out _ (by assumption)) (first | (go_at_call 24; refine (QD.out _ (by first | assumption | exact (Below.refl _ _).drew)).mono ?_; rintro e w5 ⟨rfl, hb5⟩) | (go_at_call 32; refine (QI.out _ (by first | assumption | exact (Below.refl _ _).drew)).mono ?_; rintro e w6 ⟨rfl, hb6⟩) | (go_at_call 31; refine (QW.out _ (by first | assumption | exact (Below.refl _ _).drew)).mono ?_; rintro e w7 ⟨⟨z, rfl⟩, hb7⟩))
      have H7 : Hid (Wr w w7 wr.heap.size D n (don ++ L)) := hb7
      clear hb7
      go_wp2
      go_roundw
      case rel => exact ⟨k + 1, don ++ L, ys, by go_num, by omega, H7.out.bd, H7.out.below, HTY, HXY⟩
      case measure => simp [intOf]; omega
    · have hkl : k = len := by omega
      have HDN : Hid (don = xs) := by
        have h1 := HT.out
        rw [List.drop_of_length_le (by rw [← HLN.out]; omega)] at h1
        have h1' : rst = [] := h1
        subst h1'
        have := HX.out
        rw [List.append_nil] at this
        exact this
      have CS : Hid (∀ u, u = wr → Calls Tryd.prog 33 #[.pointer (some ⟨w.heap.size, 0, none⟩)] u fun e w' => e = .returned (.string XS) ∧ Below w.heap.size w w') := fun u hu => by
        rw [hu]
        refine (Tryd.Builder_String_any w.heap.size w.heap.size (bts don) wr HB.out HW.out.size).mono ?_
        rintro e w' ⟨rfl, hb⟩
        exact ⟨by rw [HXS.out, ← HDN.out, ← bts_str' don], HW.out.trans hb⟩
      subst hkl
      go_wp2_with (go_at_call 33; refine (CS.out _ rfl).mono ?_; rintro e w1 ⟨rfl, hb1⟩; have HB1 : Hid (Below w.heap.size w w1) := hb1; clear hb1)
      go_ret
      exact ⟨rfl, HB1.out⟩
end Go.Proofs.YthkafbeojeedbaaDoor
