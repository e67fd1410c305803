/-
  What the document's own stamps (hourglassref6: Good, Cmp, Pack, Unpack, Max, Digits, Text) answer.
  What the document says of entries (hourglassref10: GoodEntry, Writes, SameEntry).
  Entries loaded, stored and answered whole; what the document's own tables answer: Has, holder, Holder, Blocks (hourglassref10: Table).
-/
import Derived.Test.YtileidbdmpeciaaGreatAu103
import Derived.Test.YtileidbdmpeciaaGreatAu113
import Derived.Deep.RegionHeld3
import Derived.Test.YtileidbdmpeciaaGreatAu96
import Derived.Test.YtileidbdmpeciaaGreatRefSto2
import Derived.Deep.MidRow
namespace Go.Proofs.YtileidbdmpeciaaGreat
open Go.RowKit
set_option linter.unusedVariables false

theorem rgood6_any (t n : Int) (w : World) :
    Calls Tryz.prog 67 #[.agg #[.int .i64 t, .int .u8 n]] w fun e w' => e = .returned (.bool (decide (okS t))) ∧ Below w.heap.size w w' := by
  have HB : Hid (Below w.heap.size w (w.alloc (.cells #[.int .i64 t, .int .u8 n] 28))) := (Below.refl _ _).alloc (Nat.le_refl _) _
  by_cases h0 : 0 ≤ t
  · have b0 : decide (0 ≤ t) = true := decide_eq_true h0
    by_cases h1 : t ≤ 36028797018963967
    · have b1 : decide (t ≤ 36028797018963967) = true := decide_eq_true h1
      rw [decide_eq_true (show okS t from ⟨h0, h1⟩)]
      go_enter Tryz.func67, Tryz.ntmps67
      go_wp2
      go_ret
      exact ⟨rfl, HB.out⟩
    · have b1 : decide (t ≤ 36028797018963967) = false := decide_eq_false h1
      rw [decide_eq_false (show ¬ okS t from fun h => h1 h.2)]
      go_enter Tryz.func67, Tryz.ntmps67
      go_wp2
      go_ret
      exact ⟨rfl, HB.out⟩
  · have b0 : decide (0 ≤ t) = false := decide_eq_false h0
    rw [decide_eq_false (show ¬ okS t from fun h => h0 h.1)]
    go_enter Tryz.func67, Tryz.ntmps67
    go_wp2
    go_ret
    exact ⟨rfl, HB.out⟩
theorem rcmp6_any (t n t' n' : Int) (w : World) :
    Calls Tryz.prog 39 #[.agg #[.int .i64 t, .int .u8 n], .agg #[.int .i64 t', .int .u8 n']] w fun e w' => e = .returned (.int .i64 (cmpS t n t' n')) ∧ Below w.heap.size w w' := by
  have HB : Hid (Below w.heap.size w ((w.alloc (.cells #[.int .i64 t, .int .u8 n] 28)).alloc (.cells #[.int .i64 t', .int .u8 n'] 28))) := ((Below.refl _ _).alloc (Nat.le_refl _) _).alloc (by simp) _
  by_cases h1 : t < t'
  · have b1 : decide (t < t') = true := decide_eq_true h1
    rw [cmp_lt (.inl h1)]
    go_enter Tryz.func39, Tryz.ntmps39
    go_wp2
    go_ret
    exact ⟨rfl, HB.out⟩
  · have b1 : decide (t < t') = false := decide_eq_false h1
    by_cases h2 : t = t'
    · subst h2
      by_cases h3 : n < n'
      · have b3 : decide (n < n') = true := decide_eq_true h3
        rw [cmp_lt (.inr ⟨rfl, h3⟩)]
        go_enter Tryz.func39, Tryz.ntmps39
        go_wp2
        go_ret
        exact ⟨rfl, HB.out⟩
      · have b3 : decide (n < n') = false := decide_eq_false h3
        by_cases h4 : n = n'
        · subst h4
          rw [cmp_eq]
          go_enter Tryz.func39, Tryz.ntmps39
          go_wp2
          go_ret
          exact ⟨rfl, HB.out⟩
        · have b4 : (n == n') = false := by simpa using h4
          rw [cmp_gt (.inr ⟨rfl, by omega⟩)]
          go_enter Tryz.func39, Tryz.ntmps39
          go_wp2
          go_ret
          exact ⟨rfl, HB.out⟩
    · have b2 : (t == t') = false := by simpa using h2
      rw [cmp_gt (.inl (by omega))]
      go_enter Tryz.func39, Tryz.ntmps39
      go_wp2
      go_ret
      exact ⟨rfl, HB.out⟩
end Go.Proofs.YtileidbdmpeciaaGreat

namespace Go.Proofs.YtileidbdmpeciaaGreat
open Go.RowKit
set_option linter.unusedVariables false

/-- An entry's cells in a box. -/
structure EBox (u : World) (b : Nat) (id s m t n : Int) (a : Option Addr) (N c : Nat) : Prop where
  c0 : u.cell? ⟨b, 0, none⟩ = some (.int .i64 id)
  c1 : u.cell? ⟨b, 1, none⟩ = some (.int .i64 s)
  c2 : u.cell? ⟨b, 2, none⟩ = some (.int .u8 m)
  c3 : u.cell? ⟨b, 3, none⟩ = some (.int .i64 t)
  c4 : u.cell? ⟨b, 4, none⟩ = some (.int .u8 n)
  c5 : u.cell? ⟨b, 5, none⟩ = some (.slice a N c)
theorem EBox.made (w : World) (T : TypeId) (id s m t n : Int) (a : Option Addr) (N c : Nat) : EBox (w.alloc (.cells #[.int .i64 id, .int .i64 s, .int .u8 m, .int .i64 t, .int .u8 n, .slice a N c] T)) w.heap.size id s m t n a N c := by
  refine ⟨?_, ?_, ?_, ?_, ?_, ?_⟩ <;> (rw [World.cell?_alloc_new]; rfl)
theorem EBox.past {u u' : World} {b : Nat} {id s m t n : Int} {a : Option Addr} {N c : Nat} (h : EBox u b id s m t n a N c) (hb : Below u.heap.size u u') : EBox u' b id s m t n a N c :=
  have hl := cell_lt h.c0
  ⟨(hb.cell (p := ⟨b, 0, none⟩) hl).trans h.c0, (hb.cell (p := ⟨b, 1, none⟩) hl).trans h.c1, (hb.cell (p := ⟨b, 2, none⟩) hl).trans h.c2, (hb.cell (p := ⟨b, 3, none⟩) hl).trans h.c3, (hb.cell (p := ⟨b, 4, none⟩) hl).trans h.c4, (hb.cell (p := ⟨b, 5, none⟩) hl).trans h.c5⟩
set_option maxHeartbeats 4000000 in
set_option maxRecDepth 4000 in
theorem rgoode_any (id s m t n : Int) (a : Option Addr) (N c : Nat) (l : List Wrt) (w : World) (hl : l.length = N) (hc : N ≤ c) (hN : N ≤ 1000000) (hat : WrtsAt w a l) :
    Calls Tryz.prog 60 #[.agg #[.int .i64 id, .int .i64 s, .int .u8 m, .int .i64 t, .int .u8 n, .slice a N c]] w fun e w' => e = .returned (.bool (goodE ⟨id, s, m, t, n, l⟩)) ∧ Below w.heap.size w w' := by
  obtain ⟨U, hU⟩ : ∃ U, U = w.alloc (.cells #[.int .i64 id, .int .i64 s, .int .u8 m, .int .i64 t, .int .u8 n, .slice a N c] 58) := ⟨_, rfl⟩
  have HU : Hid (w.alloc (.cells #[.int .i64 id, .int .i64 s, .int .u8 m, .int .i64 t, .int .u8 n, .slice a N c] 58) = U) := hU.symm
  have HB : Hid (Below w.heap.size w U) := by rw [hU]; exact (Below.refl _ _).alloc (Nat.le_refl _) _
  have FE : Hid (∀ u, Below U.heap.size U u → EBox u w.heap.size id s m t n a N c) := fun u hb => (by rw [hU]; exact EBox.made w 58 id s m t n a N c : EBox U w.heap.size id s m t n a N c).past hb
  obtain ⟨R, hR⟩ : ∃ R, R = goodE ⟨id, s, m, t, n, l⟩ := ⟨_, rfl⟩
  obtain ⟨g1, hg1⟩ : ∃ x, x = decide (okS s) := ⟨_, rfl⟩
  obtain ⟨g2, hg2⟩ : ∃ x, x = decide (okS t) := ⟨_, rfl⟩
  obtain ⟨x, hx⟩ : ∃ x, x = cmpS t n s m := ⟨_, rfl⟩
  obtain ⟨mw, hmw⟩ : ∃ x, x = mayW l 1 := ⟨_, rfl⟩
  have hr : R = (decide (1 ≤ id) && g1 && g2 && decide (0 < x) && mw) := by rw [hR, hg1, hg2, hx, hmw]; rfl
  rw [← hR]
  have C1 : Hid (∀ u, Calls Tryz.prog 67 #[.agg #[.int .i64 s, .int .u8 m]] u fun e w' => e = .returned (.bool g1) ∧ Below u.heap.size u w') := fun u => by rw [hg1]; exact rgood6_any s m u
  have C2 : Hid (∀ u, Calls Tryz.prog 67 #[.agg #[.int .i64 t, .int .u8 n]] u fun e w' => e = .returned (.bool g2) ∧ Below u.heap.size u w') := fun u => by rw [hg2]; exact rgood6_any t n u
  have C3 : Hid (∀ u, Calls Tryz.prog 39 #[.agg #[.int .i64 t, .int .u8 n], .agg #[.int .i64 s, .int .u8 m]] u fun e w' => e = .returned (.int .i64 x) ∧ Below u.heap.size u w') := fun u => by rw [hx]; exact rcmp6_any t n s m u
  have C4 : Hid (∀ u, Below w.heap.size w u → Calls Tryz.prog 111 #[.slice a N c, .int .i64 1] u fun e w' => e = .returned (.bool mw) ∧ Below u.heap.size u w') := fun u hb => by rw [hmw]; exact rmayw_any a N c l 1 u hl hc hN (by omega) (hat.past hb)
  clear hR hg1 hg2 hx hmw hU hat hl
  by_cases h1 : 1 ≤ id
  · have b1 : decide (1 ≤ id) = true := decide_eq_true h1
    rw [b1] at hr
    cases g1 with
    | false =>
      have HR : Hid (R = false) := hr
      clear hr
      go_enter Tryz.func60, Tryz.ntmps60
      go_wp2_with (first | (have hgo := C1.out; clear hgo; go_at_call 67; rw [HU.out]; refine (C1.out _).mono ?_; rintro e u1 ⟨rfl, hb1⟩; have B1 : Hid (Below U.heap.size U u1) := hb1; obtain ⟨y0, y1, y2, y3, y4, y5⟩ := FE.out _ B1.out; clear hb1 C1))
      go_ret
      exact ⟨by rw [HR.out]; rfl, HB.out.trans (B1.out.mono HB.out.size)⟩
    | true =>
      cases g2 with
      | false =>
        have HR : Hid (R = false) := hr
        clear hr
        go_enter Tryz.func60, Tryz.ntmps60
        go_wp2_with (first | (have hgo := C1.out; clear hgo; go_at_call 67; rw [HU.out]; refine (C1.out _).mono ?_; rintro e u1 ⟨rfl, hb1⟩; have B1 : Hid (Below U.heap.size U u1) := hb1; obtain ⟨y0, y1, y2, y3, y4, y5⟩ := FE.out _ B1.out; clear hb1 C1) | (have hgo := C2.out; clear hgo; go_at_call 67; refine (C2.out _).mono ?_; rintro e u2 ⟨rfl, hb2⟩; have B2 : Hid (Below U.heap.size U u2) := B1.out.trans (hb2.mono B1.out.size); obtain ⟨y0, y1, y2, y3, y4, y5⟩ := FE.out _ B2.out; clear hb2 C2))
        go_ret
        exact ⟨by rw [HR.out]; rfl, HB.out.trans (B2.out.mono HB.out.size)⟩
      | true =>
        by_cases h2 : 0 < x
        · have b2 : decide (0 < x) = true := decide_eq_true h2
          rw [b2] at hr
          have HR : Hid (R = mw) := by rw [hr]; simp [Hid]
          clear hr
          cases mw with
          | true =>
            go_enter Tryz.func60, Tryz.ntmps60
            go_wp2_with (first | (have hgo := C1.out; clear hgo; go_at_call 67; rw [HU.out]; refine (C1.out _).mono ?_; rintro e u1 ⟨rfl, hb1⟩; have B1 : Hid (Below U.heap.size U u1) := hb1; obtain ⟨y0, y1, y2, y3, y4, y5⟩ := FE.out _ B1.out; clear hb1 C1) | (have hgo := C2.out; clear hgo; go_at_call 67; refine (C2.out _).mono ?_; rintro e u2 ⟨rfl, hb2⟩; have B2 : Hid (Below U.heap.size U u2) := B1.out.trans (hb2.mono B1.out.size); obtain ⟨y0, y1, y2, y3, y4, y5⟩ := FE.out _ B2.out; clear hb2 C2) | (have hgo := C3.out; clear hgo; go_at_call 39; refine (C3.out _).mono ?_; rintro e u3 ⟨rfl, hb3⟩; have B3 : Hid (Below U.heap.size U u3) := B2.out.trans (hb3.mono B2.out.size); obtain ⟨y0, y1, y2, y3, y4, y5⟩ := FE.out _ B3.out; clear hb3 C3) | (have hgo := C4.out; clear hgo; go_at_call 111; refine (C4.out _ (HB.out.trans (B3.out.mono HB.out.size))).mono ?_; rintro e u4 ⟨rfl, hb4⟩; have B4 : Hid (Below U.heap.size U u4) := B3.out.trans (hb4.mono B3.out.size); obtain ⟨y0, y1, y2, y3, y4, y5⟩ := FE.out _ B4.out; clear hb4 C4))
            go_ret
            exact ⟨by rw [HR.out]; rfl, HB.out.trans (B4.out.mono HB.out.size)⟩
          | false =>
            go_enter Tryz.func60, Tryz.ntmps60
            go_wp2_with (first | (have hgo := C1.out; clear hgo; go_at_call 67; rw [HU.out]; refine (C1.out _).mono ?_; rintro e u1 ⟨rfl, hb1⟩; have B1 : Hid (Below U.heap.size U u1) := hb1; obtain ⟨y0, y1, y2, y3, y4, y5⟩ := FE.out _ B1.out; clear hb1 C1) | (have hgo := C2.out; clear hgo; go_at_call 67; refine (C2.out _).mono ?_; rintro e u2 ⟨rfl, hb2⟩; have B2 : Hid (Below U.heap.size U u2) := B1.out.trans (hb2.mono B1.out.size); obtain ⟨y0, y1, y2, y3, y4, y5⟩ := FE.out _ B2.out; clear hb2 C2) | (have hgo := C3.out; clear hgo; go_at_call 39; refine (C3.out _).mono ?_; rintro e u3 ⟨rfl, hb3⟩; have B3 : Hid (Below U.heap.size U u3) := B2.out.trans (hb3.mono B2.out.size); obtain ⟨y0, y1, y2, y3, y4, y5⟩ := FE.out _ B3.out; clear hb3 C3) | (have hgo := C4.out; clear hgo; go_at_call 111; refine (C4.out _ (HB.out.trans (B3.out.mono HB.out.size))).mono ?_; rintro e u4 ⟨rfl, hb4⟩; have B4 : Hid (Below U.heap.size U u4) := B3.out.trans (hb4.mono B3.out.size); obtain ⟨y0, y1, y2, y3, y4, y5⟩ := FE.out _ B4.out; clear hb4 C4))
            go_ret
            exact ⟨by rw [HR.out]; rfl, HB.out.trans (B4.out.mono HB.out.size)⟩
        · have b2 : decide (0 < x) = false := decide_eq_false h2
          rw [b2] at hr
          have HR : Hid (R = false) := hr
          clear hr
          go_enter Tryz.func60, Tryz.ntmps60
          go_wp2_with (first | (have hgo := C1.out; clear hgo; go_at_call 67; rw [HU.out]; refine (C1.out _).mono ?_; rintro e u1 ⟨rfl, hb1⟩; have B1 : Hid (Below U.heap.size U u1) := hb1; obtain ⟨y0, y1, y2, y3, y4, y5⟩ := FE.out _ B1.out; clear hb1 C1) | (have hgo := C2.out; clear hgo; go_at_call 67; refine (C2.out _).mono ?_; rintro e u2 ⟨rfl, hb2⟩; have B2 : Hid (Below U.heap.size U u2) := B1.out.trans (hb2.mono B1.out.size); obtain ⟨y0, y1, y2, y3, y4, y5⟩ := FE.out _ B2.out; clear hb2 C2) | (have hgo := C3.out; clear hgo; go_at_call 39; refine (C3.out _).mono ?_; rintro e u3 ⟨rfl, hb3⟩; have B3 : Hid (Below U.heap.size U u3) := B2.out.trans (hb3.mono B2.out.size); obtain ⟨y0, y1, y2, y3, y4, y5⟩ := FE.out _ B3.out; clear hb3 C3))
          go_ret
          exact ⟨by rw [HR.out]; rfl, HB.out.trans (B3.out.mono HB.out.size)⟩
  · have b1 : decide (1 ≤ id) = false := decide_eq_false h1
    rw [b1] at hr
    have HR : Hid (R = false) := hr
    clear hr
    go_enter Tryz.func60, Tryz.ntmps60
    go_wp2
    rw [HU.out]
    go_ret
    exact ⟨by rw [HR.out]; rfl, HB.out⟩
theorem encW_parts {x : Wrt} (h : Ky x.k) : (encW x).take 16 = x.k.map (Value.int .u8) ∧ (encW x)[16]? = some (.string (strOfNums x.v)) ∧ (encW x)[17]? = some (.bool x.g) := by
  have hl := kc_len h
  unfold encW
  refine ⟨?_, ?_, ?_⟩
  · rw [List.take_append_of_le_length (by omega), List.take_of_length_le (by omega)]; rfl
  · rw [List.getElem?_append_right (by omega), hl]; rfl
  · rw [List.getElem?_append_right (by omega), hl]; rfl
theorem eq_key9w (w : World) (a b : List Int) (ha : Ky a) (hb : Ky b) : (Op.equalIn 9999 38 (.agg (a.map (Value.int .u8)).toArray) (.agg (b.map (Value.int .u8)).toArray)).run Tryz.prog w = .ok (decide (a = b)) w := by
  obtain ⟨i, hi⟩ := key_parts
  rw [run_equalIn_array w 9998 _ _ Tryz.underlying38 hi, List.range_eq_range', eq_items Tryz.underlying5 (by kernel_rfl) 9997 w a b 16 0 (by rw [ha.len]) (by rw [hb.len])]
  by_cases h : a = b <;> simp [h]
theorem info_wrtl (W : Wrt) (h : Ky W.k) : (Tryz.prog.info? 80).map (·.size) = some (encW W).length := by rw [info_wrt, encW_len h]
end Go.Proofs.YtileidbdmpeciaaGreat

namespace Go.Proofs.YtileidbdmpeciaaGreat
open Go.RowKit
set_option linter.unusedVariables false

theorem info_ent : (Tryz.prog.info? 58).map (·.size) = some 6 := by kernel_rfl
/-- One entry in memory of the call's own. -/
structure EntMine (w : World) (b : Nat) (x : EntM) : Prop where
  at_ : EntAt w b 0 x
  free : ∀ i, i < 6 → w.frozen? ⟨b, 0 + i, none⟩ = false
theorem EntAt.lt {w : World} {b o : Nat} {x : EntM} (h : EntAt w b o x) : b < w.heap.size := cell_lt h.cells.1
theorem EntMine.made (w : World) (T : TypeId) (x : EntM) : EntMine (w.alloc (.cells (encE x).toArray T)) w.heap.size x :=
  ⟨⟨lies_made w (encE x).toArray T⟩, fun i hi => World.frozen?_alloc_new _ _ _ _⟩
theorem EntMine.past {w w' : World} {b : Nat} {x : EntM} (h : EntMine w b x) (hb : Below w.heap.size w w') : EntMine w' b x :=
  ⟨h.at_.past hb, fun i hi => by rw [hb.frozen (p := ⟨b, 0 + i, none⟩) h.at_.lt]; exact h.free i hi⟩
theorem EntMine.there {w : World} {b : Nat} {x : EntM} (h : EntMine w b x) : w.there b 0 6 := fun j hj => by
  obtain ⟨u, hu⟩ : ∃ u, (encE x)[j]? = some u := ⟨_, List.getElem?_eq_getElem (by rw [encE_len]; exact hj)⟩
  exact ⟨by rw [h.at_.lies.at j u hu]; rfl, h.free j hj⟩
theorem EntMine.store {w : World} {b : Nat} {x x' : EntM} (h : EntMine w b x) : EntMine (w.setCells b 0 (encE x')) b x' := by
  have ht := h.there
  rw [← encE_len x'] at ht
  exact ⟨⟨lies_of (World.rangeAt_setCells_same w b 0 (encE x') ht)⟩, fun i hi => by rw [World.frozen?_setCells]; exact h.free i hi⟩
theorem wpList_load_ent (d : Tmp) {ops : Array Oper} {rest : List Oper} {op : Oper} {a : Act} {w : World} {Q : Exit → Act → World → Prop} (hd : op.dst = some d) (hw : Region.wanted op (yielded ops a.tmps) = true) (x : Operand) (ho : op.op = .load 58 x)
    (b o : Nat) (hx : a.eval x = .pointer (some ⟨b, o, none⟩)) (X : EntM) (hat : EntAt w b o X)
    (h : wpList Tryz.prog ops Q rest (a.put op.dst (ev X)) w) : wpList Tryz.prog ops Q (op :: rest) a w :=
  wpList_step fun K hK => by
    rw [if_pos hw]
    exact wp_load_mid 58 x ho b o hx (encE X) _ hat.lies.range Tryz.underlying58 rfl (by rw [info_ent, encE_len]) (hK _ _ h)
theorem wpList_store_ent (d : Operand) {ops : Array Oper} {rest : List Oper} {op : Oper} {a : Act} {w : World} {Q : Exit → Act → World → Prop} (hgd : op.guard = none) (y : Operand) (ho : op.op = .store 58 d y)
    (b : Nat) (X X' : EntM) (hx : a.eval d = .pointer (some ⟨b, 0, none⟩)) (hy : a.eval y = ev X') (hat : EntMine w b X)
    (h : ∀ u, u = w.setCells b 0 (encE X') → wpList Tryz.prog ops Q rest (a.put op.dst undef) u) : wpList Tryz.prog ops Q (op :: rest) a w := by
  refine wpList_store_mid hgd 58 d y ho b 0 (encE X').toArray hx hy (by rw [show (encE X').toArray.size = 6 from rfl]; exact hat.there) (by rw [info_ent]; rfl) (encE_all X') ?_
  exact h _ rfl
theorem results_ent {fn : Func} {c t : Tmp} (h : fn.results = #[.cell c 58, .tmp t]) (tmps : Array Value) (w : World) (b : Nat) (x : EntM) (hp : tmps.getD c undef = .pointer (some ⟨b, 0, none⟩)) (hat : EntAt w b 0 x) :
    (results fn tmps).run Tryz.prog w = .ok (.tuple #[ev x, tmps.getD t undef]) w := by
  have hl := run_loadVar_mid (P := Tryz.prog) w b 0 58 (encE x) _ hat.lies.range Tryz.underlying58 rfl (by rw [info_ent, encE_len])
  unfold results
  rw [h]
  simp only [List.mapM_toArray, List.mapM_cons, List.mapM_nil, hp]
  simp [asAddr, hl]
def zeroE : EntM := ⟨⟨0, 0, 0, 0, 0, []⟩, none, 0⟩
theorem zeroE_cells : (encE zeroE).toArray = #[.int .i64 0, .int .i64 0, .int .u8 0, .int .i64 0, .int .u8 0, .slice none 0 0] := rfl
def orE (o : Option EntM) : EntM := match o with | none => zeroE | some x => x
def hasM (M : List EntM) (id : Int) : Option EntM := M.find? (fun x => decide (x.e.id = id))
def holdM (M : List EntM) (k : List Int) : Option EntM := M.find? (fun x => hasK x.e k)
theorem hasM_e (M : List EntM) (id : Int) : (hasM M id).map (·.e) = hasT (ents M) id := by unfold hasM hasT ents; rw [List.find?_map]; rfl
theorem holdM_e (M : List EntM) (k : List Int) : (holdM M k).map (·.e) = holdT (ents M) k := by unfold holdM holdT ents; rw [List.find?_map]; rfl
theorem find_first {α : Type} {p : α → Bool} {l : List α} {i : Nat} {x : α} (hx : l[i]? = some x) (hp : p x = true) (h : ∀ j y, j < i → l[j]? = some y → p y = false) : l.find? p = some x := by
  induction l generalizing i with
  | nil => simp at hx
  | cons z r ih =>
    cases i with
    | zero => simp at hx; subst hx; rw [List.find?_cons_of_pos hp]
    | succ j =>
      rw [List.find?_cons_of_neg (by rw [h 0 z (by omega) rfl]; simp)]
      exact ih (by simpa using hx) (fun k y hk hy => h (k + 1) y (by omega) (by simpa using hy))
theorem find_no {α : Type} {p : α → Bool} {l : List α} (h : ∀ j y, j < l.length → l[j]? = some y → p y = false) : l.find? p = none := by
  rw [List.find?_eq_none]
  intro x hx
  obtain ⟨j, hj, rfl⟩ := List.mem_iff_getElem.1 hx
  rw [h j _ hj (List.getElem?_eq_getElem hj)]
  simp
set_option maxHeartbeats 4000000 in
set_option maxRecDepth 4000 in
theorem rhas_any (B q : Nat) (M : List EntM) (id : Int) (w : World) (h : TabR w B q M) :
    Calls Tryz.prog 68 #[.pointer (some ⟨q, 0, none⟩), .int .i64 id] w fun e w' => e = .returned (.tuple #[ev (orE (hasM M id)), .bool (hasM M id).isSome]) ∧ Below w.heap.size w w' := by
  obtain ⟨V0, hV0⟩ : ∃ V0, V0 = w.alloc (.cells (encE zeroE).toArray 58) := ⟨_, rfl⟩
  have HBW : Hid (Below w.heap.size w V0) := by rw [hV0]; exact (Below.refl _ _).alloc (Nat.le_refl _) _
  have HM0 : Hid (EntMine V0 w.heap.size zeroE) := by rw [hV0]; exact EntMine.made w 58 zeroE
  have HV0 : Hid (w.alloc (.cells (encE zeroE).toArray 58) = V0) := hV0.symm
  rw [zeroE_cells] at HV0
  obtain ⟨N, hN⟩ : ∃ N, N = M.length := ⟨_, rfl⟩
  obtain ⟨a0, c0, hcap, hcell, hs⟩ := h.open
  have hfew := h.few
  rw [← hN] at hcap hcell hfew
  have HCE : Hid (∀ v, Below w.heap.size w v → v.cell? ⟨q, 0, none⟩ = some (.slice a0 N c0)) := hcell
  have HN : Hid (M.length = N) := hN.symm
  have HS : Hid (∀ i x, M[i]? = some x → ∃ g, a0 = some ⟨g, 0, none⟩ ∧ Hid (∀ v, Below w.heap.size w v → EntAt v g (i * 6) x)) := fun i x hx => by
    rcases hs with e | ⟨g, e1, e4⟩
    · rw [e] at hx; simp at hx
    · exact ⟨g, e1, fun v hv => e4 v hv i x hx⟩
  obtain ⟨R, hR⟩ : ∃ R, R = hasM M id := ⟨_, rfl⟩
  have HYES : Hid (∀ i x, M[i]? = some x → x.e.id = id → (∀ j (y : EntM), j < i → M[j]? = some y → y.e.id ≠ id) → R = some x) := fun i x hx he hj => by rw [hR]; exact find_first hx (decide_eq_true he) (fun j y h1 h2 => decide_eq_false (hj j y h1 h2))
  have HNO : Hid ((∀ j (y : EntM), j < N → M[j]? = some y → y.e.id ≠ id) → R = none) := fun hj => by rw [hR]; exact find_no (fun j y h1 h2 => decide_eq_false (hj j y (by rw [hN]; exact h1) h2))
  rw [← hR]
  clear h hs hcell hN hR hV0
  go_enter Tryz.func68, Tryz.ntmps68
  go_wp2
  rw [HV0.out]
  go_loopw [6] (fun iv wr => ∃ i : Nat, iv = .int .i64 i ∧ i ≤ N ∧ wr = V0 ∧ Hid (∀ j (y : EntM), j < i → M[j]? = some y → y.e.id ≠ id)) (fun iv _ => N - (intOf iv).toNat)
  case atStart => exact ⟨0, rfl, Nat.zero_le _, rfl, fun j y hj => absurd hj (Nat.not_lt_zero _)⟩
  case round =>
    obtain ⟨i, rfl, hi, rfl, HJ⟩ := hrel
    have hi0 : (0 : Int) ≤ (i : Int) := by omega
    have q0 := HCE.out wr HBW.out
    by_cases hlt : i < N
    · have h1 : (i : Int) < (N : Int) := by omega
      obtain ⟨x, hx⟩ : ∃ x, M[i]? = some x := ⟨_, List.getElem?_eq_getElem (by rw [HN.out]; exact hlt)⟩
      obtain ⟨g, hag, HG⟩ := HS.out i x hx
      rw [hag] at q0
      have HXI : Hid (M[i]? = some x) := hx
      have FE : Hid (EntAt wr g (i * 6) x) := HG.out wr HBW.out
      obtain ⟨y0, y1, y2, y3, y4, y5⟩ := FE.out.cells
      obtain ⟨xi, hxi⟩ : ∃ z, z = x.e.id := ⟨_, rfl⟩
      rw [← hxi] at y0
      have HXE : Hid (xi = x.e.id) := hxi
      clear hx hxi y1 y2 y3 y4 y5
      by_cases he : xi = id
      · have HR : Hid (R = some x) := HYES.out i x HXI.out (by rw [← HXE.out]; exact he) HJ.out
        have be : (xi == id) = true := by simp [he]
        clear he
        go_wp2_with (first | ((with_reducible show wpList _ _ _ (Oper.mk (some 32) _ _ _ _ _ :: _) _ _); refine wpList_load_ent 32 (by rfl) (by rfl) _ (by rfl) g (i * 6) (by rfl) x FE.out ?_) | (have hgo := HM0.out; clear hgo; refine wpList_store_ent (.tmp 4) (by rfl) _ (by rfl) w.heap.size zeroE x (by rfl) (by rfl) HM0.out ?_; intro u2 hu; have HM2 : Hid (EntMine u2 w.heap.size x) := hu ▸ HM0.out.store; have HB2 : Hid (Below w.heap.size w u2) := hu ▸ below_cells (Nat.le_refl _) HBW.out; clear hu HM0))
        refine bodyPost_ret (results_ent rfl _ _ w.heap.size x rfl HM2.out.at_) rfl ?_
        exact ⟨by rw [HR.out]; rfl, HB2.out⟩
      · have be : (xi == id) = false := by simpa using he
        have HJ2 : Hid (∀ j (y : EntM), j < i + 1 → M[j]? = some y → y.e.id ≠ id) := fun j y hj hy => by
          by_cases e : j < i
          · exact HJ.out j y e hy
          · obtain rfl : j = i := by omega
            rw [HXI.out] at hy
            obtain rfl := Option.some.inj hy
            rw [← HXE.out]; exact he
        clear he
        go_wp2
        go_roundw
        case rel => exact ⟨i + 1, by go_num, by omega, trivial, HJ2⟩
        case measure => simp [intOf]; omega
    · obtain rfl : i = N := by omega
      have HR : Hid (R = none) := HNO.out HJ.out
      go_wp2_with (have hgo := HM0.out; clear hgo; refine wpList_store_ent (.tmp 4) (by rfl) _ (by rfl) w.heap.size zeroE zeroE (by rfl) (by rfl) HM0.out ?_; intro u2 hu; have HM2 : Hid (EntMine u2 w.heap.size zeroE) := hu ▸ HM0.out.store; have HB2 : Hid (Below w.heap.size w u2) := hu ▸ below_cells (Nat.le_refl _) HBW.out; clear hu HM0)
      refine bodyPost_ret (results_ent rfl _ _ w.heap.size zeroE rfl HM2.out.at_) rfl ?_
      exact ⟨by rw [HR.out]; rfl, HB2.out⟩
/-- A key and an empty entry in boxes. -/
theorem keyent_made (w : World) {k : List Int} (hk : Ky k) (T T' : TypeId) : KeyAt ((w.alloc (.cells (kcs k) T)).alloc (.cells (encE zeroE).toArray T')) w.heap.size 0 k ∧ EntMine ((w.alloc (.cells (kcs k) T)).alloc (.cells (encE zeroE).toArray T')) (w.heap.size + 1) zeroE ∧ Below w.heap.size w ((w.alloc (.cells (kcs k) T)).alloc (.cells (encE zeroE).toArray T')) := by
  obtain ⟨u1, h1⟩ : ∃ u, u = w.alloc (.cells (kcs k) T) := ⟨_, rfl⟩
  have e1 : u1.heap.size = w.heap.size + 1 := by rw [h1]; simp
  have k1 : KeyAt u1 w.heap.size 0 k := by rw [h1]; exact KeyAt.made w T k hk
  have b1 : Below w.heap.size w u1 := by rw [h1]; exact (Below.refl _ _).alloc (Nat.le_refl _) _
  rw [← h1]
  have b2 : Below u1.heap.size u1 (u1.alloc (.cells (encE zeroE).toArray T')) := (Below.refl _ _).alloc (Nat.le_refl _) _
  refine ⟨k1.past b2, ?_, b1.trans (b2.mono b1.size)⟩
  have := EntMine.made u1 T' zeroE
  rw [e1] at this
  exact this
theorem hask_no {e : Ent} {k : List Int} (h : ∀ z W, z < e.l.length → e.l[z]? = some W → W.k ≠ k) : hasK e k = false := by
  unfold hasK
  refine List.any_eq_false.2 (fun W hW => ?_)
  obtain ⟨z, hz, rfl⟩ := List.mem_iff_getElem.1 hW
  simpa using h z _ hz (List.getElem?_eq_getElem hz)
theorem hask_yes {e : Ent} {k : List Int} {z : Nat} {W : Wrt} (hW : e.l[z]? = some W) (hk : W.k = k) : hasK e k = true := List.any_eq_true.2 ⟨W, List.mem_of_getElem? hW, decide_eq_true hk⟩
set_option maxHeartbeats 8000000 in
set_option maxRecDepth 8000 in
theorem rholder_any (B q : Nat) (M : List EntM) (k : List Int) (hk : Ky k) (w : World) (h : TabR w B q M) :
    Calls Tryz.prog 113 #[.pointer (some ⟨q, 0, none⟩), kv k] w fun e w' => e = .returned (.tuple #[ev (orE (holdM M k)), .bool (holdM M k).isSome]) ∧ Below w.heap.size w w' := by
  obtain ⟨V0, hV0⟩ : ∃ V0, V0 = (w.alloc (.cells (kcs k) 38)).alloc (.cells (encE zeroE).toArray 58) := ⟨_, rfl⟩
  obtain ⟨k1, m1, b1⟩ := keyent_made w hk 38 58
  rw [← hV0] at k1 m1 b1
  have HBW : Hid (Below w.heap.size w V0) := b1
  have HM0 : Hid (EntMine V0 (w.heap.size + 1) zeroE) := m1
  have HK0 : Hid (KeyAt V0 w.heap.size 0 k) := k1
  have KY : Hid (Ky k) := hk
  have HV0 : Hid ((w.alloc (.cells (kcs k) 38)).alloc (.cells (encE zeroE).toArray 58) = V0) := hV0.symm
  rw [zeroE_cells] at HV0
  obtain ⟨N, hN⟩ : ∃ N, N = M.length := ⟨_, rfl⟩
  obtain ⟨a0, c0, hcap, hcell, hs⟩ := h.open
  have hfew := h.few
  rw [← hN] at hcap hcell hfew
  have HCE : Hid (∀ v, Below w.heap.size w v → v.cell? ⟨q, 0, none⟩ = some (.slice a0 N c0)) := hcell
  have HN : Hid (M.length = N) := hN.symm
  have HWR : Hid (∀ x ∈ M, EntW w x) := h.wrs
  have HS : Hid (∀ i x, M[i]? = some x → ∃ g, a0 = some ⟨g, 0, none⟩ ∧ Hid (∀ v, Below w.heap.size w v → EntAt v g (i * 6) x)) := fun i x hx => by
    rcases hs with e | ⟨g, e1, e4⟩
    · rw [e] at hx; simp at hx
    · exact ⟨g, e1, fun v hv => e4 v hv i x hx⟩
  obtain ⟨R, hR⟩ : ∃ R, R = holdM M k := ⟨_, rfl⟩
  have HYES : Hid (∀ i x, M[i]? = some x → hasK x.e k = true → (∀ j (y : EntM), j < i → M[j]? = some y → hasK y.e k = false) → R = some x) := fun i x hx he hj => by rw [hR]; exact find_first hx he hj
  have HNO : Hid ((∀ j (y : EntM), j < N → M[j]? = some y → hasK y.e k = false) → R = none) := fun hj => by rw [hR]; exact find_no (fun j y h1 h2 => hj j y (by rw [hN]; exact h1) h2)
  rw [← hR]
  clear h hs hcell hN hR hV0 k1 m1 b1 hk
  go_enter Tryz.func113, Tryz.ntmps113
  go_wp2
  rw [HV0.out]
  go_loopw [6] (fun iv wr => ∃ i : Nat, iv = .int .i64 i ∧ i ≤ N ∧ Hid (Below V0.heap.size V0 wr) ∧ Hid (∀ j (y : EntM), j < i → M[j]? = some y → hasK y.e k = false)) (fun iv _ => N - (intOf iv).toNat)
  case atStart => exact ⟨0, rfl, Nat.zero_le _, Below.refl _ _, fun j y hj => absurd hj (Nat.not_lt_zero _)⟩
  case round =>
    obtain ⟨i, rfl, hi, HB, HJ⟩ := hrel
    have hi0 : (0 : Int) ≤ (i : Int) := by omega
    have q0 := HCE.out wr (HBW.out.trans (HB.out.mono HBW.out.size))
    by_cases hlt : i < N
    · have h1 : (i : Int) < (N : Int) := by omega
      obtain ⟨x, hx⟩ : ∃ x, M[i]? = some x := ⟨_, List.getElem?_eq_getElem (by rw [HN.out]; exact hlt)⟩
      obtain ⟨g, hag, HG⟩ := HS.out i x hx
      have HXI : Hid (M[i]? = some x) := hx
      obtain ⟨hwr, hroom, hfw, _⟩ := HWR.out x (List.mem_of_getElem? hx)
      obtain ⟨xa, hxa⟩ : ∃ z, z = x.a := ⟨_, rfl⟩
      obtain ⟨xc, hxc⟩ : ∃ z, z = x.c := ⟨_, rfl⟩
      obtain ⟨NW, hNW⟩ : ∃ z, z = x.e.l.length := ⟨_, rfl⟩
      rw [← hNW] at hroom hfw
      rw [← hxc] at hroom
      rw [← hxa] at hwr
      have HNW : Hid (x.e.l.length = NW) := hNW.symm
      have HWX : Hid (WrtsAt w xa x.e.l) := hwr
      have FE : Hid (∀ u, Below V0.heap.size V0 u → EntAt u g (i * 6) x) := fun u hb => HG.out u (HBW.out.trans (hb.mono HBW.out.size))
      have FS5 : Hid (∀ u, Below V0.heap.size V0 u → u.cell? ⟨g, i * 6 + 5, none⟩ = some (.slice xa NW xc)) := fun u hb => by rw [hxa, hxc, hNW]; exact (FE.out u hb).cells.2.2.2.2.2
      have HQ : Hid (∀ u, Below V0.heap.size V0 u → u.cell? ⟨q, 0, none⟩ = some (.slice (some ⟨g, 0, none⟩) N c0)) := fun u hb => by rw [← hag]; exact HCE.out u (HBW.out.trans (hb.mono HBW.out.size))
      clear hx hxa hxc hNW hwr q0
      have q0 := HQ.out wr HB.out
      go_wp2
      clear q0
      go_loopw [7] (fun jv wr => ∃ z : Nat, jv = .int .i64 z ∧ z ≤ NW ∧ Hid (Below V0.heap.size V0 wr) ∧ Hid (∀ y W, y < z → x.e.l[y]? = some W → W.k ≠ k)) (fun jv _ => NW - (intOf jv).toNat)
      case atStart => exact ⟨0, rfl, Nat.zero_le _, HB, fun y W hy => absurd hy (Nat.not_lt_zero _)⟩
      case round =>
        obtain ⟨z, rfl, hz, HB2, HJ2⟩ := hrel
        have hz0 : (0 : Int) ≤ (z : Int) := by omega
        have q0 := HQ.out wr HB2.out
        have q5 := FS5.out wr HB2.out
        by_cases hzl : z < NW
        · have h2 : (z : Int) < (NW : Int) := by omega
          obtain ⟨W, hW⟩ : ∃ W, x.e.l[z]? = some W := ⟨_, List.getElem?_eq_getElem (by rw [HNW.out]; exact hzl)⟩
          have HWZ : Hid (x.e.l[z]? = some W) := hW
          obtain ⟨b, o, hxb, hwa, hwo⟩ := HWX.out.wrt hW
          obtain ⟨k2, hk2⟩ : ∃ k2, k2 = W.k := ⟨_, rfl⟩
          have HK2 : Hid (k2 = W.k) := hk2
          have KY2 : Hid (Ky k2) := by rw [hk2]; exact hwo.key
          have F2 : Hid (∀ u, Below wr.heap.size wr u → KeyAt u b (o + z * 18) k2) := fun u hb => by rw [hk2]; exact (hwa.past (HBW.out.trans ((HB2.out.trans (hb.mono HB2.out.size)).mono HBW.out.size))).key hwo.key
          have F1 : Hid (∀ u, Below wr.heap.size wr u → KeyAt u w.heap.size 0 k) := fun u hb => HK0.out.past (HB2.out.trans (hb.mono HB2.out.size))
          have Q2 : Hid (∀ u, Below wr.heap.size wr u → u.cell? ⟨q, 0, none⟩ = some (.slice (some ⟨g, 0, none⟩) N c0) ∧ u.cell? ⟨g, i * 6 + 5, none⟩ = some (.slice (some ⟨b, o, none⟩) NW xc)) := fun u hb => ⟨HQ.out u (HB2.out.trans (hb.mono HB2.out.size)), by rw [← hxb]; exact FS5.out u (HB2.out.trans (hb.mono HB2.out.size))⟩
          rw [hxb] at q5
          clear hW hwa hwo hk2 hxb
          by_cases hq : k2 = k
          · have he : ∀ u, (Op.equalIn 10000 38 (kv k2) (kv k)).run Tryz.prog u = .ok true u := fun u => by rw [eq_key u k2 k KY2.out KY.out, decide_eq_true hq]
            have HR : Hid (R = some x) := HYES.out i x HXI.out (hask_yes HWZ.out (by rw [← HK2.out]; exact hq)) HJ.out
            clear hq
            go_wp2
            refine wp_region_noPanic ?_
            refine wp_region_held_drew (S := fun u => Below wr.heap.size wr u) (by kernel_rfl) ?_ (fun hHeld => ?_)
            · exact (Below.refl _ _).drew
            refine wpAnyH_take (i := 0) (v := ?_) rfl (by kernel_rfl) (by kernel_rfl) (by kernel_rfl) (fun _ _ _ h => h) (Or.inl ⟨by rfl, ?_⟩) hHeld ?_
            rotate_left
            · intro u hSu
              (go_simp) <;> (with_reducible rfl)
            change wpAnyH _ _ _ _ _ _ _ (Act.put _ (some 30) _) _
            simp only [Act.put, List.setIfInBounds_toArray, List.set_cons_zero, List.set_cons_succ]
            refine wpAnyH_take (i := 1) (v := ?_) rfl (by kernel_rfl) (by kernel_rfl) (by kernel_rfl) (fun _ _ _ h => h) (Or.inl ⟨by rfl, ?_⟩) hHeld ?_
            rotate_left
            · intro u hSu
              (go_simp) <;> (with_reducible rfl)
            change wpAnyH _ _ _ _ _ _ _ (Act.put _ (some 31) _) _
            simp only [Act.put, List.setIfInBounds_toArray, List.set_cons_zero, List.set_cons_succ]
            refine wpAnyH_take (i := 2) (v := ?_) rfl (by kernel_rfl) (by kernel_rfl) (by kernel_rfl) (fun _ _ _ h => h) (Or.inl ⟨by rfl, ?_⟩) hHeld ?_
            rotate_left
            · intro u hSu
              (go_simp) <;> (with_reducible rfl)
            change wpAnyH _ _ _ _ _ _ _ (Act.put _ (some 32) _) _
            simp only [Act.put, List.setIfInBounds_toArray, List.set_cons_zero, List.set_cons_succ]
            refine wpAnyH_take (i := 3) (v := ?_) rfl (by kernel_rfl) (by kernel_rfl) (by kernel_rfl) (fun _ _ _ h => h) (Or.inl ⟨by rfl, ?_⟩) hHeld ?_
            rotate_left
            · intro u hSu
              obtain ⟨r1, r2⟩ := Q2.out u hSu
              (go_simp) <;> (with_reducible rfl)
            change wpAnyH _ _ _ _ _ _ _ (Act.put _ (some 33) _) _
            simp only [Act.put, List.setIfInBounds_toArray, List.set_cons_zero, List.set_cons_succ]
            refine wpAnyH_take (i := 4) (v := ?_) rfl (by kernel_rfl) (by kernel_rfl) (by kernel_rfl) (fun _ _ _ h => h) (Or.inl ⟨by rfl, ?_⟩) hHeld ?_
            rotate_left
            · intro u hSu
              (go_simp) <;> (with_reducible rfl)
            change wpAnyH _ _ _ _ _ _ _ (Act.put _ (some 34) _) _
            simp only [Act.put, List.setIfInBounds_toArray, List.set_cons_zero, List.set_cons_succ]
            refine wpAnyH_take (i := 5) (v := ?_) rfl (by kernel_rfl) (by kernel_rfl) (by kernel_rfl) (fun _ _ _ h => h) (Or.inl ⟨by rfl, ?_⟩) hHeld ?_
            rotate_left
            · intro u hSu
              (go_simp) <;> (with_reducible rfl)
            change wpAnyH _ _ _ _ _ _ _ (Act.put _ (some 35) _) _
            simp only [Act.put, List.setIfInBounds_toArray, List.set_cons_zero, List.set_cons_succ]
            refine wpAnyH_take (i := 6) (v := ?_) rfl (by kernel_rfl) (by kernel_rfl) (by kernel_rfl) (fun _ _ _ h => h) (Or.inl ⟨by rfl, ?_⟩) hHeld ?_
            rotate_left
            · intro u hSu
              (go_simp) <;> (with_reducible rfl)
            change wpAnyH _ _ _ _ _ _ _ (Act.put _ (some 36) _) _
            simp only [Act.put, List.setIfInBounds_toArray, List.set_cons_zero, List.set_cons_succ]
            refine wpAnyH_take (i := 7) (v := ?_) rfl (by kernel_rfl) (by kernel_rfl) (by kernel_rfl) (fun _ _ _ h => h) (Or.inl ⟨by rfl, ?_⟩) hHeld ?_
            rotate_left
            · intro u hSu
              obtain ⟨r1, r2⟩ := Q2.out u hSu
              (go_simp) <;> (with_reducible rfl)
            change wpAnyH _ _ _ _ _ _ _ (Act.put _ (some 37) _) _
            simp only [Act.put, List.setIfInBounds_toArray, List.set_cons_zero, List.set_cons_succ]
            refine wpAnyH_take (i := 8) (v := ?_) rfl (by kernel_rfl) (by kernel_rfl) (by kernel_rfl) (fun _ _ _ h => h) (Or.inl ⟨by rfl, ?_⟩) hHeld ?_
            rotate_left
            · intro u hSu
              (go_simp) <;> (with_reducible rfl)
            change wpAnyH _ _ _ _ _ _ _ (Act.put _ (some 38) _) _
            simp only [Act.put, List.setIfInBounds_toArray, List.set_cons_zero, List.set_cons_succ]
            refine wpAnyH_take (i := 9) (v := ?_) rfl (by kernel_rfl) (by kernel_rfl) (by kernel_rfl) (fun _ _ _ h => h) (Or.inl ⟨by rfl, ?_⟩) hHeld ?_
            rotate_left
            · intro u hSu
              (go_simp) <;> (with_reducible rfl)
            change wpAnyH _ _ _ _ _ _ _ (Act.put _ (some 39) _) _
            simp only [Act.put, List.setIfInBounds_toArray, List.set_cons_zero, List.set_cons_succ]
            refine wpAnyH_take (i := 10) (v := ?_) rfl (by kernel_rfl) (by kernel_rfl) (by kernel_rfl) (fun _ _ _ h => h) (Or.inl ⟨by rfl, ?_⟩) hHeld ?_
            rotate_left
            · intro u hSu
              (go_simp) <;> (with_reducible rfl)
            change wpAnyH _ _ _ _ _ _ _ (Act.put _ (some 40) _) _
            simp only [Act.put, List.setIfInBounds_toArray, List.set_cons_zero, List.set_cons_succ]
            refine wpAnyH_take (i := 11) (v := kv k2) rfl (by kernel_rfl) (by kernel_rfl) (by kernel_rfl) (fun _ _ _ h => h) (yieldsIf_load_mid (by rfl) _ _ rfl _ _ rfl (k2.map (Value.int .u8)) _ (fun u hu => (F2.out u hu).range KY2.out) Tryz.underlying38 rfl (info_keyl k2 KY2.out)) hHeld ?_
            change wpAnyH _ _ _ _ _ _ _ (Act.put _ (some 41) _) _
            simp only [Act.put, List.setIfInBounds_toArray, List.set_cons_zero, List.set_cons_succ]
            refine wpAnyH_take (i := 12) (v := kv k) rfl (by kernel_rfl) (by kernel_rfl) (by kernel_rfl) (fun _ _ _ h => h) (yieldsIf_load_mid (by rfl) _ _ rfl _ _ rfl (k.map (Value.int .u8)) _ (fun u hu => (F1.out u hu).range KY.out) Tryz.underlying38 rfl (info_keyl k KY.out)) hHeld ?_
            change wpAnyH _ _ _ _ _ _ _ (Act.put _ (some 42) _) _
            simp only [Act.put, List.setIfInBounds_toArray, List.set_cons_zero, List.set_cons_succ]
            refine wpAnyH_take (i := 13) (v := ?_) rfl (by kernel_rfl) (by kernel_rfl) (by kernel_rfl) (fun _ _ _ h => h) (Or.inl ⟨by rfl, ?_⟩) hHeld ?_
            rotate_left
            · intro u hSu
              (go_simp) <;> (with_reducible rfl)
            change wpAnyH _ _ _ _ _ _ _ (Act.put _ (some 43) _) _
            simp only [Act.put, List.setIfInBounds_toArray, List.set_cons_zero, List.set_cons_succ]
            refine wpAnyH_done (by kernel_rfl) ?_ _
            refine NoPanic.normal ?_
            have HMW : Hid (EntMine wr.drew (w.heap.size + 1) zeroE) := HM0.out.past HB2.out.drew
            have HBD : Hid (Below w.heap.size w wr.drew) := HBW.out.trans (HB2.out.drew.mono HBW.out.size)
            have HFD : Hid (EntAt wr.drew g (i * 6) x) := FE.out _ HB2.out.drew
            have q1 := HQ.out wr.drew HB2.out.drew
            go_wp2_with (first | ((with_reducible show wpList _ _ _ (Oper.mk (some 50) _ _ _ _ _ :: _) _ _); refine wpList_load_ent 50 (by rfl) (by rfl) _ (by rfl) g (i * 6) (by rfl) x HFD.out ?_) | (have hgo := HMW.out; clear hgo; refine wpList_store_ent (.tmp 4) (by rfl) _ (by rfl) (w.heap.size + 1) zeroE x (by rfl) (by rfl) HMW.out ?_; intro u2 hu; have HM2 : Hid (EntMine u2 (w.heap.size + 1) x) := hu ▸ HMW.out.store; have HBU : Hid (Below w.heap.size w u2) := hu ▸ below_cells (by omega) HBD.out; clear hu HMW))
            refine bodyPost_ret (results_ent rfl _ _ (w.heap.size + 1) x rfl HM2.out.at_) rfl ?_
            exact ⟨by rw [HR.out]; rfl, HBU.out⟩
          · have he : ∀ u, (Op.equalIn 10000 38 (kv k2) (kv k)).run Tryz.prog u = .ok false u := fun u => by rw [eq_key u k2 k KY2.out KY.out, decide_eq_false hq]
            have HJ3 : Hid (∀ y W, y < z + 1 → x.e.l[y]? = some W → W.k ≠ k) := fun y W' hy hW' => by
              by_cases e : y < z
              · exact HJ2.out y W' e hW'
              · obtain rfl : y = z := by omega
                rw [HWZ.out] at hW'
                obtain rfl := Option.some.inj hW'
                rw [← HK2.out]; exact hq
            clear hq
            go_wp2
            refine wp_region_noPanic ?_
            refine wp_region_held_drew (S := fun u => Below wr.heap.size wr u) (by kernel_rfl) ?_ (fun hHeld => ?_)
            · exact (Below.refl _ _).drew
            refine wpAnyH_take (i := 0) (v := ?_) rfl (by kernel_rfl) (by kernel_rfl) (by kernel_rfl) (fun _ _ _ h => h) (Or.inl ⟨by rfl, ?_⟩) hHeld ?_
            rotate_left
            · intro u hSu
              (go_simp) <;> (with_reducible rfl)
            change wpAnyH _ _ _ _ _ _ _ (Act.put _ (some 30) _) _
            simp only [Act.put, List.setIfInBounds_toArray, List.set_cons_zero, List.set_cons_succ]
            refine wpAnyH_take (i := 1) (v := ?_) rfl (by kernel_rfl) (by kernel_rfl) (by kernel_rfl) (fun _ _ _ h => h) (Or.inl ⟨by rfl, ?_⟩) hHeld ?_
            rotate_left
            · intro u hSu
              (go_simp) <;> (with_reducible rfl)
            change wpAnyH _ _ _ _ _ _ _ (Act.put _ (some 31) _) _
            simp only [Act.put, List.setIfInBounds_toArray, List.set_cons_zero, List.set_cons_succ]
            refine wpAnyH_take (i := 2) (v := ?_) rfl (by kernel_rfl) (by kernel_rfl) (by kernel_rfl) (fun _ _ _ h => h) (Or.inl ⟨by rfl, ?_⟩) hHeld ?_
            rotate_left
            · intro u hSu
              (go_simp) <;> (with_reducible rfl)
            change wpAnyH _ _ _ _ _ _ _ (Act.put _ (some 32) _) _
            simp only [Act.put, List.setIfInBounds_toArray, List.set_cons_zero, List.set_cons_succ]
            refine wpAnyH_take (i := 3) (v := ?_) rfl (by kernel_rfl) (by kernel_rfl) (by kernel_rfl) (fun _ _ _ h => h) (Or.inl ⟨by rfl, ?_⟩) hHeld ?_
            rotate_left
            · intro u hSu
              obtain ⟨r1, r2⟩ := Q2.out u hSu
              (go_simp) <;> (with_reducible rfl)
            change wpAnyH _ _ _ _ _ _ _ (Act.put _ (some 33) _) _
            simp only [Act.put, List.setIfInBounds_toArray, List.set_cons_zero, List.set_cons_succ]
            refine wpAnyH_take (i := 4) (v := ?_) rfl (by kernel_rfl) (by kernel_rfl) (by kernel_rfl) (fun _ _ _ h => h) (Or.inl ⟨by rfl, ?_⟩) hHeld ?_
            rotate_left
            · intro u hSu
              (go_simp) <;> (with_reducible rfl)
            change wpAnyH _ _ _ _ _ _ _ (Act.put _ (some 34) _) _
            simp only [Act.put, List.setIfInBounds_toArray, List.set_cons_zero, List.set_cons_succ]
            refine wpAnyH_take (i := 5) (v := ?_) rfl (by kernel_rfl) (by kernel_rfl) (by kernel_rfl) (fun _ _ _ h => h) (Or.inl ⟨by rfl, ?_⟩) hHeld ?_
            rotate_left
            · intro u hSu
              (go_simp) <;> (with_reducible rfl)
            change wpAnyH _ _ _ _ _ _ _ (Act.put _ (some 35) _) _
            simp only [Act.put, List.setIfInBounds_toArray, List.set_cons_zero, List.set_cons_succ]
            refine wpAnyH_take (i := 6) (v := ?_) rfl (by kernel_rfl) (by kernel_rfl) (by kernel_rfl) (fun _ _ _ h => h) (Or.inl ⟨by rfl, ?_⟩) hHeld ?_
            rotate_left
            · intro u hSu
              (go_simp) <;> (with_reducible rfl)
            change wpAnyH _ _ _ _ _ _ _ (Act.put _ (some 36) _) _
            simp only [Act.put, List.setIfInBounds_toArray, List.set_cons_zero, List.set_cons_succ]
            refine wpAnyH_take (i := 7) (v := ?_) rfl (by kernel_rfl) (by kernel_rfl) (by kernel_rfl) (fun _ _ _ h => h) (Or.inl ⟨by rfl, ?_⟩) hHeld ?_
            rotate_left
            · intro u hSu
              obtain ⟨r1, r2⟩ := Q2.out u hSu
              (go_simp) <;> (with_reducible rfl)
            change wpAnyH _ _ _ _ _ _ _ (Act.put _ (some 37) _) _
            simp only [Act.put, List.setIfInBounds_toArray, List.set_cons_zero, List.set_cons_succ]
            refine wpAnyH_take (i := 8) (v := ?_) rfl (by kernel_rfl) (by kernel_rfl) (by kernel_rfl) (fun _ _ _ h => h) (Or.inl ⟨by rfl, ?_⟩) hHeld ?_
            rotate_left
            · intro u hSu
              (go_simp) <;> (with_reducible rfl)
            change wpAnyH _ _ _ _ _ _ _ (Act.put _ (some 38) _) _
            simp only [Act.put, List.setIfInBounds_toArray, List.set_cons_zero, List.set_cons_succ]
            refine wpAnyH_take (i := 9) (v := ?_) rfl (by kernel_rfl) (by kernel_rfl) (by kernel_rfl) (fun _ _ _ h => h) (Or.inl ⟨by rfl, ?_⟩) hHeld ?_
            rotate_left
            · intro u hSu
              (go_simp) <;> (with_reducible rfl)
            change wpAnyH _ _ _ _ _ _ _ (Act.put _ (some 39) _) _
            simp only [Act.put, List.setIfInBounds_toArray, List.set_cons_zero, List.set_cons_succ]
            refine wpAnyH_take (i := 10) (v := ?_) rfl (by kernel_rfl) (by kernel_rfl) (by kernel_rfl) (fun _ _ _ h => h) (Or.inl ⟨by rfl, ?_⟩) hHeld ?_
            rotate_left
            · intro u hSu
              (go_simp) <;> (with_reducible rfl)
            change wpAnyH _ _ _ _ _ _ _ (Act.put _ (some 40) _) _
            simp only [Act.put, List.setIfInBounds_toArray, List.set_cons_zero, List.set_cons_succ]
            refine wpAnyH_take (i := 11) (v := kv k2) rfl (by kernel_rfl) (by kernel_rfl) (by kernel_rfl) (fun _ _ _ h => h) (yieldsIf_load_mid (by rfl) _ _ rfl _ _ rfl (k2.map (Value.int .u8)) _ (fun u hu => (F2.out u hu).range KY2.out) Tryz.underlying38 rfl (info_keyl k2 KY2.out)) hHeld ?_
            change wpAnyH _ _ _ _ _ _ _ (Act.put _ (some 41) _) _
            simp only [Act.put, List.setIfInBounds_toArray, List.set_cons_zero, List.set_cons_succ]
            refine wpAnyH_take (i := 12) (v := kv k) rfl (by kernel_rfl) (by kernel_rfl) (by kernel_rfl) (fun _ _ _ h => h) (yieldsIf_load_mid (by rfl) _ _ rfl _ _ rfl (k.map (Value.int .u8)) _ (fun u hu => (F1.out u hu).range KY.out) Tryz.underlying38 rfl (info_keyl k KY.out)) hHeld ?_
            change wpAnyH _ _ _ _ _ _ _ (Act.put _ (some 42) _) _
            simp only [Act.put, List.setIfInBounds_toArray, List.set_cons_zero, List.set_cons_succ]
            refine wpAnyH_take (i := 13) (v := ?_) rfl (by kernel_rfl) (by kernel_rfl) (by kernel_rfl) (fun _ _ _ h => h) (Or.inl ⟨by rfl, ?_⟩) hHeld ?_
            rotate_left
            · intro u hSu
              (go_simp) <;> (with_reducible rfl)
            change wpAnyH _ _ _ _ _ _ _ (Act.put _ (some 43) _) _
            simp only [Act.put, List.setIfInBounds_toArray, List.set_cons_zero, List.set_cons_succ]
            refine wpAnyH_done (by kernel_rfl) ?_ _
            refine NoPanic.normal ?_
            go_wp2
            go_roundw
            case rel => exact ⟨z + 1, by go_num, by omega, HB2.out.drew, HJ3⟩
            case measure => simp [intOf]; omega
        · obtain rfl : z = NW := by omega
          have HJX : Hid (∀ j (y : EntM), j < i + 1 → M[j]? = some y → hasK y.e k = false) := fun j y hj hy => by
            by_cases e : j < i
            · exact HJ.out j y e hy
            · obtain rfl : j = i := by omega
              rw [HXI.out] at hy
              obtain rfl := Option.some.inj hy
              exact hask_no (fun y W h8 h9 => HJ2.out y W (by rw [← HNW.out]; exact h8) h9)
          go_wp2
          go_roundw
          case rel => exact ⟨i + 1, by go_num, by omega, HB2, HJX⟩
          case measure => simp [intOf]; omega
    · obtain rfl : i = N := by omega
      have HR : Hid (R = none) := HNO.out HJ.out
      have HMW : Hid (EntMine wr (w.heap.size + 1) zeroE) := HM0.out.past HB.out
      have HBD : Hid (Below w.heap.size w wr) := HBW.out.trans (HB.out.mono HBW.out.size)
      go_wp2_with (have hgo := HMW.out; clear hgo; refine wpList_store_ent (.tmp 4) (by rfl) _ (by rfl) (w.heap.size + 1) zeroE zeroE (by rfl) (by rfl) HMW.out ?_; intro u2 hu; have HM2 : Hid (EntMine u2 (w.heap.size + 1) zeroE) := hu ▸ HMW.out.store; have HBU : Hid (Below w.heap.size w u2) := hu ▸ below_cells (by omega) HBD.out; clear hu HMW)
      refine bodyPost_ret (results_ent rfl _ _ (w.heap.size + 1) zeroE rfl HM2.out.at_) rfl ?_
      exact ⟨by rw [HR.out]; rfl, HBU.out⟩
end Go.Proofs.YtileidbdmpeciaaGreat

