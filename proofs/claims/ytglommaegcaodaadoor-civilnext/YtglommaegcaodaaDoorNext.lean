/-
  CivilNext: the next day is the next of its month, or the first of the next month, and its weekday the next, for every day that has a date but the last (else the statement asks nothing); conditions: the library's tables, and its two errors where they are listed, hold what the program's own text lays (the card ties them, over the pruned copy).
-/
import Derived.Test.YtglommaegcaodaaDoorRows
import Derived.Test.YtglommaegcaodaaDoorCivilAwake
import Derived.Test.YtglommaegcaodaaDoorCards
import Derived.Test.YtglommaegcaodaaDoorTie
import Derived.Test.YtglommaegcaodaaDoorCivilLaid
import Derived.WalkKit
import Derived.ProofKit
import Derived.OpenShut
import Derived.ShutString
import Derived.ChangeOld
import Derived.Below
import Derived.Carry
import Derived.Deep.RegionHeld3
import Derived.SevenTiedAt
import Derived.SizedLaws
import Derived.JoinedAt
namespace Go.Proofs.YtglommaegcaodaaDoor.civilNext
open Go.ChangeShapes Go.WideShapes Go.ChangeAt Go.RowKit
open Go.ChangeMaps (open_string shut_string)
set_option linter.unusedVariables false

theorem own : ownKnob Tryd.prog.godebug = none := by kernel_rfl
theorem laidOut : laidOutB Tryd.prog = true := by kernel_rfl
/-- A slice of integers that came in: nil, or a row of 'cap' cells, of which the first 'len' are its elements. -/
def IsRow (k : IntKind) (w : World) (a : Option Addr) (len cap : Nat) (zs : List Int) : Prop :=
  (a = none ∧ len = 0 ∧ cap = 0 ∧ zs = []) ∨
  ∃ x, a = some x ∧ len ≤ cap ∧ cap ≤ maxLen ∧ zs.length = cap ∧ (∀ i, i < zs.length → w.cell? (x.add i) = some (.int k (zs.getD i 0))) ∧ ∀ n ∈ zs, (Lit.int k n).wf = true

theorem next_same {y m d : Int} (h : Gd y m d) (hd : d + 1 ≤ ml y m) : Gd y m (d + 1) ∧ dayN y m (d + 1) = dayN y m d + 1 :=
  ⟨⟨h.1, h.2.1, by have := h.2.2.1; omega, hd⟩, by unfold dayN; omega⟩
theorem next_month {y m d : Int} (h : Gd y m d) (hd : ml y m < d + 1) (hm : m ≤ 11) : Gd y (m + 1) 1 ∧ dayN y (m + 1) 1 = dayN y m d + 1 := by
  have h1 := h.month
  have hp := (ml_pos (y := y) (m := m + 1) (by omega) (by omega)).1
  have hs := md_step (y := y) h1.1 h1.2
  have he := h.2.2.2
  exact ⟨⟨h.1, h.2.1, by omega, by omega⟩, by unfold dayN; omega⟩
theorem next_year {y m d : Int} (h : Gd y m d) (hd : ml y m < d + 1) (hm : m = 12) (hy : y ≤ 9998) : Gd (y + 1) 1 1 ∧ dayN (y + 1) 1 1 = dayN y m d + 1 := by
  have hp := (ml_pos (y := y + 1) (m := 1) (by omega) (by omega)).1
  subst hm
  have hs := md_step (y := y) (m := 12) (by omega) (by omega)
  have e3 : (12 : Int) + 1 = 13 := rfl
  rw [e3, md_end] at hs
  have h5 := fy_step y
  have he := h.2.2.2
  have h0 := h.1
  exact ⟨⟨by omega, by omega, by omega, by omega⟩, by unfold dayN; rw [md_one]; omega⟩
theorem wd_next (n : Int) : (wd n + 1).tmod 7 = wd (n + 1) := by
  have h : 0 ≤ wd n ∧ wd n ≤ 6 := by unfold wd; omega
  rw [tm_pos (by omega)]
  unfold wd; omega
theorem set_back {w : World} {g : Nat} {a b c : Int} (h : DateAt w g a b c) : (∀ x, (w.setCell ⟨g, 2, none⟩ x).cell? ⟨g, 2, none⟩ = some x) ∧ (∀ x y, ((w.setCell ⟨g, 2, none⟩ x).setCell ⟨g, 1, none⟩ y).cell? ⟨g, 1, none⟩ = some y) ∧
    (∀ x y z, (((w.setCell ⟨g, 2, none⟩ x).setCell ⟨g, 1, none⟩ y).setCell ⟨g, 1, none⟩ z).cell? ⟨g, 1, none⟩ = some z) ∧ (∀ x y z u, ((((w.setCell ⟨g, 2, none⟩ x).setCell ⟨g, 1, none⟩ y).setCell ⟨g, 1, none⟩ z).setCell ⟨g, 0, none⟩ u).cell? ⟨g, 0, none⟩ = some u) := by
  have o21 : ∀ x, (w.setCell ⟨g, 2, none⟩ x).cell? ⟨g, 1, none⟩ = some (.int .i64 b) := fun x => (World.cell?_setCell_other _ _ _ _ (by intro h'; injection h' with _ h2; omega)).trans h.c1
  have s1 : ∀ x y, ((w.setCell ⟨g, 2, none⟩ x).setCell ⟨g, 1, none⟩ y).cell? ⟨g, 1, none⟩ = some y := fun x y => World.cell?_setCell_same _ _ _ (o21 x)
  refine ⟨fun x => World.cell?_setCell_same _ _ _ h.c2, s1, fun x y z => World.cell?_setCell_same _ _ _ (s1 x y), fun x y z u => World.cell?_setCell_same _ _ _ (u := .int .i64 a) ?_⟩
  rw [World.cell?_setCell_other _ _ _ _ (by intro h'; injection h' with _ h2; omega), World.cell?_setCell_other _ _ _ _ (by intro h'; injection h' with _ h2; omega), World.cell?_setCell_other _ _ _ _ (by intro h'; injection h' with _ h2; omega)]
  exact h.c0
/-- Three dates laid, one behind the other. -/
structure Laid (w2 v : World) (g : Nat) (y m d y' m' d' : Int) : Prop where
  one : DateAt v w2.heap.size y m d
  two : DateAt v g y' m' d'
  three : DateAt v (g + 1) y m (d + 1)
  free : ∀ j, v.frozen? ⟨g + 1, j, none⟩ = false
  size : v.heap.size = g + 2
theorem laid_made (w2 w3 : World) (t : TypeId) (y m d y' m' d' : Int) (hb0 : Below (w2.alloc (Obj.cells #[Value.int IntKind.i64 y, Value.int IntKind.i64 m, Value.int IntKind.i64 d] t)).heap.size (w2.alloc (Obj.cells #[Value.int IntKind.i64 y, Value.int IntKind.i64 m, Value.int IntKind.i64 d] t)) w3) :
    Laid w2 ((w3.alloc (Obj.cells #[Value.int IntKind.i64 y', Value.int IntKind.i64 m', Value.int IntKind.i64 d'] t)).alloc (Obj.cells #[Value.int IntKind.i64 y, Value.int IntKind.i64 m, Value.int IntKind.i64 (d + 1)] t)) w3.heap.size y m d y' m' d' := by
  have hb : Below (w2.heap.size + 1) (w2.alloc (Obj.cells #[Value.int IntKind.i64 y, Value.int IntKind.i64 m, Value.int IntKind.i64 d] t)) w3 := by simpa using hb0
  have hs : w2.heap.size + 1 ≤ w3.heap.size := by have := hb.size; simpa using this
  have h1 := (DateAt.made w2 t y m d).below hb (by omega)
  obtain ⟨v1, hv1⟩ : ∃ v1, v1 = w3.alloc (Obj.cells #[Value.int IntKind.i64 y', Value.int IntKind.i64 m', Value.int IntKind.i64 d'] t) := ⟨_, rfl⟩
  have h2 := DateAt.made w3 t y' m' d'
  have hb1 : Below w3.heap.size w3 v1 := by rw [hv1]; exact (Below.refl _ _).alloc (Nat.le_refl _) _
  have hs1 : v1.heap.size = w3.heap.size + 1 := by rw [hv1]; simp
  rw [← hv1] at h2 ⊢
  have hb2 : Below v1.heap.size v1 (v1.alloc (Obj.cells #[Value.int IntKind.i64 y, Value.int IntKind.i64 m, Value.int IntKind.i64 (d + 1)] t)) := (Below.refl _ _).alloc (Nat.le_refl _) _
  have h3 := DateAt.made v1 t y m (d + 1)
  rw [hs1] at h3
  refine ⟨(h1.below hb1 (by omega)).below hb2 (by omega), h2.below hb2 (by omega), h3, fun j => ?_, by simp [hs1]⟩
  have : (v1.alloc (Obj.cells #[Value.int IntKind.i64 y, Value.int IntKind.i64 m, Value.int IntKind.i64 (d + 1)] t)).heap[w3.heap.size + 1]? = some (.cells #[Value.int IntKind.i64 y, Value.int IntKind.i64 m, Value.int IntKind.i64 (d + 1)] t (0, 0)) := by
    rw [← hs1]
    show (v1.heap.push _)[v1.heap.size]? = _
    simp
  unfold World.frozen?; rw [this]; simp
set_option maxHeartbeats 2000000 in
theorem walk (a0 : Int) (w : World) (w0 : (Lit.int .i64 a0).wf = true) (hR : Ready w) :
    Calls Tryd.prog 7 #[.int .i64 a0] w fun e w' => e = .returned (.bool true) ∧ Below w.heap.size w w' := by
  have by0 := bounds_i64 w0
  have AW : Hid (Calls Tryd.prog 9 #[] w fun e w' => e = .returned (.bool true) ∧ Below w.heap.size w w') := awake_any w hR
  clear w0
  by_cases r1 : a0 < -4371587 ∨ 2932896 < a0
  · have C2 : Hid (∀ w, Calls Tryd.prog 11 #[.int .i64 a0] w fun e w' => e = .returned (.tuple #[.agg #[.int .i64 0, .int .i64 0, .int .i64 0], .int .i64 1]) ∧ Below w.heap.size w w') := fun w => of_out a0 w r1 (by omega) (by omega)
    go_enter Tryd.func7, Tryd.ntmps7
    go_wp2_with (first | (go_at_call 11; refine (C2.out _).mono ?_; rintro e w2 ⟨rfl, hb2⟩; have HB2 : Hid (Below w.heap.size w w2) := HB1.out.trans (hb2.mono HB1.out.size); clear hb2) | (go_at_call 9; refine AW.out.mono ?_; rintro e w1 ⟨rfl, hb1⟩; have HB1 : Hid (Below w.heap.size w w1) := hb1; clear hb1))
    go_ret
    exact ⟨rfl, HB2.out.alloc HB2.out.size _⟩
  have C1 : Hid (∀ w, Calls Tryd.prog 11 #[.int .i64 a0] w fun e w' => ∃ y m d, e = .returned (.tuple #[.agg #[.int .i64 y, .int .i64 m, .int .i64 d], .int .i64 0]) ∧ Gd y m d ∧ dayN y m d = a0 ∧ Below w.heap.size w w') := fun w => of_in a0 w (by omega) (by omega)
  by_cases r2 : 2932895 < a0
  · go_enter Tryd.func7, Tryd.ntmps7
    go_wp2_with (first | (go_at_call 11; refine (C1.out _).mono ?_; rintro e w2 ⟨y, m, d, rfl, hg, hn, hb2⟩; have HB2 : Hid (Below w.heap.size w w2) := HB1.out.trans (hb2.mono HB1.out.size); clear hb2 hg hn) | (go_at_call 9; refine AW.out.mono ?_; rintro e w1 ⟨rfl, hb1⟩; have HB1 : Hid (Below w.heap.size w w1) := hb1; clear hb1))
    go_ret
    exact ⟨rfl, HB2.out.alloc HB2.out.size _⟩
  have hwd : 0 ≤ wd a0 ∧ wd a0 ≤ 6 := by unfold wd; omega
  have ht := wd_next a0
  have CW1 : Hid (∀ w, Calls Tryd.prog 15 #[.int .i64 (a0 + 1)] w fun e w' => e = .returned (.int .i64 (wd (a0 + 1))) ∧ Below w.heap.size w w') := fun w => weekday_any (a0 + 1) w (by omega) (by omega)
  have CW2 : Hid (∀ w, Calls Tryd.prog 15 #[.int .i64 a0] w fun e w' => e = .returned (.int .i64 (wd a0)) ∧ Below w.heap.size w w') := fun w => weekday_any a0 w (by omega) (by omega)
  go_enter Tryd.func7, Tryd.ntmps7
  have C2 : Hid (∀ w, Calls Tryd.prog 11 #[.int .i64 (a0 + 1)] w fun e w' => ∃ y m d, e = .returned (.tuple #[.agg #[.int .i64 y, .int .i64 m, .int .i64 d], .int .i64 0]) ∧ Gd y m d ∧ dayN y m d = a0 + 1 ∧ Below w.heap.size w w') := fun w => of_in (a0 + 1) w (by omega) (by omega)
  go_wp2_with (first | (go_at_call 11; have hgo := HB2.out; clear hgo; refine (C2.out _).mono ?_; rintro e w3 ⟨y', m', d', rfl, hg, hn, hb3⟩; have HB3 : Hid (Below w.heap.size w w3) := (HB2.out.alloc HB2.out.size _).trans (hb3.mono (by simp; exact Nat.le_trans HB2.out.size (Nat.le_succ _))); have HG' : Hid (Gd y' m' d') := hg; have HN' : Hid (dayN y' m' d' = a0 + 1) := hn; have HLD : Hid _ := laid_made w2 w3 27 y m d y' m' d' hb3; have HDD := (DateAt.made w2 27 y m d).below hb3 (by simp); have hd0 := cell_past HDD.c0; have hd1 := cell_past HDD.c1; have hd2 := cell_past HDD.c2; clear HDD hb3 hg hn C1 C2) | (go_at_call 11; refine (C1.out _).mono ?_; rintro e w2 ⟨y, m, d, rfl, hg, hn, hb2⟩; have HB2 : Hid (Below w.heap.size w w2) := HB1.out.trans (hb2.mono HB1.out.size); have HG : Hid (Gd y m d) := hg; have HN : Hid (dayN y m d = a0) := hn; have hd31 := hg.day; clear hb2 hg hn) | (go_at_call 9; refine AW.out.mono ?_; rintro e w1 ⟨rfl, hb1⟩; have HB1 : Hid (Below w.heap.size w w1) := hb1; clear hb1))
  have HBV : Hid (Below w.heap.size w ((w3.alloc (Obj.cells #[Value.int IntKind.i64 y', Value.int IntKind.i64 m', Value.int IntKind.i64 d'] 27)).alloc (Obj.cells #[Value.int IntKind.i64 y, Value.int IntKind.i64 m, Value.int IntKind.i64 (d + 1)] 27))) := (HB3.out.alloc HB3.out.size _).alloc (by simp; exact Nat.le_trans HB3.out.size (Nat.le_succ _)) _
  generalize hv : ((w3.alloc (Obj.cells #[Value.int IntKind.i64 y', Value.int IntKind.i64 m', Value.int IntKind.i64 d'] 27)).alloc (Obj.cells #[Value.int IntKind.i64 y, Value.int IntKind.i64 m, Value.int IntKind.i64 (d + 1)] 27)) = v at HBV HLD ⊢
  clear hv hd0 hd1 hd2
  have hs2 : w2.heap.size < v.heap.size := lt_of_cell' HLD.out.one.c0
  have hm12 := HG.out.month
  have hy9 := HG.out.1
  have hy99 := HG.out.2.1
  have hml := ml_le y m
  obtain ⟨L, hL⟩ : ∃ L, L = ml y m := ⟨_, rfl⟩
  have CL : Hid (∀ u, Below v.heap.size v u → Calls Tryd.prog 14 #[.int .i64 y, .int .i64 m] u fun e w' => e = .returned (.int .i64 L) ∧ Below v.heap.size v w') := fun u h => by
    rw [hL]
    exact (length_any y m u (by omega) (by omega) (by omega) (by omega)).mono (by rintro e w' ⟨rfl, h'⟩; exact ⟨rfl, h.trans (h'.mono h.size)⟩)
  have KS : Hid (∀ w', Below v.heap.size v w' → Below v.heap.size v w' ∧ w'.cell? ⟨w3.heap.size + 1, 2, none⟩ = some (.int .i64 (d + 1)) ∧ w'.cell? ⟨w2.heap.size, 0, none⟩ = some (.int .i64 y) ∧ w'.cell? ⟨w2.heap.size, 1, none⟩ = some (.int .i64 m)) := fun w' h =>
    ⟨h, (HLD.out.three.below h (by rw [HLD.out.size]; omega)).c2, (HLD.out.one.below h hs2).c0, (HLD.out.one.below h hs2).c1⟩
  rw [← hL] at hml
  have HL : Hid (L = ml y m) := hL
  clear hL
  go_region_held3 (fun w' => Below v.heap.size v w' ∧ w'.cell? ⟨w3.heap.size + 1, 2, none⟩ = some (.int .i64 (d + 1)) ∧ w'.cell? ⟨w2.heap.size, 0, none⟩ = some (.int .i64 y) ∧ w'.cell? ⟨w2.heap.size, 1, none⟩ = some (.int .i64 m)) (first | exact KS.out _ (by assumption) | exact KS.out _ (Below.refl _ _).drew) (first | (go_at_call 14; refine (CL.out _ (by first | assumption | exact (Below.refl _ _).drew)).mono ?_; rintro e w4 ⟨rfl, hb4⟩))
  have HB4 : Hid (Below w.heap.size w w4) := HBV.out.trans (hb4.mono HBV.out.size)
  have D2 := HLD.out.two.below hb4 (by rw [HLD.out.size]; omega)
  have D3 := HLD.out.three.below hb4 (by rw [HLD.out.size]; omega)
  have hfr : ∀ j, w4.frozen? ⟨w3.heap.size + 1, j, none⟩ = false := fun j => (hb4.frozen (p := ⟨w3.heap.size + 1, j, none⟩) (by show w3.heap.size + 1 < _; rw [HLD.out.size]; omega)).trans (HLD.out.free j)
  have f0 := hfr 0
  have f1 := hfr 1
  have f2 := hfr 2
  have p0 := D2.c0
  have p1 := D2.c1
  have p2 := D2.c2
  have q0 := D3.c0
  have q1 := D3.c1
  have q2 := D3.c2
  clear hb4 hfr D2 D3
  by_cases hA : d + 1 ≤ L
  · obtain ⟨rfl, rfl, rfl⟩ := day_inj HG'.out (next_same HG.out (by rw [← HL.out]; exact hA)).1 (by rw [HN'.out, (next_same HG.out (by rw [← HL.out]; exact hA)).2, HN.out])
    go_wp2_with (first | (go_at_call 15; have hgo := HB5.out; clear hgo; refine (CW2.out _).mono ?_; rintro e w6 ⟨rfl, hb6⟩; have HB6 : Hid (Below w.heap.size w w6) := HB5.out.trans (hb6.mono HB5.out.size); clear hb6) | (go_at_call 15; refine (CW1.out _).mono ?_; rintro e w5 ⟨rfl, hb5⟩; have HB5 : Hid (Below w.heap.size w w5) := HB4.out.trans (hb5.mono HB4.out.size); clear hb5))
    go_ret
    exact ⟨rfl, HB6.out⟩
  · have hge : Hid (w.heap.size ≤ w3.heap.size + 1) := Nat.le_trans HB3.out.size (Nat.le_succ _)
    obtain ⟨s2, s1, s3, s0⟩ := set_back (DateAt.mk q0 q1 q2)
    by_cases hB : m ≤ 11
    · have hnx := next_month HG.out (by rw [← HL.out]; omega) hB
      obtain ⟨rfl, rfl, rfl⟩ := day_inj HG'.out hnx.1 (by rw [HN'.out, hnx.2, HN.out])
      clear hnx
      go_wp2_with (first | (go_at_call 15; have hgo := HB5.out; clear hgo; refine (CW2.out _).mono ?_; rintro e w6 ⟨rfl, hb6⟩; have HB6 : Hid (Below w.heap.size w w6) := HB5.out.trans (hb6.mono HB5.out.size); clear hb6) | (go_at_call 15; refine (CW1.out _).mono ?_; rintro e w5 ⟨rfl, hb5⟩; have HB5 : Hid (Below w.heap.size w w5) := ((HB4.out.setCell (p := ⟨w3.heap.size + 1, 2, none⟩) hge.out _).setCell (p := ⟨w3.heap.size + 1, 1, none⟩) hge.out _).trans (hb5.mono ((HB4.out.setCell (p := ⟨w3.heap.size + 1, 2, none⟩) hge.out _).setCell (p := ⟨w3.heap.size + 1, 1, none⟩) hge.out _).size); clear hb5))
      go_ret
      exact ⟨rfl, HB6.out⟩
    · have hm : m = 12 := by omega
      have hy : y ≤ 9998 := by
        apply Classical.byContradiction
        intro hn
        have hy' : y = 9999 := by omega
        have h1 := HG.out.2.2.2
        have hdd : d = ml y m := by have := HL.out; omega
        have h2 := HN.out
        rw [hdd, hy', hm] at h2
        have : dayN 9999 12 (ml 9999 12) = 2932896 := by decide
        omega
      have hnx := next_year HG.out (by rw [← HL.out]; omega) hm hy
      obtain ⟨rfl, rfl, rfl⟩ := day_inj HG'.out hnx.1 (by rw [HN'.out, hnx.2, HN.out])
      clear hnx
      subst hm
      go_wp2_with (first | (go_at_call 15; have hgo := HB5.out; clear hgo; refine (CW2.out _).mono ?_; rintro e w6 ⟨rfl, hb6⟩; have HB6 : Hid (Below w.heap.size w w6) := HB5.out.trans (hb6.mono HB5.out.size); clear hb6) | (go_at_call 15; refine (CW1.out _).mono ?_; rintro e w5 ⟨rfl, hb5⟩; have HB5 : Hid (Below w.heap.size w w5) := ((((HB4.out.setCell (p := ⟨w3.heap.size + 1, 2, none⟩) hge.out _).setCell (p := ⟨w3.heap.size + 1, 1, none⟩) hge.out _).setCell (p := ⟨w3.heap.size + 1, 1, none⟩) hge.out _).setCell (p := ⟨w3.heap.size + 1, 0, none⟩) hge.out _).trans (hb5.mono ((((HB4.out.setCell (p := ⟨w3.heap.size + 1, 2, none⟩) hge.out _).setCell (p := ⟨w3.heap.size + 1, 1, none⟩) hge.out _).setCell (p := ⟨w3.heap.size + 1, 1, none⟩) hge.out _).setCell (p := ⟨w3.heap.size + 1, 0, none⟩) hge.out _).size); clear hb5))
      go_ret
      exact ⟨rfl, HB6.out⟩

set_option maxRecDepth 100000 in
theorem lifted (os : Os) (started : os.Started) (H : Type) (enc : TypeId × Value → H) :
    ReturnsInHanded {} Tryd.checked os 7 .any (fun w args => (Rows.civilNextSpec.pre enc Tryd.prog Tryd.f7 Rows.civilNextRow.domain false w args ∧ laidMet Tryd.prog laid3 w) ∧ sizedMet enc Tryd.prog Tryd.f7 (OpenSpec.ofChange Rows.civilNextSpec) false w args)
      (Rows.civilNextSpec.post enc Tryd.prog Tryd.f7 false true false false) := by
  refine returnsInHanded_of_change_and (C := Tryd.checked) (X := fun w _ => laidMet Tryd.prog laid3 w) (fun _ _ _ hh h => h.of_heap hh) own started (by kernel_rfl) Tryd.func7
    (ChangeSpec.witness_at (enc := enc) (C := Tryd.checked) (os := os) (X := fun w _ => laidMet Tryd.prog laid3 w) false (laidWorld3 os) #[.int .i64 0] 8 rfl (by kernel_rfl) (by kernel_rfl) (by kernel_rfl) (by kernel_rfl) (by kernel_rfl) (laid3_met os _)) ?_
  intro W base args ds gs before hval0 hW _ _ hL _
  have hval : ∀ (j : Nat) t v, Tryd.f7.params[j]? = some t → args[j]? = some v → Value.okWide Tryd.prog W .any base t v := hval0
  have hW' := hW
  obtain ⟨p, q, hA0, hV, rfl, hfz, hnd⟩ := hW
  have hA : DataW.TrodAll enc Tryd.prog W 0 (fun _ => true) true Tryd.f7.params.toList args.toList ds p := hA0
  rw [Tryd.params7] at hA hval
  obtain ⟨v0, vs0, d0, ds0, p0, q0, hargs, rfl, rfl, h0, r0⟩ := trodAll_cons hA
  obtain ⟨rfl, rfl, rfl⟩ := trodAll_nil r0
  obtain rfl : args = #[v0] := by cases args; simp_all
  obtain ⟨rfl, rfl⟩ := trodVars_none hV
  have k0 := h0
  have lt0 : ∀ x ∈ p0, x.block < W.heap.size := by obtain ⟨m, hm⟩ := k0; exact DataW.trod_lt m _ _ _ hm
  obtain ⟨a0, rfl, rfl, rfl, w0⟩ := open_int Tryd.underlying2 (hval 0 2 v0 rfl rfl) h0
  clear hA0 hval0
  refine (walk a0 W w0 (ready_of hL)).mono fun e W' ⟨he, bel⟩ => ?_
  subst he
  exact ⟨_, rfl, _, _, _, [], _, [], hW', trodAll_mk1 (shut_bool Tryd.underlying4 _), (trodAll_cons_mk (Below.trod laidOut (by kernel_rfl) (of_decide_eq_true (by kernel_rfl)) k0 bel lt0) trodAll_mk0), rfl, bel.frame _, fun h => by cases h⟩

theorem over : Rows.civilNextRow.holds Tryd.pinned (OpenSpec.ofChange Rows.civilNextSpec) :=
  OpenClaim.holds_of_wide 7 Tryd.f7 rfl rfl rfl rfl rfl rfl rfl ⟨rfl, rfl, rfl, rfl, rfl⟩ rfl rfl rfl rfl rfl (by kernel_rfl) Tryd.func7 (by kernel_rfl)
    (of_decide_eq_true (by kernel_rfl)) (by unfold Func.isWrapper; first | (rw [if_pos (by decide +kernel)]; kernel_rfl) | (rw [if_neg (by decide +kernel)]; exact ⟨rfl, rfl⟩))
    (fun os started H enc _ => lifted os started H enc)
theorem carded : Rows.CivilNextCardSaid :=
  Claim7.holds_tied_plain_at .later [] [.data, .data, .data] true (true, "7af20c8ded581e57e2cc45ba6f6943f52ac148cc54ff3c745e407801333bdc18") true
    over (fun _ h => by cases h) (by kernel_rfl) (fun _ h => by cases h) civilNext_row_tie rfl ⟨rfl, rfl⟩ (by kernel_rfl) rfl
    (fun f fn hf hfn => by
      obtain rfl : f = 7 := Option.some.inj ((show Tryd.prog.funcNamed "hourglass/hourglasslaw4.CivilNext" = some 7 by kernel_rfl).symm.trans hf) |>.symm
      obtain rfl : fn = Tryd.f7 := (Option.some.inj (Tryd.func7.symm.trans hfn)).symm
      exact ⟨by kernel_rfl, fun j t ht => by
        rw [Tryd.params7] at ht
        have hm : t ∈ [2] := by simpa using Array.mem_of_getElem? ht
        have hall : ([2].all fun u => !Tryd.prog.wantsStandIn u) = true := by kernel_rfl
        exact (show Tryd.prog.wantsStandIn t = false by simpa using List.all_eq_true.1 hall t hm)⟩)
    (by kernel_rfl)
#print axioms carded
end Go.Proofs.YtglommaegcaodaaDoor.civilNext
namespace Go.Proofs.YtglommaegcaodaaDoor
/-- CivilNext, as given. -/
theorem civilNext_holds : Rows.CivilNextCardSaid := civilNext.carded
end Go.Proofs.YtglommaegcaodaaDoor
