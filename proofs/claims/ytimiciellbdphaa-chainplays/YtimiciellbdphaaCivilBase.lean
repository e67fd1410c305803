/-
  What layer 4's walks lean on besides: a date's cells, Go's own division, bytes of a text. No function of the program is named here.
-/
import Derived.Test.YtimiciellbdphaaCivilPlain
import Derived.Test.YtimiciellbdphaaCivilText
import Derived.WalkKit
import Derived.WalkSpells
import Derived.WalkLawsBesides
import Derived.Laws.BytesArg
import Derived.Below
import Derived.Deep.QuietTactic
import Derived.BigQuiet
import Derived.Handy
namespace Go.Proofs.Ytimiciellbdphaa
open Go.RowKit
set_option linter.unusedVariables false

theorem ret_i {k : IntKind} {a b : Int} (h : a = b) : Ending.returned (.int k a) = .returned (.int k b) := by rw [h]
theorem byte_at {zs : List Int} (h : ∀ z ∈ zs, 0 ≤ z ∧ z ≤ 255) (k : Nat) : 0 ≤ zs[k]?.getD 0 ∧ zs[k]?.getD 0 ≤ 255 := by
  by_cases hk : k < zs.length
  · have := h zs[k] (List.getElem_mem hk); simpa [hk] using this
  · have : zs[k]? = none := by simp; omega
    simp [this]
theorem below_dN {B : Nat} {a w : World} (h : Below B a w) (n : Nat) : Below B a (w.drewN n) := ⟨h.os, h.tape, h.output, h.size, h.block⟩
theorem tmod0 (y k : Int) : y.tmod k = 0 ↔ y % k = 0 :=
  ⟨fun h => Int.emod_eq_zero_of_dvd (Int.dvd_of_tmod_eq_zero h), fun h => Int.tmod_eq_zero_of_dvd (Int.dvd_of_emod_eq_zero h)⟩
theorem ret_bool {a b : Bool} (h : a = b) : Ending.returned (.bool a) = .returned (.bool b) := by rw [h]
theorem lp_t (y : Int) : lp y = (y.tmod 4 == 0 && (y.tmod 100 != 0 || y.tmod 400 == 0)) := by
  have e1 := tmod0 y 4
  have e2 := tmod0 y 100
  have e3 := tmod0 y 400
  rw [Bool.eq_iff_iff, lp_true]
  simp [e1, e2, e3]
/-- A date's cells, in a block of its own. -/
structure DateAt (w : World) (g : Nat) (y m d : Int) : Prop where
  c0 : w.cell? ⟨g, 0, none⟩ = some (.int .i64 y)
  c1 : w.cell? ⟨g, 1, none⟩ = some (.int .i64 m)
  c2 : w.cell? ⟨g, 2, none⟩ = some (.int .i64 d)
theorem DateAt.made (w : World) (t : TypeId) (y m d : Int) : DateAt (w.alloc (.cells #[.int .i64 y, .int .i64 m, .int .i64 d] t)) w.heap.size y m d :=
  ⟨by rw [World.cell?_alloc_new]; rfl, by rw [World.cell?_alloc_new]; rfl, by rw [World.cell?_alloc_new]; rfl⟩
theorem DateAt.below {w w' : World} {g B : Nat} {y m d : Int} (h : DateAt w g y m d) (hb : Below B w w') (hg : g < B) : DateAt w' g y m d :=
  ⟨by rw [hb.cell (p := ⟨g, 0, none⟩) hg]; exact h.c0, by rw [hb.cell (p := ⟨g, 1, none⟩) hg]; exact h.c1, by rw [hb.cell (p := ⟨g, 2, none⟩) hg]; exact h.c2⟩

theorem tm_pos {n k : Int} (h : 0 ≤ n) : n.tmod k = n % k := Int.tmod_eq_emod_of_nonneg h
theorem tm_neg {n k : Int} (h : n ≤ 0) : n.tmod k = -((-n) % k) := by
  have e := Int.neg_tmod (-n) k
  rw [Int.neg_neg] at e
  rw [e, Int.tmod_eq_emod_of_nonneg (by omega)]
theorem td_pos {n k : Int} (h : 0 ≤ n) : n.tdiv k = n / k := Int.tdiv_eq_ediv_of_nonneg h
theorem td_neg {n k : Int} (h : n ≤ 0) : n.tdiv k = -((-n) / k) := by
  have e := Int.neg_tdiv (-n) k
  rw [Int.neg_neg] at e
  rw [e, Int.tdiv_eq_ediv_of_nonneg (by omega)]
theorem tm_7 (n : Int) : -7 < n.tmod 7 ∧ n.tmod 7 < 7 := by
  rcases Int.le_total 0 n with h | h
  · rw [tm_pos h]; omega
  · rw [tm_neg h]; omega
theorem wd_t (n : Int) : (n.tmod 7 + 7 + 3).tmod 7 = wd n := by
  have hb := tm_7 n
  rw [tm_pos (by omega)]
  unfold wd
  rcases Int.le_total 0 n with h | h
  · rw [tm_pos h]; omega
  · rw [tm_neg h]; omega
/-- A day's year. -/
theorem year_of {n y : Int} (h1 : fy y ≤ n) (h2 : n < fy 10000) : y ≤ 9999 := by
  apply Classical.byContradiction
  intro hn
  have := fy_mono (y := 10000) (z := y) (by omega)
  omega
theorem year_from {n y : Int} (h1 : fy (-9999) ≤ n) (h2 : n < fy (y + 1)) : -9999 ≤ y := by
  apply Classical.byContradiction
  intro hn
  have := fy_mono (y := y + 1) (z := -9999) (by omega)
  omega
theorem month_of {y m n : Int} (h1 : 1 ≤ m) (h2 : m ≤ 12) (h3 : fy y + md y m + ml y m ≤ n) (h4 : n < fy (y + 1)) : m ≤ 11 := by
  apply Classical.byContradiction
  intro hn
  obtain rfl : m = 12 := by omega
  have := md_step (y := y) (m := 12) (by omega) (by omega)
  have e := md_end y
  have e2 := fy_step y
  have e3 : (12 : Int) + 1 = 13 := rfl
  rw [e3] at this
  omega
theorem nums_app (xs ys : List Int) : strOfNums xs ++ strOfNums ys = strOfNums (xs ++ ys) := by
  apply ByteArray.ext
  simp [strOfNums]
theorem nums_nil : strOfNums [] = ⟨#[]⟩ := rfl
theorem nums_at (xs : List Int) (hb : ∀ z ∈ xs, 0 ≤ z ∧ z ≤ 255) (k : Nat) (h : k < (strOfNums xs).size) : (((strOfNums xs)[k]'h).toNat : Int) = xs[k]?.getD 0 := by
  have hk : k < xs.length := by rw [strOfNums_size] at h; exact h
  have e : (strOfNums xs)[k]'h = UInt8.ofNat (xs[k]).toNat := by simp [strOfNums, ByteArray.getElem_eq_getElem_data]
  have hx := hb xs[k] (List.getElem_mem hk)
  rw [e]
  simp [hk]
  omega
theorem txt_neg (y m d : Int) (h : y < 0) : ⟨#[45]⟩ ++ strOfNums (pd 4 (ab y)) ++ ⟨#[45]⟩ ++ strOfNums (pd 2 m) ++ ⟨#[45]⟩ ++ strOfNums (pd 2 d) = strOfNums (txt y m d) := by
  show strOfNums [45] ++ strOfNums (pd 4 (ab y)) ++ strOfNums [45] ++ strOfNums (pd 2 m) ++ strOfNums [45] ++ strOfNums (pd 2 d) = _
  rw [nums_app, nums_app, nums_app, nums_app, nums_app]
  unfold txt body
  rw [if_pos h]
  simp
theorem txt_pos (y m d : Int) (h : ¬ y < 0) : strOfNums (pd 4 (ab y)) ++ ⟨#[45]⟩ ++ strOfNums (pd 2 m) ++ ⟨#[45]⟩ ++ strOfNums (pd 2 d) = strOfNums (txt y m d) := by
  show strOfNums (pd 4 (ab y)) ++ strOfNums [45] ++ strOfNums (pd 2 m) ++ strOfNums [45] ++ strOfNums (pd 2 d) = _
  rw [nums_app, nums_app, nums_app, nums_app]
  unfold txt body
  rw [if_neg h]
  simp
theorem nums_cut (xs : List Int) (i j : Nat) : (strOfNums xs).extract i j = strOfNums ((xs.drop i).take (j - i)) := by
  apply ByteArray.ext
  apply Array.ext'
  simp [strOfNums, List.extract_eq_take_drop, List.map_take, List.map_drop]
theorem str_inj {xs ys : List Int} (hx : ∀ z ∈ xs, 0 ≤ z ∧ z ≤ 255) (hy : ∀ z ∈ ys, 0 ≤ z ∧ z ≤ 255) (h : (strOfNums xs).toList = (strOfNums ys).toList) : xs = ys := by
  have e : ∀ zs : List Int, (strOfNums zs).toList = zs.map fun n => UInt8.ofNat n.toNat := fun zs => by rw [ByteArray.toList_eq]; exact strOfNums_data zs
  rw [e, e] at h
  have key : ∀ (xs ys : List Int), (∀ z ∈ xs, 0 ≤ z ∧ z ≤ 255) → (∀ z ∈ ys, 0 ≤ z ∧ z ≤ 255) → (xs.map fun n => UInt8.ofNat n.toNat) = (ys.map fun n => UInt8.ofNat n.toNat) → xs = ys := by
    intro xs
    induction xs with
    | nil => intro ys _ _ h; cases ys with
      | nil => rfl
      | cons y ys => simp at h
    | cons x xs ih =>
      intro ys hx hy h
      cases ys with
      | nil => simp at h
      | cons y ys =>
        simp only [List.map_cons, List.cons.injEq] at h
        have h1 := congrArg UInt8.toNat h.1
        have bx := hx x (by simp)
        have by' := hy y (by simp)
        simp at h1
        rw [ih ys (fun z hz => hx z (by simp [hz])) (fun z hz => hy z (by simp [hz])) h.2]
        congr 1
        omega
  exact key xs ys hx hy h

theorem set_same3 {w : World} {g : Nat} {a b c : Int} (h : DateAt w g a b c) : (∀ x, (w.setCell ⟨g, 0, none⟩ x).cell? ⟨g, 0, none⟩ = some x) ∧ (∀ x y, ((w.setCell ⟨g, 0, none⟩ x).setCell ⟨g, 1, none⟩ y).cell? ⟨g, 1, none⟩ = some y) ∧ (∀ x y z, (((w.setCell ⟨g, 0, none⟩ x).setCell ⟨g, 1, none⟩ y).setCell ⟨g, 2, none⟩ z).cell? ⟨g, 2, none⟩ = some z) := by
  refine ⟨fun x => World.cell?_setCell_same _ _ _ h.c0, fun x y => World.cell?_setCell_same _ _ _ ((World.cell?_setCell_other _ _ _ _ (by intro h'; injection h' with _ h2; omega)).trans h.c1), fun x y z => World.cell?_setCell_same _ _ _ (((World.cell?_setCell_other _ _ _ _ (by intro h'; injection h' with _ h2; omega)).trans (World.cell?_setCell_other _ _ _ _ (by intro h'; injection h' with _ h2; omega))).trans h.c2)⟩
structure TwoMade (w v : World) (Y M D : Int) : Prop where
  date : DateAt v (w.heap.size + 1) Y M D
  zero : DateAt v w.heap.size 0 0 0
  free : ∀ j, v.frozen? ⟨w.heap.size, j, none⟩ = false
  below : Below w.heap.size w v
  size : v.heap.size = w.heap.size + 2
theorem two_made (w : World) (t : TypeId) (Y M D : Int) : TwoMade w ((w.alloc (Obj.cells #[Value.int IntKind.i64 0, Value.int IntKind.i64 0, Value.int IntKind.i64 0] t)).alloc (Obj.cells #[Value.int IntKind.i64 Y, Value.int IntKind.i64 M, Value.int IntKind.i64 D] t)).drew Y M D := by
  obtain ⟨v1, h1⟩ : ∃ v1, v1 = w.alloc (Obj.cells #[Value.int IntKind.i64 0, Value.int IntKind.i64 0, Value.int IntKind.i64 0] t) := ⟨_, rfl⟩
  have hz := DateAt.made w t 0 0 0
  rw [← h1] at hz ⊢
  have hs1 : v1.heap.size = w.heap.size + 1 := by rw [h1]; simp
  have hb1 : Below w.heap.size w v1 := by rw [h1]; exact (Below.refl _ _).alloc (Nat.le_refl _) _
  have hb2 : Below v1.heap.size v1 (v1.alloc (Obj.cells #[Value.int IntKind.i64 Y, Value.int IntKind.i64 M, Value.int IntKind.i64 D] t)).drew := ((Below.refl _ _).alloc (Nat.le_refl _) _).drew
  have hd := (DateAt.made v1 t Y M D).below (B := v1.heap.size + 1) (Below.refl _ _).drew (by omega)
  rw [hs1] at hd
  refine ⟨hd, hz.below hb2 (by omega), fun j => ?_, hb1.trans (hb2.mono (by omega)), by show (v1.alloc _).heap.size = _; simp [hs1]⟩
  rw [hb2.frozen (p := ⟨w.heap.size, j, none⟩) (by show w.heap.size < _; omega), h1]
  have : (w.alloc (Obj.cells #[Value.int IntKind.i64 0, Value.int IntKind.i64 0, Value.int IntKind.i64 0] t)).heap[w.heap.size]? = some (.cells #[Value.int IntKind.i64 0, Value.int IntKind.i64 0, Value.int IntKind.i64 0] t (0, 0)) := by
    show (w.heap.push _)[w.heap.size]? = _
    simp
  unfold World.frozen?; rw [this]; simp
end Go.Proofs.Ytimiciellbdphaa
