/-
  Layer 4's own first question (awake): it answers true, and turns nothing that was there.
-/
import Derived.Test.YtglommaegcaodaaDoorCivilC
import Derived.Test.YtglommaegcaodaaDoorCivilW
namespace Go.Proofs.YtglommaegcaodaaDoor
open Go.RowKit
set_option linter.unusedVariables false

theorem lt_of_cell' {w : World} {x : Addr} {v : Value} (h : w.cell? x = some v) : x.block < w.heap.size := by
  apply Classical.byContradiction
  intro hn
  have : w.heap[x.block]? = none := by simp; omega
  simp [World.cell?, this] at h
theorem cell_past {w : World} {x : Addr} {v : Value} (h : w.cell? x = some v) : ∀ o, (w.alloc o).cell? x = some v := fun o => by rw [World.cell?_alloc_lt _ _ _ (lt_of_cell' h)]; exact h
/-- A date that the call has boxed, still there. -/
structure Held (w wk : World) (y m d : Int) : Prop where
  below : Below w.heap.size w wk
  date : DateAt wk w.heap.size y m d
  lt : w.heap.size < wk.heap.size
theorem Held.made (w : World) (t : TypeId) (y m d : Int) : Held w (w.alloc (Obj.cells #[Value.int IntKind.i64 y, Value.int IntKind.i64 m, Value.int IntKind.i64 d] t)) y m d := ⟨(Below.refl _ _).alloc (Nat.le_refl _) _, DateAt.made w t y m d, by simp⟩
theorem Held.step {w wk w' : World} {y m d : Int} (h : Held w wk y m d) (hb : Below wk.heap.size wk w') : Held w w' y m d := ⟨h.below.trans (hb.mono h.below.size), h.date.below hb h.lt, Nat.lt_of_lt_of_le h.lt hb.size⟩
theorem Held.past {w wk : World} {y m d : Int} (h : Held w wk y m d) (o : Obj) : Held w (wk.alloc o) y m d := h.step ((Below.refl _ _).alloc (Nat.le_refl _) o)
theorem day_0 {y m d : Int} (h : Gd y m d) (h0 : dayN y m d = 0) : y = 1970 ∧ m = 1 ∧ d = 1 := day_inj h (by decide : Gd 1970 1 1) (by rw [h0]; decide)
theorem awake_any (w : World) (hR : Ready w) : Calls Tryd.prog 9 #[] w fun e w' => e = .returned (.bool true) ∧ Below w.heap.size w w' := by
  have C1 : Hid (∀ w, Calls Tryd.prog 10 #[.agg #[.int .i64 2000, .int .i64 3, .int .i64 1]] w fun e w' => e = .returned (.tuple #[.int .i64 11017, .int .i64 0]) ∧ Below w.heap.size w w') := fun w => days_good 2000 3 1 w (by decide)
  have C2 : Hid (∀ w, Calls Tryd.prog 11 #[.int .i64 0] w fun e w' => e = .returned (.tuple #[.agg #[.int .i64 1970, .int .i64 1, .int .i64 1], .int .i64 0]) ∧ Below w.heap.size w w') := fun w =>
    (of_in 0 w (by decide) (by decide)).mono (by rintro e w' ⟨y, m, d, rfl, hg, h0, hb⟩; obtain ⟨rfl, rfl, rfl⟩ := day_0 hg h0; exact ⟨rfl, hb⟩)
  have C3 : Hid (∀ w, Calls Tryd.prog 15 #[.int .i64 0] w fun e w' => e = .returned (.int .i64 3) ∧ Below w.heap.size w w') := fun w => weekday_any 0 w (by decide) (by decide)
  have C4 : Hid (∀ w, Ready w → Calls Tryd.prog 16 #[.agg #[.int .i64 1970, .int .i64 1, .int .i64 1]] w fun e w' => e = .returned (.string ⟨#[49, 57, 55, 48, 45, 48, 49, 45, 48, 49]⟩) ∧ Below w.heap.size w w') := fun w r => by
    have h := text_any 1970 1 1 w r (by decide) (by decide) (by decide) (by decide) (by decide) (by decide)
    rw [if_pos (by decide)] at h
    exact h
  have RR : Hid (Ready w) := hR
  clear hR
  go_enter Tryd.func9, Tryd.ntmps9
  go_wp2_with (first | (go_at_call 10; refine (C1.out _).mono ?_; rintro e w1 ⟨rfl, hb1⟩; have HB1 : Hid (Below w.heap.size w w1) := hb1; clear hb1) | (go_at_call 11; refine (C2.out _).mono ?_; rintro e w2 ⟨rfl, hb2⟩; have HB2 : Hid (Below w.heap.size w w2) := HB1.out.trans (hb2.mono HB1.out.size); clear hb2) | (go_at_call 15; refine (C3.out _).mono ?_; rintro e w3 ⟨rfl, hb3⟩; have HB3 : Hid (Below w.heap.size w w3) := (HB2.out.alloc HB2.out.size _).trans (hb3.mono (by simp; exact Nat.le_trans HB2.out.size (Nat.le_succ _))); have HD := (DateAt.made w2 27 1970 1 1).below hb3 (by simp); have hd0 := HD.c0; have hd1 := HD.c1; have hd2 := HD.c2; clear hb3 HD) | (go_at_call 16; refine (C4.out _ (RR.out.on HB3.out)).mono ?_; rintro e w4 ⟨rfl, hb4⟩; have HB4 : Hid (Below w.heap.size w w4) := HB3.out.trans (hb4.mono HB3.out.size); clear hb4))
  go_ret
  exact ⟨rfl, HB4.out⟩
end Go.Proofs.YtglommaegcaodaaDoor
