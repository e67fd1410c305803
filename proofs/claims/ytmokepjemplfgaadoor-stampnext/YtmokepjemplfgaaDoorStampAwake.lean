/-
  Layer 6's own first question (awake): it answers true, and turns nothing that was there. Stamps that came in, each in a block of its own.
-/
import Derived.Test.YtmokepjemplfgaaDoorStampC
import Derived.Test.YtmokepjemplfgaaDoorRowBase
namespace Go.Proofs.YtmokepjemplfgaaDoor
open Go.RowKit
set_option linter.unusedVariables false

theorem tx_12 : tx6 1 2 = ⟨#[49, 46, 50]⟩ := by
  have e1 : (1 : Int) = ((1 : Nat) : Int) := rfl
  have e2 : (2 : Int) = ((2 : Nat) : Int) := rfl
  unfold tx6
  rw [e1, e2, Lib.itoa_nonneg, Lib.itoa_nonneg, dec_one (by omega), dec_one (by omega)]
  rfl
set_option maxHeartbeats 1000000 in
theorem awake_any (w : World) (hR : Ready w) : Calls Tryd.prog 8 #[] w fun e w' => e = .returned (.bool true) ∧ Below w.heap.size w w' := by
  have C1 : Hid (∀ u, Calls Tryd.prog 9 #[.agg #[.int .i64 1, .int .u8 2]] u fun e w' => e = .returned (.tuple #[.int .u64 258, .int .i64 0]) ∧ Below u.heap.size u w') := fun u => spack_any 1 2 u (by omega)
  have C2 : Hid (∀ u, Ready u → Calls Tryd.prog 12 #[.agg #[.int .i64 1, .int .u8 2]] u fun e w' => e = .returned (.string ⟨#[49, 46, 50]⟩) ∧ Below u.heap.size u w') := fun u r => by
    have c := stext_any 1 2 u r (by omega) (by omega) (by omega)
    rw [tx_12] at c
    exact c
  have C3 : Hid (∀ u, Calls Tryd.prog 16 #[.agg #[.int .i64 1, .int .u8 2], .agg #[.int .i64 1, .int .u8 3]] u fun e w' => e = .returned (.int .i64 (-1)) ∧ Below u.heap.size u w') := fun u => scmp_any 1 2 1 3 u
  have RR : Hid (Ready w) := hR
  clear hR
  go_enter Tryd.func8, Tryd.ntmps8
  go_wp2_with (first | (go_at_call 16; refine (C3.out _).mono ?_; rintro e v3 ⟨rfl, hb3⟩; have B3 : Hid (Below w.heap.size w v3) := B2.out.trans (hb3.mono B2.out.size); clear hb3) | (go_at_call 12; refine (C2.out _ (RR.out.on B1.out)).mono ?_; rintro e v2 ⟨rfl, hb2⟩; have B2 : Hid (Below w.heap.size w v2) := B1.out.trans (hb2.mono B1.out.size); clear hb2) | (go_at_call 9; refine (C1.out _).mono ?_; rintro e v1 ⟨rfl, hb1⟩; have B1 : Hid (Below w.heap.size w v1) := hb1; clear hb1))
  go_ret
  exact ⟨rfl, B3.out⟩
/-- A stamp in a block of its own. -/
structure StAt (u : World) (b : Nat) (t n : Int) : Prop where
  c0 : u.cell? ⟨b, 0, none⟩ = some (.int .i64 t)
  c1 : u.cell? ⟨b, 1, none⟩ = some (.int .u8 n)
theorem StAt.made (u : World) (T : TypeId) (t n : Int) (b : Nat) (hb : b = u.heap.size) : StAt (u.alloc (.cells #[.int .i64 t, .int .u8 n] T)) b t n := by
  subst hb
  exact ⟨by rw [World.cell?_alloc_new]; rfl, by rw [World.cell?_alloc_new]; rfl⟩
theorem StAt.step {u u' : World} {b : Nat} {t n : Int} (h : StAt u b t n) {C : Nat} (hb : Below C u u') (hC : u.heap.size ≤ C) : StAt u' b t n := by
  have hlt : b < u.heap.size := lt_of_cell h.c0
  exact ⟨by rw [hb.cell (p := ⟨b, 0, none⟩) (Nat.lt_of_lt_of_le hlt hC)]; exact h.c0, by rw [hb.cell (p := ⟨b, 1, none⟩) (Nat.lt_of_lt_of_le hlt hC)]; exact h.c1⟩
theorem StAt.past {u : World} {b : Nat} {t n : Int} (h : StAt u b t n) (o : Obj) : StAt (u.alloc o) b t n := h.step ((Below.refl _ _).alloc (Nat.le_refl _) o) (Nat.le_refl _)
/-- Two stamps that came in. -/
structure Two (w u : World) (t n t' n' : Int) : Prop where
  a : StAt u w.heap.size t n
  b : StAt u (w.heap.size + 1) t' n'
  below : Below w.heap.size w u
theorem Two.made (w : World) (T : TypeId) (t n t' n' : Int) : Two w ((w.alloc (.cells #[.int .i64 t, .int .u8 n] T)).alloc (.cells #[.int .i64 t', .int .u8 n'] T)) t n t' n' :=
  ⟨(StAt.made w T t n _ rfl).past _, StAt.made _ T t' n' _ (by simp), ((Below.refl _ _).alloc (Nat.le_refl _) _).alloc (by simp) _⟩
theorem Two.step {w u u' : World} {t n t' n' : Int} (h : Two w u t n t' n') (hb : Below u.heap.size u u') : Two w u' t n t' n' :=
  ⟨h.a.step hb (Nat.le_refl _), h.b.step hb (Nat.le_refl _), h.below.trans (hb.mono h.below.size)⟩
theorem Two.past {w u : World} {t n t' n' : Int} (h : Two w u t n t' n') (o : Obj) : Two w (u.alloc o) t n t' n' := h.step ((Below.refl _ _).alloc (Nat.le_refl _) o)
end Go.Proofs.YtmokepjemplfgaaDoor
