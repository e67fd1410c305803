/-
  StampOrder: one of its cases.
-/
import Derived.Test.YtmokepjemplfgaaDoorOrdBase
namespace Go.Proofs.YtmokepjemplfgaaDoor
open Go.RowKit
set_option linter.unusedVariables false

set_option maxRecDepth 100000 in
set_option maxHeartbeats 40000000 in
theorem ord_eqyg (a0 b0 a2 b2 : Int) (w : World) (hR : Ready w) (h2 : ltS a2 b2 a0 b0) :
    Calls Tryd.prog 6 #[.agg #[.int .i64 a0, .int .u8 b0], .agg #[.int .i64 a0, .int .u8 b0], .agg #[.int .i64 a2, .int .u8 b2]] w fun e w' => e = .returned (.bool true) ∧ Below w.heap.size w w' := by
  have AW : Hid (∀ u, Ready u → Calls Tryd.prog 8 #[] u fun e w' => e = .returned (.bool true) ∧ Below u.heap.size u w') := fun u r => awake_any u r
  have RR : Hid (Ready w) := hR
  have H0 : Hid (Tri w (((w.alloc (.cells #[.int .i64 a0, .int .u8 b0] 24)).alloc (.cells #[.int .i64 a0, .int .u8 b0] 24)).alloc (.cells #[.int .i64 a2, .int .u8 b2] 24)) a0 b0 a0 b0 a2 b2) := Tri.made w 24 a0 b0 a0 b0 a2 b2
  have CM : Hid (∀ (t n t' n' : Int) (u : World), Calls Tryd.prog 16 #[.agg #[.int .i64 t, .int .u8 n], .agg #[.int .i64 t', .int .u8 n']] u fun e w' => e = .returned (.int .i64 (cmpS t n t' n')) ∧ Below u.heap.size u w') := fun t n t' n' u => scmp_any t n t' n' u
  have MX : Hid (∀ (t n t' n' : Int) (u : World), Calls Tryd.prog 18 #[.agg #[.int .i64 t, .int .u8 n], .agg #[.int .i64 t', .int .u8 n']] u fun e w' => e = .returned (.agg #[.int .i64 (mxS t n t' n').1, .int .u8 (mxS t n t' n').2]) ∧ Below u.heap.size u w') := fun t n t' n' u => smax_any t n t' n' u
  have hw1 : IntKind.i64.wrap 1 = 1 := by rw [IntKind.wrap_i64]; omega
  have hwm : IntKind.i64.wrap (-1) = -1 := by rw [IntKind.wrap_i64]; omega
  have hw0 : IntKind.i64.wrap 0 = 0 := by rw [IntKind.wrap_i64]; omega
  have e0 : cmpS a0 b0 a0 b0 = 0 := cmp_eq a0 b0
  have m1 : (mxS a0 b0 a0 b0).1 = a0 ∧ (mxS a0 b0 a0 b0).2 = b0 := mx_ge (by unfold ltS; omega)
  have hy : cmpS a0 b0 a2 b2 = 1 := cmp_gt h2
  have m3 : (mxS a0 b0 a2 b2).1 = a0 ∧ (mxS a0 b0 a2 b2).2 = b0 := mx_ge (by unfold ltS at *; omega)
  clear hR h2
  go_enter Tryd.func6, Tryd.ntmps6
  go_wp2_with (go_at_call 8; refine (AW.out _ (RR.out.on H0.out.below)).mono ?_; rintro e v1 ⟨rfl, hb1⟩; have H1 : Hid (Tri w v1 a0 b0 a0 b0 a2 b2) := H0.out.step hb1; clear hb1)
  have KS : Hid (∀ u, Below v1.heap.size v1 u → Six w u a0 b0 a0 b0 a2 b2) := fun u hb => (H1.out.step hb).six
  have QC : Hid (∀ (t n t' n' : Int) (u : World), Below v1.heap.size v1 u → Calls Tryd.prog 16 #[.agg #[.int .i64 t, .int .u8 n], .agg #[.int .i64 t', .int .u8 n']] u fun e u' => e = .returned (.int .i64 (cmpS t n t' n')) ∧ Below v1.heap.size v1 u') := fun t n t' n' u hb => (CM.out t n t' n' u).mono (by rintro e u' ⟨rfl, h'⟩; exact ⟨rfl, hb.trans (h'.mono hb.size)⟩)
  have QM : Hid (∀ (t n t' n' : Int) (u : World), Below v1.heap.size v1 u → Calls Tryd.prog 18 #[.agg #[.int .i64 t, .int .u8 n], .agg #[.int .i64 t', .int .u8 n']] u fun e u' => e = .returned (.agg #[.int .i64 (mxS t n t' n').1, .int .u8 (mxS t n t' n').2]) ∧ Below v1.heap.size v1 u') := fun t n t' n' u hb => (MX.out t n t' n' u).mono (by rintro e u' ⟨rfl, h'⟩; exact ⟨rfl, hb.trans (h'.mono hb.size)⟩)
  go_region_held3 (fun u => u.cell? ⟨w.heap.size, 0, none⟩ = some (.int .i64 a0) ∧ u.cell? ⟨w.heap.size, 1, none⟩ = some (.int .u8 b0) ∧ u.cell? ⟨w.heap.size + 1, 0, none⟩ = some (.int .i64 a0) ∧ u.cell? ⟨w.heap.size + 1, 1, none⟩ = some (.int .u8 b0) ∧ u.cell? ⟨w.heap.size + 2, 0, none⟩ = some (.int .i64 a2) ∧ u.cell? ⟨w.heap.size + 2, 1, none⟩ = some (.int .u8 b2)) (first | exact KS.out _ (by assumption) | exact KS.out _ (Below.refl _ _).drew) (first | (go_at_call 16; refine (QC.out _ _ _ _ _ (by first | assumption | exact (Below.refl _ _).drew)).mono ?_; rintro e w2 ⟨rfl, hb2⟩))
  have Xb2 : Hid (Below v1.heap.size v1 w2) := hb2
  go_wp2
  have hopG : ∀ p, opG p = { dst := some 43, op := Op.move (Operand.tmp 9), type := 3, pos := p, after := #[{ on := 21, ground := Ground.guard }], guard := some (21, false) } := fun _ => rfl
  have hopH : ∀ p, opH p = { dst := some 44, op := Op.binOp BinOp.leq 3 (Operand.tmp 43) (Operand.const (Value.int IntKind.i64 0)) 3, type := 4, pos := p, after := #[{ on := 22, ground := Ground.data }, { on := 21, ground := Ground.guard }], guard := some (21, false) } := fun _ => rfl
  rw [← hopG, ← hopH]
  go_region_held3 (fun u => u.cell? ⟨w.heap.size, 0, none⟩ = some (.int .i64 a0) ∧ u.cell? ⟨w.heap.size, 1, none⟩ = some (.int .u8 b0) ∧ u.cell? ⟨w.heap.size + 1, 0, none⟩ = some (.int .i64 a0) ∧ u.cell? ⟨w.heap.size + 1, 1, none⟩ = some (.int .u8 b0) ∧ u.cell? ⟨w.heap.size + 2, 0, none⟩ = some (.int .i64 a2) ∧ u.cell? ⟨w.heap.size + 2, 1, none⟩ = some (.int .u8 b2)) (first | exact KS.out _ (by assumption) | exact KS.out _ Xb2.out.drew) (first | (go_at_call 16; refine (QC.out _ _ _ _ _ (by first | assumption | exact Xb2.out.drew)).mono ?_; rintro e w3 ⟨rfl, hb3⟩) | (go_at_call 18; refine (QM.out _ _ _ _ _ (by first | assumption | exact Xb2.out.drew)).mono ?_; rintro e w3 ⟨rfl, hb3⟩))
  go_wp2
  go_ret
  exact ⟨rfl, H1.out.below.trans (hb3.mono H1.out.below.size)⟩
end Go.Proofs.YtmokepjemplfgaaDoor
