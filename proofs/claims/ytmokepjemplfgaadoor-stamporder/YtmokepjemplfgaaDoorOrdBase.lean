/-
  StampOrder: what its cases lean on.
-/
import Derived.Test.YtmokepjemplfgaaDoorStampAwake
import Derived.Deep.RegionHeld3
namespace Go.Proofs.YtmokepjemplfgaaDoor
open Go.RowKit
set_option linter.unusedVariables false

/-- Three stamps that came in. -/
structure Tri (w u : World) (t n t' n' t'' n'' : Int) : Prop where
  a : StAt u w.heap.size t n
  b : StAt u (w.heap.size + 1) t' n'
  c : StAt u (w.heap.size + 2) t'' n''
  below : Below w.heap.size w u
theorem Tri.made (w : World) (T : TypeId) (t n t' n' t'' n'' : Int) : Tri w (((w.alloc (.cells #[.int .i64 t, .int .u8 n] T)).alloc (.cells #[.int .i64 t', .int .u8 n'] T)).alloc (.cells #[.int .i64 t'', .int .u8 n''] T)) t n t' n' t'' n'' :=
  ⟨((StAt.made w T t n _ rfl).past _).past _, (StAt.made _ T t' n' _ (by simp)).past _, StAt.made _ T t'' n'' _ (by simp), (((Below.refl _ _).alloc (Nat.le_refl _) _).alloc (by simp) _).alloc (by simp; omega) _⟩
theorem Tri.step {w u u' : World} {t n t' n' t'' n'' : Int} (h : Tri w u t n t' n' t'' n'') (hb : Below u.heap.size u u') : Tri w u' t n t' n' t'' n'' :=
  ⟨h.a.step hb (Nat.le_refl _), h.b.step hb (Nat.le_refl _), h.c.step hb (Nat.le_refl _), h.below.trans (hb.mono h.below.size)⟩
/-- The six cells of three stamps. -/
def Six (w u : World) (t n t' n' t'' n'' : Int) : Prop := u.cell? ⟨w.heap.size, 0, none⟩ = some (.int .i64 t) ∧ u.cell? ⟨w.heap.size, 1, none⟩ = some (.int .u8 n) ∧ u.cell? ⟨w.heap.size + 1, 0, none⟩ = some (.int .i64 t') ∧ u.cell? ⟨w.heap.size + 1, 1, none⟩ = some (.int .u8 n') ∧ u.cell? ⟨w.heap.size + 2, 0, none⟩ = some (.int .i64 t'') ∧ u.cell? ⟨w.heap.size + 2, 1, none⟩ = some (.int .u8 n'')
theorem Tri.six {w u : World} {t n t' n' t'' n'' : Int} (h : Tri w u t n t' n' t'' n'') : Six w u t n t' n' t'' n'' := ⟨h.a.c0, h.a.c1, h.b.c0, h.b.c1, h.c.c0, h.c.c1⟩
theorem mx_lt {t n t' n' : Int} (h : ltS t n t' n') : (mxS t n t' n').1 = t' ∧ (mxS t n t' n').2 = n' := by unfold mxS; rw [if_pos h]; exact ⟨rfl, rfl⟩
theorem mx_ge {t n t' n' : Int} (h : ¬ ltS t n t' n') : (mxS t n t' n').1 = t ∧ (mxS t n t' n').2 = n := by unfold mxS; rw [if_neg h]; exact ⟨rfl, rfl⟩
/-! Operations of the statement's last row that are passed over where their guard is not met. -/
def opE (p : String) : Oper := { dst := some 39, op := Op.move (Operand.tmp 8), type := 3, pos := p, after := #[{ on := 17, ground := Ground.guard }], guard := some (17, false) }
def opF (p : String) : Oper := { dst := some 40, op := Op.binOp BinOp.gtr 3 (Operand.tmp 39) (Operand.const (Value.int IntKind.i64 0)) 3, type := 4, pos := p, after := #[{ on := 18, ground := Ground.data }, { on := 17, ground := Ground.guard }], guard := some (17, false) }
def opG (p : String) : Oper := { dst := some 43, op := Op.move (Operand.tmp 9), type := 3, pos := p, after := #[{ on := 21, ground := Ground.guard }], guard := some (21, false) }
def opH (p : String) : Oper := { dst := some 44, op := Op.binOp BinOp.leq 3 (Operand.tmp 43) (Operand.const (Value.int IntKind.i64 0)) 3, type := 4, pos := p, after := #[{ on := 22, ground := Ground.data }, { on := 21, ground := Ground.guard }], guard := some (21, false) }
def opI (p : String) : Oper := { dst := some 51, op := Op.move (Operand.tmp 8), type := 3, pos := p, after := #[{ on := 29, ground := Ground.guard }], guard := some (29, false) }
def opJ (p : String) : Oper := { dst := some 52, op := Op.binOp BinOp.lss 3 (Operand.tmp 51) (Operand.const (Value.int IntKind.i64 0)) 3, type := 4, pos := p, after := #[{ on := 30, ground := Ground.data }, { on := 29, ground := Ground.guard }], guard := some (29, false) }
def opK (p : String) : Oper := { dst := some 55, op := Op.move (Operand.tmp 9), type := 3, pos := p, after := #[{ on := 33, ground := Ground.guard }], guard := some (33, false) }
def opL (p : String) : Oper := { dst := some 56, op := Op.binOp BinOp.geq 3 (Operand.tmp 55) (Operand.const (Value.int IntKind.i64 0)) 3, type := 4, pos := p, after := #[{ on := 34, ground := Ground.data }, { on := 33, ground := Ground.guard }], guard := some (33, false) }
end Go.Proofs.YtmokepjemplfgaaDoor
