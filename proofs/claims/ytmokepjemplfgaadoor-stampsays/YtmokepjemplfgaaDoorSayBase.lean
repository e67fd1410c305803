/-
  StampSays: what its cases lean on.
-/
import Derived.Test.YtmokepjemplfgaaDoorStampAwake
import Derived.Test.YtmokepjemplfgaaDoorRefStampT
import Derived.Deep.RegionHeld3
namespace Go.Proofs.YtmokepjemplfgaaDoor
open Go.RowKit
set_option linter.unusedVariables false

theorem StAt.put {u : World} {b g : Nat} {t n : Int} (h : StAt u b t n) (hne : b ≠ g) (x y : Value) : StAt ((u.setCell ⟨g, 0, none⟩ x).setCell ⟨g, 1, none⟩ y) b t n :=
  ⟨(World.cell?_setCell_other _ _ _ _ (by intro e; injection e with e1 _; exact hne e1.symm)).trans ((World.cell?_setCell_other _ _ _ _ (by intro e; injection e with e1 _; exact hne e1.symm)).trans h.c0), (World.cell?_setCell_other _ _ _ _ (by intro e; injection e with e1 _; exact hne e1.symm)).trans ((World.cell?_setCell_other _ _ _ _ (by intro e; injection e with e1 _; exact hne e1.symm)).trans h.c1)⟩
theorem StAt.own {u : World} {g : Nat} {t n x y : Int} (h : StAt u g t n) : StAt ((u.setCell ⟨g, 0, none⟩ (.int .i64 x)).setCell ⟨g, 1, none⟩ (.int .u8 y)) g x y :=
  ⟨(set_two h.c0 h.c1).2 _ _, (set_two h.c0 h.c1).1 _ _⟩
/-- What the statement has laid ahead of its last row. -/
structure Laid6 (w u : World) (bu bw bn bt : Nat) (a0 b0 a1 b1 ut un nt nn tt tn : Int) : Prop where
  two : Two w u a0 b0 a1 b1
  pu : StAt u bu ut un
  pw : StAt u bw ut un
  pn : StAt u bn nt nn
  pt : StAt u bt tt tn
theorem Laid6.step {w u u' : World} {bu bw bn bt : Nat} {a0 b0 a1 b1 ut un nt nn tt tn : Int} (h : Laid6 w u bu bw bn bt a0 b0 a1 b1 ut un nt nn tt tn) (hb : Below u.heap.size u u') : Laid6 w u' bu bw bn bt a0 b0 a1 b1 ut un nt nn tt tn :=
  ⟨h.two.step hb, h.pu.step hb (Nat.le_refl _), h.pw.step hb (Nat.le_refl _), h.pn.step hb (Nat.le_refl _), h.pt.step hb (Nat.le_refl _)⟩
/-- The block of what is wanted lies behind all that was there. -/
structure Behind (w : World) (bu bw bn bt : Nat) : Prop where
  la : w.heap.size + 1 < bt
  lu : bu < bt
  lw : bw < bt
  ln : bn < bt
theorem Laid6.store {w u : World} {bu bw bn bt : Nat} {a0 b0 a1 b1 ut un nt nn tt tn : Int} (h : Laid6 w u bu bw bn bt a0 b0 a1 b1 ut un nt nn tt tn) (hl : Behind w bu bw bn bt) (x y : Int) : Laid6 w ((u.setCell ⟨bt, 0, none⟩ (.int .i64 x)).setCell ⟨bt, 1, none⟩ (.int .u8 y)) bu bw bn bt a0 b0 a1 b1 ut un nt nn x y := by
  obtain ⟨l1, l2, l3, l4⟩ := hl
  exact ⟨⟨h.two.a.put (by omega) _ _, h.two.b.put (by omega) _ _, (h.two.below.setCell (by show w.heap.size ≤ bt; omega) _).setCell (by show w.heap.size ≤ bt; omega) _⟩, h.pu.put (by omega) _ _, h.pw.put (by omega) _ _, h.pn.put (by omega) _ _, h.pt.own⟩
/-- The twelve cells. -/
def Dozen (w u : World) (bu bw bn bt : Nat) (a0 b0 a1 b1 ut un nt nn tt tn : Int) : Prop := u.cell? ⟨w.heap.size, 0, none⟩ = some (.int .i64 a0) ∧ u.cell? ⟨w.heap.size, 1, none⟩ = some (.int .u8 b0) ∧ u.cell? ⟨w.heap.size + 1, 0, none⟩ = some (.int .i64 a1) ∧ u.cell? ⟨w.heap.size + 1, 1, none⟩ = some (.int .u8 b1) ∧ u.cell? ⟨bu, 0, none⟩ = some (.int .i64 ut) ∧ u.cell? ⟨bu, 1, none⟩ = some (.int .u8 un) ∧ u.cell? ⟨bw, 0, none⟩ = some (.int .i64 ut) ∧ u.cell? ⟨bw, 1, none⟩ = some (.int .u8 un) ∧ u.cell? ⟨bn, 0, none⟩ = some (.int .i64 nt) ∧ u.cell? ⟨bn, 1, none⟩ = some (.int .u8 nn) ∧ u.cell? ⟨bt, 0, none⟩ = some (.int .i64 tt) ∧ u.cell? ⟨bt, 1, none⟩ = some (.int .u8 tn)
theorem Laid6.dozen {w u : World} {bu bw bn bt : Nat} {a0 b0 a1 b1 ut un nt nn tt tn : Int} (h : Laid6 w u bu bw bn bt a0 b0 a1 b1 ut un nt nn tt tn) : Dozen w u bu bw bn bt a0 b0 a1 b1 ut un nt nn tt tn :=
  ⟨h.two.a.c0, h.two.a.c1, h.two.b.c0, h.two.b.c1, h.pu.c0, h.pu.c1, h.pw.c0, h.pw.c1, h.pn.c0, h.pn.c1, h.pt.c0, h.pt.c1⟩
def opA (p : String) : Oper := { dst := some 71, op := Op.move (Operand.tmp 8), type := 26, pos := p, after := #[{ on := 11, ground := Ground.guard }], guard := some (11, false) }
def opB (p : String) : Oper := { dst := some 72, op := Op.binOp BinOp.eql 26 (Operand.tmp 71) (Operand.const (Value.int IntKind.i64 1)) 26, type := 4, pos := p, after := #[{ on := 12, ground := Ground.data }, { on := 11, ground := Ground.guard }], guard := some (11, false) }
def opC (p : String) : Oper := { dst := some 89, op := Op.move (Operand.tmp 12), type := 26, pos := p, after := #[{ on := 29, ground := Ground.guard }], guard := some (29, false) }
def opD (p : String) : Oper := { dst := some 90, op := Op.binOp BinOp.eql 26 (Operand.tmp 89) (Operand.const (Value.int IntKind.i64 1)) 26, type := 4, pos := p, after := #[{ on := 30, ground := Ground.data }, { on := 29, ground := Ground.guard }], guard := some (29, false) }
end Go.Proofs.YtmokepjemplfgaaDoor
