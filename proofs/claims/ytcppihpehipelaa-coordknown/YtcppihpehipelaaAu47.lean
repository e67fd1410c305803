/-
  A list of keys that came in.
  Lists of versions of one key, and of calls on a chain, that came in: where their cells lie.
  Lists of writes, and of layer 12's acts (each a number, a stamp, a list of writes), that came in.
  Lists of layer 13's acts (each a number and an entry) that came in.
  A record that came in, by value.
  Entries and records that came in, by value or in a list; lists of layer 16's acts (each a number, an entry, a stamp, a record).
-/
import Derived.Test.YtcppihpehipelaaAu48
import Derived.Test.YtcppihpehipelaaAu52
import Derived.ProofKit
import Derived.OpenShut
import Derived.ChangeSame
import Derived.Deep.Slices
import Derived.Test.YtcppihpehipelaaAu56
import Derived.Deep.Strs
import Derived.Below
import Derived.Test.YtcppihpehipelaaWrtMem
import Derived.Lib.SmallJoins
import Derived.Test.YtcppihpehipelaaAu45
import Derived.Test.YtcppihpehipelaaAu54
namespace Go.Proofs.Ytcppihpehipelaa
open Go.RowKit Go.ChangeShapes Go.WideShapes Go.ChangeAt Go.Deep
set_option linter.unusedVariables false

section
variable {H : Type} {enc : TypeId × Value → H} {w : World} {base : Nat} {held : Bool}
theorem IsArr.ky {zs : List Int} (h : IsArr .u8 16 zs) : Ky zs := ⟨h.1, fun z hz => bounds_u8 (h.2 z hz)⟩
end
end Go.Proofs.Ytcppihpehipelaa

namespace Go.Proofs.Ytcppihpehipelaa
open Go.RowKit Go.ChangeShapes Go.WideShapes Go.ChangeAt Go.Deep
set_option linter.unusedVariables false

/-- A version that came in: of no key, its numbers in their bounds. -/
structure VerIn (V : Ver) : Prop where
  key : V.k = zeroK
  t : -9223372036854775808 ≤ V.t ∧ V.t ≤ 9223372036854775807
  n : 0 ≤ V.n ∧ V.n ≤ 255
  val : ∀ z ∈ V.v, 0 ≤ z ∧ z ≤ 255
  few : V.v.length ≤ maxLen
theorem VerIn.ok {V : Ver} (h : VerIn V) (hl : V.v.length ≤ 1000000) : VerOk V := ⟨by rw [h.key]; exact zeroK_ky, h.t.1, h.t.2, h.n.1, h.n.2, h.val, hl⟩
structure CVerAt (w : World) (b o : Nat) (V : Ver) : Prop where
  c0 : w.cell? ⟨b, o, none⟩ = some (.int .i64 V.t)
  c1 : w.cell? ⟨b, o + 1, none⟩ = some (.int .u8 V.n)
  c2 : w.cell? ⟨b, o + 2, none⟩ = some (.string (strOfNums V.v))
  c3 : w.cell? ⟨b, o + 3, none⟩ = some (.bool V.g)
theorem CVerAt.lt {w : World} {b o : Nat} {V : Ver} (h : CVerAt w b o V) : b < w.heap.size := lt_of_cell h.c0
theorem CVerAt.past {w w' : World} {b o : Nat} {V : Ver} (h : CVerAt w b o V) (hb : Below w.heap.size w w') : CVerAt w' b o V :=
  ⟨(hb.cell (p := ⟨b, o, none⟩) h.lt).trans h.c0, (hb.cell (p := ⟨b, o + 1, none⟩) h.lt).trans h.c1, (hb.cell (p := ⟨b, o + 2, none⟩) h.lt).trans h.c2, (hb.cell (p := ⟨b, o + 3, none⟩) h.lt).trans h.c3⟩
section
variable {H : Type} {enc : TypeId × Value → H} {w : World} {base : Nat} {held : Bool}
end
end Go.Proofs.Ytcppihpehipelaa

namespace Go.Proofs.Ytcppihpehipelaa
open Go.RowKit Go.ChangeShapes Go.WideShapes Go.ChangeAt Go.Deep
set_option linter.unusedVariables false

/-- An act. -/
structure SAct where
  op : Int
  t : Int
  n : Int
  a : Option Addr
  cap : Nat
  l : List Wrt
/-- An act's four cells, and its writes. -/
structure SActAt (w : World) (b o : Nat) (x : SAct) : Prop where
  c0 : w.cell? ⟨b, o, none⟩ = some (.int .i64 x.op)
  c1 : w.cell? ⟨b, o + 1, none⟩ = some (.int .i64 x.t)
  c2 : w.cell? ⟨b, o + 2, none⟩ = some (.int .u8 x.n)
  c3 : w.cell? ⟨b, o + 3, none⟩ = some (.slice x.a x.l.length x.cap)
theorem SActAt.lt {w : World} {b o : Nat} {x : SAct} (h : SActAt w b o x) : b < w.heap.size := lt_of_cell h.c0
theorem SActAt.past {w w' : World} {b o : Nat} {x : SAct} (h : SActAt w b o x) (hb : Below w.heap.size w w') : SActAt w' b o x :=
  ⟨(hb.cell (p := ⟨b, o, none⟩) h.lt).trans h.c0, (hb.cell (p := ⟨b, o + 1, none⟩) h.lt).trans h.c1, (hb.cell (p := ⟨b, o + 2, none⟩) h.lt).trans h.c2, (hb.cell (p := ⟨b, o + 3, none⟩) h.lt).trans h.c3⟩
/-- A list of writes that came in. -/
structure WrtsOf (w : World) (a : Option Addr) (cap : Nat) (l : List Wrt) : Prop where
  at_ : WrtsAt w a l
  room : l.length ≤ cap
  few : l.length ≤ 9223372036854775807
structure SActOk (w : World) (x : SAct) : Prop where
  wr : WrtsOf w x.a x.cap x.l
  op : -9223372036854775808 ≤ x.op ∧ x.op ≤ 9223372036854775807
  t : -9223372036854775808 ≤ x.t ∧ x.t ≤ 9223372036854775807
  n : 0 ≤ x.n ∧ x.n ≤ 255
/-- A list of acts that came in. -/
structure SActsOf (w : World) (a : Option Addr) (cap : Nat) (xs : List SAct) : Prop where
  room : xs.length ≤ cap
  cells : xs = [] ∨ ∃ b off, a = some ⟨b, off, none⟩ ∧ ∀ i x, xs[i]? = some x → SActAt w b (off + i * 4) x
  oks : ∀ x ∈ xs, SActOk w x
theorem SActsOf.act {w : World} {a : Option Addr} {cap : Nat} {xs : List SAct} (h : SActsOf w a cap xs) {i : Nat} {x : SAct} (hx : xs[i]? = some x) : ∃ b off, a = some ⟨b, off, none⟩ ∧ SActAt w b (off + i * 4) x ∧ SActOk w x := by
  rcases h.cells with rfl | ⟨b, off, e, hc⟩
  · simp at hx
  · exact ⟨b, off, e, hc i x hx, h.oks x (List.mem_of_getElem? hx)⟩
section
variable {H : Type} {enc : TypeId × Value → H} {w : World} {base : Nat} {held : Bool}
end
end Go.Proofs.Ytcppihpehipelaa

namespace Go.Proofs.Ytcppihpehipelaa
open Go.RowKit Go.ChangeShapes Go.WideShapes Go.ChangeAt Go.Deep
set_option linter.unusedVariables false

/-- An act. -/
structure PAct where
  op : Int
  x : EntM
/-- An act's seven cells. -/
structure PActAt (w : World) (b o : Nat) (y : PAct) : Prop where
  c0 : w.cell? ⟨b, o, none⟩ = some (.int .i64 y.op)
  ent : EntAt w b (o + 1) y.x
theorem PActAt.lt {w : World} {b o : Nat} {y : PAct} (h : PActAt w b o y) : b < w.heap.size := lt_of_cell h.c0
theorem PActAt.past {w w' : World} {b o : Nat} {y : PAct} (h : PActAt w b o y) (hb : Below w.heap.size w w') : PActAt w' b o y :=
  ⟨(hb.cell (p := ⟨b, o, none⟩) h.lt).trans h.c0, h.ent.past hb⟩
structure PActOk (w : World) (y : PAct) : Prop where
  wr : WrtsOf w y.x.a y.x.c y.x.e.l
  op : -9223372036854775808 ≤ y.op ∧ y.op ≤ 9223372036854775807
  ok : EntOk y.x.e
/-- A list of acts that came in. -/
structure PActsOf (w : World) (a : Option Addr) (cap : Nat) (ys : List PAct) : Prop where
  room : ys.length ≤ cap
  cells : ys = [] ∨ ∃ b off, a = some ⟨b, off, none⟩ ∧ ∀ i y, ys[i]? = some y → PActAt w b (off + i * 7) y
  oks : ∀ y ∈ ys, PActOk w y
theorem PActsOf.act {w : World} {a : Option Addr} {cap : Nat} {ys : List PAct} (h : PActsOf w a cap ys) {i : Nat} {y : PAct} (hy : ys[i]? = some y) : ∃ b off, a = some ⟨b, off, none⟩ ∧ PActAt w b (off + i * 7) y ∧ PActOk w y := by
  rcases h.cells with rfl | ⟨b, off, e, hc⟩
  · simp at hy
  · exact ⟨b, off, e, hc i y hy, h.oks y (List.mem_of_getElem? hy)⟩
section
variable {H : Type} {enc : TypeId × Value → H} {w : World} {base : Nat} {held : Bool}
end
end Go.Proofs.Ytcppihpehipelaa

namespace Go.Proofs.Ytcppihpehipelaa
open Go.RowKit Go.ChangeShapes Go.WideShapes Go.ChangeAt Go.Deep
set_option linter.unusedVariables false

/-- Its lists, and what its numbers are, however long they are. -/
structure RcIn (w : World) (x : RcM) : Prop where
  wr : WrtsOf w x.a x.c x.r.l
  ps : IntsAt w x.pa x.r.ps
  proom : x.r.ps.length ≤ x.pc
  pfew : x.r.ps.length ≤ maxLen
  kd : -9223372036854775808 ≤ x.r.kd ∧ x.r.kd ≤ 9223372036854775807
  ok : RcdOk x.r
section
variable {H : Type} {enc : TypeId × Value → H} {w : World} {base : Nat} {held : Bool}
end
end Go.Proofs.Ytcppihpehipelaa

namespace Go.Proofs.Ytcppihpehipelaa
open Go.RowKit Go.ChangeShapes Go.WideShapes Go.ChangeAt Go.Deep
set_option linter.unusedVariables false

/-- An entry that came in. -/
structure EntIn (w : World) (x : EntM) : Prop where
  wr : WrtsOf w x.a x.c x.e.l
  ok : EntOk x.e
structure QAct where
  op : Int
  x : EntM
  t : Int
  n : Int
  r : RcM
def encQ (y : QAct) : List Value := .int .i64 y.op :: (encE y.x ++ (.int .i64 y.t :: .int .u8 y.n :: encR y.r))
structure QActOk (w : World) (y : QAct) : Prop where
  op : -9223372036854775808 ≤ y.op ∧ y.op ≤ 9223372036854775807
  ent : EntIn w y.x
  t : -9223372036854775808 ≤ y.t ∧ y.t ≤ 9223372036854775807
  n : 0 ≤ y.n ∧ y.n ≤ 255
  rcd : RcIn w y.r
structure QActAt (w : World) (b o : Nat) (y : QAct) : Prop where
  lies : Lies w (some ⟨b, o, none⟩) (encQ y)
theorem QActAt.past {w w' : World} {b o : Nat} {y : QAct} (h : QActAt w b o y) (hb : Below w.heap.size w w') : QActAt w' b o y := ⟨h.lies.past hb⟩
/-- A list of acts that came in. -/
structure QActsOf (w : World) (a : Option Addr) (cap : Nat) (ys : List QAct) : Prop where
  room : ys.length ≤ cap
  cells : ys = [] ∨ ∃ b off, a = some ⟨b, off, none⟩ ∧ ∀ i y, ys[i]? = some y → QActAt w b (off + i * 18) y
  oks : ∀ y ∈ ys, QActOk w y
  nil : a = none → cap = 0
theorem QActsOf.act {w : World} {a : Option Addr} {cap : Nat} {ys : List QAct} (h : QActsOf w a cap ys) {i : Nat} {y : QAct} (hy : ys[i]? = some y) : ∃ b off, a = some ⟨b, off, none⟩ ∧ QActAt w b (off + i * 18) y ∧ QActOk w y := by
  rcases h.cells with rfl | ⟨b, off, e, hc⟩
  · simp at hy
  · exact ⟨b, off, e, hc i y hy, h.oks y (List.mem_of_getElem? hy)⟩
section
variable {H : Type} {enc : TypeId × Value → H} {w : World} {base : Nat} {held : Bool}
end
end Go.Proofs.Ytcppihpehipelaa

