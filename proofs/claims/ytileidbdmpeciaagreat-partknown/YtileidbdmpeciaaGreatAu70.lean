/-
  A landed part of the call's own: Play, Trim, Prepared.
  A list of keys that came in.
  Lists of writes, and of layer 12's acts (each a number, a stamp, a list of writes), that came in.
  Lists of layer 13's acts (each a number and an entry) that came in.
  A record that came in, by value.
  Entries and records that came in, by value or in a list; lists of layer 16's acts (each a number, an entry, a stamp, a record).
  An act of layer 16 in a variable of its own; acts whose writes are few.
  What PartKnown asks, reckoned.
-/
import Derived.Test.YtileidbdmpeciaaGreatPaL2
import Derived.Test.YtileidbdmpeciaaGreatPaC8
import Derived.Test.YtileidbdmpeciaaGreatAu83
import Derived.Test.YtileidbdmpeciaaGreatAu71
import Derived.ProofKit
import Derived.OpenShut
import Derived.ChangeSame
import Derived.Deep.Slices
import Derived.Test.YtileidbdmpeciaaGreatAu62
import Derived.Test.YtileidbdmpeciaaGreatAu64
import Derived.Lib.SmallJoins
import Derived.Test.YtileidbdmpeciaaGreatAu68
import Derived.Test.YtileidbdmpeciaaGreatAu79
import Derived.Test.YtileidbdmpeciaaGreatAu84
import Derived.Deep.DeepCutAuto
import Derived.Deep.CutBlock
namespace Go.Proofs.YtileidbdmpeciaaGreat
open Go.RowKit
set_option linter.unusedVariables false

theorem xaplay {w u : World} {p c : Nat} {P : PSt} (h : PaX w u p P c) (x : RcM) (he : RcW u x) (hc : c ≤ 1000000) :
    Calls Tryz.prog 18 #[.pointer (some ⟨p, 0, none⟩), rcv x] u fun e w' => e = .returned (.int .i64 (playP P x.r).1) ∧ PaX w w' p (playP P x.r).2 (c + 1) := by
  obtain ⟨s, t, m, M, XS, XT, h1, h2, h3, h4, h5⟩ := h
  refine (pplay_any x u h1 h2 (by omega) he).mono ?_
  rintro e w' ⟨rfl, hl⟩
  exact ⟨rfl, PaX.turn h4 h5 hl (h2.play _ ⟨he.ok.n0, he.ok.n1⟩ (wrts_ok he.wr)) (by have := olen_play P x.r; omega)⟩
theorem xaprepared {w u : World} {p c : Nat} {P : PSt} (h : PaX w u p P c) :
    Calls Tryz.prog 20 #[.pointer (some ⟨p, 0, none⟩)] u fun e w' => (∃ a cc, e = .returned (.slice a P.T.length cc)) ∧ Below u.heap.size u w' := by
  obtain ⟨s, tb, m, M, XS, XT, h1, h2, h3, h4, h5⟩ := h
  refine (pprepared_any u h1).mono ?_
  rintro e w' ⟨a, cc, rfl, ho⟩
  have e1 : M.length = P.T.length := by rw [← h1.is]; unfold ents; simp
  exact ⟨⟨a, cc, by rw [e1]⟩, ho.below⟩
end Go.Proofs.YtileidbdmpeciaaGreat

namespace Go.Proofs.YtileidbdmpeciaaGreat
open Go.RowKit Go.ChangeShapes Go.WideShapes Go.ChangeAt Go.Deep
set_option linter.unusedVariables false

section
variable {H : Type} {enc : TypeId × Value → H} {w : World} {base : Nat} {held : Bool}
theorem IsArr.ky {zs : List Int} (h : IsArr .u8 16 zs) : Ky zs := ⟨h.1, fun z hz => bounds_u8 (h.2 z hz)⟩
end
end Go.Proofs.YtileidbdmpeciaaGreat

namespace Go.Proofs.YtileidbdmpeciaaGreat
open Go.RowKit Go.ChangeShapes Go.WideShapes Go.ChangeAt Go.Deep
set_option linter.unusedVariables false

/-- An act. -/
structure SAct where
  op : Int
  t : Int
  n : Int
  a : Option Addr
  cap : Nat
  l : List Wrt
/-- An act's four cells, and its writes. -/
structure SActAt (w : World) (b o : Nat) (x : SAct) : Prop where
  c0 : w.cell? ⟨b, o, none⟩ = some (.int .i64 x.op)
  c1 : w.cell? ⟨b, o + 1, none⟩ = some (.int .i64 x.t)
  c2 : w.cell? ⟨b, o + 2, none⟩ = some (.int .u8 x.n)
  c3 : w.cell? ⟨b, o + 3, none⟩ = some (.slice x.a x.l.length x.cap)
theorem SActAt.lt {w : World} {b o : Nat} {x : SAct} (h : SActAt w b o x) : b < w.heap.size := lt_of_cell h.c0
theorem SActAt.past {w w' : World} {b o : Nat} {x : SAct} (h : SActAt w b o x) (hb : Below w.heap.size w w') : SActAt w' b o x :=
  ⟨(hb.cell (p := ⟨b, o, none⟩) h.lt).trans h.c0, (hb.cell (p := ⟨b, o + 1, none⟩) h.lt).trans h.c1, (hb.cell (p := ⟨b, o + 2, none⟩) h.lt).trans h.c2, (hb.cell (p := ⟨b, o + 3, none⟩) h.lt).trans h.c3⟩
/-- A list of writes that came in. -/
structure WrtsOf (w : World) (a : Option Addr) (cap : Nat) (l : List Wrt) : Prop where
  at_ : WrtsAt w a l
  room : l.length ≤ cap
  few : l.length ≤ 9223372036854775807
structure SActOk (w : World) (x : SAct) : Prop where
  wr : WrtsOf w x.a x.cap x.l
  op : -9223372036854775808 ≤ x.op ∧ x.op ≤ 9223372036854775807
  t : -9223372036854775808 ≤ x.t ∧ x.t ≤ 9223372036854775807
  n : 0 ≤ x.n ∧ x.n ≤ 255
/-- A list of acts that came in. -/
structure SActsOf (w : World) (a : Option Addr) (cap : Nat) (xs : List SAct) : Prop where
  room : xs.length ≤ cap
  cells : xs = [] ∨ ∃ b off, a = some ⟨b, off, none⟩ ∧ ∀ i x, xs[i]? = some x → SActAt w b (off + i * 4) x
  oks : ∀ x ∈ xs, SActOk w x
theorem SActsOf.act {w : World} {a : Option Addr} {cap : Nat} {xs : List SAct} (h : SActsOf w a cap xs) {i : Nat} {x : SAct} (hx : xs[i]? = some x) : ∃ b off, a = some ⟨b, off, none⟩ ∧ SActAt w b (off + i * 4) x ∧ SActOk w x := by
  rcases h.cells with rfl | ⟨b, off, e, hc⟩
  · simp at hx
  · exact ⟨b, off, e, hc i x hx, h.oks x (List.mem_of_getElem? hx)⟩
section
variable {H : Type} {enc : TypeId × Value → H} {w : World} {base : Nat} {held : Bool}
end
end Go.Proofs.YtileidbdmpeciaaGreat

namespace Go.Proofs.YtileidbdmpeciaaGreat
open Go.RowKit Go.ChangeShapes Go.WideShapes Go.ChangeAt Go.Deep
set_option linter.unusedVariables false

/-- An act. -/
structure PAct where
  op : Int
  x : EntM
/-- An act's seven cells. -/
structure PActAt (w : World) (b o : Nat) (y : PAct) : Prop where
  c0 : w.cell? ⟨b, o, none⟩ = some (.int .i64 y.op)
  ent : EntAt w b (o + 1) y.x
theorem PActAt.lt {w : World} {b o : Nat} {y : PAct} (h : PActAt w b o y) : b < w.heap.size := lt_of_cell h.c0
theorem PActAt.past {w w' : World} {b o : Nat} {y : PAct} (h : PActAt w b o y) (hb : Below w.heap.size w w') : PActAt w' b o y :=
  ⟨(hb.cell (p := ⟨b, o, none⟩) h.lt).trans h.c0, h.ent.past hb⟩
structure PActOk (w : World) (y : PAct) : Prop where
  wr : WrtsOf w y.x.a y.x.c y.x.e.l
  op : -9223372036854775808 ≤ y.op ∧ y.op ≤ 9223372036854775807
  ok : EntOk y.x.e
/-- A list of acts that came in. -/
structure PActsOf (w : World) (a : Option Addr) (cap : Nat) (ys : List PAct) : Prop where
  room : ys.length ≤ cap
  cells : ys = [] ∨ ∃ b off, a = some ⟨b, off, none⟩ ∧ ∀ i y, ys[i]? = some y → PActAt w b (off + i * 7) y
  oks : ∀ y ∈ ys, PActOk w y
theorem PActsOf.act {w : World} {a : Option Addr} {cap : Nat} {ys : List PAct} (h : PActsOf w a cap ys) {i : Nat} {y : PAct} (hy : ys[i]? = some y) : ∃ b off, a = some ⟨b, off, none⟩ ∧ PActAt w b (off + i * 7) y ∧ PActOk w y := by
  rcases h.cells with rfl | ⟨b, off, e, hc⟩
  · simp at hy
  · exact ⟨b, off, e, hc i y hy, h.oks y (List.mem_of_getElem? hy)⟩
section
variable {H : Type} {enc : TypeId × Value → H} {w : World} {base : Nat} {held : Bool}
end
end Go.Proofs.YtileidbdmpeciaaGreat

namespace Go.Proofs.YtileidbdmpeciaaGreat
open Go.RowKit Go.ChangeShapes Go.WideShapes Go.ChangeAt Go.Deep
set_option linter.unusedVariables false

/-- Its lists, and what its numbers are, however long they are. -/
structure RcIn (w : World) (x : RcM) : Prop where
  wr : WrtsOf w x.a x.c x.r.l
  ps : IntsAt w x.pa x.r.ps
  proom : x.r.ps.length ≤ x.pc
  pfew : x.r.ps.length ≤ maxLen
  kd : -9223372036854775808 ≤ x.r.kd ∧ x.r.kd ≤ 9223372036854775807
  ok : RcdOk x.r
theorem RcIn.rc {w : World} {x : RcM} (h : RcIn w x) (h1 : x.r.l.length ≤ 1000) (h2 : x.r.ps.length ≤ 1000) : RcW w x := ⟨h.wr.at_, h.wr.room, h1, h.ps, h.proom, h2, h.kd, h.ok⟩
section
variable {H : Type} {enc : TypeId × Value → H} {w : World} {base : Nat} {held : Bool}
end
end Go.Proofs.YtileidbdmpeciaaGreat

namespace Go.Proofs.YtileidbdmpeciaaGreat
open Go.RowKit Go.ChangeShapes Go.WideShapes Go.ChangeAt Go.Deep
set_option linter.unusedVariables false

/-- An entry that came in. -/
structure EntIn (w : World) (x : EntM) : Prop where
  wr : WrtsOf w x.a x.c x.e.l
  ok : EntOk x.e
structure QAct where
  op : Int
  x : EntM
  t : Int
  n : Int
  r : RcM
def encQ (y : QAct) : List Value := .int .i64 y.op :: (encE y.x ++ (.int .i64 y.t :: .int .u8 y.n :: encR y.r))
theorem encQ_len (y : QAct) : (encQ y).length = 18 := rfl
structure QActOk (w : World) (y : QAct) : Prop where
  op : -9223372036854775808 ≤ y.op ∧ y.op ≤ 9223372036854775807
  ent : EntIn w y.x
  t : -9223372036854775808 ≤ y.t ∧ y.t ≤ 9223372036854775807
  n : 0 ≤ y.n ∧ y.n ≤ 255
  rcd : RcIn w y.r
structure QActAt (w : World) (b o : Nat) (y : QAct) : Prop where
  lies : Lies w (some ⟨b, o, none⟩) (encQ y)
theorem QActAt.past {w w' : World} {b o : Nat} {y : QAct} (h : QActAt w b o y) (hb : Below w.heap.size w w') : QActAt w' b o y := ⟨h.lies.past hb⟩
/-- A list of acts that came in. -/
structure QActsOf (w : World) (a : Option Addr) (cap : Nat) (ys : List QAct) : Prop where
  room : ys.length ≤ cap
  cells : ys = [] ∨ ∃ b off, a = some ⟨b, off, none⟩ ∧ ∀ i y, ys[i]? = some y → QActAt w b (off + i * 18) y
  oks : ∀ y ∈ ys, QActOk w y
  nil : a = none → cap = 0
theorem QActsOf.act {w : World} {a : Option Addr} {cap : Nat} {ys : List QAct} (h : QActsOf w a cap ys) {i : Nat} {y : QAct} (hy : ys[i]? = some y) : ∃ b off, a = some ⟨b, off, none⟩ ∧ QActAt w b (off + i * 18) y ∧ QActOk w y := by
  rcases h.cells with rfl | ⟨b, off, e, hc⟩
  · simp at hy
  · exact ⟨b, off, e, hc i y hy, h.oks y (List.mem_of_getElem? hy)⟩
section
variable {H : Type} {enc : TypeId × Value → H} {w : World} {base : Nat} {held : Bool}
end
end Go.Proofs.YtileidbdmpeciaaGreat

namespace Go.Proofs.YtileidbdmpeciaaGreat
open Go.RowKit
set_option linter.unusedVariables false

theorem QActAt.op {w : World} {b o : Nat} {y : QAct} (h : QActAt w b o y) : w.cell? ⟨b, o, none⟩ = some (.int .i64 y.op) := h.lies.at 0 _ rfl
theorem QActAt.lt {w : World} {b o : Nat} {y : QAct} (h : QActAt w b o y) : b < w.heap.size := cell_lt h.op
theorem QActAt.ent {w : World} {b o : Nat} {y : QAct} (h : QActAt w b o y) : EntAt w b (o + 1) y.x := ⟨lies_of fun j v hj => by
  have hjl : j < 6 := by have := (List.getElem?_eq_some_iff.1 hj).1; rwa [encE_len] at this
  have h2 : (encQ y)[1 + j]? = some v := by
    unfold encQ
    rw [Nat.add_comm 1 j, List.getElem?_cons_succ, List.getElem?_append_left (by rw [encE_len]; exact hjl)]
    exact hj
  have := h.lies.at (1 + j) v h2
  rwa [← Nat.add_assoc] at this⟩
theorem QActAt.st {w : World} {b o : Nat} {y : QAct} (h : QActAt w b o y) : w.cell? ⟨b, o + 7, none⟩ = some (.int .i64 y.t) ∧ w.cell? ⟨b, o + 8, none⟩ = some (.int .u8 y.n) := ⟨h.lies.at 7 _ rfl, h.lies.at 8 _ rfl⟩
theorem QActAt.rcd {w : World} {b o : Nat} {y : QAct} (h : QActAt w b o y) : Lies w (some ⟨b, o + 9, none⟩) (encR y.r) := lies_of fun j v hj => by
  have h2 : (encQ y)[9 + j]? = some v := by
    unfold encQ
    rw [show 9 + j = (8 + j) + 1 by omega, List.getElem?_cons_succ, List.getElem?_append_right (by rw [encE_len]; omega), encE_len, show 8 + j - 6 = j + 1 + 1 by omega, List.getElem?_cons_succ, List.getElem?_cons_succ]
    exact hj
  have := h.lies.at (9 + j) v h2
  rwa [← Nat.add_assoc] at this
theorem QActAt.kept {u u' : World} {b o : Nat} {y : QAct} (h : QActAt u b o y) (hk : u'.heap[b]? = u.heap[b]?) : QActAt u' b o y := ⟨lies_of fun j v hj => by rw [cell_kept hk]; exact h.lies.at j v hj⟩
/-- An act in a box. -/
structure QMine (w : World) (b : Nat) (y : QAct) : Prop where
  at_ : QActAt w b 0 y
  free : ∀ i, i < 18 → w.frozen? ⟨b, 0 + i, none⟩ = false
theorem QMine.made (w : World) (T : TypeId) (y : QAct) : QMine (w.alloc (.cells (encQ y).toArray T)) w.heap.size y :=
  ⟨⟨lies_made w (encQ y).toArray T⟩, fun i hi => World.frozen?_alloc_new _ _ _ _⟩
theorem QMine.past {w w' : World} {b : Nat} {y : QAct} (h : QMine w b y) (hb : Below w.heap.size w w') : QMine w' b y :=
  ⟨h.at_.past hb, fun i hi => by rw [hb.frozen (p := ⟨b, 0 + i, none⟩) h.at_.lt]; exact h.free i hi⟩
theorem QMine.there {w : World} {b : Nat} {y : QAct} (h : QMine w b y) : w.there b 0 18 := fun j hj => by
  obtain ⟨u, hu⟩ : ∃ u, (encQ y)[j]? = some u := ⟨_, List.getElem?_eq_getElem (by rw [encQ_len]; exact hj)⟩
  exact ⟨by rw [h.at_.lies.at j u hu]; rfl, h.free j hj⟩
theorem QMine.store {w : World} {b : Nat} {y y' : QAct} (h : QMine w b y) : QMine (w.setCells b 0 (encQ y')) b y' := by
  have ht := h.there
  rw [← encQ_len y'] at ht
  exact ⟨⟨lies_of (World.rangeAt_setCells_same w b 0 (encQ y') ht)⟩, fun i hi => by rw [World.frozen?_setCells]; exact h.free i hi⟩
theorem EntIn.w {w u : World} {x : EntM} (h : EntIn w x) (hb : Below w.heap.size w u) (hl : longQ x.e.l = false) : EntW u x := by
  refine ⟨h.wr.at_.past hb, h.wr.room, ?_, h.ok⟩
  unfold longQ at hl
  have := (Bool.or_eq_false_iff.1 hl).1
  have := of_decide_eq_false this
  omega
theorem RcIn.w {w u : World} {x : RcM} (h : RcIn w x) (hb : Below w.heap.size w u) (hl : longQ x.r.l = false) (hp : x.r.ps.length ≤ 12) : RcW u x := by
  unfold longQ at hl
  have h1 := (Bool.or_eq_false_iff.1 hl).1
  have h2 := of_decide_eq_false h1
  exact (h.rc (by omega) (by omega)).past hb
theorem PaX.up {w u : World} {p c c' : Nat} {P : PSt} (h : PaX w u p P c) (hc : c ≤ c') : PaX w u p P c' := by
  obtain ⟨s, t, m, M, XS, XT, h1, h2, h3, h4, h5⟩ := h
  exact ⟨s, t, m, M, XS, XT, h1, h2, Nat.le_trans h3 hc, h4, h5⟩
/-- What lies ahead of w stays where it is beside a part that has come since. -/
theorem xanewp {w u : World} (hb : Below w.heap.size w u) : Calls Tryz.prog 9 #[] u fun e w' => ∃ p, e = .returned (.pointer (some ⟨p, 0, none⟩)) ∧ PaX w w' p ⟨[], [], []⟩ 0 := by
  refine (xanew u).mono ?_
  rintro e w' ⟨p, rfl, s, t, m, M, XS, XT, h1, h2, h3, h4, h5⟩
  exact ⟨p, rfl, s, t, m, M, XS, XT, h1, h2, h3, hb.trans (h4.mono hb.size), fun k hk => Nat.le_trans hb.size (h5 k hk)⟩
/-! ### A part beside blocks that stay -/
/-- A part that has come since w; the blocks of F are no part of it. -/
def PaXF (w u : World) (p : Nat) (P : PSt) (c : Nat) (F : Foot) : Prop := ∃ s t m M XS XT, ParI u p s t m P M XS XT ∧ PstK P ∧ P.O.length ≤ c ∧ Below w.heap.size w u ∧ (∀ k, ParX p m XS XT k → w.heap.size ≤ k) ∧ ∀ k, F k → k < u.heap.size ∧ ¬ ParX p m XS XT k
theorem PaX.f {w u : World} {p c : Nat} {P : PSt} (h : PaX w u p P c) : PaXF w u p P c noFoot := by
  obtain ⟨s, t, m, M, XS, XT, h1, h2, h3, h4, h5⟩ := h
  exact ⟨s, t, m, M, XS, XT, h1, h2, h3, h4, h5, fun k hk => hk.elim⟩
theorem PaXF.x {w u : World} {p c : Nat} {P : PSt} {F : Foot} (h : PaXF w u p P c F) : PaX w u p P c := by
  obtain ⟨s, t, m, M, XS, XT, h1, h2, h3, h4, h5, h6⟩ := h
  exact ⟨s, t, m, M, XS, XT, h1, h2, h3, h4, h5⟩
theorem PaXF.more {w u u' : World} {p c : Nat} {P : PSt} {F G : Foot} (h : PaXF w u p P c F) (hb : Below u.heap.size u u') (hG : ∀ k, G k → F k ∨ u.heap.size ≤ k ∧ k < u'.heap.size) : PaXF w u' p P c G := by
  obtain ⟨s, t, m, M, XS, XT, h1, h2, h3, h4, h5, h6⟩ := h
  refine ⟨s, t, m, M, XS, XT, h1.past hb, h2, h3, h4.trans (hb.mono h4.size), h5, fun k hk => ?_⟩
  rcases hG k hk with e | e
  · exact ⟨Nat.lt_of_lt_of_le (h6 k e).1 hb.size, (h6 k e).2⟩
  · exact ⟨e.2, fun hx => by have := h1.lt k hx; omega⟩
theorem PaXF.past {w u u' : World} {p c : Nat} {P : PSt} {F : Foot} (h : PaXF w u p P c F) (hb : Below u.heap.size u u') : PaXF w u' p P c F := h.more hb (fun k hk => .inl hk)
theorem PaXF.turn {w u u' : World} {p s t m c' : Nat} {P P' : PSt} {M : List EntM} {XS XT : Foot} {F : Foot} (h4 : Below w.heap.size w u) (h1 : ParI u p s t m P M XS XT) (h5 : ∀ k, ParX p m XS XT k → w.heap.size ≤ k) (h6 : ∀ k, F k → k < u.heap.size ∧ ¬ ParX p m XS XT k) (hl : ParL u u' p s t m M XS XT P') (hk : PstK P') (hc : P'.O.length ≤ c') : PaXF w u' p P' c' F ∧ ∀ k, F k → u'.heap[k]? = u.heap[k]? := by
  obtain ⟨M', XS', XT', x1, x2, _⟩ := hl
  refine ⟨⟨s, t, m, M', XS', XT', x1, hk, hc, h4.trans (x2.chg.below h4.size h5), fun k hk => (x2.new k hk).1.elim (h5 k) (fun e => Nat.le_trans h4.size e), fun k hk => ⟨Nat.lt_of_lt_of_le (h6 k hk).1 x2.chg.size, fun hx => ?_⟩⟩, fun k hk => x2.chg.block k (h6 k hk).1 (h6 k hk).2⟩
  rcases (x2.new k hx).1 with e | e
  · exact (h6 k hk).2 e
  · have := (h6 k hk).1; omega
end Go.Proofs.YtileidbdmpeciaaGreat

namespace Go.Proofs.YtileidbdmpeciaaGreat
open Go.RowKit
set_option linter.unusedVariables false

def kkA : List Int := ofK [97]
def kkB : List Int := ofK [98]
def kkZ : List Int := ofK [122]
theorem kkA_ky : Ky kkA := ofK_ky (by decide)
theorem kkB_ky : Ky kkB := ofK_ky (by decide)
abbrev enK (id : Int) (k : List Int) (s t : Int) : Ent := ⟨id, s, 0, t, 0, [⟨k, [118], false⟩]⟩
def knS0 : PSt := ⟨[], [], []⟩
def knS1 : PSt := (prepP knS0 (enK 1 kkA 0 5)).2
def knS3 : PSt := (commitP knS1 1 7 0).2
def knS4 : PSt := (prepP knS3 (enK 5 kkA 7 9)).2
def knS5 : PSt := (abortP knS4 5).2
def knS6 : PSt := (abortP knS5 9).2
def knR1 : Rcd := ⟨9, 0, 0, 0, 0, 0, [], false, []⟩
def knR2 : Rcd := ⟨3, 8, 0, 0, 0, 0, [], false, []⟩
def knS7 : PSt := (playP knS6 knR2).2
theorem kn16_1 : prepP knS0 (enK 1 kkA 0 5) = (0, knS1) := by kernel_rfl
theorem kn16_a : prepP knS1 (enK 2 kkA 3 6) = (9, knS1) := by kernel_rfl
theorem kn16_3 : commitP knS1 1 7 0 = (0, knS3) := by kernel_rfl
theorem kn16_b : prepP knS3 (enK 3 kkA 6 9) = (9, knS3) := by kernel_rfl
theorem kn16_c : prepP knS3 (enK 1 kkB 6 9) = (10, knS3) := by kernel_rfl
theorem kn16_d : prepP knS3 ⟨4, 0, 0, 0, 0, []⟩ = (1, knS3) := by kernel_rfl
theorem kn16_4 : prepP knS3 (enK 5 kkA 7 9) = (0, knS4) := by kernel_rfl
theorem kn16_e : commitP knS4 5 8 0 = (1, knS4) := by kernel_rfl
theorem kn16_f : readP knS4 kkA 8 0 7 = (8, none) := by kernel_rfl
theorem kn16_g : scanP knS4 kkA kkB 9 0 20 5 = (8, []) := by kernel_rfl
theorem kn16_h : scanP knS4 kkA kkB 8 0 20 5 = (0, [(kkA, [118])]) := by kernel_rfl
theorem kn16_i : abortP knS4 5 = (0, knS5) := by kernel_rfl
theorem kn16_j : commitP knS5 5 9 0 = (10, knS5) := by kernel_rfl
theorem kn16_l : abortP knS5 1 = (10, knS5) := by kernel_rfl
theorem kn16_m : commitP knS5 9 9 0 = (4, knS5) := by kernel_rfl
theorem kn16_n : abortP knS5 9 = (0, knS6) := by kernel_rfl
theorem kn16_o : prepP knS6 (enK 9 kkZ 0 1) = (10, knS6) := by kernel_rfl
theorem kn16_q : playP knS6 knR1 = (3, knS6) := by kernel_rfl
theorem kn16_r : playP knS6 knR2 = (0, knS7) := by kernel_rfl
theorem kn16_s : stateP knS7 8 = 3 := by kernel_rfl
theorem kn16_t : stateP knS7 77 = 0 := by kernel_rfl
theorem kn16_u : knS7.T.length = 0 := by kernel_rfl
/-- of, then Prepare. -/
theorem ofprep {w u : World} {p c : Nat} {P : PSt} (h : PaX w u p P c) (id s t : Int) (hid : -9223372036854775808 ≤ id ∧ id ≤ 9223372036854775807) (hss : -9223372036854775808 ≤ s ∧ s ≤ 9223372036854775807) (htt : -9223372036854775808 ≤ t ∧ t ≤ 9223372036854775807) (s1 : List Int) (hs : ∀ z ∈ s1, 0 ≤ z ∧ z ≤ 255) (hm : s1.length ≤ 140737488351232) (S : ByteArray) (hS : S = strOfNums s1) (K : List Int) (hK : K = ofK s1) (r : Int) (P' : PSt) (hr : prepP P (enK id K s t) = (r, P')) :
    Calls Tryz.prog 11 #[.int .i64 id, .string S, .int .i64 s, .int .i64 t] u fun e w' => ∃ Y, e = .returned (ev Y) ∧ Hid (Calls Tryz.prog 10 #[.pointer (some ⟨p, 0, none⟩), ev Y] w' fun e w'' => e = .returned (.int .i64 r) ∧ Hid (PaX w w'' p P' c)) := by
  refine (qof_any id s t hid hss htt s1 hs hm S hS K hK u).mono ?_
  rintro e w' ⟨⟨Y, rfl, hY, hE⟩, hb⟩
  refine ⟨Y, rfl, ?_⟩
  have h9 := xaprep (h.past hb) Y hE
  rw [hY, hr] at h9
  exact h9
theorem entw_nil (u : World) (id : Int) (hid : -9223372036854775808 ≤ id ∧ id ≤ 9223372036854775807) : EntW u ⟨⟨id, 0, 0, 0, 0, []⟩, none, 0⟩ := ⟨⟨.inl rfl, fun W hW => by simp at hW⟩, Nat.le_refl _, Nat.zero_le _, ⟨hid, by simp, by simp, by simp, by simp⟩⟩
theorem rcw_nil (u : World) (kd id : Int) (hk : -9223372036854775808 ≤ kd ∧ kd ≤ 9223372036854775807) (hid : -9223372036854775808 ≤ id ∧ id ≤ 9223372036854775807) : RcW u ⟨⟨kd, id, 0, 0, 0, 0, [], false, []⟩, none, 0, none, 0⟩ :=
  ⟨⟨.inl rfl, fun W hW => by simp at hW⟩, Nat.le_refl _, Nat.zero_le _, ⟨.inl rfl, fun z hz => by simp at hz⟩, Nat.le_refl _, Nat.zero_le _, hk, ⟨hid.1, hid.2, by simp, by simp, by simp, by simp, fun W hW => by simp at hW, fun W hW => by simp at hW⟩⟩
end Go.Proofs.YtileidbdmpeciaaGreat

