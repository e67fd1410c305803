/-
  The landed rec: getWrites.
  The document's own look at a list of nodes: rising, from 0 to 7, at least one.
  The landed rec: getParts, goodParts.
  Two lists held against one another: writes, numbers (slices.Equal; the document's own Writes).
  Records in memory: nine cells, and two lists that lie elsewhere.
  The landed rec: Same.
  The landed rec: only.
  The landed rec: Good.
  What the landed parts answer and leave: Play, Prepared (package part).
  A landed part of the call's own: Play, Trim, Prepared.
  A list of keys that came in.
-/
import Derived.Test.YtileidbdmpeciaaGreatAu57
import Derived.Test.YtileidbdmpeciaaGreatAu87
import Derived.Test.YtileidbdmpeciaaGreatAu77
import Derived.Test.YtileidbdmpeciaaGreatAu76
import Derived.Deep.QuietTactic
import Derived.BigQuiet
import Derived.Test.YtileidbdmpeciaaGreatAu85
import Derived.Test.YtileidbdmpeciaaGreatAu86
import Derived.Test.YtileidbdmpeciaaGreatPaC4
import Derived.Test.YtileidbdmpeciaaGreatPaC7
import Derived.Test.YtileidbdmpeciaaGreatAu83
import Derived.Test.YtileidbdmpeciaaGreatAu68
import Derived.ProofKit
import Derived.OpenShut
import Derived.ChangeSame
import Derived.Deep.Slices
namespace Go.Proofs.YtileidbdmpeciaaGreat
open Go.RowKit
set_option linter.unusedVariables false

/-- A write in a box of the round's, and the reader beside it. -/
structure RB (wr u : World) (g q : Nat) (zs : List Int) (b : Bool) (W : Wrt) : Prop where
  lr : LR u g zs b
  chg : Chg wr u (fun j => j = g)
  mine : WrtMine u q 0 W
  hq : wr.heap.size ≤ q
  hg : g < wr.heap.size
theorem RB.turn {wr u u' : World} {g q : Nat} {zs zs' : List Int} {b b' : Bool} {W : Wrt} (h : RB wr u g q zs b W) (hc : Chg u u' (fun j => j = g)) (hl : LR u' g zs' b') : RB wr u' g q zs' b' W :=
  ⟨hl, h.chg.trans hc (fun _ _ x => x), h.mine.chg hc (by have := h.hq; have := h.hg; omega), h.hq, h.hg⟩
theorem RB.set {wr u : World} {g q : Nat} {zs : List Int} {b : Bool} {W W' : Wrt} (h : RB wr u g q zs b W) (i : Nat) (v : Value) (hm : WrtMine (u.setCell ⟨q, i, none⟩ v) q 0 W') : RB wr (u.setCell ⟨q, i, none⟩ v) g q zs b W' := by
  have c : Chg u (u.setCell ⟨q, i, none⟩ v) (fun j => j = q) := Chg.set u ⟨q, i, none⟩ v rfl
  have := h.hq
  have := h.hg
  exact ⟨h.lr.above c (fun j e => by omega), h.chg.trans c (fun j hj e => by omega), hm, h.hq, h.hg⟩
/-- What the rounds hold. -/
structure GwL (w wr : World) (g : Nat) (o0 : Option (List Int)) (N : Nat) (v : Value) (m : Nat) : Prop where
  ex : ∃ (zs : List Int) (b : Bool) (done : List Wrt), LR wr g zs b ∧ Chg w wr (fun j => j = g) ∧ wr.ownsRow w.heap.size 80 18 v m (done.flatMap encW) ∧ (∀ W ∈ done, WrtOk W) ∧ (∀ W ∈ done, W.v.length ≤ 200) ∧ done.length = m ∧ ∀ o2 L, Rds (manyP wrP (N - m)) (stL zs b) o2 L → Rds (manyP wrP N) o0 o2 (done ++ L)
theorem GwL.next {w wr u w6 : World} {g q : Nat} {zs zs' : List Int} {b b' : Bool} {o0 : Option (List Int)} {N m : Nat} {ax ax6 : Option Addr} {cx cx6 : Nat} {done : List Wrt} {W : Wrt} (hg : g < w.heap.size)
    (hx : LR wr g zs b ∧ Chg w wr (fun j => j = g) ∧ wr.ownsRow w.heap.size 80 18 (.slice ax m cx) m (done.flatMap encW) ∧ (∀ W ∈ done, WrtOk W) ∧ (∀ W ∈ done, W.v.length ≤ 200) ∧ done.length = m ∧ ∀ o2 L, Rds (manyP wrP (N - m)) (stL zs b) o2 L → Rds (manyP wrP N) o0 o2 (done ++ L)) (hlt : m < N)
    (h : RB wr u g q zs' b' W) (hW : WrtOk W) (hv : W.v.length ≤ 200) (D : Rds wrP (stL zs b) (stL zs' b') W) (hown : w6.ownsRow w.heap.size 80 18 (.slice ax6 (m + 1) cx6) (m + 1) (done.flatMap encW ++ encW W)) (C6 : Chg (u.alloc (.cells (encW W).toArray 80)) w6 (fun j => w.heap.size ≤ j)) : GwL w w6 g o0 N (.slice ax6 (m + 1) cx6) (m + 1) := by
  obtain ⟨_, C1, _, ok1, vl1, len1, f1⟩ := hx
  have ba : Below u.heap.size u (u.alloc (.cells (encW W).toArray 80)) := (Below.refl _ _).alloc (Nat.le_refl _) _
  refine ⟨zs', b', done ++ [W], (h.lr.past ba).above C6 (fun j e => by omega), ((C1.trans h.chg (fun _ _ x => x)).trans (Chg.of_below ba (fun j => j = g)) (fun _ _ x => x)).trans C6 (fun j hj e => by omega), by simpa using hown, fun X hX => ?_, fun X hX => ?_, by simp [len1], fun o2 L h2 => ?_⟩
  · rcases List.mem_append.1 hX with e | e
    · exact ok1 X e
    · simp at e; rw [e]; exact hW
  · rcases List.mem_append.1 hX with e | e
    · exact vl1 X e
    · simp at e; rw [e]; exact hv
  · have e : N - m = (N - (m + 1)) + 1 := by omega
    rw [List.append_assoc]
    refine f1 o2 _ ?_
    rw [e]
    exact many_seq D h2
end Go.Proofs.YtileidbdmpeciaaGreat

namespace Go.Proofs.YtileidbdmpeciaaGreat
open Go.RowKit
set_option linter.unusedVariables false

/-- Numbers that lie one behind the other. -/
structure IntsAt (w : World) (a : Option Addr) (l : List Int) : Prop where
  cells : l = [] ∨ ∃ b off, a = some ⟨b, off, none⟩ ∧ ∀ j, j < l.length → w.cell? ⟨b, off + j, none⟩ = some (.int .i64 (l.getD j 0))
  bounds : ∀ z ∈ l, -9223372036854775808 ≤ z ∧ z ≤ 9223372036854775807
end Go.Proofs.YtileidbdmpeciaaGreat

namespace Go.Proofs.YtileidbdmpeciaaGreat
open Go.RowKit
set_option linter.unusedVariables false

def ivs (l : List Int) : List Value := l.map (Value.int .i64)
theorem ivs_app (a b : List Int) : ivs (a ++ b) = ivs a ++ ivs b := by simp [ivs]
/-- What the rounds hold. -/
structure GpL (w wr : World) (g : Nat) (o0 : Option (List Int)) (N : Nat) (v : Value) (m : Nat) : Prop where
  ex : ∃ (zs : List Int) (b : Bool) (done : List Int), LR wr g zs b ∧ Chg w wr (fun j => j = g) ∧ wr.ownsRow w.heap.size 3 1 v m (ivs done) ∧ (∀ z ∈ done, 0 ≤ z ∧ z ≤ 7) ∧ done.length = m ∧ ∀ o2 L, Rds (manyP (countP 7) (N - m)) (stL zs b) o2 L → Rds (manyP (countP 7) N) o0 o2 (done ++ L)
theorem GpL.next {w wr w1 : World} {g : Nat} {zs1 zs2 : List Int} {b1 b2 : Bool} {o0 : Option (List Int)} {N m : Nat} {ax : Option Addr} {cx : Nat} {done : List Int} {v : Int} (hg : g < w.heap.size)
    (hx : LR wr g zs1 b1 ∧ Chg w wr (fun j => j = g) ∧ wr.ownsRow w.heap.size 3 1 (.slice ax m cx) m (ivs done) ∧ (∀ z ∈ done, 0 ≤ z ∧ z ≤ 7) ∧ done.length = m ∧ ∀ o2 L, Rds (manyP (countP 7) (N - m)) (stL zs1 b1) o2 L → Rds (manyP (countP 7) N) o0 o2 (done ++ L)) (hlt : m < N) (v0 : 0 ≤ v) (v1 : v ≤ 7) (L2 : LR w1 g zs2 b2) (C2 : Chg wr w1 (fun j => j = g)) (D2 : Rds (countP 7) (stL zs1 b1) (stL zs2 b2) v) :
    w.heap.size ≤ (w1.alloc (.cells #[.int .i64 v] 3)).heap.size ∧ (w1.alloc (.cells #[.int .i64 v] 3)).ownsRow w.heap.size 3 1 (.slice ax m cx) m (ivs done) ∧ ∀ ax6 cx6 w6, w6.ownsRow w.heap.size 3 1 (.slice ax6 (m + 1) cx6) (m + 1) (ivs done ++ [.int .i64 v]) → Chg (w1.alloc (.cells #[.int .i64 v] 3)) w6 (fun j => w.heap.size ≤ j) → GpL w w6 g o0 N (.slice ax6 (m + 1) cx6) (m + 1) := by
  have ba : Below w1.heap.size w1 (w1.alloc (.cells #[.int .i64 v] 3)) := (Below.refl _ _).alloc (Nat.le_refl _) _
  have c1 : Chg w (w1.alloc (.cells #[.int .i64 v] 3)) (fun j => j = g) := (hx.2.1.trans C2 (fun _ _ x => x)).trans (Chg.of_below ba _) (fun _ _ x => x)
  have c2 : Chg wr (w1.alloc (.cells #[.int .i64 v] 3)) (fun j => j = g) := C2.trans (Chg.of_below ba _) (fun _ _ x => x)
  refine ⟨c1.size, owns_stay hx.2.2.1 (fun r h1 h2 => c2.block r h2 (by omega)), fun ax6 cx6 w6 own6 C6 => ⟨zs2, b2, done ++ [v], (L2.past ba).above C6 (fun j e => by omega), c1.trans C6 (fun j hj e => by omega), by rw [ivs_app]; exact own6, fun z hz => ?_, by simp [hx.2.2.2.2.1], fun o2 L h2 => ?_⟩⟩
  · rcases List.mem_append.1 hz with e | e
    · exact hx.2.2.2.1 z e
    · simp at e; rw [e]; exact ⟨v0, v1⟩
  · have e : N - m = (N - (m + 1)) + 1 := by omega
    rw [List.append_assoc]
    refine hx.2.2.2.2.2 o2 _ ?_
    rw [e]
    exact many_seq D2 h2
end Go.Proofs.YtileidbdmpeciaaGreat

namespace Go.Proofs.YtileidbdmpeciaaGreat
open Go.RowKit
set_option linter.unusedVariables false

theorem IntsAt.past {w w' : World} {a : Option Addr} {l : List Int} (h : IntsAt w a l) (hb : Below w.heap.size w w') : IntsAt w' a l :=
  ⟨h.cells.imp id (fun ⟨b, o, e, hc⟩ => ⟨b, o, e, fun j hj => by rw [hb.cell (p := ⟨b, o + j, none⟩) (lt_of_cell (hc j hj))]; exact hc j hj⟩), h.bounds⟩
theorem IntsAt.at {w : World} {a : Option Addr} {l : List Int} (h : IntsAt w a l) {i : Nat} (hi : i < l.length) : ∃ b o x, a = some ⟨b, o, none⟩ ∧ w.cell? ⟨b, o + i, none⟩ = some (.int .i64 x) ∧ l[i]? = some x := by
  rcases h.cells with rfl | ⟨b, o, e, hc⟩
  · simp at hi
  · exact ⟨b, o, l.getD i 0, e, hc i hi, by simp [List.getD, hi]⟩
end Go.Proofs.YtileidbdmpeciaaGreat

namespace Go.Proofs.YtileidbdmpeciaaGreat
open Go.RowKit
set_option linter.unusedVariables false

/-- A record in memory: where its lists lie. -/
structure RcM where
  r : Rcd
  a : Option Addr
  c : Nat
  pa : Option Addr
  pc : Nat
def encR (x : RcM) : List Value := [.int .i64 x.r.kd, .int .i64 x.r.id, .int .i64 x.r.s, .int .u8 x.r.m, .int .i64 x.r.t, .int .u8 x.r.n, .slice x.a x.r.l.length x.c, .bool x.r.y, .slice x.pa x.r.ps.length x.pc]
theorem encR_one (x : RcM) : ∀ u ∈ encR x, u.oneCell' = true := by
  intro u hu
  simp [encR] at hu
  rcases hu with rfl | rfl | rfl | rfl | rfl | rfl | rfl | rfl | rfl <;> rfl
/-- Its lists, and what its numbers are. -/
structure RcW (w : World) (x : RcM) : Prop where
  wr : WrtsAt w x.a x.r.l
  room : x.r.l.length ≤ x.c
  few : x.r.l.length ≤ 1000
  ps : IntsAt w x.pa x.r.ps
  proom : x.r.ps.length ≤ x.pc
  pfew : x.r.ps.length ≤ 1000
  kd : -9223372036854775808 ≤ x.r.kd ∧ x.r.kd ≤ 9223372036854775807
  ok : RcdOk x.r
theorem RcW.past {w w' : World} {x : RcM} (h : RcW w x) (hb : Below w.heap.size w w') : RcW w' x := ⟨h.wr.past hb, h.room, h.few, h.ps.past hb, h.proom, h.pfew, h.kd, h.ok⟩
/-- A record's cells in a box. -/
structure RBox (u : World) (b : Nat) (kd id s m t n : Int) (a : Option Addr) (N c : Nat) (y : Bool) (pa : Option Addr) (M pc : Nat) : Prop where
  c0 : u.cell? ⟨b, 0, none⟩ = some (.int .i64 kd)
  c1 : u.cell? ⟨b, 1, none⟩ = some (.int .i64 id)
  c2 : u.cell? ⟨b, 2, none⟩ = some (.int .i64 s)
  c3 : u.cell? ⟨b, 3, none⟩ = some (.int .u8 m)
  c4 : u.cell? ⟨b, 4, none⟩ = some (.int .i64 t)
  c5 : u.cell? ⟨b, 5, none⟩ = some (.int .u8 n)
  c6 : u.cell? ⟨b, 6, none⟩ = some (.slice a N c)
  c7 : u.cell? ⟨b, 7, none⟩ = some (.bool y)
  c8 : u.cell? ⟨b, 8, none⟩ = some (.slice pa M pc)
theorem RBox.made (w : World) (T : TypeId) (kd id s m t n : Int) (a : Option Addr) (N c : Nat) (y : Bool) (pa : Option Addr) (M pc : Nat) : RBox (w.alloc (.cells #[.int .i64 kd, .int .i64 id, .int .i64 s, .int .u8 m, .int .i64 t, .int .u8 n, .slice a N c, .bool y, .slice pa M pc] T)) w.heap.size kd id s m t n a N c y pa M pc := by
  refine ⟨?_, ?_, ?_, ?_, ?_, ?_, ?_, ?_, ?_⟩ <;> (rw [World.cell?_alloc_new]; rfl)
theorem RBox.lt {u : World} {b : Nat} {kd id s m t n : Int} {a : Option Addr} {N c : Nat} {y : Bool} {pa : Option Addr} {M pc : Nat} (h : RBox u b kd id s m t n a N c y pa M pc) : b < u.heap.size := cell_lt h.c0
theorem RBox.kept {u u' : World} {b : Nat} {kd id s m t n : Int} {a : Option Addr} {N c : Nat} {y : Bool} {pa : Option Addr} {M pc : Nat} (h : RBox u b kd id s m t n a N c y pa M pc) (hb : u'.heap[b]? = u.heap[b]?) : RBox u' b kd id s m t n a N c y pa M pc :=
  ⟨(cell_of_block hb 0).1.trans h.c0, (cell_of_block hb 1).1.trans h.c1, (cell_of_block hb 2).1.trans h.c2, (cell_of_block hb 3).1.trans h.c3, (cell_of_block hb 4).1.trans h.c4, (cell_of_block hb 5).1.trans h.c5, (cell_of_block hb 6).1.trans h.c6, (cell_of_block hb 7).1.trans h.c7, (cell_of_block hb 8).1.trans h.c8⟩
theorem RBox.past {u u' : World} {b : Nat} {kd id s m t n : Int} {a : Option Addr} {N c : Nat} {y : Bool} {pa : Option Addr} {M pc : Nat} (h : RBox u b kd id s m t n a N c y pa M pc) (hb : Below u.heap.size u u') : RBox u' b kd id s m t n a N c y pa M pc := h.kept (hb.block b h.lt)
end Go.Proofs.YtileidbdmpeciaaGreat

namespace Go.Proofs.YtileidbdmpeciaaGreat
open Go.RowKit
set_option linter.unusedVariables false

end Go.Proofs.YtileidbdmpeciaaGreat

namespace Go.Proofs.YtileidbdmpeciaaGreat
open Go.RowKit
set_option linter.unusedVariables false

/-- Nothing but what a record's kind has. -/
def onlyM (x : RcM) : RcM :=
  if x.r.kd = 1 then ⟨⟨x.r.kd, x.r.id, x.r.s, x.r.m, x.r.t, x.r.n, x.r.l, false, []⟩, x.a, x.c, none, 0⟩
  else if x.r.kd = 2 then ⟨⟨x.r.kd, x.r.id, 0, 0, x.r.t, x.r.n, [], false, []⟩, none, 0, none, 0⟩
  else if x.r.kd = 3 then ⟨⟨x.r.kd, x.r.id, 0, 0, 0, 0, [], false, []⟩, none, 0, none, 0⟩
  else if x.r.kd = 4 then (if x.r.y = false then ⟨⟨x.r.kd, x.r.id, 0, 0, 0, 0, [], false, x.r.ps⟩, none, 0, x.pa, x.pc⟩ else ⟨⟨x.r.kd, x.r.id, 0, 0, x.r.t, x.r.n, [], true, x.r.ps⟩, none, 0, x.pa, x.pc⟩)
  else if x.r.kd = 5 then ⟨⟨x.r.kd, 0, 0, 0, x.r.t, 0, [], false, []⟩, none, 0, none, 0⟩
  else ⟨⟨0, 0, 0, 0, 0, 0, [], false, []⟩, none, 0, none, 0⟩
theorem WrtsAt.none (w : World) (a : Option Addr) : WrtsAt w a [] := ⟨.inl rfl, fun W hW => by simp at hW⟩
theorem IntsAt.none (w : World) (a : Option Addr) : IntsAt w a [] := ⟨.inl rfl, fun W hW => by simp at hW⟩
theorem RcW.only {w : World} {x : RcM} (h : RcW w x) : RcW w (onlyM x) := by
  obtain ⟨⟨kd, id, s, m, t, n, l, y, ps⟩, a, c, pa, pc⟩ := x
  obtain ⟨hwr, hrm, hfw, hps, hpr, hpf, hkd, ⟨o1, o2, o3, o4, o5, o6, o7, o8⟩⟩ := h
  simp only at *
  unfold onlyM
  simp only
  by_cases k1 : kd = 1
  · rw [if_pos k1]
    exact ⟨hwr, hrm, hfw, IntsAt.none _ _, Nat.zero_le _, Nat.zero_le _, hkd, ⟨o1, o2, o3, o4, o5, o6, o7, o8⟩⟩
  rw [if_neg k1]
  by_cases k2 : kd = 2
  · rw [if_pos k2]
    exact ⟨WrtsAt.none _ _, Nat.zero_le _, Nat.zero_le _, IntsAt.none _ _, Nat.zero_le _, Nat.zero_le _, hkd, ⟨o1, o2, by simp, by simp, o5, o6, by simp, by simp⟩⟩
  rw [if_neg k2]
  by_cases k3 : kd = 3
  · rw [if_pos k3]
    exact ⟨WrtsAt.none _ _, Nat.zero_le _, Nat.zero_le _, IntsAt.none _ _, Nat.zero_le _, Nat.zero_le _, hkd, ⟨o1, o2, by simp, by simp, by simp, by simp, by simp, by simp⟩⟩
  rw [if_neg k3]
  by_cases k4 : kd = 4
  · rw [if_pos k4]
    by_cases hy : y = false
    · rw [if_pos hy]
      exact ⟨WrtsAt.none _ _, Nat.zero_le _, Nat.zero_le _, hps, hpr, hpf, hkd, ⟨o1, o2, by simp, by simp, by simp, by simp, by simp, by simp⟩⟩
    · rw [if_neg hy]
      exact ⟨WrtsAt.none _ _, Nat.zero_le _, Nat.zero_le _, hps, hpr, hpf, hkd, ⟨o1, o2, by simp, by simp, o5, o6, by simp, by simp⟩⟩
  rw [if_neg k4]
  by_cases k5 : kd = 5
  · rw [if_pos k5]
    exact ⟨WrtsAt.none _ _, Nat.zero_le _, Nat.zero_le _, IntsAt.none _ _, Nat.zero_le _, Nat.zero_le _, hkd, ⟨by simp, by simp, by simp, by simp, by simp, by simp, by simp, by simp⟩⟩
  rw [if_neg k5]
  exact ⟨WrtsAt.none _ _, Nat.zero_le _, Nat.zero_le _, IntsAt.none _ _, Nat.zero_le _, Nat.zero_le _, by simp, ⟨by simp, by simp, by simp, by simp, by simp, by simp, by simp, by simp⟩⟩
/-! ### What may be -/
end Go.Proofs.YtileidbdmpeciaaGreat

namespace Go.Proofs.YtileidbdmpeciaaGreat
open Go.RowKit
set_option linter.unusedVariables false

end Go.Proofs.YtileidbdmpeciaaGreat

namespace Go.Proofs.YtileidbdmpeciaaGreat
open Go.RowKit
set_option linter.unusedVariables false
set_option linter.unusedSimpArgs false

end Go.Proofs.YtileidbdmpeciaaGreat

namespace Go.Proofs.YtileidbdmpeciaaGreat
open Go.RowKit
set_option linter.unusedVariables false

end Go.Proofs.YtileidbdmpeciaaGreat

namespace Go.Proofs.YtileidbdmpeciaaGreat
open Go.RowKit Go.ChangeShapes Go.WideShapes Go.ChangeAt Go.Deep
set_option linter.unusedVariables false

theorem add_add (a : Addr) (x y : Nat) : (a.add x).add y = a.add (x + y) := by
  unfold Addr.add
  by_cases h1 : x = 0
  · simp [h1]
  · by_cases h2 : y = 0
    · simp [h2]
    · have h3 : ¬ (x + y = 0) := by omega
      simp only [if_neg h1, if_neg h2, if_neg h3, Nat.add_assoc]
section
variable {H : Type} {enc : TypeId × Value → H} {w : World} {base : Nat} {held : Bool}
theorem arr_cells {P : Program} {t e : TypeId} {k : IntKind} {n fuel : Nat} {sp : Nat → Bool} {cs : List Value} {x : DataW H × List MemPlace} (ht : P.underlying t = some (.array n e)) (he : P.underlying e = some (.int k)) (ct : P.cellsOf t = n) (ce : P.cellsOf e = 1) (hs : cs.length = n)
    (hf : DataW.trod enc P w base sp held fuel t cs = some x) : ∃ zs : List Int, cs = zs.map (Value.int k) ∧ IsArr k n zs := by
  cases fuel with
  | zero => simp [DataW.trod] at hf
  | succ m =>
    rw [DataW.trod_step] at hf
    unfold DataW.trodStep at hf
    simp only [ht] at hf
    rw [if_pos (by rw [ct]; exact hs)] at hf
    simp only [Option.map_eq_some_iff] at hf
    obtain ⟨ys, hy, _⟩ := hf
    have each : ∀ i, i < n → ∃ z : Int, cs[i]? = some (.int k z) ∧ (Lit.int k z).wf = true := by
      intro i hi
      obtain ⟨y, hy'⟩ := mapM_each hy i (by simpa using hi)
      obtain ⟨z, hz, _, hwf⟩ := DataW.trod_int he hy'
      rw [ce, Nat.mul_one] at hz
      refine ⟨z, ?_, hwf⟩
      have h2 := congrArg (fun l => l[0]?) hz
      simpa using h2
    obtain ⟨f, hfz⟩ := choose_lt each
    refine ⟨(List.range n).map f, ?_, by simp, fun z hz => ?_⟩
    · apply List.ext_getElem
      · simp; omega
      · intro i h1 h2
        simp at h2
        have := (hfz i h2).1
        rw [List.getElem?_eq_getElem h1] at this
        simp at this
        simp [this]
    · simp at hz
      obtain ⟨i, hi, rfl⟩ := hz
      exact (hfz i hi).2
theorem IsArr.ky {zs : List Int} (h : IsArr .u8 16 zs) : Ky zs := ⟨h.1, fun z hz => bounds_u8 (h.2 z hz)⟩
end
end Go.Proofs.YtileidbdmpeciaaGreat

