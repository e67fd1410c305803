/-
  What the document reads next: writes: what its rounds hold.
  What the document reads next: writes.
  The landed rec: getWrites.
  The document's own look at a list of nodes: rising, from 0 to 7, at least one.
-/
import Derived.Test.YtcppihpehipelaaAu32
import Derived.Test.YtcppihpehipelaaAu50
import Derived.Test.YtcppihpehipelaaAu45
import Derived.Test.YtcppihpehipelaaAu48
import Derived.Test.YtcppihpehipelaaAu33
import Derived.Test.YtcppihpehipelaaAu52
import Derived.Test.YtcppihpehipelaaAu56
import Derived.Deep.QuietTactic
import Derived.BigQuiet
namespace Go.Proofs.Ytcppihpehipelaa
open Go.RowKit
set_option linter.unusedVariables false

theorem owns_stay {u u' : World} {base e size n : Nat} {v : Value} {xs : List Value} (h : u.ownsRow base e size v n xs) (hk : ∀ q, base ≤ q → q < u.heap.size → u'.heap[q]? = u.heap[q]?) : u'.ownsRow base e size v n xs := by
  refine ⟨h.1, h.2.imp id ?_⟩
  rintro ⟨g, cap, cur, rfl, h1, h2, h3⟩
  refine ⟨g, cap, cur, rfl, h1, (hk g h1 ?_).trans h2, h3⟩
  exact (h.lt g rfl).2
theorem WrtMine.chg {w w' : World} {b o : Nat} {W : Wrt} {X : Foot} (h : WrtMine w b o W) (hc : Chg w w' X) (hX : ¬ X b) : WrtMine w' b o W :=
  have hb := hc.block b (h.at_.lt h.key) hX
  ⟨⟨lies_of fun j u hj => (cell_of_block hb _).1.trans (h.at_.lies.at j u hj)⟩, fun i hi => (cell_of_block hb _).2.trans (h.free i hi), h.key⟩
/-- What the rounds hold. -/
structure WrsL (w wr : World) (g : Nat) (a : Option Addr) (cap : Nat) (zs : List Int) (o0 : Option (List Int)) (N : Nat) (v : Value) (m : Nat) : Prop where
  ex : ∃ (k : Nat) (b : Bool) (done : List Wrt), Rd wr g a cap zs k b ∧ Chg w wr (fun j => j = g) ∧ wr.ownsRow w.heap.size 86 18 v m (done.flatMap encW) ∧ (∀ W ∈ done, WrtOk W) ∧ done.length = m ∧ ∀ o2 L, Rds (manyP writeP (N - m)) (stR zs k b) o2 L → Rds (manyP writeP N) o0 o2 (done ++ L)
theorem many_seq {α : Type} {p : Pr α} {n : Nat} {o o1 o2 : Option (List Int)} {x : α} {L : List α} (h1 : Rds p o o1 x) (h2 : Rds (manyP p n) o1 o2 L) : Rds (manyP p (n + 1)) o o2 (x :: L) :=
  h1.seq (h2.seq (.ret _ _))
theorem WrsL.start {w wr : World} {g : Nat} {a : Option Addr} {cap : Nat} {zs : List Int} {k : Nat} {b : Bool} (N : Nat) (h : Rd wr g a cap zs k b) (hc : Chg w wr (fun j => j = g)) : WrsL w wr g a cap zs (stR zs k b) N (.slice none 0 0) 0 :=
  ⟨k, b, [], h, hc, ⟨rfl, .inl ⟨rfl, rfl⟩⟩, fun W hW => by simp at hW, rfl, fun o2 L h => h⟩
/-- What a round lays. -/
theorem WrsL.next {w w6 : World} {g : Nat} {a : Option Addr} {cap : Nat} {zs : List Int} {o0 : Option (List Int)} {N m k k' : Nat} {b b' : Bool} {done : List Wrt} {W : Wrt} {ax : Option Addr} {cx : Nat}
    (hf : ∀ o2 L, Rds (manyP writeP (N - m)) (stR zs k b) o2 L → Rds (manyP writeP N) o0 o2 (done ++ L)) (hm : m < N) (hd : done.length = m) (hok : ∀ X ∈ done, WrtOk X) (hW : WrtOk W)
    (R : Rd w6 g a cap zs k' b') (C : Chg w w6 (fun j => j = g)) (hown : w6.ownsRow w.heap.size 86 18 (.slice ax (m + 1) cx) (m + 1) (done.flatMap encW ++ encW W)) (D : Rds writeP (stR zs k b) (stR zs k' b') W) : WrsL w w6 g a cap zs o0 N (.slice ax (m + 1) cx) (m + 1) := by
  refine ⟨k', b', done ++ [W], R, C, by simpa using hown, fun X hX => ?_, by simp [hd], fun o2 L h => ?_⟩
  · rcases List.mem_append.1 hX with h | h
    · exact hok X h
    · simp at h; rw [h]; exact hW
  · have e : N - m = (N - (m + 1)) + 1 := by omega
    rw [List.append_assoc]
    refine hf o2 _ ?_
    rw [e]
    exact many_seq D h
end Go.Proofs.Ytcppihpehipelaa

namespace Go.Proofs.Ytcppihpehipelaa
open Go.RowKit
set_option linter.unusedVariables false

end Go.Proofs.Ytcppihpehipelaa

namespace Go.Proofs.Ytcppihpehipelaa
open Go.RowKit
set_option linter.unusedVariables false

/-- A write in a box of the round's, and the reader beside it. -/
structure RB (wr u : World) (g q : Nat) (zs : List Int) (b : Bool) (W : Wrt) : Prop where
  lr : LR u g zs b
  chg : Chg wr u (fun j => j = g)
  mine : WrtMine u q 0 W
  hq : wr.heap.size ≤ q
  hg : g < wr.heap.size
theorem RB.turn {wr u u' : World} {g q : Nat} {zs zs' : List Int} {b b' : Bool} {W : Wrt} (h : RB wr u g q zs b W) (hc : Chg u u' (fun j => j = g)) (hl : LR u' g zs' b') : RB wr u' g q zs' b' W :=
  ⟨hl, h.chg.trans hc (fun _ _ x => x), h.mine.chg hc (by have := h.hq; have := h.hg; omega), h.hq, h.hg⟩
theorem RB.set {wr u : World} {g q : Nat} {zs : List Int} {b : Bool} {W W' : Wrt} (h : RB wr u g q zs b W) (i : Nat) (v : Value) (hm : WrtMine (u.setCell ⟨q, i, none⟩ v) q 0 W') : RB wr (u.setCell ⟨q, i, none⟩ v) g q zs b W' := by
  have c : Chg u (u.setCell ⟨q, i, none⟩ v) (fun j => j = q) := Chg.set u ⟨q, i, none⟩ v rfl
  have := h.hq
  have := h.hg
  exact ⟨h.lr.above c (fun j e => by omega), h.chg.trans c (fun j hj e => by omega), hm, h.hq, h.hg⟩
/-- What the rounds hold. -/
structure GwL (w wr : World) (g : Nat) (o0 : Option (List Int)) (N : Nat) (v : Value) (m : Nat) : Prop where
  ex : ∃ (zs : List Int) (b : Bool) (done : List Wrt), LR wr g zs b ∧ Chg w wr (fun j => j = g) ∧ wr.ownsRow w.heap.size 86 18 v m (done.flatMap encW) ∧ (∀ W ∈ done, WrtOk W) ∧ (∀ W ∈ done, W.v.length ≤ 200) ∧ done.length = m ∧ ∀ o2 L, Rds (manyP wrP (N - m)) (stL zs b) o2 L → Rds (manyP wrP N) o0 o2 (done ++ L)
theorem GwL.next {w wr u w6 : World} {g q : Nat} {zs zs' : List Int} {b b' : Bool} {o0 : Option (List Int)} {N m : Nat} {ax ax6 : Option Addr} {cx cx6 : Nat} {done : List Wrt} {W : Wrt} (hg : g < w.heap.size)
    (hx : LR wr g zs b ∧ Chg w wr (fun j => j = g) ∧ wr.ownsRow w.heap.size 86 18 (.slice ax m cx) m (done.flatMap encW) ∧ (∀ W ∈ done, WrtOk W) ∧ (∀ W ∈ done, W.v.length ≤ 200) ∧ done.length = m ∧ ∀ o2 L, Rds (manyP wrP (N - m)) (stL zs b) o2 L → Rds (manyP wrP N) o0 o2 (done ++ L)) (hlt : m < N)
    (h : RB wr u g q zs' b' W) (hW : WrtOk W) (hv : W.v.length ≤ 200) (D : Rds wrP (stL zs b) (stL zs' b') W) (hown : w6.ownsRow w.heap.size 86 18 (.slice ax6 (m + 1) cx6) (m + 1) (done.flatMap encW ++ encW W)) (C6 : Chg (u.alloc (.cells (encW W).toArray 86)) w6 (fun j => w.heap.size ≤ j)) : GwL w w6 g o0 N (.slice ax6 (m + 1) cx6) (m + 1) := by
  obtain ⟨_, C1, _, ok1, vl1, len1, f1⟩ := hx
  have ba : Below u.heap.size u (u.alloc (.cells (encW W).toArray 86)) := (Below.refl _ _).alloc (Nat.le_refl _) _
  refine ⟨zs', b', done ++ [W], (h.lr.past ba).above C6 (fun j e => by omega), ((C1.trans h.chg (fun _ _ x => x)).trans (Chg.of_below ba (fun j => j = g)) (fun _ _ x => x)).trans C6 (fun j hj e => by omega), by simpa using hown, fun X hX => ?_, fun X hX => ?_, by simp [len1], fun o2 L h2 => ?_⟩
  · rcases List.mem_append.1 hX with e | e
    · exact ok1 X e
    · simp at e; rw [e]; exact hW
  · rcases List.mem_append.1 hX with e | e
    · exact vl1 X e
    · simp at e; rw [e]; exact hv
  · have e : N - m = (N - (m + 1)) + 1 := by omega
    rw [List.append_assoc]
    refine f1 o2 _ ?_
    rw [e]
    exact many_seq D h2
end Go.Proofs.Ytcppihpehipelaa

namespace Go.Proofs.Ytcppihpehipelaa
open Go.RowKit
set_option linter.unusedVariables false

/-- Numbers that lie one behind the other. -/
structure IntsAt (w : World) (a : Option Addr) (l : List Int) : Prop where
  cells : l = [] ∨ ∃ b off, a = some ⟨b, off, none⟩ ∧ ∀ j, j < l.length → w.cell? ⟨b, off + j, none⟩ = some (.int .i64 (l.getD j 0))
  bounds : ∀ z ∈ l, -9223372036854775808 ≤ z ∧ z ≤ 9223372036854775807
def prevP (l : List Int) (i : Nat) : Int := if i = 0 then -1 else l.getD (i - 1) 0
theorem up_step {l : List Int} {i : Nat} (hi : i < l.length) : upP (prevP l i) (l.drop i) = (decide (prevP l i < l.getD i 0 ∧ 0 ≤ l.getD i 0 ∧ l.getD i 0 ≤ 7) && upP (prevP l (i + 1)) (l.drop (i + 1))) := by
  have e : l.drop i = l.getD i 0 :: l.drop (i + 1) := by rw [List.drop_eq_getElem_cons hi]; simp [List.getD, hi]
  rw [e]
  show (decide _ && upP (l.getD i 0) _) = _
  have e2 : prevP l (i + 1) = l.getD i 0 := by unfold prevP; simp
  rw [e2]
end Go.Proofs.Ytcppihpehipelaa

