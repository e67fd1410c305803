/-
  The landed reader of bytes (package wire): what each of its calls takes, and what it leaves.
  The landed reader: UpTo, Flag, take, Text.
  What the landed stamps' Pack and Unpack answer (no variable of the library is asked).
  The landed reader: Stamp, Key.
  The landed reader: Stamp.
  What the document reads next: writes: what its rounds hold.
  What the document reads next: writes.
-/
import Derived.Test.YtileidbdmpeciaaGreatAu70
import Derived.Test.YtileidbdmpeciaaGreatAu73
import Derived.Laws.BitsLemmas
import Derived.Deep.RegionHeld3
import Derived.Laws.IdiomCopy
import Derived.Test.YtileidbdmpeciaaGreatAu78
import Derived.Test.YtileidbdmpeciaaGreatAu81
import Derived.Test.YtileidbdmpeciaaGreatAu87
namespace Go.Proofs.YtileidbdmpeciaaGreat
open Go.RowKit
set_option linter.unusedVariables false

/-- A reader in block g: the bytes that it has not yet taken; a bad one has none. -/
structure LRd (w : World) (g : Nat) (a : Option Addr) (cap : Nat) (zs : List Int) (b : Bool) : Prop where
  c0 : w.cell? ⟨g, 0, none⟩ = some (.slice a zs.length cap)
  c1 : w.cell? ⟨g, 1, none⟩ = some (.bool b)
  free : ∀ i, w.frozen? ⟨g, i, none⟩ = false
  row : Row w a zs
  far : zs ≠ [] → ∀ b o s, a = some ⟨b, o, s⟩ → b < g
  few : zs.length ≤ cap
  most : zs.length ≤ 1099511627776
  gone : b = true → zs = []
/-- What is left to read; none: it is bad. -/
def stL (zs : List Int) (b : Bool) : Option (List Int) := if b then none else some zs
def LR (w : World) (g : Nat) (zs : List Int) (b : Bool) : Prop := ∃ a cap, LRd w g a cap zs b
theorem LRd.made (w : World) (T : TypeId) {a : Option Addr} {cap : Nat} {zs : List Int} (h : Row w a zs) (hc : zs.length ≤ cap) (hm : zs.length ≤ 1099511627776) : LRd (w.alloc (.cells #[.slice a zs.length cap, .bool false] T)) w.heap.size a cap zs false := by
  refine ⟨by rw [World.cell?_alloc_new]; rfl, by rw [World.cell?_alloc_new]; rfl, fun i => World.frozen?_alloc_new _ _ _ _, h.below ((Below.refl _ _).alloc (Nat.le_refl _) _) (Nat.le_refl _), fun hz b o s e => ?_, hc, hm, fun h => by simp at h⟩
  rcases h.cells with e0 | ⟨b', off, e1, hx⟩
  · exact absurd e0 hz
  · rw [e] at e1
    injection e1 with e1
    injection e1 with e1 e2 e3
    subst e1
    have hl : 0 < zs.length := by cases zs with | nil => exact absurd rfl hz | cons x r => simp
    have := lt_of_cell (hx 0 hl)
    simp at this
    omega
theorem LRd.past {w w' : World} {g : Nat} {a : Option Addr} {cap : Nat} {zs : List Int} {b : Bool} (h : LRd w g a cap zs b) (hb : Below w.heap.size w w') : LRd w' g a cap zs b :=
  have hl := lt_of_cell h.c0
  ⟨(hb.cell (p := ⟨g, 0, none⟩) hl).trans h.c0, (hb.cell (p := ⟨g, 1, none⟩) hl).trans h.c1, fun i => (hb.frozen (p := ⟨g, i, none⟩) hl).trans (h.free i), h.row.below hb (Nat.le_refl _), h.far, h.few, h.most, h.gone⟩
theorem LR.past {w w' : World} {g : Nat} {zs : List Int} {b : Bool} (h : LR w g zs b) (hb : Below w.heap.size w w') : LR w' g zs b := by
  obtain ⟨a, cap, h⟩ := h
  exact ⟨a, cap, h.past hb⟩
theorem LR.lt {w : World} {g : Nat} {zs : List Int} {b : Bool} (h : LR w g zs b) : g < w.heap.size := by
  obtain ⟨a, cap, h⟩ := h
  exact lt_of_cell h.c0
/-- The reader stays where only blocks turn that came behind it. -/
theorem LR.above {u u' : World} {g : Nat} {zs : List Int} {b : Bool} {X : Foot} (h : LR u g zs b) (hc : Chg u u' X) (hX : ∀ j, X j → g < j) : LR u' g zs b := by
  obtain ⟨a, cap, h⟩ := h
  have hb := hc.block g (lt_of_cell h.c0) (fun e => by have := hX g e; omega)
  exact ⟨a, cap, (cell_of_block hb 0).1.trans h.c0, (cell_of_block hb 1).1.trans h.c1, fun i => (cell_of_block hb i).2.trans (h.free i), h.row.chg hc (fun hz b o s e e0 => by have := h.far hz b o s e; have := hX b e0; omega), h.far, h.few, h.most, h.gone⟩
theorem LRd.bytes {w : World} {g : Nat} {a : Option Addr} {cap : Nat} {zs : List Int} {b : Bool} (h : LRd w g a cap zs b) : Bys zs := h.row.bytes
/-- A bad one. -/
theorem LRd.bad {w : World} {g : Nat} {a : Option Addr} {cap : Nat} {zs : List Int} {b : Bool} (h : LRd w g a cap zs b) : LRd ((w.setCell ⟨g, 0, none⟩ (.slice none 0 0)).setCell ⟨g, 1, none⟩ (.bool true)) g none 0 [] true ∧ Chg w ((w.setCell ⟨g, 0, none⟩ (.slice none 0 0)).setCell ⟨g, 1, none⟩ (.bool true)) (fun j => j = g) := by
  refine ⟨⟨?_, ?_, fun i => by rw [World.frozen?_setCell, World.frozen?_setCell]; exact h.free i, Row.nil _ _, fun e => absurd rfl e, by simp, by simp, fun _ => rfl⟩, ?_⟩
  · rw [set_off _ _ _ _ _ (by omega)]; exact World.cell?_setCell_same _ _ _ h.c0
  · exact World.cell?_setCell_same _ _ _ ((set_off _ _ _ _ _ (by omega)).trans h.c1)
  · exact (Chg.set (X := fun j => j = g) w ⟨g, 0, none⟩ _ rfl).trans (Chg.set (X := fun j => j = g) _ ⟨g, 1, none⟩ _ rfl) (fun _ _ x => x)
/-- Some bytes are taken. -/
theorem LRd.on {w : World} {g : Nat} {a : Option Addr} {cap : Nat} {zs : List Int} {b : Bool} (h : LRd w g a cap zs b) (k : Nat) (hk : k ≤ zs.length) : LRd (w.setCell ⟨g, 0, none⟩ (.slice (cutA a cap k) (zs.length - k) (cap - k))) g (cutA a cap k) (cap - k) (zs.drop k) b ∧ Chg w (w.setCell ⟨g, 0, none⟩ (.slice (cutA a cap k) (zs.length - k) (cap - k))) (fun j => j = g) := by
  have hc : Chg w (w.setCell ⟨g, 0, none⟩ (.slice (cutA a cap k) (zs.length - k) (cap - k))) (fun j => j = g) := Chg.set w ⟨g, 0, none⟩ _ rfl
  have hf : zs.drop k ≠ [] → ∀ b o s, cutA a cap k = some ⟨b, o, s⟩ → b < g := by
    intro hz b0 o s e
    have hzs : zs ≠ [] := fun e0 => hz (by rw [e0]; simp)
    unfold cutA at e
    by_cases h1 : cap = k
    · exfalso; apply hz; exact List.drop_eq_nil_of_le (by have := h.few; omega)
    · rw [if_neg h1] at e
      cases a with
      | none => simp at e
      | some x =>
        obtain ⟨b1, o1, s1⟩ := x
        have hb : b1 = b0 := by
          simp only [Option.map_some, Option.some.injEq] at e
          unfold Addr.add at e
          split at e <;> (injection e)
        rw [← hb]
        exact h.far hzs b1 o1 s1 rfl
  refine ⟨⟨?_, (set_off _ _ _ _ _ (by omega)).trans h.c1, fun i => by rw [World.frozen?_setCell]; exact h.free i, (h.row.cut cap k h.few).chg hc (fun hz b o s e e0 => by have := hf hz b o s e; omega), hf, ?_, ?_, fun e => by rw [h.gone e]; simp⟩, hc⟩
  · rw [List.length_drop]; exact World.cell?_setCell_same _ _ _ h.c0
  · rw [List.length_drop]; have := h.few; omega
  · rw [List.length_drop]; have := h.most; omega
end Go.Proofs.YtileidbdmpeciaaGreat

namespace Go.Proofs.YtileidbdmpeciaaGreat
open Go.RowKit
set_option linter.unusedVariables false

end Go.Proofs.YtileidbdmpeciaaGreat

namespace Go.Proofs.YtileidbdmpeciaaGreat
open Go.RowKit
set_option linter.unusedVariables false

end Go.Proofs.YtileidbdmpeciaaGreat

namespace Go.Proofs.YtileidbdmpeciaaGreat
open Go.RowKit
set_option linter.unusedVariables false

end Go.Proofs.YtileidbdmpeciaaGreat

namespace Go.Proofs.YtileidbdmpeciaaGreat
open Go.RowKit
set_option linter.unusedVariables false

/-- A box for the answer, another for the stamp, and the reader beside them. -/
structure WsB (w u : World) (g q : Nat) (zs : List Int) (b : Bool) (t n : Int) : Prop where
  r0 : u.cell? ⟨w.heap.size, 0, none⟩ = some (.int .i64 0)
  r1 : u.cell? ⟨w.heap.size, 1, none⟩ = some (.int .u8 0)
  s0 : u.frozen? ⟨w.heap.size, 0, none⟩ = false
  s1 : u.frozen? ⟨w.heap.size, 1, none⟩ = false
  q0 : u.cell? ⟨q, 0, none⟩ = some (.int .i64 t)
  q1 : u.cell? ⟨q, 1, none⟩ = some (.int .u8 n)
  lr : LR u g zs b
  chg : Chg w u (fun j => j = g)
  ne : w.heap.size < q
theorem WsB.turn {w u u' : World} {g q : Nat} {zs zs' : List Int} {b b' : Bool} {t n : Int} (h : WsB w u g q zs b t n) (hg : g < w.heap.size) (hc : Chg u u' (fun j => j = g)) (hl : LR u' g zs' b') : WsB w u' g q zs' b' t n := by
  have b1 := hc.block w.heap.size (lt_of_cell h.r0) (by omega)
  have b2 := hc.block q (lt_of_cell h.q0) (by have := h.ne; omega)
  exact ⟨(cell_of_block b1 0).1.trans h.r0, (cell_of_block b1 1).1.trans h.r1, (cell_of_block b1 0).2.trans h.s0, (cell_of_block b1 1).2.trans h.s1, (cell_of_block b2 0).1.trans h.q0, (cell_of_block b2 1).1.trans h.q1, hl, h.chg.trans hc (fun _ _ x => x), h.ne⟩
theorem chg_twoS (u : World) (q : Nat) (x y : Value) : Chg u ((u.setCell ⟨q, 0, none⟩ x).setCell ⟨q, 1, none⟩ y) (fun j => j = q) :=
  (Chg.set (X := fun j => j = q) u ⟨q, 0, none⟩ x rfl).trans (Chg.set (X := fun j => j = q) _ ⟨q, 1, none⟩ y rfl) (fun _ _ x => x)
theorem WsB.done {w u : World} {g q : Nat} {zs : List Int} {b : Bool} {t n : Int} (h : WsB w u g q zs b t n) (hg : g < w.heap.size) (x y : Value) : LR ((u.setCell ⟨w.heap.size, 0, none⟩ x).setCell ⟨w.heap.size, 1, none⟩ y) g zs b ∧ Chg w ((u.setCell ⟨w.heap.size, 0, none⟩ x).setCell ⟨w.heap.size, 1, none⟩ y) (fun j => j = g) := by
  have c := chg_twoS u w.heap.size x y
  exact ⟨h.lr.above c (fun j e => by omega), h.chg.trans c (fun j hj e => by omega)⟩
end Go.Proofs.YtileidbdmpeciaaGreat

namespace Go.Proofs.YtileidbdmpeciaaGreat
open Go.RowKit
set_option linter.unusedVariables false

theorem owns_stay {u u' : World} {base e size n : Nat} {v : Value} {xs : List Value} (h : u.ownsRow base e size v n xs) (hk : ∀ q, base ≤ q → q < u.heap.size → u'.heap[q]? = u.heap[q]?) : u'.ownsRow base e size v n xs := by
  refine ⟨h.1, h.2.imp id ?_⟩
  rintro ⟨g, cap, cur, rfl, h1, h2, h3⟩
  refine ⟨g, cap, cur, rfl, h1, (hk g h1 ?_).trans h2, h3⟩
  exact (h.lt g rfl).2
theorem WrtMine.chg {w w' : World} {b o : Nat} {W : Wrt} {X : Foot} (h : WrtMine w b o W) (hc : Chg w w' X) (hX : ¬ X b) : WrtMine w' b o W :=
  have hb := hc.block b (h.at_.lt h.key) hX
  ⟨⟨lies_of fun j u hj => (cell_of_block hb _).1.trans (h.at_.lies.at j u hj)⟩, fun i hi => (cell_of_block hb _).2.trans (h.free i hi), h.key⟩
/-- What the rounds hold. -/
structure WrsL (w wr : World) (g : Nat) (a : Option Addr) (cap : Nat) (zs : List Int) (o0 : Option (List Int)) (N : Nat) (v : Value) (m : Nat) : Prop where
  ex : ∃ (k : Nat) (b : Bool) (done : List Wrt), Rd wr g a cap zs k b ∧ Chg w wr (fun j => j = g) ∧ wr.ownsRow w.heap.size 80 18 v m (done.flatMap encW) ∧ (∀ W ∈ done, WrtOk W) ∧ done.length = m ∧ ∀ o2 L, Rds (manyP writeP (N - m)) (stR zs k b) o2 L → Rds (manyP writeP N) o0 o2 (done ++ L)
theorem many_seq {α : Type} {p : Pr α} {n : Nat} {o o1 o2 : Option (List Int)} {x : α} {L : List α} (h1 : Rds p o o1 x) (h2 : Rds (manyP p n) o1 o2 L) : Rds (manyP p (n + 1)) o o2 (x :: L) :=
  h1.seq (h2.seq (.ret _ _))
/-- What a round lays. -/
theorem WrsL.next {w w6 : World} {g : Nat} {a : Option Addr} {cap : Nat} {zs : List Int} {o0 : Option (List Int)} {N m k k' : Nat} {b b' : Bool} {done : List Wrt} {W : Wrt} {ax : Option Addr} {cx : Nat}
    (hf : ∀ o2 L, Rds (manyP writeP (N - m)) (stR zs k b) o2 L → Rds (manyP writeP N) o0 o2 (done ++ L)) (hm : m < N) (hd : done.length = m) (hok : ∀ X ∈ done, WrtOk X) (hW : WrtOk W)
    (R : Rd w6 g a cap zs k' b') (C : Chg w w6 (fun j => j = g)) (hown : w6.ownsRow w.heap.size 80 18 (.slice ax (m + 1) cx) (m + 1) (done.flatMap encW ++ encW W)) (D : Rds writeP (stR zs k b) (stR zs k' b') W) : WrsL w w6 g a cap zs o0 N (.slice ax (m + 1) cx) (m + 1) := by
  refine ⟨k', b', done ++ [W], R, C, by simpa using hown, fun X hX => ?_, by simp [hd], fun o2 L h => ?_⟩
  · rcases List.mem_append.1 hX with h | h
    · exact hok X h
    · simp at h; rw [h]; exact hW
  · have e : N - m = (N - (m + 1)) + 1 := by omega
    rw [List.append_assoc]
    refine hf o2 _ ?_
    rw [e]
    exact many_seq D h
end Go.Proofs.YtileidbdmpeciaaGreat

namespace Go.Proofs.YtileidbdmpeciaaGreat
open Go.RowKit
set_option linter.unusedVariables false

end Go.Proofs.YtileidbdmpeciaaGreat

