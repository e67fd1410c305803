/-
  What the landed stamps' Pack and Unpack answer (no variable of the library is asked).
  The landed reader: Stamp, Key.
  The landed reader: Stamp.
  Keys' cells; cells laid one by one.
  Parts laid into a row of cells.
  The document's own stores (hourglassref10: Store) in memory: a list of versions of twenty cells each.
  Versions that are loaded, stored and answered whole.
  Lists of keys: lists that lie somewhere, lists that the call made itself.
-/
import Derived.Test.YtcppihpehipelaaAu45
import Derived.Test.YtcppihpehipelaaAu41
import Derived.Laws.BitsLemmas
import Derived.Deep.RegionHeld3
import Derived.Laws.IdiomCopy
import Derived.Test.YtcppihpehipelaaAu42
import Derived.Test.YtcppihpehipelaaEls
import Derived.Test.YtcppihpehipelaaAu55
import Derived.Test.YtcppihpehipelaaFoot
import Derived.Test.YtcppihpehipelaaAu50
import Derived.Deep.MidRow
namespace Go.Proofs.Ytcppihpehipelaa
open Go.RowKit
set_option linter.unusedVariables false

end Go.Proofs.Ytcppihpehipelaa

namespace Go.Proofs.Ytcppihpehipelaa
open Go.RowKit
set_option linter.unusedVariables false

end Go.Proofs.Ytcppihpehipelaa

namespace Go.Proofs.Ytcppihpehipelaa
open Go.RowKit
set_option linter.unusedVariables false

/-- A box for the answer, another for the stamp, and the reader beside them. -/
structure WsB (w u : World) (g q : Nat) (zs : List Int) (b : Bool) (t n : Int) : Prop where
  r0 : u.cell? ⟨w.heap.size, 0, none⟩ = some (.int .i64 0)
  r1 : u.cell? ⟨w.heap.size, 1, none⟩ = some (.int .u8 0)
  s0 : u.frozen? ⟨w.heap.size, 0, none⟩ = false
  s1 : u.frozen? ⟨w.heap.size, 1, none⟩ = false
  q0 : u.cell? ⟨q, 0, none⟩ = some (.int .i64 t)
  q1 : u.cell? ⟨q, 1, none⟩ = some (.int .u8 n)
  lr : LR u g zs b
  chg : Chg w u (fun j => j = g)
  ne : w.heap.size < q
theorem WsB.turn {w u u' : World} {g q : Nat} {zs zs' : List Int} {b b' : Bool} {t n : Int} (h : WsB w u g q zs b t n) (hg : g < w.heap.size) (hc : Chg u u' (fun j => j = g)) (hl : LR u' g zs' b') : WsB w u' g q zs' b' t n := by
  have b1 := hc.block w.heap.size (lt_of_cell h.r0) (by omega)
  have b2 := hc.block q (lt_of_cell h.q0) (by have := h.ne; omega)
  exact ⟨(cell_of_block b1 0).1.trans h.r0, (cell_of_block b1 1).1.trans h.r1, (cell_of_block b1 0).2.trans h.s0, (cell_of_block b1 1).2.trans h.s1, (cell_of_block b2 0).1.trans h.q0, (cell_of_block b2 1).1.trans h.q1, hl, h.chg.trans hc (fun _ _ x => x), h.ne⟩
theorem chg_twoS (u : World) (q : Nat) (x y : Value) : Chg u ((u.setCell ⟨q, 0, none⟩ x).setCell ⟨q, 1, none⟩ y) (fun j => j = q) :=
  (Chg.set (X := fun j => j = q) u ⟨q, 0, none⟩ x rfl).trans (Chg.set (X := fun j => j = q) _ ⟨q, 1, none⟩ y rfl) (fun _ _ x => x)
theorem WsB.done {w u : World} {g q : Nat} {zs : List Int} {b : Bool} {t n : Int} (h : WsB w u g q zs b t n) (hg : g < w.heap.size) (x y : Value) : LR ((u.setCell ⟨w.heap.size, 0, none⟩ x).setCell ⟨w.heap.size, 1, none⟩ y) g zs b ∧ Chg w ((u.setCell ⟨w.heap.size, 0, none⟩ x).setCell ⟨w.heap.size, 1, none⟩ y) (fun j => j = g) := by
  have c := chg_twoS u w.heap.size x y
  exact ⟨h.lr.above c (fun j e => by omega), h.chg.trans c (fun j hj e => by omega)⟩
end Go.Proofs.Ytcppihpehipelaa

namespace Go.Proofs.Ytcppihpehipelaa
open Go.RowKit
set_option linter.unusedVariables false

/-- A key's cells, as a list. -/
def kc (k : List Int) : List Value := k.map (Value.int .u8)
def Kys (l : List (List Int)) : Prop := ∀ k ∈ l, Ky k
theorem kc_len {k : List Int} (h : Ky k) : (kc k).length = 16 := by unfold kc; rw [List.length_map]; exact h.len
theorem Kys.len {l : List (List Int)} (h : Kys l) : ∀ k ∈ l, (kc k).length = 16 := fun k hk => kc_len (h k hk)
theorem Kys.one {l : List (List Int)} : ∀ u ∈ l.flatMap kc, u.oneCell' = true := flat_one fun k _ => ints_oneCell _ _
theorem Kys.get {l : List (List Int)} (h : Kys l) {i : Nat} (hi : i < l.length) : Ky (l.getD i []) := by
  have e : l.getD i [] = l[i] := by simp [List.getD, hi]
  rw [e]; exact h _ (List.getElem_mem hi)
theorem Kys.take {l : List (List Int)} (h : Kys l) (n : Nat) : Kys (l.take n) := fun k hk => h k (List.mem_of_mem_take hk)
end Go.Proofs.Ytcppihpehipelaa

namespace Go.Proofs.Ytcppihpehipelaa
open Go.RowKit
set_option linter.unusedVariables false

end Go.Proofs.Ytcppihpehipelaa

namespace Go.Proofs.Ytcppihpehipelaa
open Go.RowKit
set_option linter.unusedVariables false

/-- A version's cells. -/
def encV (V : Ver) : List Value := kc V.k ++ [.int .i64 V.t, .int .u8 V.n, .string (strOfNums V.v), .bool V.g]
def OkL (L : List Ver) : Prop := ∀ V ∈ L, VerOk V
theorem enc_len {V : Ver} (h : Ky V.k) : (encV V).length = 20 := by unfold encV; rw [List.length_append, kc_len h]; rfl
theorem OkL.len {L : List Ver} (h : OkL L) : ∀ V ∈ L, (encV V).length = 20 := fun V hV => enc_len (h V hV).key
/-- One version at a place. -/
structure VerAt (w : World) (b o : Nat) (V : Ver) : Prop where
  lies : Lies w (some ⟨b, o, none⟩) (encV V)
theorem VerAt.key {w : World} {b o : Nat} {V : Ver} (h : VerAt w b o V) (hk : Ky V.k) : KeyAt w b o V.k := by
  refine ⟨fun j hj => h.lies.at j _ ?_⟩
  have hl := hk.len
  unfold encV
  rw [List.getElem?_append_left (by rw [kc_len hk]; exact hj)]
  simp [kc, List.getD, show j < V.k.length by omega]
theorem VerAt.cells {w : World} {b o : Nat} {V : Ver} (h : VerAt w b o V) (hk : Ky V.k) : w.cell? ⟨b, o + 16, none⟩ = some (.int .i64 V.t) ∧ w.cell? ⟨b, o + 17, none⟩ = some (.int .u8 V.n) ∧ w.cell? ⟨b, o + 18, none⟩ = some (.string (strOfNums V.v)) ∧ w.cell? ⟨b, o + 19, none⟩ = some (.bool V.g) := by
  have hl := kc_len hk
  refine ⟨h.lies.at 16 _ ?_, h.lies.at 17 _ ?_, h.lies.at 18 _ ?_, h.lies.at 19 _ ?_⟩ <;> (unfold encV; rw [List.getElem?_append_right (by omega), hl]; rfl)
theorem VerAt.past {w w' : World} {b o : Nat} {V : Ver} (h : VerAt w b o V) (hb : Below w.heap.size w w') : VerAt w' b o V := ⟨h.lies.past hb⟩
end Go.Proofs.Ytcppihpehipelaa

namespace Go.Proofs.Ytcppihpehipelaa
open Go.RowKit
set_option linter.unusedVariables false

/-- One version in memory of the call's own. -/
structure VerMine (w : World) (b o : Nat) (V : Ver) : Prop where
  at_ : VerAt w b o V
  free : ∀ i, i < 20 → w.frozen? ⟨b, o + i, none⟩ = false
  key : Ky V.k
theorem VerAt.lt {w : World} {b o : Nat} {V : Ver} (h : VerAt w b o V) (hk : Ky V.k) : b < w.heap.size := cell_lt (h.cells hk).1
theorem VerMine.made (w : World) (T : TypeId) (V : Ver) (hk : Ky V.k) : VerMine (w.alloc (.cells (encV V).toArray T)) w.heap.size 0 V :=
  ⟨⟨lies_made w (encV V).toArray T⟩, fun i hi => World.frozen?_alloc_new _ _ _ _, hk⟩
theorem VerMine.past {w w' : World} {b o : Nat} {V : Ver} (h : VerMine w b o V) (hb : Below w.heap.size w w') : VerMine w' b o V :=
  ⟨h.at_.past hb, fun i hi => by rw [hb.frozen (p := ⟨b, o + i, none⟩) (h.at_.lt h.key)]; exact h.free i hi, h.key⟩
theorem VerAt.range {w : World} {b o : Nat} {V : Ver} (h : VerAt w b o V) : w.rangeAt b o (encV V) := h.lies.range
theorem VerMine.there {w : World} {b o : Nat} {V : Ver} (h : VerMine w b o V) : w.there b o 20 := fun j hj => by
  have hl := enc_len h.key
  obtain ⟨u, hu⟩ : ∃ u, (encV V)[j]? = some u := ⟨_, List.getElem?_eq_getElem (by omega)⟩
  exact ⟨by rw [h.at_.lies.at j u hu]; rfl, h.free j hj⟩
theorem VerMine.store {w : World} {b o : Nat} {V V' : Ver} (h : VerMine w b o V) (hk : Ky V'.k) : VerMine (w.setCells b o (encV V')) b o V' := by
  have ht := h.there
  rw [← enc_len hk] at ht
  exact ⟨⟨lies_of (World.rangeAt_setCells_same w b o (encV V') ht)⟩, fun i hi => by rw [World.frozen?_setCells]; exact h.free i hi, hk⟩
end Go.Proofs.Ytcppihpehipelaa

namespace Go.Proofs.Ytcppihpehipelaa
open Go.RowKit
set_option linter.unusedVariables false

/-- Keys that lie one behind the other. -/
structure KeysAt (w : World) (a : Option Addr) (l : List (List Int)) : Prop where
  lies : Lies w a (l.flatMap kc)
  kys : Kys l
  nil : a = none → l = []
theorem KeysAt.past {w w' : World} {a : Option Addr} {l : List (List Int)} (h : KeysAt w a l) (hb : Below w.heap.size w w') : KeysAt w' a l := ⟨h.lies.past hb, h.kys, h.nil⟩
theorem KeysAt.same {w w' : World} {a : Option Addr} {l : List (List Int)} (h : KeysAt w a l) (he : w'.heap = w.heap) : KeysAt w' a l :=
  ⟨fun sa hs => ⟨(h.lies sa hs).1, fun j u hj => by rw [same_heap he]; exact (h.lies sa hs).2 j u hj⟩, h.kys, h.nil⟩
/-- The key at place i. -/
theorem KeysAt.key {w : World} {a : Option Addr} {l : List (List Int)} (h : KeysAt w a l) {i : Nat} (hi : i < l.length) : ∃ b o, a = some ⟨b, o, none⟩ ∧ KeyAt w b (o + i * 16) (l.getD i []) ∧ Ky (l.getD i []) := by
  cases a with
  | none => rw [h.nil rfl] at hi; simp at hi
  | some sa =>
    obtain ⟨b, o, sp⟩ := sa
    have hs : sp = none := (h.lies _ rfl).1 (fun e => by
      have h1 := flat_len l h.kys.len
      rw [e] at h1
      simp at h1
      omega)
    subst hs
    have hk := h.kys.get hi
    have hl : Lies w (some ⟨b, o + i * 16, none⟩) (kc (l.getD i [])) := h.lies.el h.kys.len (k := i) (by simp [List.getD, hi])
    refine ⟨b, o, rfl, ⟨fun j hj => ?_⟩, hk⟩
    refine hl.at j _ ?_
    have hjl : j < (l.getD i []).length := by rw [hk.len]; exact hj
    generalize l.getD i [] = x at hjl
    unfold kc
    rw [List.getElem?_map, List.getElem?_eq_getElem hjl]
    simp [List.getD, hjl]
/-- Keys in a list that the call made itself. -/
structure KeysMine (w : World) (B : Nat) (v : Value) (l : List (List Int)) : Prop where
  own : w.ownsRow B 84 16 v l.length (l.flatMap kc)
  kys : Kys l
theorem KeysMine.past {w w' : World} {B : Nat} {v : Value} {l : List (List Int)} (h : KeysMine w B v l) (hb : Below w.heap.size w w') : KeysMine w' B v l := ⟨own_below h.own hb (Nat.le_refl _), h.kys⟩
end Go.Proofs.Ytcppihpehipelaa

