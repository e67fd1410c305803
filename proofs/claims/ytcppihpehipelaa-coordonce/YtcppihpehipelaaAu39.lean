/-
  The document's own tables (hourglassref10: Table) in memory: entries of six cells each, each with a list of writes that lies elsewhere.
  What the document says of writes (hourglassref10: MayWrites).
  What the document says of entries (hourglassref10: GoodEntry, Writes, SameEntry).
-/
import Derived.Test.YtcppihpehipelaaAu49
import Derived.Test.YtcppihpehipelaaWrtMem
import Derived.Test.YtcppihpehipelaaFoot
import Derived.Test.YtcppihpehipelaaAu42
import Derived.Test.YtcppihpehipelaaAu45
namespace Go.Proofs.Ytcppihpehipelaa
open Go.RowKit
set_option linter.unusedVariables false

/-- An entry in memory: where its writes lie. -/
structure EntM where
  e : Ent
  a : Option Addr
  c : Nat
def encE (x : EntM) : List Value := [.int .i64 x.e.id, .int .i64 x.e.s, .int .u8 x.e.m, .int .i64 x.e.t, .int .u8 x.e.n, .slice x.a x.e.l.length x.c]
theorem encE_len (x : EntM) : (encE x).length = 6 := rfl
/-- What an entry's numbers are. -/
structure EntOk (e : Ent) : Prop where
  id : -9223372036854775808 ≤ e.id ∧ e.id ≤ 9223372036854775807
  s : -9223372036854775808 ≤ e.s ∧ e.s ≤ 9223372036854775807
  m : 0 ≤ e.m ∧ e.m ≤ 255
  t : -9223372036854775808 ≤ e.t ∧ e.t ≤ 9223372036854775807
  n : 0 ≤ e.n ∧ e.n ≤ 255
/-- Its writes. -/
structure EntW (w : World) (x : EntM) : Prop where
  wr : WrtsAt w x.a x.e.l
  room : x.e.l.length ≤ x.c
  few : x.e.l.length ≤ 1000000
  ok : EntOk x.e
theorem EntW.past {w w' : World} {x : EntM} (h : EntW w x) (hb : Below w.heap.size w w') : EntW w' x := ⟨h.wr.past hb, h.room, h.few, h.ok⟩
theorem WrtsAt.keptP {u u' : World} {a : Option Addr} {l : List Wrt} (h : WrtsAt u a l) (hk : l ≠ [] → ∀ b o, a = some ⟨b, o, none⟩ → u'.heap[b]? = u.heap[b]?) : WrtsAt u' a l := by
  refine ⟨?_, h.oks⟩
  rcases h.cells with e | ⟨b, o, e, hc⟩
  · exact .inl e
  · by_cases hl : l = []
    · exact .inl hl
    · exact .inr ⟨b, o, e, fun i W hW => ⟨lies_of fun j v hv => by rw [cell_kept (hk hl b o e)]; exact (hc i W hW).lies.at j v hv⟩⟩
theorem WrtsAt.blt {u : World} {a : Option Addr} {l : List Wrt} (h : WrtsAt u a l) (hl : l ≠ []) {b o : Nat} (e : a = some ⟨b, o, none⟩) : b < u.heap.size := by
  rcases h.cells with e2 | ⟨b2, o2, e2, hc⟩
  · exact absurd e2 hl
  · rw [e] at e2
    cases e2
    cases l with
    | nil => exact absurd rfl hl
    | cons W r => exact (hc 0 W rfl).lt (h.oks W (by simp)).key
theorem EntW.kept {u u' : World} {x : EntM} (h : EntW u x) (hk : x.e.l ≠ [] → ∀ b o, x.a = some ⟨b, o, none⟩ → u'.heap[b]? = u.heap[b]?) : EntW u' x := ⟨h.wr.keptP hk, h.room, h.few, h.ok⟩
/-- An entry at a place. -/
structure EntAt (w : World) (b o : Nat) (x : EntM) : Prop where
  lies : Lies w (some ⟨b, o, none⟩) (encE x)
theorem EntAt.past {w w' : World} {b o : Nat} {x : EntM} (h : EntAt w b o x) (hb : Below w.heap.size w w') : EntAt w' b o x := ⟨h.lies.past hb⟩
theorem EntAt.cells {w : World} {b o : Nat} {x : EntM} (h : EntAt w b o x) : w.cell? ⟨b, o, none⟩ = some (.int .i64 x.e.id) ∧ w.cell? ⟨b, o + 1, none⟩ = some (.int .i64 x.e.s) ∧ w.cell? ⟨b, o + 2, none⟩ = some (.int .u8 x.e.m) ∧ w.cell? ⟨b, o + 3, none⟩ = some (.int .i64 x.e.t) ∧ w.cell? ⟨b, o + 4, none⟩ = some (.int .u8 x.e.n) ∧ w.cell? ⟨b, o + 5, none⟩ = some (.slice x.a x.e.l.length x.c) :=
  ⟨h.lies.at 0 _ rfl, h.lies.at 1 _ rfl, h.lies.at 2 _ rfl, h.lies.at 3 _ rfl, h.lies.at 4 _ rfl, h.lies.at 5 _ rfl⟩
/-- A table in block q, all of it made by the call (at B or above); no entry's writes lie in q. -/
structure TabR (u : World) (B q : Nat) (M : List EntM) : Prop where
  lt : q < u.heap.size
  lo : B ≤ q
  list : ∃ a c, u.cell? ⟨q, 0, none⟩ = some (.slice a M.length c) ∧ u.ownsRow B 107 6 (.slice a M.length c) M.length (M.flatMap encE) ∧ (∀ k, (Value.slice a M.length c).ownBlock = some k → k ≠ q)
  free : u.frozen? ⟨q, 0, none⟩ = false
  wrs : ∀ x ∈ M, EntW u x
  far : ∀ x ∈ M, x.e.l ≠ [] → ∀ b o, x.a = some ⟨b, o, none⟩ → b ≠ q
  few : M.length ≤ 1000
theorem TabR.past {u u' : World} {B q : Nat} {M : List EntM} (h : TabR u B q M) (hb : Below u.heap.size u u') : TabR u' B q M := by
  obtain ⟨a, c, h1, h2, h3⟩ := h.list
  exact ⟨Nat.lt_of_lt_of_le h.lt hb.size, h.lo, ⟨a, c, (hb.cell (p := ⟨q, 0, none⟩) h.lt).trans h1, own_below h2 hb (Nat.le_refl _), h3⟩, (hb.frozen (p := ⟨q, 0, none⟩) h.lt).trans h.free, fun x hx => (h.wrs x hx).past hb, h.far, h.few⟩
/-- The list's cell, and each entry of it. -/
theorem TabR.open {u : World} {B q : Nat} {M : List EntM} (h : TabR u B q M) : ∃ a c, M.length ≤ c ∧ (∀ v, Below u.heap.size u v → v.cell? ⟨q, 0, none⟩ = some (.slice a M.length c)) ∧ (M = [] ∨ ∃ g, a = some ⟨g, 0, none⟩ ∧ ∀ v, Below u.heap.size u v → ∀ i x, M[i]? = some x → EntAt v g (i * 6) x) := by
  obtain ⟨a, c, h1, h2, h3⟩ := h.list
  refine ⟨a, c, ?_, fun v hb => (hb.cell (p := ⟨q, 0, none⟩) h.lt).trans h1, ?_⟩
  · rcases h2.2 with ⟨e1, e2⟩ | ⟨g, cap, cur, e1, _, _, e5, _⟩
    · omega
    · cases e1; exact e5
  · rcases h2.2 with ⟨e1, e2⟩ | ⟨g, cap, cur, e1, hg, hh, e5, _⟩
    · exact .inl (List.eq_nil_of_length_eq_zero e2)
    · cases e1
      refine .inr ⟨g, rfl, fun v hb i x hx => ⟨?_⟩⟩
      have hl : Lies u (some ⟨g, 0, none⟩) (M.flatMap encE) := own_lies h2
      have := (hl.el (size := 6) (fun y _ => encE_len y) hx).past hb
      rwa [Nat.zero_add] at this
end Go.Proofs.Ytcppihpehipelaa

namespace Go.Proofs.Ytcppihpehipelaa
open Go.RowKit
set_option linter.unusedVariables false

/-- May a write be, by itself? -/
def fitW (W : Wrt) : Bool := goodK W.k && decide (W.v.length ≤ 200) && (!W.g || decide (W.v = []))
/-- What MayWrites' rounds hold of the first writes. -/
def Fits (l : List Wrt) (i : Nat) : Prop := (∀ W ∈ l.take i, fitW W = true) ∧ (l.take i).Pairwise (fun A B => A.k ≠ B.k)
theorem Fits.next {l : List Wrt} {i : Nat} {W : Wrt} (h : Fits l i) (hW : l[i]? = some W) (hf : fitW W = true) (hne : ∀ j A, j < i → l[j]? = some A → A.k ≠ W.k) : Fits l (i + 1) := by
  have e : l.take (i + 1) = l.take i ++ [W] := by rw [List.take_add_one, hW]; rfl
  unfold Fits
  rw [e]
  refine ⟨fun V hV => ?_, List.pairwise_append.2 ⟨h.2, by simp, fun A hA B hB => ?_⟩⟩
  · rcases List.mem_append.1 hV with x | x
    · exact h.1 V x
    · simp at x; rw [x]; exact hf
  · simp at hB
    subst hB
    obtain ⟨j, hj, rfl⟩ := List.mem_iff_getElem.1 hA
    rw [List.length_take] at hj
    rw [List.getElem_take]
    exact hne j _ (by omega) (List.getElem?_eq_getElem (by omega))
end Go.Proofs.Ytcppihpehipelaa

namespace Go.Proofs.Ytcppihpehipelaa
open Go.RowKit
set_option linter.unusedVariables false

/-- An entry's cells in a box. -/
structure EBox (u : World) (b : Nat) (id s m t n : Int) (a : Option Addr) (N c : Nat) : Prop where
  c0 : u.cell? ⟨b, 0, none⟩ = some (.int .i64 id)
  c1 : u.cell? ⟨b, 1, none⟩ = some (.int .i64 s)
  c2 : u.cell? ⟨b, 2, none⟩ = some (.int .u8 m)
  c3 : u.cell? ⟨b, 3, none⟩ = some (.int .i64 t)
  c4 : u.cell? ⟨b, 4, none⟩ = some (.int .u8 n)
  c5 : u.cell? ⟨b, 5, none⟩ = some (.slice a N c)
theorem EBox.made (w : World) (T : TypeId) (id s m t n : Int) (a : Option Addr) (N c : Nat) : EBox (w.alloc (.cells #[.int .i64 id, .int .i64 s, .int .u8 m, .int .i64 t, .int .u8 n, .slice a N c] T)) w.heap.size id s m t n a N c := by
  refine ⟨?_, ?_, ?_, ?_, ?_, ?_⟩ <;> (rw [World.cell?_alloc_new]; rfl)
theorem EBox.past {u u' : World} {b : Nat} {id s m t n : Int} {a : Option Addr} {N c : Nat} (h : EBox u b id s m t n a N c) (hb : Below u.heap.size u u') : EBox u' b id s m t n a N c :=
  have hl := cell_lt h.c0
  ⟨(hb.cell (p := ⟨b, 0, none⟩) hl).trans h.c0, (hb.cell (p := ⟨b, 1, none⟩) hl).trans h.c1, (hb.cell (p := ⟨b, 2, none⟩) hl).trans h.c2, (hb.cell (p := ⟨b, 3, none⟩) hl).trans h.c3, (hb.cell (p := ⟨b, 4, none⟩) hl).trans h.c4, (hb.cell (p := ⟨b, 5, none⟩) hl).trans h.c5⟩
theorem encW_parts {x : Wrt} (h : Ky x.k) : (encW x).take 16 = x.k.map (Value.int .u8) ∧ (encW x)[16]? = some (.string (strOfNums x.v)) ∧ (encW x)[17]? = some (.bool x.g) := by
  have hl := kc_len h
  unfold encW
  refine ⟨?_, ?_, ?_⟩
  · rw [List.take_append_of_le_length (by omega), List.take_of_length_le (by omega)]; rfl
  · rw [List.getElem?_append_right (by omega), hl]; rfl
  · rw [List.getElem?_append_right (by omega), hl]; rfl
theorem eq_key9w (w : World) (a b : List Int) (ha : Ky a) (hb : Ky b) : (Op.equalIn 9999 84 (.agg (a.map (Value.int .u8)).toArray) (.agg (b.map (Value.int .u8)).toArray)).run Try.prog w = .ok (decide (a = b)) w := by
  obtain ⟨i, hi⟩ := key_parts
  rw [run_equalIn_array w 9998 _ _ Try.underlying84 hi, List.range_eq_range', eq_items Try.underlying5 (by kernel_rfl) 9997 w a b 16 0 (by rw [ha.len]) (by rw [hb.len])]
  by_cases h : a = b <;> simp [h]
theorem info_wrtl (W : Wrt) (h : Ky W.k) : (Try.prog.info? 86).map (·.size) = some (encW W).length := by rw [info_wrt, encW_len h]
end Go.Proofs.Ytcppihpehipelaa

