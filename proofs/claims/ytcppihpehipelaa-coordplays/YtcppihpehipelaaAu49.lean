/-
  Writes (a key, a value, whether it is gone) and items (a key, a value) in memory: loaded and stored whole, lists of them.
  The document's own tables (hourglassref10: Table) in memory: entries of six cells each, each with a list of writes that lies elsewhere.
-/
import Derived.Test.YtcppihpehipelaaAu56
import Derived.Test.YtcppihpehipelaaAu53
import Derived.Test.YtcppihpehipelaaFoot
namespace Go.Proofs.Ytcppihpehipelaa
open Go.RowKit
set_option linter.unusedVariables false

/-- A write's cells. -/
def encW (W : Wrt) : List Value := kc W.k ++ [.string (strOfNums W.v), .bool W.g]
abbrev wv (W : Wrt) : Value := .agg (encW W).toArray
structure WrtOk (W : Wrt) : Prop where
  key : Ky W.k
  val : ∀ z ∈ W.v, 0 ≤ z ∧ z ≤ 255
  few : W.v.length ≤ maxLen
theorem encW_len {W : Wrt} (h : Ky W.k) : (encW W).length = 18 := by unfold encW; rw [List.length_append, kc_len h]; rfl
theorem encW_one (W : Wrt) : ∀ u ∈ encW W, u.oneCell' = true := by
  intro u hu
  unfold encW at hu
  rcases List.mem_append.1 hu with e | e
  · exact ints_oneCell _ _ u e
  · simp at e
    rcases e with rfl | rfl <;> rfl
theorem encW_all (W : Wrt) : (encW W).toArray.all (·.oneCell') = true := all_oneCell_toArray (encW_one W)
structure WrtAt (w : World) (b o : Nat) (W : Wrt) : Prop where
  lies : Lies w (some ⟨b, o, none⟩) (encW W)
theorem WrtAt.key {w : World} {b o : Nat} {W : Wrt} (h : WrtAt w b o W) (hk : Ky W.k) : KeyAt w b o W.k := by
  refine ⟨fun j hj => h.lies.at j _ ?_⟩
  have hl := hk.len
  unfold encW
  rw [List.getElem?_append_left (by rw [kc_len hk]; exact hj)]
  simp [kc, List.getD, show j < W.k.length by omega]
theorem WrtAt.cells {w : World} {b o : Nat} {W : Wrt} (h : WrtAt w b o W) (hk : Ky W.k) : w.cell? ⟨b, o + 16, none⟩ = some (.string (strOfNums W.v)) ∧ w.cell? ⟨b, o + 17, none⟩ = some (.bool W.g) := by
  have hl := kc_len hk
  refine ⟨h.lies.at 16 _ ?_, h.lies.at 17 _ ?_⟩ <;> (unfold encW; rw [List.getElem?_append_right (by omega), hl]; rfl)
theorem WrtAt.past {w w' : World} {b o : Nat} {W : Wrt} (h : WrtAt w b o W) (hb : Below w.heap.size w w') : WrtAt w' b o W := ⟨h.lies.past hb⟩
theorem WrtAt.lt {w : World} {b o : Nat} {W : Wrt} (h : WrtAt w b o W) (hk : Ky W.k) : b < w.heap.size := cell_lt (h.cells hk).1
theorem info_wrt : (Try.prog.info? 86).map (·.size) = some 18 := by kernel_rfl
/-- One write in memory of the call's own. -/
structure WrtMine (w : World) (b o : Nat) (W : Wrt) : Prop where
  at_ : WrtAt w b o W
  free : ∀ i, i < 18 → w.frozen? ⟨b, o + i, none⟩ = false
  key : Ky W.k
theorem WrtMine.made (w : World) (T : TypeId) (W : Wrt) (hk : Ky W.k) : WrtMine (w.alloc (.cells (encW W).toArray T)) w.heap.size 0 W :=
  ⟨⟨lies_made w (encW W).toArray T⟩, fun i hi => World.frozen?_alloc_new _ _ _ _, hk⟩
theorem WrtMine.past {w w' : World} {b o : Nat} {W : Wrt} (h : WrtMine w b o W) (hb : Below w.heap.size w w') : WrtMine w' b o W :=
  ⟨h.at_.past hb, fun i hi => by rw [hb.frozen (p := ⟨b, o + i, none⟩) (h.at_.lt h.key)]; exact h.free i hi, h.key⟩
theorem WrtAt.range {w : World} {b o : Nat} {W : Wrt} (h : WrtAt w b o W) : w.rangeAt b o (encW W) := h.lies.range
theorem WrtMine.there {w : World} {b o : Nat} {W : Wrt} (h : WrtMine w b o W) : w.there b o 18 := fun j hj => by
  have hl := encW_len h.key
  obtain ⟨u, hu⟩ : ∃ u, (encW W)[j]? = some u := ⟨_, List.getElem?_eq_getElem (by omega)⟩
  exact ⟨by rw [h.at_.lies.at j u hu]; rfl, h.free j hj⟩
theorem WrtMine.store {w : World} {b o : Nat} {W W' : Wrt} (h : WrtMine w b o W) (hk : Ky W'.k) : WrtMine (w.setCells b o (encW W')) b o W' := by
  have ht := h.there
  rw [← encW_len hk] at ht
  exact ⟨⟨lies_of (World.rangeAt_setCells_same w b o (encW W') ht)⟩, fun i hi => by rw [World.frozen?_setCells]; exact h.free i hi, hk⟩
theorem wpList_load_wrt (d : Tmp) {ops : Array Oper} {rest : List Oper} {op : Oper} {a : Act} {w : World} {Q : Exit → Act → World → Prop} (hd : op.dst = some d) (hw : Region.wanted op (yielded ops a.tmps) = true) (x : Operand) (ho : op.op = .load 86 x)
    (b o : Nat) (hx : a.eval x = .pointer (some ⟨b, o, none⟩)) (W : Wrt) (hk : Ky W.k) (hat : WrtAt w b o W)
    (h : wpList Try.prog ops Q rest (a.put op.dst (wv W)) w) : wpList Try.prog ops Q (op :: rest) a w :=
  wpList_step fun K hK => by
    rw [if_pos hw]
    exact wp_load_mid 86 x ho b o hx (encW W) _ hat.range Try.underlying86 rfl (by rw [info_wrt, encW_len hk]) (hK _ _ h)
theorem wpList_store_wrt (d : Operand) {ops : Array Oper} {rest : List Oper} {op : Oper} {a : Act} {w : World} {Q : Exit → Act → World → Prop} (hgd : op.guard = none) (y : Operand) (ho : op.op = .store 86 d y)
    (b o : Nat) (W W' : Wrt) (hx : a.eval d = .pointer (some ⟨b, o, none⟩)) (hy : a.eval y = wv W') (hk : Ky W'.k) (hat : WrtMine w b o W)
    (h : ∀ u, u = w.setCells b o (encW W') → wpList Try.prog ops Q rest (a.put op.dst undef) u) : wpList Try.prog ops Q (op :: rest) a w := by
  have hl : (encW W').toArray.size = 18 := by simp [encW_len hk]
  refine wpList_store_mid hgd 86 d y ho b o (encW W').toArray hx hy (by rw [hl]; exact hat.there) (by rw [info_wrt, hl]) (encW_all W') ?_
  exact h _ rfl
def zeroW : Wrt := ⟨zeroK, [], false⟩
theorem zeroW_ky : Ky zeroW.k := zeroK_ky
theorem zeroW_cells : (encW zeroW).toArray = #[.int .u8 0, .int .u8 0, .int .u8 0, .int .u8 0, .int .u8 0, .int .u8 0, .int .u8 0, .int .u8 0, .int .u8 0, .int .u8 0, .int .u8 0, .int .u8 0, .int .u8 0, .int .u8 0, .int .u8 0, .int .u8 0, .string ⟨#[]⟩, .bool false] := rfl
/-- A new block that a write is laid into. -/
theorem laid_wrt (w : World) (T : TypeId) {W : Wrt} (hk : Ky W.k) : WrtMine ((w.alloc (.cells (encW zeroW).toArray T)).setCells w.heap.size 0 (encW W)) w.heap.size 0 W ∧ Below w.heap.size w ((w.alloc (.cells (encW zeroW).toArray T)).setCells w.heap.size 0 (encW W)) ∧ ((w.alloc (.cells (encW zeroW).toArray T)).setCells w.heap.size 0 (encW W)).heap.size = w.heap.size + 1 :=
  ⟨(WrtMine.made w T zeroW zeroW_ky).store hk, below_cells (Nat.le_refl _) ((Below.refl _ _).alloc (Nat.le_refl _) _), by rw [size_cells]; simp⟩
/-- Writes that lie one behind the other. -/
structure WrtsAt (w : World) (a : Option Addr) (l : List Wrt) : Prop where
  cells : l = [] ∨ ∃ b o, a = some ⟨b, o, none⟩ ∧ ∀ i W, l[i]? = some W → WrtAt w b (o + i * 18) W
  oks : ∀ W ∈ l, WrtOk W
theorem WrtsAt.past {w w' : World} {a : Option Addr} {l : List Wrt} (h : WrtsAt w a l) (hb : Below w.heap.size w w') : WrtsAt w' a l :=
  ⟨h.cells.imp id (fun ⟨b, o, e, hc⟩ => ⟨b, o, e, fun i W hW => (hc i W hW).past hb⟩), h.oks⟩
theorem WrtsAt.wrt {w : World} {a : Option Addr} {l : List Wrt} (h : WrtsAt w a l) {i : Nat} {W : Wrt} (hW : l[i]? = some W) : ∃ b o, a = some ⟨b, o, none⟩ ∧ WrtAt w b (o + i * 18) W ∧ WrtOk W := by
  rcases h.cells with rfl | ⟨b, o, e, hc⟩
  · simp at hW
  · exact ⟨b, o, e, hc i W hW, h.oks W (List.mem_of_getElem? hW)⟩
/-- An item's cells. -/
abbrev Itm := List Int × List Int
def encI (x : Itm) : List Value := kc x.1 ++ [.string (strOfNums x.2)]
abbrev iv (x : Itm) : Value := .agg (encI x).toArray
structure ItmOk (x : Itm) : Prop where
  key : Ky x.1
  val : ∀ z ∈ x.2, 0 ≤ z ∧ z ≤ 255
  few : x.2.length ≤ 1000000
structure ItmAt (w : World) (b o : Nat) (x : Itm) : Prop where
  lies : Lies w (some ⟨b, o, none⟩) (encI x)
theorem ItmAt.key {w : World} {b o : Nat} {x : Itm} (h : ItmAt w b o x) (hk : Ky x.1) : KeyAt w b o x.1 := by
  refine ⟨fun j hj => h.lies.at j _ ?_⟩
  have hl := hk.len
  unfold encI
  rw [List.getElem?_append_left (by rw [kc_len hk]; exact hj)]
  simp [kc, List.getD, show j < x.1.length by omega]
theorem ItmAt.cell {w : World} {b o : Nat} {x : Itm} (h : ItmAt w b o x) (hk : Ky x.1) : w.cell? ⟨b, o + 16, none⟩ = some (.string (strOfNums x.2)) := by
  have hl := kc_len hk
  refine h.lies.at 16 _ ?_
  unfold encI; rw [List.getElem?_append_right (by omega), hl]; rfl
theorem ItmAt.past {w w' : World} {b o : Nat} {x : Itm} (h : ItmAt w b o x) (hb : Below w.heap.size w w') : ItmAt w' b o x := ⟨h.lies.past hb⟩
/-- Items that lie one behind the other. -/
structure ItmsAt (w : World) (a : Option Addr) (l : List Itm) : Prop where
  cells : l = [] ∨ ∃ b o, a = some ⟨b, o, none⟩ ∧ ∀ i x, l[i]? = some x → ItmAt w b (o + i * 17) x
  oks : ∀ x ∈ l, ItmOk x
theorem ItmsAt.past {w w' : World} {a : Option Addr} {l : List Itm} (h : ItmsAt w a l) (hb : Below w.heap.size w w') : ItmsAt w' a l :=
  ⟨h.cells.imp id (fun ⟨b, o, e, hc⟩ => ⟨b, o, e, fun i x hx => (hc i x hx).past hb⟩), h.oks⟩
end Go.Proofs.Ytcppihpehipelaa

namespace Go.Proofs.Ytcppihpehipelaa
open Go.RowKit
set_option linter.unusedVariables false

/-- An entry in memory: where its writes lie. -/
structure EntM where
  e : Ent
  a : Option Addr
  c : Nat
def encE (x : EntM) : List Value := [.int .i64 x.e.id, .int .i64 x.e.s, .int .u8 x.e.m, .int .i64 x.e.t, .int .u8 x.e.n, .slice x.a x.e.l.length x.c]
abbrev ev (x : EntM) : Value := .agg (encE x).toArray
theorem encE_len (x : EntM) : (encE x).length = 6 := rfl
/-- What an entry's numbers are. -/
structure EntOk (e : Ent) : Prop where
  id : -9223372036854775808 ≤ e.id ∧ e.id ≤ 9223372036854775807
  s : -9223372036854775808 ≤ e.s ∧ e.s ≤ 9223372036854775807
  m : 0 ≤ e.m ∧ e.m ≤ 255
  t : -9223372036854775808 ≤ e.t ∧ e.t ≤ 9223372036854775807
  n : 0 ≤ e.n ∧ e.n ≤ 255
/-- Its writes. -/
structure EntW (w : World) (x : EntM) : Prop where
  wr : WrtsAt w x.a x.e.l
  room : x.e.l.length ≤ x.c
  few : x.e.l.length ≤ 1000000
  ok : EntOk x.e
theorem EntW.past {w w' : World} {x : EntM} (h : EntW w x) (hb : Below w.heap.size w w') : EntW w' x := ⟨h.wr.past hb, h.room, h.few, h.ok⟩
theorem WrtsAt.keptP {u u' : World} {a : Option Addr} {l : List Wrt} (h : WrtsAt u a l) (hk : l ≠ [] → ∀ b o, a = some ⟨b, o, none⟩ → u'.heap[b]? = u.heap[b]?) : WrtsAt u' a l := by
  refine ⟨?_, h.oks⟩
  rcases h.cells with e | ⟨b, o, e, hc⟩
  · exact .inl e
  · by_cases hl : l = []
    · exact .inl hl
    · exact .inr ⟨b, o, e, fun i W hW => ⟨lies_of fun j v hv => by rw [cell_kept (hk hl b o e)]; exact (hc i W hW).lies.at j v hv⟩⟩
theorem WrtsAt.blt {u : World} {a : Option Addr} {l : List Wrt} (h : WrtsAt u a l) (hl : l ≠ []) {b o : Nat} (e : a = some ⟨b, o, none⟩) : b < u.heap.size := by
  rcases h.cells with e2 | ⟨b2, o2, e2, hc⟩
  · exact absurd e2 hl
  · rw [e] at e2
    cases e2
    cases l with
    | nil => exact absurd rfl hl
    | cons W r => exact (hc 0 W rfl).lt (h.oks W (by simp)).key
theorem EntW.kept {u u' : World} {x : EntM} (h : EntW u x) (hk : x.e.l ≠ [] → ∀ b o, x.a = some ⟨b, o, none⟩ → u'.heap[b]? = u.heap[b]?) : EntW u' x := ⟨h.wr.keptP hk, h.room, h.few, h.ok⟩
/-- An entry at a place. -/
structure EntAt (w : World) (b o : Nat) (x : EntM) : Prop where
  lies : Lies w (some ⟨b, o, none⟩) (encE x)
theorem EntAt.past {w w' : World} {b o : Nat} {x : EntM} (h : EntAt w b o x) (hb : Below w.heap.size w w') : EntAt w' b o x := ⟨h.lies.past hb⟩
theorem EntAt.cells {w : World} {b o : Nat} {x : EntM} (h : EntAt w b o x) : w.cell? ⟨b, o, none⟩ = some (.int .i64 x.e.id) ∧ w.cell? ⟨b, o + 1, none⟩ = some (.int .i64 x.e.s) ∧ w.cell? ⟨b, o + 2, none⟩ = some (.int .u8 x.e.m) ∧ w.cell? ⟨b, o + 3, none⟩ = some (.int .i64 x.e.t) ∧ w.cell? ⟨b, o + 4, none⟩ = some (.int .u8 x.e.n) ∧ w.cell? ⟨b, o + 5, none⟩ = some (.slice x.a x.e.l.length x.c) :=
  ⟨h.lies.at 0 _ rfl, h.lies.at 1 _ rfl, h.lies.at 2 _ rfl, h.lies.at 3 _ rfl, h.lies.at 4 _ rfl, h.lies.at 5 _ rfl⟩
/-- A table in block q, all of it made by the call (at B or above); no entry's writes lie in q. -/
structure TabR (u : World) (B q : Nat) (M : List EntM) : Prop where
  lt : q < u.heap.size
  lo : B ≤ q
  list : ∃ a c, u.cell? ⟨q, 0, none⟩ = some (.slice a M.length c) ∧ u.ownsRow B 107 6 (.slice a M.length c) M.length (M.flatMap encE) ∧ (∀ k, (Value.slice a M.length c).ownBlock = some k → k ≠ q)
  free : u.frozen? ⟨q, 0, none⟩ = false
  wrs : ∀ x ∈ M, EntW u x
  far : ∀ x ∈ M, x.e.l ≠ [] → ∀ b o, x.a = some ⟨b, o, none⟩ → b ≠ q
  few : M.length ≤ 1000
theorem TabR.past {u u' : World} {B q : Nat} {M : List EntM} (h : TabR u B q M) (hb : Below u.heap.size u u') : TabR u' B q M := by
  obtain ⟨a, c, h1, h2, h3⟩ := h.list
  exact ⟨Nat.lt_of_lt_of_le h.lt hb.size, h.lo, ⟨a, c, (hb.cell (p := ⟨q, 0, none⟩) h.lt).trans h1, own_below h2 hb (Nat.le_refl _), h3⟩, (hb.frozen (p := ⟨q, 0, none⟩) h.lt).trans h.free, fun x hx => (h.wrs x hx).past hb, h.far, h.few⟩
/-- The list's cell, and each entry of it. -/
theorem TabR.open {u : World} {B q : Nat} {M : List EntM} (h : TabR u B q M) : ∃ a c, M.length ≤ c ∧ (∀ v, Below u.heap.size u v → v.cell? ⟨q, 0, none⟩ = some (.slice a M.length c)) ∧ (M = [] ∨ ∃ g, a = some ⟨g, 0, none⟩ ∧ ∀ v, Below u.heap.size u v → ∀ i x, M[i]? = some x → EntAt v g (i * 6) x) := by
  obtain ⟨a, c, h1, h2, h3⟩ := h.list
  refine ⟨a, c, ?_, fun v hb => (hb.cell (p := ⟨q, 0, none⟩) h.lt).trans h1, ?_⟩
  · rcases h2.2 with ⟨e1, e2⟩ | ⟨g, cap, cur, e1, _, _, e5, _⟩
    · omega
    · cases e1; exact e5
  · rcases h2.2 with ⟨e1, e2⟩ | ⟨g, cap, cur, e1, hg, hh, e5, _⟩
    · exact .inl (List.eq_nil_of_length_eq_zero e2)
    · cases e1
      refine .inr ⟨g, rfl, fun v hb i x hx => ⟨?_⟩⟩
      have hl : Lies u (some ⟨g, 0, none⟩) (M.flatMap encE) := own_lies h2
      have := (hl.el (size := 6) (fun y _ => encE_len y) hx).past hb
      rwa [Nat.zero_add] at this
end Go.Proofs.Ytcppihpehipelaa

