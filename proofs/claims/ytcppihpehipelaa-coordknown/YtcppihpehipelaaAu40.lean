/-
  Lists of layer 18's acts (each a number, an ID, a stamp, a list of parts, a part, a flag, a record), and lists of numbers, that came in.
  One decision alone: what calls make of it; lists of acts at a place.
  Lists of truths, and stamps, in blocks of the call's own.
-/
import Derived.Test.YtcppihpehipelaaAu47
import Derived.Test.YtcppihpehipelaaCdL2
import Derived.Laws.MakeOwn
namespace Go.Proofs.Ytcppihpehipelaa
open Go.RowKit Go.ChangeShapes Go.WideShapes Go.ChangeAt Go.Deep
set_option linter.unusedVariables false

structure DAct where
  op : Int
  id : Int
  t : Int
  n : Int
  ps : List Int
  pa : Option Addr
  pc : Nat
  part : Int
  y : Bool
  r : RcM
def encDA (y : DAct) : List Value := .int .i64 y.op :: .int .i64 y.id :: .int .i64 y.t :: .int .u8 y.n :: .slice y.pa y.ps.length y.pc :: .int .i64 y.part :: .bool y.y :: encR y.r
structure DActOk (w : World) (y : DAct) : Prop where
  op : -9223372036854775808 ≤ y.op ∧ y.op ≤ 9223372036854775807
  id : -9223372036854775808 ≤ y.id ∧ y.id ≤ 9223372036854775807
  t : -9223372036854775808 ≤ y.t ∧ y.t ≤ 9223372036854775807
  n : 0 ≤ y.n ∧ y.n ≤ 255
  ps : IntsAt w y.pa y.ps
  proom : y.ps.length ≤ y.pc
  pfew : y.ps.length ≤ maxLen
  part : -9223372036854775808 ≤ y.part ∧ y.part ≤ 9223372036854775807
  rcd : RcIn w y.r
structure DActAt (w : World) (b o : Nat) (y : DAct) : Prop where
  lies : Lies w (some ⟨b, o, none⟩) (encDA y)
theorem DActAt.past {w w' : World} {b o : Nat} {y : DAct} (h : DActAt w b o y) (hb : Below w.heap.size w w') : DActAt w' b o y := ⟨h.lies.past hb⟩
/-- Its first seven cells. -/
theorem DActAt.cells {w : World} {b o : Nat} {y : DAct} (h : DActAt w b o y) : w.cell? ⟨b, o, none⟩ = some (.int .i64 y.op) ∧ w.cell? ⟨b, o + 1, none⟩ = some (.int .i64 y.id) ∧ w.cell? ⟨b, o + 2, none⟩ = some (.int .i64 y.t) ∧ w.cell? ⟨b, o + 3, none⟩ = some (.int .u8 y.n) ∧ w.cell? ⟨b, o + 4, none⟩ = some (.slice y.pa y.ps.length y.pc) ∧ w.cell? ⟨b, o + 5, none⟩ = some (.int .i64 y.part) ∧ w.cell? ⟨b, o + 6, none⟩ = some (.bool y.y) :=
  ⟨h.lies.at 0 _ rfl, h.lies.at 1 _ rfl, h.lies.at 2 _ rfl, h.lies.at 3 _ rfl, h.lies.at 4 _ rfl, h.lies.at 5 _ rfl, h.lies.at 6 _ rfl⟩
/-- A list of acts that came in. -/
structure DActsOf (w : World) (a : Option Addr) (cap : Nat) (ys : List DAct) : Prop where
  room : ys.length ≤ cap
  cells : ys = [] ∨ ∃ b off, a = some ⟨b, off, none⟩ ∧ ∀ i y, ys[i]? = some y → DActAt w b (off + i * 16) y
  oks : ∀ y ∈ ys, DActOk w y
theorem DActsOf.act {w : World} {a : Option Addr} {cap : Nat} {ys : List DAct} (h : DActsOf w a cap ys) {i : Nat} {y : DAct} (hy : ys[i]? = some y) : ∃ b off, a = some ⟨b, off, none⟩ ∧ DActAt w b (off + i * 16) y ∧ DActOk w y := by
  rcases h.cells with rfl | ⟨b, off, e, hc⟩
  · simp at hy
  · exact ⟨b, off, e, hc i y hy, h.oks y (List.mem_of_getElem? hy)⟩
section
variable {H : Type} {enc : TypeId × Value → H} {w : World} {base : Nat} {held : Bool}
end
end Go.Proofs.Ytcppihpehipelaa

namespace Go.Proofs.Ytcppihpehipelaa
open Go.RowKit
set_option linter.unusedVariables false
set_option linter.unusedSimpArgs false

/-- An act at its place: what a walk reads of it. -/
theorem DActsOf.look {w : World} {a : Option Addr} {cap : Nat} {ys : List DAct} (h : DActsOf w a cap ys) {i : Nat} (hi : i < ys.length) : ∃ y b off, ys[i]? = some y ∧ a = some ⟨b, off, none⟩ ∧ DActOk w y ∧ ∀ u, Below w.heap.size w u → DActAt u b (off + i * 16) y := by
  obtain ⟨y, hy⟩ : ∃ y, ys[i]? = some y := ⟨_, List.getElem?_eq_getElem hi⟩
  obtain ⟨b, off, e, h1, h2⟩ := h.act hy
  exact ⟨y, b, off, hy, e, h2, fun u hu => h1.past hu⟩
end Go.Proofs.Ytcppihpehipelaa

namespace Go.Proofs.Ytcppihpehipelaa
open Go.RowKit
set_option linter.unusedVariables false
set_option linter.unusedSimpArgs false

/-- Truths that lie in a block from its start, and can be set. -/
structure BoolsO (u : World) (g : Nat) (bs : List Bool) : Prop where
  row : ∃ cur : Array Value, u.heap[g]? = some (.cells cur 4 (0, 0)) ∧ bs.length ≤ cur.size ∧ ∀ (i : Nat) (z : Bool), bs[i]? = some z → cur[i]? = some (.bool z)
theorem BoolsO.kept {u u' : World} {g : Nat} {bs : List Bool} (h : BoolsO u g bs) (hb : u'.heap[g]? = u.heap[g]?) : BoolsO u' g bs := by
  obtain ⟨cur, h1, h2⟩ := h.row
  exact ⟨⟨cur, hb.trans h1, h2⟩⟩
theorem BoolsO.lt {u : World} {g : Nat} {bs : List Bool} (h : BoolsO u g bs) : g < u.heap.size := by
  obtain ⟨cur, h1, h2⟩ := h.row
  exact (Array.getElem?_eq_some_iff.1 h1).1
theorem BoolsO.at_ {u : World} {g : Nat} {bs : List Bool} (h : BoolsO u g bs) {i : Nat} {z : Bool} (hz : bs[i]? = some z) : u.cell? ⟨g, i, none⟩ = some (.bool z) := by
  obtain ⟨cur, h1, h2, h3⟩ := h.row
  exact (cell_of_row u g i cur _ _ h1).trans (h3 i z hz)
theorem BoolsO.free {u : World} {g : Nat} {bs : List Bool} (h : BoolsO u g bs) (j : Nat) : u.frozen? ⟨g, j, none⟩ = false := by
  obtain ⟨cur, h1, h2, h3⟩ := h.row
  unfold World.frozen?
  rw [h1]
  simp
theorem BoolsO.past {u u' : World} {g : Nat} {bs : List Bool} (h : BoolsO u g bs) (hb : Below u.heap.size u u') : BoolsO u' g bs := h.kept (hb.block g h.lt)
theorem BoolsO.set {u : World} {g : Nat} {bs : List Bool} (h : BoolsO u g bs) {i : Nat} (hi : i < bs.length) (v : Bool) : BoolsO (u.setCell ⟨g, i, none⟩ (.bool v)) g (bs.set i v) := by
  obtain ⟨cur, h1, h2, h3⟩ := h.row
  have hset := setCell_eq_setRow u g i cur 4 (0, 0) (.bool v) h1
  refine ⟨⟨cur.setIfInBounds i (.bool v), by rw [hset]; exact setRow_heap u g cur _ _ _ h1, by rw [List.length_set, Array.size_setIfInBounds]; exact h2, fun k z hz => ?_⟩⟩
  by_cases e : i = k
  · subst e
    rw [List.getElem?_set_self hi] at hz
    injection hz with hz
    rw [Array.getElem?_setIfInBounds_self_of_lt (by omega), hz]
  · rw [List.getElem?_set_ne e] at hz
    rw [Array.getElem?_setIfInBounds_ne e]
    exact h3 k z hz
theorem BoolsO.made (u : World) (n : Nat) : BoolsO (u.alloc (.cells (madeCells #[Value.bool false] n) 4)) u.heap.size (List.replicate n false) := by
  refine ⟨⟨madeCells #[Value.bool false] n, heap_alloc_new u _, by simp [madeCells], fun i z hz => ?_⟩⟩
  have hi : i < n := by have := (List.getElem?_eq_some_iff.1 hz).1; simpa using this
  rw [List.getElem?_replicate, if_pos hi] at hz
  injection hz with hz
  subst hz
  unfold madeCells
  simp [hi, Nat.mod_one]
/-- A stamp in a block of its own. -/
structure SBox (u : World) (g : Nat) (t n : Int) : Prop where
  c0 : u.cell? ⟨g, 0, none⟩ = some (.int .i64 t)
  c1 : u.cell? ⟨g, 1, none⟩ = some (.int .u8 n)
  free : ∀ j, u.frozen? ⟨g, j, none⟩ = false
theorem SBox.kept {u u' : World} {g : Nat} {t n : Int} (h : SBox u g t n) (hb : u'.heap[g]? = u.heap[g]?) : SBox u' g t n := ⟨(cell_kept hb 0).trans h.c0, (cell_kept hb 1).trans h.c1, fun j => (frozen_kept hb j).trans (h.free j)⟩
theorem SBox.lt {u : World} {g : Nat} {t n : Int} (h : SBox u g t n) : g < u.heap.size := cell_lt h.c0
theorem SBox.past {u u' : World} {g : Nat} {t n : Int} (h : SBox u g t n) (hb : Below u.heap.size u u') : SBox u' g t n := h.kept (hb.block g h.lt)
theorem SBox.made (u : World) (T : TypeId) (t n : Int) : SBox (u.alloc (.cells #[.int .i64 t, .int .u8 n] T)) u.heap.size t n := ⟨by rw [World.cell?_alloc_new]; rfl, by rw [World.cell?_alloc_new]; rfl, fun j => World.frozen?_alloc_new _ _ _ _⟩
theorem SBox.set {u : World} {g : Nat} {t n : Int} (h : SBox u g t n) (t' n' : Int) : SBox ((u.setCell ⟨g, 0, none⟩ (.int .i64 t')).setCell ⟨g, 1, none⟩ (.int .u8 n')) g t' n' :=
  ⟨cell_offC (World.cell?_setCell_same _ _ _ h.c0) (by decide), World.cell?_setCell_same _ _ _ (cell_offC h.c1 (by decide)), fun j => by rw [World.frozen?_setCell, World.frozen?_setCell]; exact h.free j⟩
theorem SBox.there {u : World} {g : Nat} {t n : Int} (h : SBox u g t n) : u.there g 0 2 := fun j hj => by
  have h' : j = 0 ∨ j = 1 := by omega
  rcases h' with rfl | rfl
  · exact ⟨by rw [h.c0]; rfl, h.free _⟩
  · exact ⟨by rw [h.c1]; rfl, h.free _⟩
end Go.Proofs.Ytcppihpehipelaa

