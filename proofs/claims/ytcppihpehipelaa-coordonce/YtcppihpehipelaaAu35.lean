/-
  One decision alone: what calls make of it; lists of acts at a place.
  Lists of truths, and stamps, in blocks of the call's own.
-/
import Derived.Test.YtcppihpehipelaaAu43
import Derived.Test.YtcppihpehipelaaCdActs
import Derived.Laws.MakeOwn
namespace Go.Proofs.Ytcppihpehipelaa
open Go.RowKit
set_option linter.unusedVariables false
set_option linter.unusedSimpArgs false

theorem begin_one (st sn : Int) (l : List Int) : beginC [] 5 st sn l = (1, []) ∨ (beginC [] 5 st sn l = (0, [newC 5 st sn l]) ∧ partsB l = true) := by
  unfold beginC
  split
  · exact .inl rfl
  · next h =>
    refine .inr ⟨rfl, ?_⟩
    cases e : partsB l with
    | true => rfl
    | false => exact absurd (.inr (.inr e)) h
theorem voteD_parts (d : DecC) (p : Int) (y : Bool) (t n : Int) : (voteD d p y t n).2.parts = d.parts ∧ (voteD d p y t n).2.id = d.id := by
  unfold voteD
  split
  · exact ⟨rfl, rfl⟩
  split
  · exact ⟨rfl, rfl⟩
  split
  · exact ⟨rfl, rfl⟩
  split <;> exact ⟨rfl, rfl⟩
theorem ackD_parts (d : DecC) (p : Int) : (ackD d p).2.parts = d.parts := by
  unfold ackD
  split
  · rfl
  · split <;> rfl
theorem giveD_parts (d : DecC) : (giveD d).parts = d.parts ∧ (giveD d).id = d.id := by
  unfold giveD
  split <;> exact ⟨rfl, rfl⟩
theorem vote_one {d : DecC} {id : Int} (h : d.id = id) (p : Int) (y : Bool) (t n : Int) : voteC [d] id p y t n = ((voteD d p y t n).1, [(voteD d p y t n).2]) := by
  subst h
  unfold voteC
  rw [getC_one]
  simp only
  rw [putC_one d _ (voteD_parts d p y t n).2]
theorem ack_one {d : DecC} {id : Int} (h : d.id = id) (p : Int) : ackC [d] id p = ((ackD d p).1, [(ackD d p).2]) := by
  subst h
  unfold ackC
  rw [getC_one]
  simp only
  rw [putC_one d _ (ackD_id d p)]
theorem give_one {d : DecC} {id : Int} (h : d.id = id) : giveC [d] id = ((decide ((giveD d).how = 1), 0), [giveD d]) := by
  subst h
  unfold giveC
  rw [getC_one]
  simp only
  rw [putC_one d _ (giveD_parts d).2]
/-- An act at its place: what a walk reads of it. -/
theorem DActsOf.look {w : World} {a : Option Addr} {cap : Nat} {ys : List DAct} (h : DActsOf w a cap ys) {i : Nat} (hi : i < ys.length) : ∃ y b off, ys[i]? = some y ∧ a = some ⟨b, off, none⟩ ∧ DActOk w y ∧ ∀ u, Below w.heap.size w u → DActAt u b (off + i * 16) y := by
  obtain ⟨y, hy⟩ : ∃ y, ys[i]? = some y := ⟨_, List.getElem?_eq_getElem hi⟩
  obtain ⟨b, off, e, h1, h2⟩ := h.act hy
  exact ⟨y, b, off, hy, e, h2, fun u hu => h1.past hu⟩
end Go.Proofs.Ytcppihpehipelaa

namespace Go.Proofs.Ytcppihpehipelaa
open Go.RowKit
set_option linter.unusedVariables false
set_option linter.unusedSimpArgs false

/-- Truths that lie in a block from its start, and can be set. -/
structure BoolsO (u : World) (g : Nat) (bs : List Bool) : Prop where
  row : ∃ cur : Array Value, u.heap[g]? = some (.cells cur 4 (0, 0)) ∧ bs.length ≤ cur.size ∧ ∀ (i : Nat) (z : Bool), bs[i]? = some z → cur[i]? = some (.bool z)
theorem BoolsO.kept {u u' : World} {g : Nat} {bs : List Bool} (h : BoolsO u g bs) (hb : u'.heap[g]? = u.heap[g]?) : BoolsO u' g bs := by
  obtain ⟨cur, h1, h2⟩ := h.row
  exact ⟨⟨cur, hb.trans h1, h2⟩⟩
theorem BoolsO.lt {u : World} {g : Nat} {bs : List Bool} (h : BoolsO u g bs) : g < u.heap.size := by
  obtain ⟨cur, h1, h2⟩ := h.row
  exact (Array.getElem?_eq_some_iff.1 h1).1
theorem BoolsO.at_ {u : World} {g : Nat} {bs : List Bool} (h : BoolsO u g bs) {i : Nat} {z : Bool} (hz : bs[i]? = some z) : u.cell? ⟨g, i, none⟩ = some (.bool z) := by
  obtain ⟨cur, h1, h2, h3⟩ := h.row
  exact (cell_of_row u g i cur _ _ h1).trans (h3 i z hz)
theorem BoolsO.free {u : World} {g : Nat} {bs : List Bool} (h : BoolsO u g bs) (j : Nat) : u.frozen? ⟨g, j, none⟩ = false := by
  obtain ⟨cur, h1, h2, h3⟩ := h.row
  unfold World.frozen?
  rw [h1]
  simp
theorem BoolsO.past {u u' : World} {g : Nat} {bs : List Bool} (h : BoolsO u g bs) (hb : Below u.heap.size u u') : BoolsO u' g bs := h.kept (hb.block g h.lt)
theorem BoolsO.set {u : World} {g : Nat} {bs : List Bool} (h : BoolsO u g bs) {i : Nat} (hi : i < bs.length) (v : Bool) : BoolsO (u.setCell ⟨g, i, none⟩ (.bool v)) g (bs.set i v) := by
  obtain ⟨cur, h1, h2, h3⟩ := h.row
  have hset := setCell_eq_setRow u g i cur 4 (0, 0) (.bool v) h1
  refine ⟨⟨cur.setIfInBounds i (.bool v), by rw [hset]; exact setRow_heap u g cur _ _ _ h1, by rw [List.length_set, Array.size_setIfInBounds]; exact h2, fun k z hz => ?_⟩⟩
  by_cases e : i = k
  · subst e
    rw [List.getElem?_set_self hi] at hz
    injection hz with hz
    rw [Array.getElem?_setIfInBounds_self_of_lt (by omega), hz]
  · rw [List.getElem?_set_ne e] at hz
    rw [Array.getElem?_setIfInBounds_ne e]
    exact h3 k z hz
theorem run_make_boolsC (n : Nat) (hn : n ≤ 1000000) (u : World) : (Instr.makeSlice 64 (.int .i64 (n : Int)) (.int .i64 (n : Int))).run Try.prog u = .ok (.slice (some ⟨u.heap.size, 0, none⟩) n n) (u.alloc (.cells (madeCells #[Value.bool false] n) 4)) := by
  obtain ⟨i0, hi, hz0, hz1, hz2⟩ := info_of (show (Try.prog.info? 4).map (fun i => (i.zero, i.size, i.bytes)) = some (some (.bool false), 1, 1) by kernel_rfl)
  have h := run_make (P := Try.prog) u 64 4 i0 (.bool false) Try.underlying64 hi hz0 .i64 .i64 (n : Int) (n : Int) (by omega) (by omega) (by rw [hz2]; omega) (by omega)
  rw [hz1] at h
  have e1 : ((n : Int)).toNat = n := by omega
  rw [e1, Nat.mul_one] at h
  exact h
theorem BoolsO.made (u : World) (n : Nat) : BoolsO (u.alloc (.cells (madeCells #[Value.bool false] n) 4)) u.heap.size (List.replicate n false) := by
  refine ⟨⟨madeCells #[Value.bool false] n, heap_alloc_new u _, by simp [madeCells], fun i z hz => ?_⟩⟩
  have hi : i < n := by have := (List.getElem?_eq_some_iff.1 hz).1; simpa using this
  rw [List.getElem?_replicate, if_pos hi] at hz
  injection hz with hz
  subst hz
  unfold madeCells
  simp [hi, Nat.mod_one]
/-- A stamp in a block of its own. -/
structure SBox (u : World) (g : Nat) (t n : Int) : Prop where
  c0 : u.cell? ⟨g, 0, none⟩ = some (.int .i64 t)
  c1 : u.cell? ⟨g, 1, none⟩ = some (.int .u8 n)
  free : ∀ j, u.frozen? ⟨g, j, none⟩ = false
theorem SBox.kept {u u' : World} {g : Nat} {t n : Int} (h : SBox u g t n) (hb : u'.heap[g]? = u.heap[g]?) : SBox u' g t n := ⟨(cell_kept hb 0).trans h.c0, (cell_kept hb 1).trans h.c1, fun j => (frozen_kept hb j).trans (h.free j)⟩
theorem SBox.lt {u : World} {g : Nat} {t n : Int} (h : SBox u g t n) : g < u.heap.size := cell_lt h.c0
theorem SBox.past {u u' : World} {g : Nat} {t n : Int} (h : SBox u g t n) (hb : Below u.heap.size u u') : SBox u' g t n := h.kept (hb.block g h.lt)
theorem SBox.made (u : World) (T : TypeId) (t n : Int) : SBox (u.alloc (.cells #[.int .i64 t, .int .u8 n] T)) u.heap.size t n := ⟨by rw [World.cell?_alloc_new]; rfl, by rw [World.cell?_alloc_new]; rfl, fun j => World.frozen?_alloc_new _ _ _ _⟩
theorem SBox.set {u : World} {g : Nat} {t n : Int} (h : SBox u g t n) (t' n' : Int) : SBox ((u.setCell ⟨g, 0, none⟩ (.int .i64 t')).setCell ⟨g, 1, none⟩ (.int .u8 n')) g t' n' :=
  ⟨cell_offC (World.cell?_setCell_same _ _ _ h.c0) (by decide), World.cell?_setCell_same _ _ _ (cell_offC h.c1 (by decide)), fun j => by rw [World.frozen?_setCell, World.frozen?_setCell]; exact h.free j⟩
theorem SBox.there {u : World} {g : Nat} {t n : Int} (h : SBox u g t n) : u.there g 0 2 := fun j hj => by
  have h' : j = 0 ∨ j = 1 := by omega
  rcases h' with rfl | rfl
  · exact ⟨by rw [h.c0]; rfl, h.free _⟩
  · exact ⟨by rw [h.c1]; rfl, h.free _⟩
end Go.Proofs.Ytcppihpehipelaa

