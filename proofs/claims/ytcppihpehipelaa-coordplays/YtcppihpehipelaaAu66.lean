/-
  One decision alone: what calls make of it; lists of acts at a place.
  Lists of truths, and stamps, in blocks of the call's own.
  For CoordOnce: a Coord beside the law's own list of truths and stamps; where a part stands.
  The document's own table of decisions (chapter 18) in memory, all of it the call's own: what a store into it leaves. No function of the program is named here.
-/
import Derived.Test.YtcppihpehipelaaAu58
import Derived.Test.YtcppihpehipelaaAu64
import Derived.Laws.MakeOwn
import Derived.Test.YtcppihpehipelaaAu41
import Derived.Test.YtcppihpehipelaaAu63
namespace Go.Proofs.Ytcppihpehipelaa
open Go.RowKit
set_option linter.unusedVariables false
set_option linter.unusedSimpArgs false

/-- An act at its place: what a walk reads of it. -/
theorem DActsOf.look {w : World} {a : Option Addr} {cap : Nat} {ys : List DAct} (h : DActsOf w a cap ys) {i : Nat} (hi : i < ys.length) : ∃ y b off, ys[i]? = some y ∧ a = some ⟨b, off, none⟩ ∧ DActOk w y ∧ ∀ u, Below w.heap.size w u → DActAt u b (off + i * 16) y := by
  obtain ⟨y, hy⟩ : ∃ y, ys[i]? = some y := ⟨_, List.getElem?_eq_getElem hi⟩
  obtain ⟨b, off, e, h1, h2⟩ := h.act hy
  exact ⟨y, b, off, hy, e, h2, fun u hu => h1.past hu⟩
end Go.Proofs.Ytcppihpehipelaa

namespace Go.Proofs.Ytcppihpehipelaa
open Go.RowKit
set_option linter.unusedVariables false
set_option linter.unusedSimpArgs false

/-- Truths that lie in a block from its start, and can be set. -/
structure BoolsO (u : World) (g : Nat) (bs : List Bool) : Prop where
  row : ∃ cur : Array Value, u.heap[g]? = some (.cells cur 4 (0, 0)) ∧ bs.length ≤ cur.size ∧ ∀ (i : Nat) (z : Bool), bs[i]? = some z → cur[i]? = some (.bool z)
theorem BoolsO.kept {u u' : World} {g : Nat} {bs : List Bool} (h : BoolsO u g bs) (hb : u'.heap[g]? = u.heap[g]?) : BoolsO u' g bs := by
  obtain ⟨cur, h1, h2⟩ := h.row
  exact ⟨⟨cur, hb.trans h1, h2⟩⟩
theorem BoolsO.lt {u : World} {g : Nat} {bs : List Bool} (h : BoolsO u g bs) : g < u.heap.size := by
  obtain ⟨cur, h1, h2⟩ := h.row
  exact (Array.getElem?_eq_some_iff.1 h1).1
theorem BoolsO.at_ {u : World} {g : Nat} {bs : List Bool} (h : BoolsO u g bs) {i : Nat} {z : Bool} (hz : bs[i]? = some z) : u.cell? ⟨g, i, none⟩ = some (.bool z) := by
  obtain ⟨cur, h1, h2, h3⟩ := h.row
  exact (cell_of_row u g i cur _ _ h1).trans (h3 i z hz)
theorem BoolsO.free {u : World} {g : Nat} {bs : List Bool} (h : BoolsO u g bs) (j : Nat) : u.frozen? ⟨g, j, none⟩ = false := by
  obtain ⟨cur, h1, h2, h3⟩ := h.row
  unfold World.frozen?
  rw [h1]
  simp
theorem BoolsO.past {u u' : World} {g : Nat} {bs : List Bool} (h : BoolsO u g bs) (hb : Below u.heap.size u u') : BoolsO u' g bs := h.kept (hb.block g h.lt)
theorem BoolsO.set {u : World} {g : Nat} {bs : List Bool} (h : BoolsO u g bs) {i : Nat} (hi : i < bs.length) (v : Bool) : BoolsO (u.setCell ⟨g, i, none⟩ (.bool v)) g (bs.set i v) := by
  obtain ⟨cur, h1, h2, h3⟩ := h.row
  have hset := setCell_eq_setRow u g i cur 4 (0, 0) (.bool v) h1
  refine ⟨⟨cur.setIfInBounds i (.bool v), by rw [hset]; exact setRow_heap u g cur _ _ _ h1, by rw [List.length_set, Array.size_setIfInBounds]; exact h2, fun k z hz => ?_⟩⟩
  by_cases e : i = k
  · subst e
    rw [List.getElem?_set_self hi] at hz
    injection hz with hz
    rw [Array.getElem?_setIfInBounds_self_of_lt (by omega), hz]
  · rw [List.getElem?_set_ne e] at hz
    rw [Array.getElem?_setIfInBounds_ne e]
    exact h3 k z hz
theorem run_make_boolsC (n : Nat) (hn : n ≤ 1000000) (u : World) : (Instr.makeSlice 64 (.int .i64 (n : Int)) (.int .i64 (n : Int))).run Try.prog u = .ok (.slice (some ⟨u.heap.size, 0, none⟩) n n) (u.alloc (.cells (madeCells #[Value.bool false] n) 4)) := by
  obtain ⟨i0, hi, hz0, hz1, hz2⟩ := info_of (show (Try.prog.info? 4).map (fun i => (i.zero, i.size, i.bytes)) = some (some (.bool false), 1, 1) by kernel_rfl)
  have h := run_make (P := Try.prog) u 64 4 i0 (.bool false) Try.underlying64 hi hz0 .i64 .i64 (n : Int) (n : Int) (by omega) (by omega) (by rw [hz2]; omega) (by omega)
  rw [hz1] at h
  have e1 : ((n : Int)).toNat = n := by omega
  rw [e1, Nat.mul_one] at h
  exact h
theorem BoolsO.made (u : World) (n : Nat) : BoolsO (u.alloc (.cells (madeCells #[Value.bool false] n) 4)) u.heap.size (List.replicate n false) := by
  refine ⟨⟨madeCells #[Value.bool false] n, heap_alloc_new u _, by simp [madeCells], fun i z hz => ?_⟩⟩
  have hi : i < n := by have := (List.getElem?_eq_some_iff.1 hz).1; simpa using this
  rw [List.getElem?_replicate, if_pos hi] at hz
  injection hz with hz
  subst hz
  unfold madeCells
  simp [hi, Nat.mod_one]
/-- A stamp in a block of its own. -/
structure SBox (u : World) (g : Nat) (t n : Int) : Prop where
  c0 : u.cell? ⟨g, 0, none⟩ = some (.int .i64 t)
  c1 : u.cell? ⟨g, 1, none⟩ = some (.int .u8 n)
  free : ∀ j, u.frozen? ⟨g, j, none⟩ = false
theorem SBox.kept {u u' : World} {g : Nat} {t n : Int} (h : SBox u g t n) (hb : u'.heap[g]? = u.heap[g]?) : SBox u' g t n := ⟨(cell_kept hb 0).trans h.c0, (cell_kept hb 1).trans h.c1, fun j => (frozen_kept hb j).trans (h.free j)⟩
theorem SBox.lt {u : World} {g : Nat} {t n : Int} (h : SBox u g t n) : g < u.heap.size := cell_lt h.c0
theorem SBox.past {u u' : World} {g : Nat} {t n : Int} (h : SBox u g t n) (hb : Below u.heap.size u u') : SBox u' g t n := h.kept (hb.block g h.lt)
theorem SBox.made (u : World) (T : TypeId) (t n : Int) : SBox (u.alloc (.cells #[.int .i64 t, .int .u8 n] T)) u.heap.size t n := ⟨by rw [World.cell?_alloc_new]; rfl, by rw [World.cell?_alloc_new]; rfl, fun j => World.frozen?_alloc_new _ _ _ _⟩
theorem SBox.set {u : World} {g : Nat} {t n : Int} (h : SBox u g t n) (t' n' : Int) : SBox ((u.setCell ⟨g, 0, none⟩ (.int .i64 t')).setCell ⟨g, 1, none⟩ (.int .u8 n')) g t' n' :=
  ⟨cell_offC (World.cell?_setCell_same _ _ _ h.c0) (by decide), World.cell?_setCell_same _ _ _ (cell_offC h.c1 (by decide)), fun j => by rw [World.frozen?_setCell, World.frozen?_setCell]; exact h.free j⟩
theorem SBox.there {u : World} {g : Nat} {t n : Int} (h : SBox u g t n) : u.there g 0 2 := fun j hj => by
  have h' : j = 0 ∨ j = 1 := by omega
  rcases h' with rfl | rfl
  · exact ⟨by rw [h.c0]; rfl, h.free _⟩
  · exact ⟨by rw [h.c1]; rfl, h.free _⟩
end Go.Proofs.Ytcppihpehipelaa

namespace Go.Proofs.Ytcppihpehipelaa
open Go.RowKit
set_option linter.unusedVariables false
set_option linter.unusedSimpArgs false

/-- An Ack turns nothing that the law looks at. -/
theorem OnceC.acked {d : DecC} {st sn mt mn wt wn : Int} {ys : List Bool} {kn co : Bool} (h : OnceC d st sn ys kn co mt mn wt wn) (p : Int) : OnceC (ackD d p).2 st sn ys kn co mt mn wt wn := by
  unfold ackD
  split
  · exact h
  · split
    · exact h
    · exact ⟨h.snap, h.ys, h.kn, h.co, h.told, h.zero, h.most, h.open_, h.no, h.above, h.one, h.ways⟩
theorem OnceC.given {d : DecC} {st sn mt mn wt wn : Int} {ys : List Bool} {kn co : Bool} (h : OnceC d st sn ys kn co mt mn wt wn) : OnceC (giveD d) st sn ys true co mt mn wt wn := by
  unfold giveD
  split
  · next h0 => exact h.refused h0
  · next h0 =>
    have hk : kn = true := by rw [h.kn]; exact decide_eq_true h0
    subst hk
    exact h
theorem encDA_one (y : DAct) : ∀ u ∈ encDA y, u.oneCell' = true := fun u hu => by
  unfold encDA at hu
  simp only [List.mem_cons] at hu
  rcases hu with rfl | rfl | rfl | rfl | rfl | rfl | rfl | h
  · rfl
  · rfl
  · rfl
  · rfl
  · rfl
  · rfl
  · rfl
  · exact encR_one y.r u h
theorem there16C (w : World) (T : TypeId) : (w.alloc (.cells #[.int .i64 0, .int .i64 0, .int .i64 0, .int .u8 0, .slice none 0 0, .int .i64 0, .bool false, .int .i64 0, .int .i64 0, .int .i64 0, .int .u8 0, .int .i64 0, .int .u8 0, .slice none 0 0, .bool false, .slice none 0 0] T)).there w.heap.size 0 16 := fun j hj => by
  rw [Nat.zero_add, World.cell?_alloc_new]
  refine ⟨?_, World.frozen?_alloc_new _ _ _ _⟩
  rw [Array.getElem?_eq_getElem (by show j < 16; exact hj)]
  rfl
/-- The law's own memory beside the Coord. -/
structure OnceM (wA u : World) (b : Nat) (d : DecC) (YB MB HB BX : Nat) (ys : List Bool) (mt mn wt wn : Int) : Prop where
  kd : CdF wA u b [d] (fun k => k = YB ∨ k = MB ∨ k = HB ∨ k = BX)
  lo : wA.heap.size ≤ YB ∧ wA.heap.size ≤ MB ∧ wA.heap.size ≤ HB ∧ wA.heap.size ≤ BX
  ne : YB ≠ MB ∧ YB ≠ HB ∧ MB ≠ HB
  y : BoolsO u YB ys
  m : SBox u MB mt mn
  h : SBox u HB wt wn
theorem OnceM.past {wA u u' : World} {b YB MB HB BX : Nat} {d : DecC} {ys : List Bool} {mt mn wt wn : Int} (h : OnceM wA u b d YB MB HB BX ys mt mn wt wn) (hb : Below u.heap.size u u') : OnceM wA u' b d YB MB HB BX ys mt mn wt wn :=
  ⟨h.kd.past hb, h.lo, h.ne, h.y.past hb, h.m.past hb, h.h.past hb⟩
/-- A box that is new stays too. -/
theorem OnceM.box {wA u u' : World} {b YB MB HB BX BX' : Nat} {d : DecC} {ys : List Bool} {mt mn wt wn : Int} (h : OnceM wA u b d YB MB HB BX ys mt mn wt wn) (hb : Below u.heap.size u u') (h1 : u.heap.size ≤ BX') (h2 : BX' < u'.heap.size) : OnceM wA u' b d YB MB HB BX' ys mt mn wt wn := by
  have hs := hb.size
  refine ⟨h.kd.more hb (fun k hk => ?_), ⟨h.lo.1, h.lo.2.1, h.lo.2.2.1, Nat.le_trans h.kd.below.size h1⟩, h.ne, h.y.past hb, h.m.past hb, h.h.past hb⟩
  have f := h.kd.flt
  rcases hk with e | e | e | e
  · exact ⟨.inl (.inl e), by have := f k (.inl e); omega⟩
  · exact ⟨.inl (.inr (.inl e)), by have := f k (.inr (.inl e)); omega⟩
  · exact ⟨.inl (.inr (.inr (.inl e))), by have := f k (.inr (.inr (.inl e))); omega⟩
  · exact ⟨.inr (by omega), by omega⟩
theorem OnceM.back {wA u : World} {b YB MB HB BX : Nat} {d : DecC} {ys : List Bool} {mt mn wt wn : Int} (h : OnceM wA u b d YB MB HB BX ys mt mn wt wn) : OnceM wA u b d YB MB HB HB ys mt mn wt wn :=
  ⟨h.kd.less (fun k hk => by rcases hk with e | e | e | e; exact .inl e; exact .inr (.inl e); exact .inr (.inr (.inl e)); exact .inr (.inr (.inl e))), ⟨h.lo.1, h.lo.2.1, h.lo.2.2.1, h.lo.2.2.1⟩, h.ne, h.y, h.m, h.h⟩
theorem OnceM.call {wA u u' : World} {b YB MB HB BX : Nat} {d d' : DecC} {ys : List Bool} {mt mn wt wn : Int} (h : OnceM wA u b d YB MB HB BX ys mt mn wt wn) (hs : CdS wA u u' b [d'] (fun k => k = YB ∨ k = MB ∨ k = HB ∨ k = BX)) : OnceM wA u' b d' YB MB HB BX ys mt mn wt wn ∧ u'.heap[BX]? = u.heap[BX]? ∧ Below wA.heap.size wA u' :=
  ⟨⟨hs.at_, h.lo, h.ne, h.y.kept (hs.stay YB (.inl rfl)), h.m.kept (hs.stay MB (.inr (.inl rfl))), h.h.kept (hs.stay HB (.inr (.inr (.inl rfl))))⟩, hs.stay BX (.inr (.inr (.inr rfl))), hs.at_.below⟩
/-- It begins. -/
theorem OnceM.start {wA u u1 : World} {b : Nat} {d : DecC} {N : Nat} {T1 T2 : TypeId} (h : CdF wA u b [d] noFoot) (h1 : u1 = ((u.alloc (.cells (madeCells #[Value.bool false] N) 4)).alloc (.cells #[.int .i64 0, .int .u8 0] T1)).alloc (.cells #[.int .i64 0, .int .u8 0] T2)) :
    OnceM wA u1 b d u.heap.size (u.heap.size + 1) (u.heap.size + 2) (u.heap.size + 2) (List.replicate N false) 0 0 0 0 := by
  obtain ⟨v1, e1⟩ : ∃ v, v = u.alloc (.cells (madeCells #[Value.bool false] N) 4) := ⟨_, rfl⟩
  obtain ⟨v2, e2⟩ : ∃ v, v = v1.alloc (.cells #[.int .i64 0, .int .u8 0] T1) := ⟨_, rfl⟩
  rw [← e1, ← e2] at h1
  have s1 : v1.heap.size = u.heap.size + 1 := by rw [e1]; simp
  have s2 : v2.heap.size = u.heap.size + 2 := by rw [e2]; simp [s1]
  have s3 : u1.heap.size = u.heap.size + 3 := by rw [h1]; simp [s2]
  have b1 : Below u.heap.size u v1 := by rw [e1]; exact alloc_belowC _ _
  have b2 : Below v1.heap.size v1 v2 := by rw [e2]; exact alloc_belowC _ _
  have b3 : Below v2.heap.size v2 u1 := by rw [h1]; exact alloc_belowC _ _
  have hb : Below u.heap.size u u1 := (b1.trans (b2.mono b1.size)).trans (b3.mono (by omega))
  have hA := h.below.size
  have y0 : BoolsO v1 u.heap.size (List.replicate N false) := by rw [e1]; exact BoolsO.made u N
  have m0 : SBox v2 (u.heap.size + 1) 0 0 := by rw [e2, ← s1]; exact SBox.made v1 T1 0 0
  have h0 : SBox u1 (u.heap.size + 2) 0 0 := by rw [h1, ← s2]; exact SBox.made v2 T2 0 0
  exact ⟨h.more hb (fun k hk => ⟨.inr (by omega), by omega⟩), by omega, by omega, (y0.past b2).past b3, m0.past b3, h0⟩
end Go.Proofs.Ytcppihpehipelaa

namespace Go.Proofs.Ytcppihpehipelaa
open Go.RowKit
set_option linter.unusedVariables false
set_option linter.unusedSimpArgs false

theorem encO_len (x : OneM) : (encO x).length = 9 := rfl
theorem encO_one (x : OneM) : ∀ u ∈ encO x, u.oneCell' = true := fun u hu => by
  simp [encO] at hu
  rcases hu with rfl | rfl | rfl | rfl | rfl | rfl | rfl | rfl | rfl <;> rfl
theorem encOs_one (M : List OneM) : ∀ u ∈ M.flatMap encO, u.oneCell' = true := flat_one (fun x _ => encO_one x)
/-- The elements in block g. -/
structure RowO (u : World) (g : Nat) (M : List OneM) : Prop where
  row : ∃ cur : Array Value, u.heap[g]? = some (.cells cur 92 (0, 0)) ∧ ∀ (i : Nat) (x : OneM) (j : Nat) (v : Value), M[i]? = some x → (encO x)[j]? = some v → cur[i * 9 + j]? = some v
theorem RowO.kept {u u' : World} {g : Nat} {M : List OneM} (h : RowO u g M) (hb : u'.heap[g]? = u.heap[g]?) : RowO u' g M := by
  obtain ⟨cur, h1, h2⟩ := h.row
  exact ⟨⟨cur, hb.trans h1, h2⟩⟩
theorem RowO.lt {u : World} {g : Nat} {M : List OneM} (h : RowO u g M) : g < u.heap.size := by
  obtain ⟨cur, h1, h2⟩ := h.row
  exact (Array.getElem?_eq_some_iff.1 h1).1
theorem RowO.cell {u : World} {g : Nat} {M : List OneM} (h : RowO u g M) {i : Nat} {x : OneM} {j : Nat} {v : Value} (hx : M[i]? = some x) (hv : (encO x)[j]? = some v) : u.cell? ⟨g, i * 9 + j, none⟩ = some v := by
  obtain ⟨cur, h1, h2⟩ := h.row
  exact (cell_of_row u g (i * 9 + j) cur _ _ h1).trans (h2 i x j v hx hv)
theorem RowO.free {u : World} {g : Nat} {M : List OneM} (h : RowO u g M) (j : Nat) : u.frozen? ⟨g, j, none⟩ = false := by
  obtain ⟨cur, h1, h2⟩ := h.row
  unfold World.frozen?
  rw [h1]
  simp
theorem RowO.lies {u : World} {g : Nat} {M : List OneM} (h : RowO u g M) : Lies u (some ⟨g, 0, none⟩) (M.flatMap encO) :=
  lies_flat M 0 (fun x _ => encO_len x) (fun i x hx => lies_of fun j v hv => by rw [Nat.zero_add]; exact h.cell hx hv)
theorem RowO.same {u : World} {g : Nat} {M : List OneM} (h : RowO u g M) {i : Nat} {x x' : OneM} (hx : M[i]? = some x) (he : encO x' = encO x) : RowO u g (M.set i x') := by
  obtain ⟨cur, h1, h2⟩ := h.row
  refine ⟨⟨cur, h1, fun k y j v hy hv => ?_⟩⟩
  by_cases e : i = k
  · subst e
    rw [List.getElem?_set_self (List.getElem?_eq_some_iff.1 hx).1] at hy
    injection hy with hy
    subst hy
    rw [he] at hv
    exact h2 i x j v hx hv
  · rw [List.getElem?_set_ne e] at hy
    exact h2 k y j v hy hv
theorem RowO.set {u : World} {g : Nat} {M : List OneM} (h : RowO u g M) {i j : Nat} {x x' : OneM} {v : Value} (hx : M[i]? = some x) (hj : j < 9) (he : encO x' = (encO x).set j v) : RowO (u.setCell ⟨g, i * 9 + j, none⟩ v) g (M.set i x') := by
  obtain ⟨cur, h1, h2⟩ := h.row
  have hset := setCell_eq_setRow u g (i * 9 + j) cur 92 (0, 0) v h1
  obtain ⟨v0, hv0⟩ : ∃ v0, (encO x)[j]? = some v0 := ⟨_, List.getElem?_eq_getElem (by rw [encO_len]; exact hj)⟩
  have hsz := (Array.getElem?_eq_some_iff.1 (h2 i x j v0 hx hv0)).1
  refine ⟨⟨cur.setIfInBounds (i * 9 + j) v, by rw [hset]; exact setRow_heap u g cur _ _ _ h1, fun k y n z hy hz => ?_⟩⟩
  have hn : n < 9 := by have := (List.getElem?_eq_some_iff.1 hz).1; rwa [encO_len] at this
  by_cases e : i = k
  · subst e
    rw [List.getElem?_set_self (List.getElem?_eq_some_iff.1 hx).1] at hy
    injection hy with hy
    subst hy
    rw [he] at hz
    by_cases e2 : j = n
    · subst e2
      rw [List.getElem?_set_self (by rw [encO_len]; exact hj)] at hz
      injection hz with hz
      rw [Array.getElem?_setIfInBounds_self_of_lt (by omega), hz]
    · rw [List.getElem?_set_ne e2] at hz
      rw [Array.getElem?_setIfInBounds_ne (by omega)]
      exact h2 i x n z hx hz
  · rw [List.getElem?_set_ne e] at hy
    rw [Array.getElem?_setIfInBounds_ne (by omega)]
    exact h2 k y n z hy hz
theorem RowO.of_own {u : World} {B n : Nat} {v : Value} {M : List OneM} (h : u.ownsRow B 92 9 v n (M.flatMap encO)) (hl : M.length = n) (hp : 0 < n) : ∃ g cap, v = .slice (some ⟨g, 0, none⟩) n cap ∧ n ≤ cap ∧ B ≤ g ∧ RowO u g M := by
  rcases h.2 with ⟨_, h0⟩ | ⟨g, cap, cur, rfl, hg, hh, h1, h2, h3, h4⟩
  · omega
  · refine ⟨g, cap, rfl, h1, hg, ⟨⟨cur, hh, fun i x j z hx hz => ?_⟩⟩⟩
    have hi : i < n := by rw [← hl]; exact (List.getElem?_eq_some_iff.1 hx).1
    have hj : j < 9 := by have := (List.getElem?_eq_some_iff.1 hz).1; rwa [encO_len] at this
    have e : (M.flatMap encO)[i * 9 + j]? = some z := by
      have := flat_at (enc := encO) M i x (fun y _ => encO_len y) hx
      have e2 := congrArg (fun l => l[j]?) this
      rw [hz, List.getElem?_take_of_lt hj, List.getElem?_drop] at e2
      exact e2
    rw [← h4, List.getElem?_take_of_lt (by omega)] at e
    simpa using e
/-- One of them: its blocks. A label tells whose a block is, and for what. -/
structure OneO (u : World) (F : Foot) (O : Nat → Option (Int × Nat)) (x : OneM) : Prop where
  p : ∃ g, x.pa = some ⟨g, 0, none⟩ ∧ F g ∧ O g = some (x.d.id, 0) ∧ IntsO u g x.d.parts
  v : ∃ g, x.va = some ⟨g, 0, none⟩ ∧ F g ∧ O g = some (x.d.id, 1) ∧ BoolsO u g x.d.votes
  a : ∃ g, x.aa = some ⟨g, 0, none⟩ ∧ F g ∧ O g = some (x.d.id, 2) ∧ BoolsO u g x.d.acks
  pr : x.d.parts.length ≤ x.pc
  vr : x.d.votes.length ≤ x.vc
  ar : x.d.acks.length ≤ x.ac
theorem OneO.kept {u u' : World} {F : Foot} {O : Nat → Option (Int × Nat)} {x : OneM} (h : OneO u F O x) (hk : ∀ k s, F k → O k = some (x.d.id, s) → u'.heap[k]? = u.heap[k]?) : OneO u' F O x := by
  obtain ⟨g1, a1, b1, c1, d1⟩ := h.p
  obtain ⟨g2, a2, b2, c2, d2⟩ := h.v
  obtain ⟨g3, a3, b3, c3, d3⟩ := h.a
  exact ⟨⟨g1, a1, b1, c1, d1.kept (hk g1 0 b1 c1)⟩, ⟨g2, a2, b2, c2, d2.kept (hk g2 1 b2 c2)⟩, ⟨g3, a3, b3, c3, d3.kept (hk g3 2 b3 c3)⟩, h.pr, h.vr, h.ar⟩
theorem OneO.more {u : World} {F F' : Foot} {O O' : Nat → Option (Int × Nat)} {x : OneM} (h : OneO u F O x) (hF : ∀ k, F k → F' k ∧ O' k = O k) : OneO u F' O' x := by
  obtain ⟨g1, a1, b1, c1, d1⟩ := h.p
  obtain ⟨g2, a2, b2, c2, d2⟩ := h.v
  obtain ⟨g3, a3, b3, c3, d3⟩ := h.a
  exact ⟨⟨g1, a1, (hF g1 b1).1, (hF g1 b1).2.trans c1, d1⟩, ⟨g2, a2, (hF g2 b2).1, (hF g2 b2).2.trans c2, d2⟩, ⟨g3, a3, (hF g3 b3).1, (hF g3 b3).2.trans c3, d3⟩, h.pr, h.vr, h.ar⟩
/-- The table in block q: a, c its list, O the labels, F its blocks. -/
structure CrdI (u : World) (q : Nat) (M : List OneM) (F : Foot) (O : Nat → Option (Int × Nat)) (a : Option Addr) (c : Nat) : Prop where
  lt : ∀ k, F k → k < u.heap.size
  fq : F q
  qo : O q = none
  qf : ∀ j, u.frozen? ⟨q, j, none⟩ = false
  qc : u.cell? ⟨q, 0, none⟩ = some (.slice a M.length c)
  room : M.length ≤ c
  row : (M = [] ∧ a = none ∧ c = 0) ∨ ∃ g, a = some ⟨g, 0, none⟩ ∧ F g ∧ g ≠ q ∧ O g = none ∧ RowO u g M
  each : ∀ x ∈ M, OneO u F O x
  ids : (decs M).Pairwise (fun x y => x.id < y.id)
theorem CrdI.kept {u u' : World} {q : Nat} {M : List OneM} {F : Foot} {O : Nat → Option (Int × Nat)} {a : Option Addr} {c : Nat} (h : CrdI u q M F O a c) (hs : u.heap.size ≤ u'.heap.size) (hk : ∀ k, F k → u'.heap[k]? = u.heap[k]?) : CrdI u' q M F O a c := by
  refine ⟨fun k hF => Nat.lt_of_lt_of_le (h.lt k hF) hs, h.fq, h.qo, fun j => (frozen_kept (hk q h.fq) j).trans (h.qf j), (cell_kept (hk q h.fq) 0).trans h.qc, h.room, ?_, fun x hx => (h.each x hx).kept (fun k s hF _ => hk k hF), h.ids⟩
  rcases h.row with e | ⟨g, e1, e2, e3, e4, e5⟩
  · exact .inl e
  · exact .inr ⟨g, e1, e2, e3, e4, e5.kept (hk g e2)⟩
structure CrdO (u : World) (q : Nat) (M : List OneM) (F : Foot) : Prop where
  out : ∃ O a c, CrdI u q M F O a c
theorem CrdO.kept {u u' : World} {q : Nat} {M : List OneM} {F : Foot} (h : CrdO u q M F) (hs : u.heap.size ≤ u'.heap.size) (hk : ∀ k, F k → u'.heap[k]? = u.heap[k]?) : CrdO u' q M F := by
  obtain ⟨O, a, c, h⟩ := h.out
  exact ⟨O, a, c, h.kept hs hk⟩
theorem CrdO.lt {u : World} {q : Nat} {M : List OneM} {F : Foot} (h : CrdO u q M F) : ∀ k, F k → k < u.heap.size := by obtain ⟨O, a, c, h⟩ := h.out; exact h.lt
theorem CrdO.past {u u' : World} {q : Nat} {M : List OneM} {F : Foot} (h : CrdO u q M F) (hb : Below u.heap.size u u') : CrdO u' q M F := h.kept hb.size (fun k hF => hb.block k (h.lt k hF))
theorem CrdO.ids {u : World} {q : Nat} {M : List OneM} {F : Foot} (h : CrdO u q M F) : (decs M).Pairwise (fun x y => x.id < y.id) := by obtain ⟨O, a, c, h⟩ := h.out; exact h.ids
theorem IntsO.numsD {u : World} {g : Nat} {l : List Int} (h : IntsO u g l) {a : Option Addr} (e : a = some ⟨g, 0, none⟩) : NumsD u a l := fun i z hz => ⟨g, e, h.at_ hz⟩
theorem BoolsO.boolsD {u : World} {g : Nat} {l : List Bool} (h : BoolsO u g l) {a : Option Addr} (e : a = some ⟨g, 0, none⟩) : BoolsD u a l := fun i z hz => ⟨g, e, h.at_ hz⟩
/-- What reads ask. -/
theorem CrdO.view {u : World} {q : Nat} {M : List OneM} {F : Foot} (h : CrdO u q M F) : CrdV u q M := by
  obtain ⟨O, a, c, h⟩ := h.out
  refine ⟨⟨a, c, h.qc, h.room, fun i x hx => ?_⟩⟩
  rcases h.row with ⟨e, _⟩ | ⟨g, e1, e2, e3, e4, e5⟩
  · rw [e] at hx; simp at hx
  · have hm := h.each x (List.mem_of_getElem? hx)
    obtain ⟨g1, a1, b1, c1, d1⟩ := hm.p
    obtain ⟨g2, a2, b2, c2, d2⟩ := hm.v
    obtain ⟨g3, a3, b3, c3, d3⟩ := hm.a
    exact ⟨g, e1, lies_of (fun j v hv => e5.cell hx hv), d1.numsD a1, hm.pr, d2.boolsD a2, hm.vr, d3.boolsD a3, hm.ar⟩
/-- Elements other than i have other ids. -/
theorem ids_ne {M : List OneM} (h : (decs M).Pairwise (fun x y => x.id < y.id)) {i k : Nat} {x y : OneM} (hx : M[i]? = some x) (hy : M[k]? = some y) (hne : i ≠ k) : x.d.id ≠ y.d.id := by
  have h1 : (decs M)[i]? = some x.d := by unfold decs; rw [List.getElem?_map, hx]; rfl
  have h2 : (decs M)[k]? = some y.d := by unfold decs; rw [List.getElem?_map, hy]; rfl
  have e1 := findC_at h h1
  have e2 := findC_at h h2
  intro e
  rw [e] at e1
  omega
theorem decs_set (M : List OneM) (i : Nat) (x : OneM) : decs (M.set i x) = (decs M).set i x.d := by unfold decs; rw [List.map_set]
/-- One block of element i has turned, or its cells. -/
theorem CrdI.turn {u u' : World} {q : Nat} {M : List OneM} {F : Foot} {O : Nat → Option (Int × Nat)} {a : Option Addr} {c g : Nat} (h : CrdI u q M F O a c) (hs : u.heap.size ≤ u'.heap.size) {i : Nat} {x x' : OneM} (hx : M[i]? = some x) (hid : x'.d.id = x.d.id) (hag : a = some ⟨g, 0, none⟩)
    (hk : ∀ k, F k → (k ≠ g ∧ ∀ s, O k ≠ some (x.d.id, s)) → u'.heap[k]? = u.heap[k]?) (hrow : RowO u' g (M.set i x')) (hone : OneO u' F O x') : CrdI u' q (M.set i x') F O a c := by
  have hi := (List.getElem?_eq_some_iff.1 hx).1
  have hg : F g ∧ g ≠ q ∧ O g = none := by
    rcases h.row with ⟨e, _⟩ | ⟨g', e1, e2, e3, e4, e5⟩
    · rw [e] at hi; simp at hi
    · rw [hag] at e1; cases e1; exact ⟨e2, e3, e4⟩
  have hq : u'.heap[q]? = u.heap[q]? := hk q h.fq ⟨fun e => hg.2.1 e.symm, fun s e => by rw [h.qo] at e; cases e⟩
  refine ⟨fun k hF => Nat.lt_of_lt_of_le (h.lt k hF) hs, h.fq, h.qo, fun j => (frozen_kept hq j).trans (h.qf j), by rw [List.length_set]; exact (cell_kept hq 0).trans h.qc, by rw [List.length_set]; exact h.room, .inr ⟨g, hag, hg.1, hg.2.1, hg.2.2, hrow⟩, fun y hy => ?_, ?_⟩
  · obtain ⟨k, hky⟩ := List.mem_iff_getElem?.1 hy
    by_cases e : i = k
    · subst e
      rw [List.getElem?_set_self hi] at hky
      injection hky with hky
      rw [← hky]; exact hone
    · rw [List.getElem?_set_ne e] at hky
      have hne := ids_ne h.ids hx hky e
      refine (h.each y (List.mem_of_getElem? hky)).kept (fun b s hF hO => hk b hF ⟨fun e2 => ?_, fun s2 e2 => ?_⟩)
      · rw [e2, hg.2.2] at hO; cases hO
      · rw [hO] at e2; injection e2 with e2; injection e2 with e2 _; exact hne e2.symm
  · rw [decs_set]
    exact setC_sorted h.ids (show (decs M)[i]? = some x.d by unfold decs; rw [List.getElem?_map, hx]; rfl) hid
end Go.Proofs.Ytcppihpehipelaa

