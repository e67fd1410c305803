/-
  Lists of lists of bytes, and arrays of integers, that came in: what the walk is told of them. No function of the program is named here.
  Keys in memory: a key's block, a key as a value.
  Keys that a call makes and writes: the laws of its block.
  'l = append(l, x)' for a list of the call's own whose elements take so many cells each; a list of texts; a list of pairs of integers.
-/
import Derived.Test.YtileidbdmpeciaaGreatAu66
import Derived.ProofKit
import Derived.Deep.Matrix
import Derived.Below
import Derived.ChangeKeysEq
import Derived.Test.YtileidbdmpeciaaGreatAu76
import Derived.Deep.MidRow
import Derived.Deep.RegionHeld3
import Derived.Laws.AppendOwn
import Derived.Laws.AppendOwnNone
namespace Go.Proofs.YtileidbdmpeciaaGreat
open Go.RowKit Go.ChangeShapes Go.WideShapes Go.ChangeAt Go.Deep
set_option linter.unusedVariables false

/-- A list of lists of bytes that lies somewhere: each one's bytes, and where they are. -/
structure RowsOf (w : World) (a : Option Addr) (cap : Nat) (ls : List (List Int)) : Prop where
  nil : a = none → ls = [] ∧ cap = 0
  le : ls.length ≤ cap
  cells : ls = [] ∨ ∃ b off, a = some ⟨b, off, none⟩ ∧ ∀ r, r < ls.length → ∃ (x : Option Addr) (c : Nat), w.cell? ⟨b, off + r, none⟩ = some (.slice x (ls.getD r []).length c) ∧ Row w x (ls.getD r []) ∧ (x = none → c = 0) ∧ (ls.getD r []).length ≤ c
theorem RowsOf.below {w w' : World} {a : Option Addr} {cap : Nat} {ls : List (List Int)} (h : RowsOf w a cap ls) {B : Nat} (hb : Below B w w') (hB : w.heap.size ≤ B) : RowsOf w' a cap ls := by
  refine ⟨h.nil, h.le, ?_⟩
  rcases h.cells with h0 | ⟨b, off, rfl, hc⟩
  · exact .inl h0
  · refine .inr ⟨b, off, rfl, fun r hr => ?_⟩
    obtain ⟨x, c, h1, h2, h3, h4⟩ := hc r hr
    exact ⟨x, c, by rw [hb.cell (Nat.lt_of_lt_of_le (lt_of_cell h1) hB)]; exact h1, h2.below hb hB, h3, h4⟩
theorem RowsOf.take {w : World} {a : Option Addr} {cap : Nat} {ls : List (List Int)} (h : RowsOf w a cap ls) (m : Nat) : RowsOf w a cap (ls.take m) := by
  refine ⟨fun ha => ⟨by rw [(h.nil ha).1]; simp, (h.nil ha).2⟩, Nat.le_trans (List.length_take_le' _ _) h.le, ?_⟩
  rcases h.cells with h0 | ⟨b, off, rfl, hc⟩
  · left; rw [h0]; simp
  · refine .inr ⟨b, off, rfl, fun r hr => ?_⟩
    simp at hr
    have e : (ls.take m).getD r [] = ls.getD r [] := by
      have hrm : r < m := by omega
      simp [List.getD, hrm]
    rw [e]
    exact hc r (by omega)
/-- The list at place r. -/
theorem RowsOf.at {w : World} {a : Option Addr} {cap : Nat} {ls : List (List Int)} (h : RowsOf w a cap ls) {r : Nat} (hr : r < ls.length) :
    ∃ b off x c, a = some ⟨b, off, none⟩ ∧ w.cell? ⟨b, off + r, none⟩ = some (.slice x (ls.getD r []).length c) ∧ Row w x (ls.getD r []) ∧ (x = none → (ls.getD r []).length = 0 ∧ c = 0) := by
  rcases h.cells with h0 | ⟨b, off, rfl, hc⟩
  · rw [h0] at hr; simp at hr
  · obtain ⟨x, c, h1, h2, h3, h4⟩ := hc r hr
    exact ⟨b, off, x, c, rfl, h1, h2, fun hx => ⟨by have := h3 hx; omega, h3 hx⟩⟩

theorem same_heap {w w' : World} (h : w'.heap = w.heap) (a : Addr) : w'.cell? a = w.cell? a := by unfold World.cell?; rw [h]
theorem Row.same {w w' : World} {a : Option Addr} {zs : List Int} (h : Row w a zs) (he : w'.heap = w.heap) : Row w' a zs := by
  refine ⟨h.1, h.2.imp id ?_⟩
  rintro ⟨b, off, h1, h2⟩
  exact ⟨b, off, h1, fun j hj => by rw [same_heap he]; exact h2 j hj⟩
theorem RowsOf.same {w w' : World} {a : Option Addr} {cap : Nat} {ls : List (List Int)} (h : RowsOf w a cap ls) (he : w'.heap = w.heap) : RowsOf w' a cap ls := by
  refine ⟨h.nil, h.le, h.cells.imp id ?_⟩
  rintro ⟨b, off, h1, h2⟩
  refine ⟨b, off, h1, fun r hr => ?_⟩
  obtain ⟨x, c, h3, h4, h5, h6⟩ := h2 r hr
  exact ⟨x, c, by rw [same_heap he]; exact h3, h4.same he, h5, h6⟩
section
variable {H : Type} {enc : TypeId × Value → H} {w : World} {base : Nat} {held : Bool}
/-- An array of integers that came in. -/
def IsArr (k : IntKind) (n : Nat) (zs : List Int) : Prop := zs.length = n ∧ ∀ z ∈ zs, (Lit.int k z).wf = true
theorem mapM_each {α β : Type} {f : α → Option β} : ∀ {l : List α} {ys : List β}, l.mapM f = some ys → ∀ i ∈ l, ∃ y, f i = some y
  | [], _, _, i, hi => by simp at hi
  | a :: l, ys, h, i, hi => by
    rw [List.mapM_cons] at h
    simp only [bind, Option.bind_eq_some_iff, pure, Option.some.injEq] at h
    obtain ⟨y, hy, zs, hzs, _⟩ := h
    rcases List.mem_cons.1 hi with rfl | hi
    · exact ⟨y, hy⟩
    · exact mapM_each hzs i hi
end
/-- Two arrays of integers, held against each other. -/
theorem eq_items {P : Program} {e : TypeId} {k : IntKind} (he : P.underlying e = some (.int k)) (ce : P.cellsOf e = 1) (d : Nat) (w : World) (A B : List Int) : ∀ m s, A.length = s + m → B.length = s + m →
    (Op.eqItems (d + 1) e (P.cellsOf e) (A.map (Value.int k)).toArray (B.map (Value.int k)).toArray (List.range' s m)).run P w = .ok (A.drop s == B.drop s) w := by
  have hpk : P.plainKey e = true := by unfold Program.plainKey; rw [he]
  intro m
  induction m with
  | zero =>
    intro s ha hb
    have e1 : A.drop s = [] := List.drop_eq_nil_of_le (by omega)
    have e2 : B.drop s = [] := List.drop_eq_nil_of_le (by omega)
    rw [e1, e2]
    simp [Op.eqItems]
  | succ m ih =>
    intro s ha hb
    have hsa : s < A.length := by omega
    have hsb : s < B.length := by omega
    have p1 := run_part_plain (P := P) w hpk (xs := (A.map (Value.int k)).toArray) (off := s * P.cellsOf e) (v := .int k A[s]) (by rw [ce, Nat.mul_one]; simp [hsa])
    have p2 := run_part_plain (P := P) w hpk (xs := (B.map (Value.int k)).toArray) (off := s * P.cellsOf e) (v := .int k B[s]) (by rw [ce, Nat.mul_one]; simp [hsb])
    have p3 := run_equalIn_int (P := P) w d e k k A[s] B[s] he
    rw [List.range'_succ]
    simp only [Op.eqItems, Sem.run_bind, p1, p2, p3, Result.andThen_ok]
    have e3 : (A.drop s == B.drop s) = (A[s] == B[s] && A.drop (s + 1) == B.drop (s + 1)) := by rw [List.drop_eq_getElem_cons hsa, List.drop_eq_getElem_cons hsb]; rfl
    rw [e3]
    by_cases h : A[s] = B[s]
    · have hb' : (A[s] == B[s]) = true := by simp [h]
      rw [hb']
      simp only [Bool.not_true, Bool.false_eq_true, if_false]
      rw [ih (s + 1) (by omega) (by omega), Bool.true_and]
    · have hb' : (A[s] == B[s]) = false := by simp [h]
      rw [hb']
      simp
theorem eq_arr {P : Program} {t e : TypeId} {k : IntKind} {n : Nat} {i : TypeInfo} (hu : P.underlying t = some (.array n e)) (he : P.underlying e = some (.int k)) (ce : P.cellsOf e = 1) (hi : P.info? e = some i) (w : World) (A B : List Int) (ha : A.length = n) (hb : B.length = n) :
    (Op.equalIn 10000 t (.agg (A.map (Value.int k)).toArray) (.agg (B.map (Value.int k)).toArray)).run P w = .ok (A == B) w := by
  rw [run_equalIn_array w 9999 _ _ hu hi, List.range_eq_range', eq_items he ce 9998 w A B n 0 (by omega) (by omega)]
  simp
end Go.Proofs.YtileidbdmpeciaaGreat

namespace Go.Proofs.YtileidbdmpeciaaGreat
open Go.RowKit
set_option linter.unusedVariables false

/-- A key's cells. -/
abbrev kcs (k : List Int) : Array Value := (k.map (Value.int .u8)).toArray
/-- A key as a value. -/
abbrev kv (k : List Int) : Value := .agg (kcs k)
theorem Ky.at {k : List Int} (h : Ky k) (i : Nat) : 0 ≤ k.getD i 0 ∧ k.getD i 0 ≤ 255 := by
  by_cases hi : i < k.length
  · have e : k.getD i 0 = k[i] := by simp [List.getD, hi]
    rw [e]; exact h.bytes _ (List.getElem_mem hi)
  · have e : k.getD i 0 = 0 := by simp [List.getD]; rw [List.getElem?_eq_none (by omega)]; rfl
    rw [e]; omega
/-- A key that lies in a block, from a place on. -/
structure KeyAt (w : World) (b o : Nat) (k : List Int) : Prop where
  cell : ∀ i, i < 16 → w.cell? ⟨b, o + i, none⟩ = some (.int .u8 (k.getD i 0))
theorem KeyAt.cell0 {w : World} {b : Nat} {k : List Int} (h : KeyAt w b 0 k) (i : Nat) (hi : i < 16) : w.cell? ⟨b, i, none⟩ = some (.int .u8 (k.getD i 0)) := by
  have := h.cell i hi
  rwa [Nat.zero_add] at this
theorem KeyAt.lt {w : World} {b o : Nat} {k : List Int} (h : KeyAt w b o k) : b < w.heap.size := lt_of_cell (h.cell 0 (by omega))
theorem KeyAt.made (w : World) (T : TypeId) (k : List Int) (hk : Ky k) : KeyAt (w.alloc (.cells (kcs k) T)) w.heap.size 0 k := by
  refine ⟨fun i hi => ?_⟩
  rw [World.cell?_alloc_new]
  have hl : i < k.length := by rw [hk.len]; exact hi
  simp [kcs, List.getD, hl]
theorem KeyAt.below {w w' : World} {b o B : Nat} {k : List Int} (h : KeyAt w b o k) (hb : Below B w w') (hB : b < B) : KeyAt w' b o k :=
  ⟨fun i hi => by rw [hb.cell (p := ⟨b, o + i, none⟩) hB]; exact h.cell i hi⟩
theorem KeyAt.past {w w' : World} {b o : Nat} {k : List Int} (h : KeyAt w b o k) (hb : Below w.heap.size w w') : KeyAt w' b o k := h.below hb h.lt
theorem KeyAt.same {w w' : World} {b o : Nat} {k : List Int} (h : KeyAt w b o k) (he : w'.heap = w.heap) : KeyAt w' b o k :=
  ⟨fun i hi => by rw [same_heap he]; exact h.cell i hi⟩
theorem KeyAt.alloc {w : World} {b o : Nat} {k : List Int} (h : KeyAt w b o k) (ob : Obj) : KeyAt (w.alloc ob) b o k :=
  h.below ((Below.refl w.heap.size _).alloc (Nat.le_refl _) ob) h.lt
theorem KeyAt.range {w : World} {b o : Nat} {k : List Int} (h : KeyAt w b o k) (hk : Ky k) : w.rangeAt b o (k.map (Value.int .u8)) := by
  intro j v hv
  rw [List.getElem?_map] at hv
  obtain ⟨z, hz, rfl⟩ := Option.map_eq_some_iff.1 hv
  have hj : j < 16 := by rw [← hk.len]; exact (List.getElem?_eq_some_iff.1 hz).1
  rw [h.cell j hj]
  simp [List.getD, hz]
theorem info_key : (Tryz.prog.info? 38).map (·.size) = some 16 := by kernel_rfl
/-- A key is read whole. -/
theorem wpList_load_key {ops : Array Oper} {rest : List Oper} {op : Oper} {a : Act} {w : World} {Q : Exit → Act → World → Prop} (hgd : op.guard = none) (x : Operand) (ho : op.op = .load 38 x)
    (b o : Nat) (hx : a.eval x = .pointer (some ⟨b, o, none⟩)) (k : List Int) (hk : Ky k) (hat : KeyAt w b o k)
    (h : wpList Tryz.prog ops Q rest (a.put op.dst (kv k)) w) : wpList Tryz.prog ops Q (op :: rest) a w :=
  wpList_load_mid hgd 38 x ho b o hx (k.map (Value.int .u8)) _ (hat.range hk) Tryz.underlying38 rfl (by rw [info_key, List.length_map, hk.len]) h
/-- As above, at a guarded operation whose guard is met. -/
theorem wpList_load_keyG {ops : Array Oper} {rest : List Oper} {op : Oper} {a : Act} {w : World} {Q : Exit → Act → World → Prop} (hw : Region.wanted op (yielded ops a.tmps) = true) (x : Operand) (ho : op.op = .load 38 x)
    (b o : Nat) (hx : a.eval x = .pointer (some ⟨b, o, none⟩)) (k : List Int) (hk : Ky k) (hat : KeyAt w b o k)
    (h : wpList Tryz.prog ops Q rest (a.put op.dst (kv k)) w) : wpList Tryz.prog ops Q (op :: rest) a w :=
  wpList_step fun K hK => by
    rw [if_pos hw]
    exact wp_load_mid 38 x ho b o hx (k.map (Value.int .u8)) _ (hat.range hk) Tryz.underlying38 rfl (by rw [info_key, List.length_map, hk.len]) (hK _ _ h)
/-- As above, at the operation that fills slot d. -/
theorem wpList_load_keyD (d : Tmp) {ops : Array Oper} {rest : List Oper} {op : Oper} {a : Act} {w : World} {Q : Exit → Act → World → Prop} (hd : op.dst = some d) (hw : Region.wanted op (yielded ops a.tmps) = true) (x : Operand) (ho : op.op = .load 38 x)
    (b o : Nat) (hx : a.eval x = .pointer (some ⟨b, o, none⟩)) (k : List Int) (hk : Ky k) (hat : KeyAt w b o k)
    (h : wpList Tryz.prog ops Q rest (a.put op.dst (kv k)) w) : wpList Tryz.prog ops Q (op :: rest) a w :=
  wpList_load_keyG hw x ho b o hx k hk hat h
theorem key_parts : ∃ i, Tryz.prog.info? 5 = some i := by
  have : (Tryz.prog.info? 5).isSome = true := by kernel_rfl
  exact Option.isSome_iff_exists.1 this
/-- Two keys held against one another. -/
theorem eq_key (w : World) (a b : List Int) (ha : Ky a) (hb : Ky b) : (Op.equalIn 10000 38 (kv a) (kv b)).run Tryz.prog w = .ok (decide (a = b)) w := by
  obtain ⟨i, hi⟩ := key_parts
  rw [eq_arr Tryz.underlying38 Tryz.underlying5 (by kernel_rfl) hi w a b ha.len hb.len]
  by_cases h : a = b <;> simp [h]
end Go.Proofs.YtileidbdmpeciaaGreat

namespace Go.Proofs.YtileidbdmpeciaaGreat
open Go.RowKit
set_option linter.unusedVariables false

theorem below_cells {B : Nat} {a : World} {b : Nat} (hB : B ≤ b) : ∀ {vs : List Value} {o : Nat} {w : World}, Below B a w → Below B a (w.setCells b o vs)
  | [], _, _, h => h
  | v :: r, o, w, h => below_cells hB (vs := r) (h.setCell (p := ⟨b, o, none⟩) hB v)
theorem size_cells (b : Nat) : ∀ (vs : List Value) (o : Nat) (w : World), (w.setCells b o vs).heap.size = w.heap.size
  | [], _, _ => rfl
  | v :: r, o, w => by rw [World.setCells, size_cells b r, World.size_setCell]
/-- A key that lies in a block that may be written. -/
structure KeyMine (w : World) (b o : Nat) (k : List Int) : Prop where
  lies : KeyAt w b o k
  free : ∀ i, i < 16 → w.frozen? ⟨b, o + i, none⟩ = false
  ky : Ky k
theorem KeyMine.free0 {w : World} {b : Nat} {k : List Int} (h : KeyMine w b 0 k) (i : Nat) (hi : i < 16) : w.frozen? ⟨b, i, none⟩ = false := by
  have := h.free i hi
  rwa [Nat.zero_add] at this
theorem KeyMine.made (w : World) (T : TypeId) (k : List Int) (hk : Ky k) : KeyMine (w.alloc (.cells (kcs k) T)) w.heap.size 0 k :=
  ⟨KeyAt.made w T k hk, fun i hi => World.frozen?_alloc_new _ _ _ _, hk⟩
theorem KeyMine.below {w w' : World} {b o B : Nat} {k : List Int} (h : KeyMine w b o k) (hb : Below B w w') (hB : b < B) : KeyMine w' b o k :=
  ⟨h.lies.below hb hB, fun i hi => by rw [hb.frozen (p := ⟨b, o + i, none⟩) hB]; exact h.free i hi, h.ky⟩
theorem KeyMine.alloc {w : World} {b o : Nat} {k : List Int} (h : KeyMine w b o k) (ob : Obj) : KeyMine (w.alloc ob) b o k :=
  h.below ((Below.refl w.heap.size _).alloc (Nat.le_refl _) ob) h.lies.lt
theorem KeyMine.there {w : World} {b o : Nat} {k : List Int} (h : KeyMine w b o k) : w.there b o 16 :=
  fun j hj => ⟨by rw [h.lies.cell j hj]; rfl, h.free j hj⟩
theorem KeyMine.store {w : World} {b o : Nat} {k k' : List Int} (h : KeyMine w b o k) (hk : Ky k') : KeyMine (w.setCells b o (k'.map (Value.int .u8))) b o k' := by
  have ht := h.there
  have hl : (k'.map (Value.int .u8)).length = 16 := by rw [List.length_map]; exact hk.len
  rw [← hl] at ht
  have hr := World.rangeAt_setCells_same w b o (k'.map (Value.int .u8)) ht
  refine ⟨⟨fun i hi => ?_⟩, fun i hi => by rw [World.frozen?_setCells]; exact h.free i hi, hk⟩
  refine hr i _ ?_
  have hi' : i < k'.length := by rw [hk.len]; exact hi
  simp [List.getD, hi']
theorem KeyMine.other {w : World} {b o c o' : Nat} {k : List Int} {vs : List Value} (h : KeyMine w b o k) (hne : b ≠ c) : KeyMine (w.setCells c o' vs) b o k :=
  ⟨⟨fun i hi => by rw [World.cell?_setCells_out c vs o' w ⟨b, o + i, none⟩ (fun e _ => absurd e hne)]; exact h.lies.cell i hi⟩, fun i hi => by rw [World.frozen?_setCells]; exact h.free i hi, h.ky⟩
theorem KeyMine.aside {w : World} {b o : Nat} {k : List Int} {p : Addr} {v : Value} (h : KeyMine w b o k) (hne : b ≠ p.block) : KeyMine (w.setCell p v) b o k :=
  ⟨⟨fun i hi => by rw [World.cell?_setCell_other _ _ _ _ (by intro e; exact hne (by rw [e]))]; exact h.lies.cell i hi⟩, fun i hi => by rw [World.frozen?_setCell]; exact h.free i hi, h.ky⟩
theorem KeyMine.set {w : World} {b : Nat} {k : List Int} (h : KeyMine w b 0 k) (n : Nat) (z : Int) (hn : n < 16) (h0 : 0 ≤ z) (h1 : z ≤ 255) : KeyMine (w.setCell ⟨b, n, none⟩ (.int .u8 z)) b 0 (k.set n z) := by
  refine ⟨⟨fun i hi => ?_⟩, fun i hi => by rw [World.frozen?_setCell]; exact h.free i hi, ⟨by rw [List.length_set]; exact h.ky.len, fun y hy => ?_⟩⟩
  · rw [Nat.zero_add]
    by_cases e : n = i
    · subst e
      rw [World.cell?_setCell_same _ _ _ (h.lies.cell0 n hn)]
      have : n < k.length := by rw [h.ky.len]; exact hn
      simp [List.getD, this]
    · rw [World.cell?_setCell_other _ _ _ _ (by intro h'; injection h' with _ h2; exact e h2), h.lies.cell0 i hi]
      simp [List.getD, e]
  · rcases List.mem_or_eq_of_mem_set hy with h' | rfl
    · exact h.ky.bytes y h'
    · exact ⟨h0, h1⟩
theorem kcs_one (k : List Int) : (kcs k).all (·.oneCell') = true := all_oneCell_toArray (ints_oneCell _ _)
/-- A key is stored whole. -/
theorem wpList_store_key {ops : Array Oper} {rest : List Oper} {op : Oper} {a : Act} {w : World} {Q : Exit → Act → World → Prop} (hgd : op.guard = none) (x y : Operand) (ho : op.op = .store 38 x y)
    (b o : Nat) (k k' : List Int) (hx : a.eval x = .pointer (some ⟨b, o, none⟩)) (hy : a.eval y = kv k') (hk : Ky k') (hat : KeyMine w b o k)
    (h : wpList Tryz.prog ops Q rest (a.put op.dst undef) (w.setCells b o (k'.map (Value.int .u8)))) : wpList Tryz.prog ops Q (op :: rest) a w := by
  have hl : (kcs k').size = 16 := by simp [kcs, hk.len]
  refine wpList_store_mid hgd 38 x y ho b o (kcs k') hx hy (by rw [hl]; exact hat.there) (by rw [info_key, hl]) (kcs_one k') ?_
  exact h
/-- As above, the world behind it a letter. -/
theorem wpList_store_keyU {ops : Array Oper} {rest : List Oper} {op : Oper} {a : Act} {w : World} {Q : Exit → Act → World → Prop} (hgd : op.guard = none) (x y : Operand) (ho : op.op = .store 38 x y)
    (b o : Nat) (k k' : List Int) (hx : a.eval x = .pointer (some ⟨b, o, none⟩)) (hy : a.eval y = kv k') (hk : Ky k') (hat : KeyMine w b o k)
    (h : ∀ u, u = w.setCells b o (k'.map (Value.int .u8)) → wpList Tryz.prog ops Q rest (a.put op.dst undef) u) : wpList Tryz.prog ops Q (op :: rest) a w :=
  wpList_store_key hgd x y ho b o k k' hx hy hk hat (h _ rfl)
/-- A key and a plain value are answered. -/
theorem results_key {fn : Func} {c t : Tmp} (h : fn.results = #[.cell c 38, .tmp t]) (tmps : Array Value) (w : World) (b o : Nat) (k : List Int) (hp : tmps.getD c undef = .pointer (some ⟨b, o, none⟩)) (hk : Ky k) (hat : KeyAt w b o k) :
    (results fn tmps).run Tryz.prog w = .ok (.tuple #[kv k, tmps.getD t undef]) w := by
  have hl := run_loadVar_mid (P := Tryz.prog) w b o 38 (k.map (Value.int .u8)) _ (hat.range hk) Tryz.underlying38 rfl (by rw [info_key, List.length_map, hk.len])
  unfold results
  rw [h]
  simp only [List.mapM_toArray, List.mapM_cons, List.mapM_nil, hp]
  simp [asAddr, hl]
theorem keyK_next {s : List Int} {n : Nat} (hn : n < s.length) (hs : s.length ≤ 16) : keyK (s.take (n + 1)) = (keyK (s.take n)).set n (s.getD n 0) := by
  have e : s.take (n + 1) = s.take n ++ [s.getD n 0] := by rw [List.take_add_one]; simp [List.getD, hn]
  have l1 : (s.take n).length = n := by simp; omega
  unfold keyK
  rw [e, List.length_append, l1]
  obtain ⟨m, hm⟩ : ∃ m, 16 - n = m + 1 := ⟨15 - n, by omega⟩
  rw [show 16 - (n + [s.getD n 0].length) = m by simp; omega, hm, List.replicate_succ]
  rw [List.set_append_right _ _ (by omega), l1]
  simp
end Go.Proofs.YtileidbdmpeciaaGreat

namespace Go.Proofs.YtileidbdmpeciaaGreat
open Go.RowKit
set_option linter.unusedVariables false

theorem addr_add (b off j : Nat) : (⟨b, off, none⟩ : Addr).add j = ⟨b, off + j, none⟩ := by unfold Addr.add; split <;> simp_all
theorem info_of {e : TypeId} {z : Value} {size bytes : Nat} (h : (Tryz.prog.info? e).map (fun i => (i.zero, i.size, i.bytes)) = some (some z, size, bytes)) : ∃ i, Tryz.prog.info? e = some i ∧ i.zero = some z ∧ i.size = size ∧ i.bytes = bytes := by
  cases hi : Tryz.prog.info? e with
  | none => rw [hi] at h; cases h
  | some i =>
    rw [hi] at h
    simp only [Option.map_some, Option.some.injEq, Prod.mk.injEq] at h
    exact ⟨i, rfl, h.1, h.2.1, h.2.2⟩
/-- What is behind the call's own lists stays where a list of its own grows. -/
theorem own_below {w w' : World} {B e size n : Nat} {v : Value} {vs : List Value} (h : w.ownsRow B e size v n vs) {C : Nat} (hb : Below C w w') (hC : w.heap.size ≤ C) : w'.ownsRow B e size v n vs := by
  obtain ⟨hl, h0 | ⟨g, cap, cur, hv, hg, hh, r⟩⟩ := h
  · exact ⟨hl, .inl h0⟩
  · have hlt : g < w.heap.size := (Array.getElem?_eq_some_iff.1 hh).1
    exact ⟨hl, .inr ⟨g, cap, cur, hv, hg, by rw [hb.block g (by omega)]; exact hh, r⟩⟩
theorem own_cell {w : World} {B e size n cap g : Nat} {vs : List Value} (h : w.ownsRow B e size (.slice (some ⟨g, 0, none⟩) n cap) n vs) (j : Nat) (u : Value) (hj : vs[j]? = some u) : w.cell? ⟨g, j, none⟩ = some u := by
  obtain ⟨hl, h0 | ⟨g', cap', cur, hv, hg, hh, h1, h2, h3, h4⟩⟩ := h
  · cases h0.1
  · cases hv
    have : cur[j]? = some u := by
      have hlt : j < n * size := by rw [← hl]; exact (List.getElem?_eq_some_iff.1 hj).1
      have e : (cur.toList.take (n * size))[j]? = some u := by rw [h4]; exact hj
      rw [List.getElem?_take_of_lt hlt] at e
      simpa using e
    simp [World.cell?, hh, this]
end Go.Proofs.YtileidbdmpeciaaGreat

