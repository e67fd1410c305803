/-
  Keys in memory: a key's block, a key as a value.
  Keys that a call makes and writes: the laws of its block.
  'l = append(l, x)' for a list of the call's own whose elements take so many cells each; a list of texts; a list of pairs of integers.
  Lists whose elements have several cells each: lists that the call made itself, lists that lie somewhere, one put behind the other.
-/
import Derived.Test.YtileidbdmpeciaaGreatAu103
import Derived.Test.YtileidbdmpeciaaGreatAu113
import Derived.Deep.MidRow
import Derived.Deep.RegionHeld3
import Derived.Laws.AppendOwn
import Derived.Laws.AppendOwnNone
import Derived.Deep.RegionLaw
namespace Go.Proofs.YtileidbdmpeciaaGreat
open Go.RowKit
set_option linter.unusedVariables false

/-- A key's cells. -/
abbrev kcs (k : List Int) : Array Value := (k.map (Value.int .u8)).toArray
/-- A key as a value. -/
abbrev kv (k : List Int) : Value := .agg (kcs k)
theorem Ky.at {k : List Int} (h : Ky k) (i : Nat) : 0 ≤ k.getD i 0 ∧ k.getD i 0 ≤ 255 := by
  by_cases hi : i < k.length
  · have e : k.getD i 0 = k[i] := by simp [List.getD, hi]
    rw [e]; exact h.bytes _ (List.getElem_mem hi)
  · have e : k.getD i 0 = 0 := by simp [List.getD]; rw [List.getElem?_eq_none (by omega)]; rfl
    rw [e]; omega
/-- A key that lies in a block, from a place on. -/
structure KeyAt (w : World) (b o : Nat) (k : List Int) : Prop where
  cell : ∀ i, i < 16 → w.cell? ⟨b, o + i, none⟩ = some (.int .u8 (k.getD i 0))
theorem KeyAt.cell0 {w : World} {b : Nat} {k : List Int} (h : KeyAt w b 0 k) (i : Nat) (hi : i < 16) : w.cell? ⟨b, i, none⟩ = some (.int .u8 (k.getD i 0)) := by
  have := h.cell i hi
  rwa [Nat.zero_add] at this
theorem KeyAt.lt {w : World} {b o : Nat} {k : List Int} (h : KeyAt w b o k) : b < w.heap.size := lt_of_cell (h.cell 0 (by omega))
theorem KeyAt.made (w : World) (T : TypeId) (k : List Int) (hk : Ky k) : KeyAt (w.alloc (.cells (kcs k) T)) w.heap.size 0 k := by
  refine ⟨fun i hi => ?_⟩
  rw [World.cell?_alloc_new]
  have hl : i < k.length := by rw [hk.len]; exact hi
  simp [kcs, List.getD, hl]
theorem KeyAt.below {w w' : World} {b o B : Nat} {k : List Int} (h : KeyAt w b o k) (hb : Below B w w') (hB : b < B) : KeyAt w' b o k :=
  ⟨fun i hi => by rw [hb.cell (p := ⟨b, o + i, none⟩) hB]; exact h.cell i hi⟩
theorem KeyAt.past {w w' : World} {b o : Nat} {k : List Int} (h : KeyAt w b o k) (hb : Below w.heap.size w w') : KeyAt w' b o k := h.below hb h.lt
theorem KeyAt.same {w w' : World} {b o : Nat} {k : List Int} (h : KeyAt w b o k) (he : w'.heap = w.heap) : KeyAt w' b o k :=
  ⟨fun i hi => by rw [same_heap he]; exact h.cell i hi⟩
theorem KeyAt.alloc {w : World} {b o : Nat} {k : List Int} (h : KeyAt w b o k) (ob : Obj) : KeyAt (w.alloc ob) b o k :=
  h.below ((Below.refl w.heap.size _).alloc (Nat.le_refl _) ob) h.lt
theorem KeyAt.range {w : World} {b o : Nat} {k : List Int} (h : KeyAt w b o k) (hk : Ky k) : w.rangeAt b o (k.map (Value.int .u8)) := by
  intro j v hv
  rw [List.getElem?_map] at hv
  obtain ⟨z, hz, rfl⟩ := Option.map_eq_some_iff.1 hv
  have hj : j < 16 := by rw [← hk.len]; exact (List.getElem?_eq_some_iff.1 hz).1
  rw [h.cell j hj]
  simp [List.getD, hz]
theorem info_key : (Tryz.prog.info? 38).map (·.size) = some 16 := by kernel_rfl
/-- A key is read whole. -/
theorem wpList_load_key {ops : Array Oper} {rest : List Oper} {op : Oper} {a : Act} {w : World} {Q : Exit → Act → World → Prop} (hgd : op.guard = none) (x : Operand) (ho : op.op = .load 38 x)
    (b o : Nat) (hx : a.eval x = .pointer (some ⟨b, o, none⟩)) (k : List Int) (hk : Ky k) (hat : KeyAt w b o k)
    (h : wpList Tryz.prog ops Q rest (a.put op.dst (kv k)) w) : wpList Tryz.prog ops Q (op :: rest) a w :=
  wpList_load_mid hgd 38 x ho b o hx (k.map (Value.int .u8)) _ (hat.range hk) Tryz.underlying38 rfl (by rw [info_key, List.length_map, hk.len]) h
/-- As above, at a guarded operation whose guard is met. -/
theorem wpList_load_keyG {ops : Array Oper} {rest : List Oper} {op : Oper} {a : Act} {w : World} {Q : Exit → Act → World → Prop} (hw : Region.wanted op (yielded ops a.tmps) = true) (x : Operand) (ho : op.op = .load 38 x)
    (b o : Nat) (hx : a.eval x = .pointer (some ⟨b, o, none⟩)) (k : List Int) (hk : Ky k) (hat : KeyAt w b o k)
    (h : wpList Tryz.prog ops Q rest (a.put op.dst (kv k)) w) : wpList Tryz.prog ops Q (op :: rest) a w :=
  wpList_step fun K hK => by
    rw [if_pos hw]
    exact wp_load_mid 38 x ho b o hx (k.map (Value.int .u8)) _ (hat.range hk) Tryz.underlying38 rfl (by rw [info_key, List.length_map, hk.len]) (hK _ _ h)
/-- As above, at the operation that fills slot d. -/
theorem wpList_load_keyD (d : Tmp) {ops : Array Oper} {rest : List Oper} {op : Oper} {a : Act} {w : World} {Q : Exit → Act → World → Prop} (hd : op.dst = some d) (hw : Region.wanted op (yielded ops a.tmps) = true) (x : Operand) (ho : op.op = .load 38 x)
    (b o : Nat) (hx : a.eval x = .pointer (some ⟨b, o, none⟩)) (k : List Int) (hk : Ky k) (hat : KeyAt w b o k)
    (h : wpList Tryz.prog ops Q rest (a.put op.dst (kv k)) w) : wpList Tryz.prog ops Q (op :: rest) a w :=
  wpList_load_keyG hw x ho b o hx k hk hat h
theorem wpList_load_keyN (d : Tmp) {ops : Array Oper} {rest : List Oper} {op : Oper} {a : Act} {w : World} {Q : Exit → Act → World → Prop} (hd : op.dst = some d) (hgd : op.guard = none) (x : Operand) (ho : op.op = .load 38 x)
    (b o : Nat) (hx : a.eval x = .pointer (some ⟨b, o, none⟩)) (k : List Int) (hk : Ky k) (hat : KeyAt w b o k)
    (h : wpList Tryz.prog ops Q rest (a.put op.dst (kv k)) w) : wpList Tryz.prog ops Q (op :: rest) a w :=
  wpList_load_key hgd x ho b o hx k hk hat h
theorem key_parts : ∃ i, Tryz.prog.info? 5 = some i := by
  have : (Tryz.prog.info? 5).isSome = true := by kernel_rfl
  exact Option.isSome_iff_exists.1 this
/-- Two keys held against one another. -/
theorem eq_key (w : World) (a b : List Int) (ha : Ky a) (hb : Ky b) : (Op.equalIn 10000 38 (kv a) (kv b)).run Tryz.prog w = .ok (decide (a = b)) w := by
  obtain ⟨i, hi⟩ := key_parts
  rw [eq_arr Tryz.underlying38 Tryz.underlying5 (by kernel_rfl) hi w a b ha.len hb.len]
  by_cases h : a = b <;> simp [h]
theorem tx_first : ∀ k : List Int, (txK k).length < k.length → k.getD (txK k).length 0 = 0
  | [], h => by simp at h
  | a :: r, h => by
    unfold txK at h ⊢
    rw [List.takeWhile_cons] at h ⊢
    by_cases ha : (a != 0) = true
    · rw [if_pos ha] at h ⊢
      have := tx_first r (by unfold txK; simpa using h)
      unfold txK at this
      simpa using this
    · rw [if_neg ha]
      simpa using ha
theorem tx_none {k : List Int} {i : Nat} (h : i < (txK k).length) : k.getD i 0 ≠ 0 := by
  have e : k.getD i 0 = (txK k)[i] := by
    have hs := txK_split k
    have : k.getD i 0 = (txK k ++ k.drop (txK k).length).getD i 0 := by rw [← hs]
    rw [this]
    simp [List.getD, List.getElem?_append, h]
  rw [e]
  exact txK_none k _ (List.getElem_mem h)
theorem tx_more {k : List Int} {i : Nat} (h : i ≤ (txK k).length) (hi : i < k.length) (hz : k.getD i 0 ≠ 0) : i + 1 ≤ (txK k).length := by
  rcases Nat.lt_or_ge i (txK k).length with h1 | h1
  · exact h1
  · have e : (txK k).length = i := by omega
    have := tx_first k (by omega)
    rw [e] at this
    exact absurd this hz
theorem take_drop_next {k : List Int} {n m : Nat} (h : ∀ z ∈ (k.take n).drop m, z = 0) (hn : n < k.length) (hz : m ≤ n → k.getD n 0 = 0) : ∀ z ∈ (k.take (n + 1)).drop m, z = 0 := by
  intro z hm
  rw [List.take_succ_eq_append_getElem hn, List.drop_append, List.mem_append] at hm
  rcases hm with hm | hm
  · exact h z hm
  · by_cases hmn : m ≤ n
    · have e := hz hmn
      have : (m - (k.take n).length) = 0 := by simp; omega
      rw [this] at hm
      simp at hm
      rw [hm]
      simpa [List.getD, hn] using e
    · have : [k[n]].drop (m - (k.take n).length) = [] := List.drop_eq_nil_of_le (by simp; omega)
      rw [this] at hm
      simp at hm
theorem good_none {k : List Int} {n : Nat} (h : (txK k).length < n) (hn : n < k.length) (hz : k.getD n 0 ≠ 0) : goodK k = false := by
  refine decide_eq_false fun hg => hz ?_
  refine hg.2 _ ?_
  have : k.getD n 0 = (k.drop (txK k).length).getD (n - (txK k).length) 0 := by
    simp [List.getD, show (txK k).length + (n - (txK k).length) = n by omega]
  rw [this]
  have hl : n - (txK k).length < (k.drop (txK k).length).length := by simp; omega
  have e : (k.drop (txK k).length).getD (n - (txK k).length) 0 = (k.drop (txK k).length)[n - (txK k).length] := by rw [List.getD, List.getElem?_eq_getElem hl]; rfl
  rw [e]
  exact List.getElem_mem hl
theorem good_end {k : List Int} (hk : Ky k) (h : ∀ z ∈ (k.take 16).drop (txK k).length, z = 0) : goodK k = (k.getD 0 0 != 0) := by
  have e : k.take 16 = k := List.take_of_length_le (by rw [hk.len]; exact Nat.le_refl _)
  rw [e] at h
  unfold goodK
  by_cases h0 : k.getD 0 0 = 0
  · rw [decide_eq_false (fun x => x.1 h0), h0]; rfl
  · rw [decide_eq_true ⟨h0, h⟩]; exact (bne_iff_ne.2 h0).symm
end Go.Proofs.YtileidbdmpeciaaGreat

namespace Go.Proofs.YtileidbdmpeciaaGreat
open Go.RowKit
set_option linter.unusedVariables false

theorem below_cells {B : Nat} {a : World} {b : Nat} (hB : B ≤ b) : ∀ {vs : List Value} {o : Nat} {w : World}, Below B a w → Below B a (w.setCells b o vs)
  | [], _, _, h => h
  | v :: r, o, w, h => below_cells hB (vs := r) (h.setCell (p := ⟨b, o, none⟩) hB v)
theorem size_cells (b : Nat) : ∀ (vs : List Value) (o : Nat) (w : World), (w.setCells b o vs).heap.size = w.heap.size
  | [], _, _ => rfl
  | v :: r, o, w => by rw [World.setCells, size_cells b r, World.size_setCell]
/-- A key that lies in a block that may be written. -/
structure KeyMine (w : World) (b o : Nat) (k : List Int) : Prop where
  lies : KeyAt w b o k
  free : ∀ i, i < 16 → w.frozen? ⟨b, o + i, none⟩ = false
  ky : Ky k
theorem KeyMine.free0 {w : World} {b : Nat} {k : List Int} (h : KeyMine w b 0 k) (i : Nat) (hi : i < 16) : w.frozen? ⟨b, i, none⟩ = false := by
  have := h.free i hi
  rwa [Nat.zero_add] at this
theorem KeyMine.made (w : World) (T : TypeId) (k : List Int) (hk : Ky k) : KeyMine (w.alloc (.cells (kcs k) T)) w.heap.size 0 k :=
  ⟨KeyAt.made w T k hk, fun i hi => World.frozen?_alloc_new _ _ _ _, hk⟩
theorem KeyMine.below {w w' : World} {b o B : Nat} {k : List Int} (h : KeyMine w b o k) (hb : Below B w w') (hB : b < B) : KeyMine w' b o k :=
  ⟨h.lies.below hb hB, fun i hi => by rw [hb.frozen (p := ⟨b, o + i, none⟩) hB]; exact h.free i hi, h.ky⟩
theorem KeyMine.alloc {w : World} {b o : Nat} {k : List Int} (h : KeyMine w b o k) (ob : Obj) : KeyMine (w.alloc ob) b o k :=
  h.below ((Below.refl w.heap.size _).alloc (Nat.le_refl _) ob) h.lies.lt
theorem KeyMine.there {w : World} {b o : Nat} {k : List Int} (h : KeyMine w b o k) : w.there b o 16 :=
  fun j hj => ⟨by rw [h.lies.cell j hj]; rfl, h.free j hj⟩
theorem KeyMine.store {w : World} {b o : Nat} {k k' : List Int} (h : KeyMine w b o k) (hk : Ky k') : KeyMine (w.setCells b o (k'.map (Value.int .u8))) b o k' := by
  have ht := h.there
  have hl : (k'.map (Value.int .u8)).length = 16 := by rw [List.length_map]; exact hk.len
  rw [← hl] at ht
  have hr := World.rangeAt_setCells_same w b o (k'.map (Value.int .u8)) ht
  refine ⟨⟨fun i hi => ?_⟩, fun i hi => by rw [World.frozen?_setCells]; exact h.free i hi, hk⟩
  refine hr i _ ?_
  have hi' : i < k'.length := by rw [hk.len]; exact hi
  simp [List.getD, hi']
theorem KeyMine.other {w : World} {b o c o' : Nat} {k : List Int} {vs : List Value} (h : KeyMine w b o k) (hne : b ≠ c) : KeyMine (w.setCells c o' vs) b o k :=
  ⟨⟨fun i hi => by rw [World.cell?_setCells_out c vs o' w ⟨b, o + i, none⟩ (fun e _ => absurd e hne)]; exact h.lies.cell i hi⟩, fun i hi => by rw [World.frozen?_setCells]; exact h.free i hi, h.ky⟩
theorem KeyMine.aside {w : World} {b o : Nat} {k : List Int} {p : Addr} {v : Value} (h : KeyMine w b o k) (hne : b ≠ p.block) : KeyMine (w.setCell p v) b o k :=
  ⟨⟨fun i hi => by rw [World.cell?_setCell_other _ _ _ _ (by intro e; exact hne (by rw [e]))]; exact h.lies.cell i hi⟩, fun i hi => by rw [World.frozen?_setCell]; exact h.free i hi, h.ky⟩
theorem KeyMine.set {w : World} {b : Nat} {k : List Int} (h : KeyMine w b 0 k) (n : Nat) (z : Int) (hn : n < 16) (h0 : 0 ≤ z) (h1 : z ≤ 255) : KeyMine (w.setCell ⟨b, n, none⟩ (.int .u8 z)) b 0 (k.set n z) := by
  refine ⟨⟨fun i hi => ?_⟩, fun i hi => by rw [World.frozen?_setCell]; exact h.free i hi, ⟨by rw [List.length_set]; exact h.ky.len, fun y hy => ?_⟩⟩
  · rw [Nat.zero_add]
    by_cases e : n = i
    · subst e
      rw [World.cell?_setCell_same _ _ _ (h.lies.cell0 n hn)]
      have : n < k.length := by rw [h.ky.len]; exact hn
      simp [List.getD, this]
    · rw [World.cell?_setCell_other _ _ _ _ (by intro h'; injection h' with _ h2; exact e h2), h.lies.cell0 i hi]
      simp [List.getD, e]
  · rcases List.mem_or_eq_of_mem_set hy with h' | rfl
    · exact h.ky.bytes y h'
    · exact ⟨h0, h1⟩
theorem kcs_one (k : List Int) : (kcs k).all (·.oneCell') = true := all_oneCell_toArray (ints_oneCell _ _)
/-- A key is stored whole. -/
theorem wpList_store_key {ops : Array Oper} {rest : List Oper} {op : Oper} {a : Act} {w : World} {Q : Exit → Act → World → Prop} (hgd : op.guard = none) (x y : Operand) (ho : op.op = .store 38 x y)
    (b o : Nat) (k k' : List Int) (hx : a.eval x = .pointer (some ⟨b, o, none⟩)) (hy : a.eval y = kv k') (hk : Ky k') (hat : KeyMine w b o k)
    (h : wpList Tryz.prog ops Q rest (a.put op.dst undef) (w.setCells b o (k'.map (Value.int .u8)))) : wpList Tryz.prog ops Q (op :: rest) a w := by
  have hl : (kcs k').size = 16 := by simp [kcs, hk.len]
  refine wpList_store_mid hgd 38 x y ho b o (kcs k') hx hy (by rw [hl]; exact hat.there) (by rw [info_key, hl]) (kcs_one k') ?_
  exact h
/-- As above, the world behind it a letter. -/
theorem wpList_store_keyU {ops : Array Oper} {rest : List Oper} {op : Oper} {a : Act} {w : World} {Q : Exit → Act → World → Prop} (hgd : op.guard = none) (x y : Operand) (ho : op.op = .store 38 x y)
    (b o : Nat) (k k' : List Int) (hx : a.eval x = .pointer (some ⟨b, o, none⟩)) (hy : a.eval y = kv k') (hk : Ky k') (hat : KeyMine w b o k)
    (h : ∀ u, u = w.setCells b o (k'.map (Value.int .u8)) → wpList Tryz.prog ops Q rest (a.put op.dst undef) u) : wpList Tryz.prog ops Q (op :: rest) a w :=
  wpList_store_key hgd x y ho b o k k' hx hy hk hat (h _ rfl)
/-- A key and a plain value are answered. -/
theorem results_key {fn : Func} {c t : Tmp} (h : fn.results = #[.cell c 38, .tmp t]) (tmps : Array Value) (w : World) (b o : Nat) (k : List Int) (hp : tmps.getD c undef = .pointer (some ⟨b, o, none⟩)) (hk : Ky k) (hat : KeyAt w b o k) :
    (results fn tmps).run Tryz.prog w = .ok (.tuple #[kv k, tmps.getD t undef]) w := by
  have hl := run_loadVar_mid (P := Tryz.prog) w b o 38 (k.map (Value.int .u8)) _ (hat.range hk) Tryz.underlying38 rfl (by rw [info_key, List.length_map, hk.len])
  unfold results
  rw [h]
  simp only [List.mapM_toArray, List.mapM_cons, List.mapM_nil, hp]
  simp [asAddr, hl]
theorem keyK_next {s : List Int} {n : Nat} (hn : n < s.length) (hs : s.length ≤ 16) : keyK (s.take (n + 1)) = (keyK (s.take n)).set n (s.getD n 0) := by
  have e : s.take (n + 1) = s.take n ++ [s.getD n 0] := by rw [List.take_add_one]; simp [List.getD, hn]
  have l1 : (s.take n).length = n := by simp; omega
  unfold keyK
  rw [e, List.length_append, l1]
  obtain ⟨m, hm⟩ : ∃ m, 16 - n = m + 1 := ⟨15 - n, by omega⟩
  rw [show 16 - (n + [s.getD n 0].length) = m by simp; omega, hm, List.replicate_succ]
  rw [List.set_append_right _ _ (by omega), l1]
  simp
end Go.Proofs.YtileidbdmpeciaaGreat

namespace Go.Proofs.YtileidbdmpeciaaGreat
open Go.RowKit
set_option linter.unusedVariables false

theorem addr_add (b off j : Nat) : (⟨b, off, none⟩ : Addr).add j = ⟨b, off + j, none⟩ := by unfold Addr.add; split <;> simp_all
theorem info_of {e : TypeId} {z : Value} {size bytes : Nat} (h : (Tryz.prog.info? e).map (fun i => (i.zero, i.size, i.bytes)) = some (some z, size, bytes)) : ∃ i, Tryz.prog.info? e = some i ∧ i.zero = some z ∧ i.size = size ∧ i.bytes = bytes := by
  cases hi : Tryz.prog.info? e with
  | none => rw [hi] at h; cases h
  | some i =>
    rw [hi] at h
    simp only [Option.map_some, Option.some.injEq, Prod.mk.injEq] at h
    exact ⟨i, rfl, h.1, h.2.1, h.2.2⟩
/-- What is behind the call's own lists stays where a list of its own grows. -/
theorem own_below {w w' : World} {B e size n : Nat} {v : Value} {vs : List Value} (h : w.ownsRow B e size v n vs) {C : Nat} (hb : Below C w w') (hC : w.heap.size ≤ C) : w'.ownsRow B e size v n vs := by
  obtain ⟨hl, h0 | ⟨g, cap, cur, hv, hg, hh, r⟩⟩ := h
  · exact ⟨hl, .inl h0⟩
  · have hlt : g < w.heap.size := (Array.getElem?_eq_some_iff.1 hh).1
    exact ⟨hl, .inr ⟨g, cap, cur, hv, hg, by rw [hb.block g (by omega)]; exact hh, r⟩⟩
theorem own_cell {w : World} {B e size n cap g : Nat} {vs : List Value} (h : w.ownsRow B e size (.slice (some ⟨g, 0, none⟩) n cap) n vs) (j : Nat) (u : Value) (hj : vs[j]? = some u) : w.cell? ⟨g, j, none⟩ = some u := by
  obtain ⟨hl, h0 | ⟨g', cap', cur, hv, hg, hh, h1, h2, h3, h4⟩⟩ := h
  · cases h0.1
  · cases hv
    have : cur[j]? = some u := by
      have hlt : j < n * size := by rw [← hl]; exact (List.getElem?_eq_some_iff.1 hj).1
      have e : (cur.toList.take (n * size))[j]? = some u := by rw [h4]; exact hj
      rw [List.getElem?_take_of_lt hlt] at e
      simpa using e
    simp [World.cell?, hh, this]
end Go.Proofs.YtileidbdmpeciaaGreat

namespace Go.Proofs.YtileidbdmpeciaaGreat
open Go.RowKit
set_option linter.unusedVariables false

/-- A type of lists: its elements' type, their cells, their bytes. -/
structure ElT (t e : TypeId) (size bytes : Nat) : Prop where
  ht : Tryz.prog.underlying t = some (.slice e)
  info : ∃ i z, Tryz.prog.info? e = some i ∧ i.zero = some z ∧ i.size = size ∧ i.bytes = bytes ∧ z.cells.size = size
  pos : 0 < size
  small : bytes ≤ 1000
theorem ElT.mk' {t e : TypeId} {z : Value} {size bytes : Nat} (ht : Tryz.prog.underlying t = some (.slice e)) (h : (Tryz.prog.info? e).map (fun i => (i.zero, i.size, i.bytes)) = some (some z, size, bytes)) (hz : z.cells.size = size) (hp : 0 < size) (hs : bytes ≤ 1000) : ElT t e size bytes := by
  obtain ⟨i, h1, h2, h3, h4⟩ := info_of h
  exact ⟨ht, ⟨i, z, h1, h2, h3, h4, hz⟩, hp, hs⟩
/-- Cells that lie somewhere. -/
def Lies (w : World) (ao : Option Addr) (vs : List Value) : Prop := ∀ sa, ao = some sa → (vs ≠ [] → sa.spot = none) ∧ ∀ j u, vs[j]? = some u → w.cell? (sa.add j) = some u
theorem Lies.at {w : World} {b o : Nat} {vs : List Value} (h : Lies w (some ⟨b, o, none⟩) vs) (j : Nat) (u : Value) (hj : vs[j]? = some u) : w.cell? ⟨b, o + j, none⟩ = some u := by
  have := (h _ rfl).2 j u hj
  rwa [addr_add] at this
theorem lies_of {w : World} {b o : Nat} {vs : List Value} (h : ∀ j u, vs[j]? = some u → w.cell? ⟨b, o + j, none⟩ = some u) : Lies w (some ⟨b, o, none⟩) vs := by
  intro sa hsa
  injection hsa with hsa
  subst hsa
  exact ⟨fun _ => rfl, fun j u hj => by rw [addr_add]; exact h j u hj⟩
theorem lies_none (w : World) (vs : List Value) : Lies w none vs := fun sa h => by cases h
theorem lies_nil (w : World) (ao : Option Addr) : Lies w ao [] := fun sa hs => ⟨fun h => absurd rfl h, fun j u hj => by simp at hj⟩
theorem lies_empty (w : World) (b o : Nat) : Lies w (some ⟨b, o, none⟩) [] := lies_of (fun j u hj => by simp at hj)
theorem Lies.range {w : World} {b o : Nat} {vs : List Value} (h : Lies w (some ⟨b, o, none⟩) vs) : w.rangeAt b o vs := fun j v hv => h.at j v hv
theorem Lies.below {w w' : World} {b o B : Nat} {vs : List Value} (h : Lies w (some ⟨b, o, none⟩) vs) (hb : Below B w w') (hB : b < B) : Lies w' (some ⟨b, o, none⟩) vs :=
  lies_of fun j u hj => by rw [hb.cell (p := ⟨b, o + j, none⟩) hB]; exact h.at j u hj
theorem Lies.past {w w' : World} {ao : Option Addr} {vs : List Value} (h : Lies w ao vs) (hb : Below w.heap.size w w') : Lies w' ao vs := by
  intro sa hsa
  subst hsa
  obtain ⟨hs, h⟩ := h sa rfl
  refine ⟨hs, fun j u hj => ?_⟩
  have h1 := h j u hj
  have hs := hs (fun e => by rw [e] at hj; simp at hj)
  obtain ⟨b, o, sp⟩ := sa
  simp at hs
  subst hs
  rw [addr_add] at h1 ⊢
  have hlt : b < w.heap.size := by
    rcases Nat.lt_or_ge b w.heap.size with h' | h'
    · exact h'
    · simp [World.cell?, Array.getElem?_eq_none h'] at h1
  rw [hb.cell (p := ⟨b, o + j, none⟩) hlt]; exact h1
theorem Lies.kept {w w' : World} {g o : Nat} {vs : List Value} {x : Option Nat} (h : Lies w (some ⟨g, o, none⟩) vs) (hg : w.grownBy w' x) (hlt : g < w.heap.size) (hne : some g ≠ x) : Lies w' (some ⟨g, o, none⟩) vs :=
  lies_of fun j u hj => by
    rw [← h.at j u hj]
    have h2 := hg.block g hlt hne
    simp [World.cell?, h2]
theorem Lies.drew {w : World} {ao : Option Addr} {vs : List Value} (h : Lies w ao vs) : Lies w.drew ao vs := h
theorem Lies.alloc {w : World} {g o : Nat} {vs : List Value} (h : Lies w (some ⟨g, o, none⟩) vs) (hlt : g < w.heap.size) (ob : Obj) : Lies (w.alloc ob) (some ⟨g, o, none⟩) vs :=
  h.below ((Below.refl w.heap.size _).alloc (Nat.le_refl _) ob) hlt
theorem Lies.sub {w : World} {b o : Nat} {vs : List Value} (h : Lies w (some ⟨b, o, none⟩) vs) (k m : Nat) : Lies w (some ⟨b, o + k, none⟩) ((vs.drop k).take m) :=
  lies_of fun j u hj => by
    rw [Nat.add_assoc]
    refine h.at (k + j) u ?_
    have hm : j < m := by
      rcases Nat.lt_or_ge j m with h' | h'
      · exact h'
      · rw [List.getElem?_eq_none (by simp; omega)] at hj; cases hj
    rw [List.getElem?_take_of_lt hm, List.getElem?_drop] at hj
    exact hj
theorem Lies.dropped {w : World} {b o : Nat} {vs : List Value} (h : Lies w (some ⟨b, o, none⟩) vs) (k : Nat) : Lies w (some ⟨b, o + k, none⟩) (vs.drop k) :=
  lies_of fun j u hj => by
    rw [Nat.add_assoc]
    rw [List.getElem?_drop] at hj
    exact h.at (k + j) u hj
theorem Lies.taken {w : World} {b o : Nat} {vs : List Value} (h : Lies w (some ⟨b, o, none⟩) vs) (m : Nat) : Lies w (some ⟨b, o, none⟩) (vs.take m) := by
  have := h.sub 0 m
  rwa [Nat.add_zero, List.drop_zero] at this
theorem lies_made (w : World) (C : Array Value) (e : TypeId) : Lies (w.alloc (.cells C e)) (some ⟨w.heap.size, 0, none⟩) C.toList :=
  lies_of fun j u hj => by
    rw [Nat.zero_add, World.cell?_alloc_new]
    simpa using hj
theorem own_lies {w : World} {B e size n cap g : Nat} {vs : List Value} (h : w.ownsRow B e size (.slice (some ⟨g, 0, none⟩) n cap) n vs) : Lies w (some ⟨g, 0, none⟩) vs :=
  lies_of fun j u hj => by rw [Nat.zero_add]; exact own_cell h j u hj
theorem own_form {w : World} {B e size n : Nat} {v : Value} {vs : List Value} (h : w.ownsRow B e size v n vs) : ∃ a cap, v = .slice a n cap := by
  rcases h.2 with ⟨hv, h0⟩ | ⟨g, cap, cur, hv, _⟩
  · exact ⟨_, _, by rw [h0]; exact hv⟩
  · exact ⟨_, _, hv⟩
theorem run_append_els {t e : TypeId} {size bytes : Nat} (E : ElT t e size bytes) (w : World) (B : Nat) (v : Value) (n : Nat) (xs : List Value) (hown : w.ownsRow B e size v n xs) (ao : Option Addr) (m c : Nat) (news : List Value) (hl : news.length = m * size) (hsrc : Lies w ao news) (h1 : ∀ u ∈ news, u.oneCell' = true) (hnil : ao = none → m = 0 ∧ c = 0) (hn : n + m ≤ 1000000) (hB : B ≤ w.heap.size) (ty : TypeId) :
    ∃ a' cap' w', (Builtin.append_ #[t, t] ty #[v, .slice ao m c]).run Tryz.prog w = .ok (.slice a' (n + m) cap') w' ∧ w'.ownsRow B e size (.slice a' (n + m) cap') (n + m) (xs ++ news) ∧ w.grownBy w' v.ownBlock := by
  obtain ⟨i0, z, hi, hz0, hz1, hz2, hz3⟩ := E.info
  cases ao with
  | none =>
    obtain ⟨rfl, rfl⟩ := hnil rfl
    have hz : news = [] := List.eq_nil_of_length_eq_zero (by rw [hl]; simp)
    subst hz
    obtain ⟨ao, cap, rfl⟩ := own_form hown
    have hrun := run_append_owned_none (P := Tryz.prog) (w := w) B t ty e i0 size E.ht hi _ n xs hown
    refine ⟨ao, cap, w, ?_, by simpa using hown, ⟨rfl, rfl, rfl, Nat.le_refl _, fun _ _ _ => rfl⟩⟩
    simpa using hrun
  | some sa =>
    have hbig : (n + m) * bytes ≤ 140737488355328 := Nat.le_trans (Nat.mul_le_mul hn E.small) (by decide)
    obtain ⟨v', w', hrun, h2, h3, _⟩ := run_append_own (P := Tryz.prog) w B t ty e i0 z size bytes E.ht hi hz0 hz1 hz2 hz3 E.pos v n xs hown sa m c news hl (hsrc sa rfl).2 h1 (by unfold maxLen; omega) hbig hB
    obtain ⟨a', cap', rfl⟩ := own_form h2
    exact ⟨a', cap', w', hrun, h2, h3⟩
/-- One append as one step of a region that draws its order. -/
theorem step_append_els {t e : TypeId} {size bytes : Nat} (E : ElT t e size bytes) {w0 w : World} {ops : Array Oper} {o : Oper} {a : Act} {K : Act → World → Prop} {Q : Exit → Act → World → Prop} {X : Prop} (hgd : o.guard = none) (s x : Operand)
    (ho : o.op = .call { callee := .builtin .append, args := #[s, x], argTypes := #[t, t] }) (hb : Below w0.heap.size w0 w)
    (v : Value) (n : Nat) (xs news : List Value) (hs : a.eval s = v) (hown : w.ownsRow w0.heap.size e size v n xs) (ao : Option Addr) (m c : Nat) (hx : a.eval x = .slice ao m c) (hl : news.length = m * size) (hsrc : Lies w ao news) (h1 : ∀ u ∈ news, u.oneCell' = true) (hnil : ao = none → m = 0 ∧ c = 0) (hn : n + m ≤ 1000000)
    (h : ∀ a' cap' w', w'.ownsRow w0.heap.size e size (.slice a' (n + m) cap') (n + m) (xs ++ news) → w.grownBy w' v.ownBlock → Below w0.heap.size w0 w' → K (a.put o.dst (.slice a' (n + m) cap')) w') :
    if Region.wanted o (yielded ops a.tmps) = true then Oper.wp Tryz.prog o a w K Q else X := by
  have hw : Region.wanted o (yielded ops a.tmps) = true := by simp [Region.wanted, hgd]
  rw [if_pos hw]
  obtain ⟨a', cap', w', hrun, h2, h3⟩ := run_append_els E w w0.heap.size v n xs hown ao m c news hl hsrc h1 hnil hn hb.size o.type
  unfold Oper.wp
  simp [execOp, ho, resolve, invoke, builtin, hs, hx, hrun, Result.andThen]
  exact h a' cap' w' h2 h3 (hb.grown h3 hb.size (fun k hk => (hown.lt k hk).1))
/-- The same in a region whose order stands. -/
theorem wpList_append_els {t e : TypeId} {size bytes : Nat} (E : ElT t e size bytes) {w0 w : World} {ops : Array Oper} {rest : List Oper} {o : Oper} {a : Act} {Q : Exit → Act → World → Prop} (hgd : o.guard = none) (s x : Operand)
    (ho : o.op = .call { callee := .builtin .append, args := #[s, x], argTypes := #[t, t] }) (hb : Below w0.heap.size w0 w)
    (v : Value) (n : Nat) (xs news : List Value) (hs : a.eval s = v) (hown : w.ownsRow w0.heap.size e size v n xs) (ao : Option Addr) (m c : Nat) (hx : a.eval x = .slice ao m c) (hl : news.length = m * size) (hsrc : Lies w ao news) (h1 : ∀ u ∈ news, u.oneCell' = true) (hnil : ao = none → m = 0 ∧ c = 0) (hn : n + m ≤ 1000000)
    (h : ∀ a' cap' w', w'.ownsRow w0.heap.size e size (.slice a' (n + m) cap') (n + m) (xs ++ news) → w.grownBy w' v.ownBlock → Below w0.heap.size w0 w' → wpList Tryz.prog ops Q rest (a.put o.dst (.slice a' (n + m) cap')) w') : wpList Tryz.prog ops Q (o :: rest) a w := by
  refine wpList_plain hgd fun K hK => ?_
  obtain ⟨a', cap', w', hrun, h2, h3⟩ := run_append_els E w w0.heap.size v n xs hown ao m c news hl hsrc h1 hnil hn hb.size o.type
  unfold Oper.wp
  simp [execOp, ho, resolve, invoke, builtin, hs, hx, hrun, Result.andThen]
  exact hK _ _ (h a' cap' w' h2 h3 (hb.grown h3 hb.size (fun k hk => (hown.lt k hk).1)))
/-- A list of the call's own, all since world w0. -/
structure OwnB (e : TypeId) (size : Nat) (w0 u : World) (v : Value) (n : Nat) (xs : List Value) : Prop where
  own : u.ownsRow w0.heap.size e size v n xs
  below : Below w0.heap.size w0 u
theorem OwnB.past {e : TypeId} {size : Nat} {w0 u u' : World} {v : Value} {n : Nat} {xs : List Value} (h : OwnB e size w0 u v n xs) (hb : Below u.heap.size u u') : OwnB e size w0 u' v n xs :=
  ⟨own_below h.own hb (Nat.le_refl _), h.below.trans (hb.mono h.below.size)⟩
theorem OwnB.alloc {e : TypeId} {size : Nat} {w0 u : World} {v : Value} {n : Nat} {xs : List Value} (h : OwnB e size w0 u v n xs) (ob : Obj) : OwnB e size w0 (u.alloc ob) v n xs :=
  h.past ((Below.refl _ _).alloc (Nat.le_refl _) ob)
theorem own_one (e : TypeId) (size : Nat) (w : World) : OwnB e size w (w.alloc (.cells #[] e)).drew (.slice (some ⟨w.heap.size, 0, none⟩) 0 0) 0 [] :=
  ⟨(World.ownsRow_made w #[] 0 (Nat.le_refl _) (by unfold maxLen; omega) (by simp)).drew, ((Below.refl _ _).alloc (Nat.le_refl _) _).drew⟩
theorem own_two (e : TypeId) (size : Nat) (w : World) (ob : Obj) : OwnB e size w ((w.alloc (.cells #[] e)).alloc ob).drew (.slice (some ⟨w.heap.size, 0, none⟩) 0 0) 0 [] :=
  ⟨((World.ownsRow_made w #[] 0 (Nat.le_refl _) (by unfold maxLen; omega) (by simp)).alloc _).drew, (((Below.refl _ _).alloc (Nat.le_refl _) _).alloc (by simp) _).drew⟩
theorem own_behind (e : TypeId) (size : Nat) (w : World) (ob : Obj) : OwnB e size w ((w.alloc ob).alloc (.cells #[] e)).drew (.slice (some ⟨w.heap.size + 1, 0, none⟩) 0 0) 0 [] := by
  have h1 := World.ownsRow_made (e := e) (size := size) (base := w.heap.size) (w.alloc ob) #[] 0 (by simp) (by unfold maxLen; omega) (by simp)
  rw [World.size_alloc] at h1
  exact ⟨h1.drew, (((Below.refl _ _).alloc (Nat.le_refl _) _).alloc (by simp) _).drew⟩
/-- A block that holds one element, apart from the list. -/
structure MadeX (w0 u : World) (a : Option Addr) (v : Value) (vs : List Value) : Prop where
  lies : Lies u a vs
  far : ∃ g, a = some ⟨g, 0, none⟩ ∧ g < u.heap.size ∧ some g ≠ v.ownBlock
theorem MadeX.step {w0 u u' : World} {a : Option Addr} {v v' : Value} {vs : List Value} (h : MadeX w0 u a v vs) (hg : u.grownBy u' v.ownBlock) : Lies u' a vs := by
  obtain ⟨g, rfl, h1, h2⟩ := h.far
  exact h.lies.kept hg h1 h2
theorem made_two (w : World) (e f : TypeId) (C D : Array Value) (n c : Nat) : MadeX w ((w.alloc (.cells C e)).alloc (.cells D f)).drew (some ⟨w.heap.size + 1, 0, none⟩) (.slice (some ⟨w.heap.size, 0, none⟩) n c) D.toList := by
  have h := lies_made (w.alloc (.cells C e)) D f
  rw [World.size_alloc] at h
  exact ⟨h, _, rfl, by simp, by simp [Value.ownBlock]⟩
theorem made_ahead (w : World) (e f : TypeId) (C D : Array Value) (n c : Nat) : MadeX w ((w.alloc (.cells D f)).alloc (.cells C e)).drew (some ⟨w.heap.size, 0, none⟩) (.slice (some ⟨w.heap.size + 1, 0, none⟩) n c) D.toList :=
  ⟨(lies_made w D f).alloc (by simp) _, _, rfl, by simp; omega, by simp [Value.ownBlock]⟩
/-- One append to a list of the call's own, as one step of a region that draws its order. -/
theorem step_own {t e : TypeId} {size bytes : Nat} (E : ElT t e size bytes) {w0 w : World} {ops : Array Oper} {o : Oper} {a : Act} {K : Act → World → Prop} {Q : Exit → Act → World → Prop} {X : Prop} (hgd : o.guard = none) (s x : Operand)
    (ho : o.op = .call { callee := .builtin .append, args := #[s, x], argTypes := #[t, t] })
    (v : Value) (n : Nat) (xs news : List Value) (hs : a.eval s = v) (hown : OwnB e size w0 w v n xs) (ao : Option Addr) (m c : Nat) (hx : a.eval x = .slice ao m c) (hl : news.length = m * size) (hsrc : Lies w ao news) (h1 : ∀ u ∈ news, u.oneCell' = true) (hnil : ao = none → m = 0 ∧ c = 0) (n' : Nat) (hn' : n + m = n') (hn : n' ≤ 1000000) (ys : List Value) (hys : xs ++ news = ys)
    (h : ∀ a' cap' w', OwnB e size w0 w' (.slice a' n' cap') n' ys → w.grownBy w' v.ownBlock → K (a.put o.dst (.slice a' n' cap')) w') :
    if Region.wanted o (yielded ops a.tmps) = true then Oper.wp Tryz.prog o a w K Q else X := by
  subst hn'
  subst hys
  exact step_append_els E hgd s x ho hown.below v n xs news hs hown.own ao m c hx hl hsrc h1 hnil hn (fun a' c' w' x1 x2 x3 => h a' c' w' ⟨x1, x3⟩ x2)
/-- The same in a region whose order stands. -/
theorem wpList_own {t e : TypeId} {size bytes : Nat} (E : ElT t e size bytes) {w0 w : World} {ops : Array Oper} {rest : List Oper} {o : Oper} {a : Act} {Q : Exit → Act → World → Prop} (hgd : o.guard = none) (s x : Operand)
    (ho : o.op = .call { callee := .builtin .append, args := #[s, x], argTypes := #[t, t] })
    (v : Value) (n : Nat) (xs news : List Value) (hs : a.eval s = v) (hown : OwnB e size w0 w v n xs) (ao : Option Addr) (m c : Nat) (hx : a.eval x = .slice ao m c) (hl : news.length = m * size) (hsrc : Lies w ao news) (h1 : ∀ u ∈ news, u.oneCell' = true) (hnil : ao = none → m = 0 ∧ c = 0) (n' : Nat) (hn' : n + m = n') (hn : n' ≤ 1000000) (ys : List Value) (hys : xs ++ news = ys)
    (h : ∀ a' cap' w', OwnB e size w0 w' (.slice a' n' cap') n' ys → w.grownBy w' v.ownBlock → wpList Tryz.prog ops Q rest (a.put o.dst (.slice a' n' cap')) w') : wpList Tryz.prog ops Q (o :: rest) a w := by
  subst hn'
  subst hys
  exact wpList_append_els E hgd s x ho hown.below v n xs news hs hown.own ao m c hx hl hsrc h1 hnil hn (fun a' c' w' x1 x2 x3 => h a' c' w' ⟨x1, x3⟩ x2)
/-- Flattened lists: where an element's cells stand. -/
theorem flat_drop {α : Type} {enc : α → List Value} {size : Nat} : ∀ (l : List α) (k : Nat), (∀ x ∈ l, (enc x).length = size) → (l.flatMap enc).drop (k * size) = (l.drop k).flatMap enc
  | [], k, _ => by simp
  | a :: r, 0, _ => by simp
  | a :: r, k + 1, h => by
    have ha : (enc a).length = size := h a (by simp)
    rw [List.flatMap_cons, List.drop_succ_cons, ← flat_drop r k (fun x hx => h x (by simp [hx])), Nat.succ_mul, Nat.add_comm, ← List.drop_drop, ← ha, List.drop_left]
theorem flat_len {α : Type} {enc : α → List Value} {size : Nat} : ∀ (l : List α), (∀ x ∈ l, (enc x).length = size) → (l.flatMap enc).length = l.length * size
  | [], _ => by simp
  | a :: r, h => by rw [List.flatMap_cons, List.length_append, h a (by simp), flat_len r (fun x hx => h x (by simp [hx])), List.length_cons, Nat.succ_mul, Nat.add_comm]
theorem flat_take {α : Type} {enc : α → List Value} {size : Nat} : ∀ (l : List α) (k : Nat), (∀ x ∈ l, (enc x).length = size) → (l.flatMap enc).take (k * size) = (l.take k).flatMap enc
  | [], k, _ => by simp
  | a :: r, 0, _ => by simp
  | a :: r, k + 1, h => by
    have ha : (enc a).length = size := h a (by simp)
    rw [List.flatMap_cons, List.take_succ_cons, List.flatMap_cons, ← flat_take r k (fun x hx => h x (by simp [hx])), Nat.succ_mul, Nat.add_comm, List.take_append, List.take_of_length_le (by omega), ha, Nat.add_sub_cancel_left]
theorem flat_at {α : Type} {enc : α → List Value} {size : Nat} (l : List α) (k : Nat) (x : α) (h : ∀ x ∈ l, (enc x).length = size) (hk : l[k]? = some x) : ((l.flatMap enc).drop (k * size)).take size = enc x := by
  rw [flat_drop l k h]
  obtain ⟨hlt, rfl⟩ := List.getElem?_eq_some_iff.1 hk
  rw [List.drop_eq_getElem_cons hlt, List.flatMap_cons]
  have := h _ (List.getElem_mem hlt)
  rw [List.take_append, List.take_of_length_le (by omega), this, Nat.sub_self, List.take_zero, List.append_nil]
/-- The element at place k lies k elements on. -/
theorem Lies.el {α : Type} {enc : α → List Value} {size : Nat} {w : World} {b o : Nat} {l : List α} (h : Lies w (some ⟨b, o, none⟩) (l.flatMap enc)) (hs : ∀ x ∈ l, (enc x).length = size) {k : Nat} {x : α} (hk : l[k]? = some x) : Lies w (some ⟨b, o + k * size, none⟩) (enc x) := by
  have := h.sub (k * size) size
  rwa [flat_at l k x hs hk] at this
theorem flat_one {α : Type} {enc : α → List Value} {l : List α} (h : ∀ x ∈ l, ∀ u ∈ enc x, u.oneCell' = true) : ∀ u ∈ l.flatMap enc, u.oneCell' = true := by
  intro u hu
  obtain ⟨x, hx, hu⟩ := List.mem_flatMap.1 hu
  exact h x hx u hu
end Go.Proofs.YtileidbdmpeciaaGreat

