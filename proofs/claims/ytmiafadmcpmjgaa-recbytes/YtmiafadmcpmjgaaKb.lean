/-
  Keys in memory: a key's block, a key as a value.
  Keys that a call makes and writes: the laws of its block.
-/
import Derived.Test.YtmiafadmcpmjgaaKeyPlain
import Derived.Test.YtmiafadmcpmjgaaCiv
import Derived.Test.YtmiafadmcpmjgaaNested
import Derived.Deep.MidRow
import Derived.Deep.RegionHeld3
namespace Go.Proofs.Ytmiafadmcpmjgaa
open Go.RowKit
set_option linter.unusedVariables false

/-- A key's cells. -/
abbrev kcs (k : List Int) : Array Value := (k.map (Value.int .u8)).toArray
/-- A key as a value. -/
abbrev kv (k : List Int) : Value := .agg (kcs k)
theorem Ky.at {k : List Int} (h : Ky k) (i : Nat) : 0 ≤ k.getD i 0 ∧ k.getD i 0 ≤ 255 := by
  by_cases hi : i < k.length
  · have e : k.getD i 0 = k[i] := by simp [List.getD, hi]
    rw [e]; exact h.bytes _ (List.getElem_mem hi)
  · have e : k.getD i 0 = 0 := by simp [List.getD]; rw [List.getElem?_eq_none (by omega)]; rfl
    rw [e]; omega
/-- A key that lies in a block, from a place on. -/
structure KeyAt (w : World) (b o : Nat) (k : List Int) : Prop where
  cell : ∀ i, i < 16 → w.cell? ⟨b, o + i, none⟩ = some (.int .u8 (k.getD i 0))
theorem KeyAt.cell0 {w : World} {b : Nat} {k : List Int} (h : KeyAt w b 0 k) (i : Nat) (hi : i < 16) : w.cell? ⟨b, i, none⟩ = some (.int .u8 (k.getD i 0)) := by
  have := h.cell i hi
  rwa [Nat.zero_add] at this
theorem KeyAt.lt {w : World} {b o : Nat} {k : List Int} (h : KeyAt w b o k) : b < w.heap.size := lt_of_cell (h.cell 0 (by omega))
theorem KeyAt.made (w : World) (T : TypeId) (k : List Int) (hk : Ky k) : KeyAt (w.alloc (.cells (kcs k) T)) w.heap.size 0 k := by
  refine ⟨fun i hi => ?_⟩
  rw [World.cell?_alloc_new]
  have hl : i < k.length := by rw [hk.len]; exact hi
  simp [kcs, List.getD, hl]
theorem KeyAt.below {w w' : World} {b o B : Nat} {k : List Int} (h : KeyAt w b o k) (hb : Below B w w') (hB : b < B) : KeyAt w' b o k :=
  ⟨fun i hi => by rw [hb.cell (p := ⟨b, o + i, none⟩) hB]; exact h.cell i hi⟩
theorem KeyAt.past {w w' : World} {b o : Nat} {k : List Int} (h : KeyAt w b o k) (hb : Below w.heap.size w w') : KeyAt w' b o k := h.below hb h.lt
theorem KeyAt.same {w w' : World} {b o : Nat} {k : List Int} (h : KeyAt w b o k) (he : w'.heap = w.heap) : KeyAt w' b o k :=
  ⟨fun i hi => by rw [same_heap he]; exact h.cell i hi⟩
theorem KeyAt.alloc {w : World} {b o : Nat} {k : List Int} (h : KeyAt w b o k) (ob : Obj) : KeyAt (w.alloc ob) b o k :=
  h.below ((Below.refl w.heap.size _).alloc (Nat.le_refl _) ob) h.lt
theorem KeyAt.range {w : World} {b o : Nat} {k : List Int} (h : KeyAt w b o k) (hk : Ky k) : w.rangeAt b o (k.map (Value.int .u8)) := by
  intro j v hv
  rw [List.getElem?_map] at hv
  obtain ⟨z, hz, rfl⟩ := Option.map_eq_some_iff.1 hv
  have hj : j < 16 := by rw [← hk.len]; exact (List.getElem?_eq_some_iff.1 hz).1
  rw [h.cell j hj]
  simp [List.getD, hz]
theorem KeyAt.tx {w : World} {b : Nat} {k : List Int} (h : KeyAt w b 0 k) (hk : Ky k) : Row w (some ⟨b, 0, none⟩) (txK k) := by
  have hl : (txK k).length ≤ 16 := by rw [← hk.len]; exact txK_le k
  refine ⟨fun z hz => hk.bytes z ((List.takeWhile_sublist _).subset hz), .inr ⟨b, 0, rfl, fun j hj => ?_⟩⟩
  have e : (txK k)[j]?.getD 0 = k.getD j 0 := by
    have hs := txK_split k
    have : k.getD j 0 = (txK k ++ k.drop (txK k).length).getD j 0 := by rw [← hs]
    rw [this]
    simp [List.getD, List.getElem?_append, hj]
  rw [h.cell j (by omega), ← e]
  rfl
theorem info_key : (Try.prog.info? 34).map (·.size) = some 16 := by kernel_rfl
/-- A key is read whole. -/
theorem wpList_load_key {ops : Array Oper} {rest : List Oper} {op : Oper} {a : Act} {w : World} {Q : Exit → Act → World → Prop} (hgd : op.guard = none) (x : Operand) (ho : op.op = .load 34 x)
    (b o : Nat) (hx : a.eval x = .pointer (some ⟨b, o, none⟩)) (k : List Int) (hk : Ky k) (hat : KeyAt w b o k)
    (h : wpList Try.prog ops Q rest (a.put op.dst (kv k)) w) : wpList Try.prog ops Q (op :: rest) a w :=
  wpList_load_mid hgd 34 x ho b o hx (k.map (Value.int .u8)) _ (hat.range hk) Try.underlying34 rfl (by rw [info_key, List.length_map, hk.len]) h
/-- As above, at a guarded operation whose guard is met. -/
theorem wpList_load_keyG {ops : Array Oper} {rest : List Oper} {op : Oper} {a : Act} {w : World} {Q : Exit → Act → World → Prop} (hw : Region.wanted op (yielded ops a.tmps) = true) (x : Operand) (ho : op.op = .load 34 x)
    (b o : Nat) (hx : a.eval x = .pointer (some ⟨b, o, none⟩)) (k : List Int) (hk : Ky k) (hat : KeyAt w b o k)
    (h : wpList Try.prog ops Q rest (a.put op.dst (kv k)) w) : wpList Try.prog ops Q (op :: rest) a w :=
  wpList_step fun K hK => by
    rw [if_pos hw]
    exact wp_load_mid 34 x ho b o hx (k.map (Value.int .u8)) _ (hat.range hk) Try.underlying34 rfl (by rw [info_key, List.length_map, hk.len]) (hK _ _ h)
/-- As above, at the operation that fills slot d. -/
theorem wpList_load_keyD (d : Tmp) {ops : Array Oper} {rest : List Oper} {op : Oper} {a : Act} {w : World} {Q : Exit → Act → World → Prop} (hd : op.dst = some d) (hw : Region.wanted op (yielded ops a.tmps) = true) (x : Operand) (ho : op.op = .load 34 x)
    (b o : Nat) (hx : a.eval x = .pointer (some ⟨b, o, none⟩)) (k : List Int) (hk : Ky k) (hat : KeyAt w b o k)
    (h : wpList Try.prog ops Q rest (a.put op.dst (kv k)) w) : wpList Try.prog ops Q (op :: rest) a w :=
  wpList_load_keyG hw x ho b o hx k hk hat h
theorem wpList_load_keyN (d : Tmp) {ops : Array Oper} {rest : List Oper} {op : Oper} {a : Act} {w : World} {Q : Exit → Act → World → Prop} (hd : op.dst = some d) (hgd : op.guard = none) (x : Operand) (ho : op.op = .load 34 x)
    (b o : Nat) (hx : a.eval x = .pointer (some ⟨b, o, none⟩)) (k : List Int) (hk : Ky k) (hat : KeyAt w b o k)
    (h : wpList Try.prog ops Q rest (a.put op.dst (kv k)) w) : wpList Try.prog ops Q (op :: rest) a w :=
  wpList_load_key hgd x ho b o hx k hk hat h
/-- A load of a key, at an operation that stands behind a name (two loads of keys in one region that draws its order: one of them goes so). -/
theorem upon_load_key {o : Oper} {d : Tmp} (hd : o.dst = some d) {a : Act} {w : World} {K : Act → World → Prop} {Q : Exit → Act → World → Prop} {k : List Int} {R : Result Next} (hR : R = .ok (.value (kv k)) w) (h : K (a.put (some d) (kv k)) w) : o.upon Try.prog a K Q R := by
  subst hR
  rw [Oper.upon_value, hd]
  exact h
theorem run_load_key {k : List Int} (hk : Ky k) {w : World} {b off : Nat} (hr : w.rangeAt b off (k.map (Value.int .u8))) : (do pure (Next.value (← Instr.loadAt 34 (.pointer (some ⟨b, off, none⟩)))) : Sem Next).run Try.prog w = .ok (.value (kv k)) w := by
  simp only [Instr.loadAt, Instr.sureAddr, Sem.run_bind, Sem.run_pure, Result.andThen_ok, run_loadVar_mid w b off 34 (k.map (Value.int .u8)) _ hr Try.underlying34 rfl (by rw [info_key, List.length_map, hk.len])]
theorem key_parts : ∃ i, Try.prog.info? 5 = some i := by
  have : (Try.prog.info? 5).isSome = true := by kernel_rfl
  exact Option.isSome_iff_exists.1 this
/-- Two keys held against one another. -/
theorem eq_key (w : World) (a b : List Int) (ha : Ky a) (hb : Ky b) : (Op.equalIn 10000 34 (kv a) (kv b)).run Try.prog w = .ok (decide (a = b)) w := by
  obtain ⟨i, hi⟩ := key_parts
  rw [eq_arr Try.underlying34 Try.underlying5 (by kernel_rfl) hi w a b ha.len hb.len]
  by_cases h : a = b <;> simp [h]
theorem tx_first : ∀ k : List Int, (txK k).length < k.length → k.getD (txK k).length 0 = 0
  | [], h => by simp at h
  | a :: r, h => by
    unfold txK at h ⊢
    rw [List.takeWhile_cons] at h ⊢
    by_cases ha : (a != 0) = true
    · rw [if_pos ha] at h ⊢
      have := tx_first r (by unfold txK; simpa using h)
      unfold txK at this
      simpa using this
    · rw [if_neg ha]
      simpa using ha
theorem tx_none {k : List Int} {i : Nat} (h : i < (txK k).length) : k.getD i 0 ≠ 0 := by
  have e : k.getD i 0 = (txK k)[i] := by
    have hs := txK_split k
    have : k.getD i 0 = (txK k ++ k.drop (txK k).length).getD i 0 := by rw [← hs]
    rw [this]
    simp [List.getD, List.getElem?_append, h]
  rw [e]
  exact txK_none k _ (List.getElem_mem h)
theorem tx_more {k : List Int} {i : Nat} (h : i ≤ (txK k).length) (hi : i < k.length) (hz : k.getD i 0 ≠ 0) : i + 1 ≤ (txK k).length := by
  rcases Nat.lt_or_ge i (txK k).length with h1 | h1
  · exact h1
  · have e : (txK k).length = i := by omega
    have := tx_first k (by omega)
    rw [e] at this
    exact absurd this hz
theorem take_drop_next {k : List Int} {n m : Nat} (h : ∀ z ∈ (k.take n).drop m, z = 0) (hn : n < k.length) (hz : m ≤ n → k.getD n 0 = 0) : ∀ z ∈ (k.take (n + 1)).drop m, z = 0 := by
  intro z hm
  rw [List.take_succ_eq_append_getElem hn, List.drop_append, List.mem_append] at hm
  rcases hm with hm | hm
  · exact h z hm
  · by_cases hmn : m ≤ n
    · have e := hz hmn
      have : (m - (k.take n).length) = 0 := by simp; omega
      rw [this] at hm
      simp at hm
      rw [hm]
      simpa [List.getD, hn] using e
    · have : [k[n]].drop (m - (k.take n).length) = [] := List.drop_eq_nil_of_le (by simp; omega)
      rw [this] at hm
      simp at hm
theorem xor_range (x y : Int) : 0 ≤ bits .xor .u32 x y ∧ bits .xor .u32 x y ≤ 4294967295 := by
  unfold bits
  simp only [IntKind.wrap_u32]
  omega
/-- A step of a key's sum. -/
def stepK (s z : Int) : Int := bits .xor .u32 (bits .or .u32 (s * 32 % 4294967296) (s / 134217728)) z
def sumK (k : List Int) : Int := k.foldl stepK 0
theorem sumK_take {k : List Int} {n : Nat} (h : n < k.length) : sumK (k.take (n + 1)) = stepK (sumK (k.take n)) (k.getD n 0) := by
  have e : k.take (n + 1) = k.take n ++ [k.getD n 0] := by rw [List.take_add_one]; simp [List.getD, h]
  rw [e]; simp [sumK, List.foldl_append]
theorem sumK_range (k : List Int) : 0 ≤ sumK k ∧ sumK k ≤ 4294967295 := by
  induction k using snoc_ind with
  | h0 => exact ⟨by decide, by decide⟩
  | h1 l x ih =>
    have e : sumK (l ++ [x]) = stepK (sumK l) x := by simp [sumK, List.foldl_append]
    rw [e]
    unfold stepK
    exact xor_range _ _
theorem text_bytes {k : List Int} (h : Ky k) : ∀ z ∈ textK k, 0 ≤ z ∧ z ≤ 255 := by
  unfold textK
  split
  · exact fun z hz => h.bytes z ((List.takeWhile_sublist _).subset hz)
  · intro z hz; simp at hz
theorem text_len {k : List Int} (h : Ky k) : (textK k).length ≤ 1000000 := by
  unfold textK
  split
  · have := txK_le k; rw [h.len] at this; omega
  · simp
theorem str_nums (s : ByteArray) : ∃ xs : List Int, s = strOfNums xs ∧ (∀ z ∈ xs, 0 ≤ z ∧ z ≤ 255) ∧ xs.length = s.size := by
  refine ⟨s.data.toList.map fun b => (b.toNat : Int), ?_, ?_, ?_⟩
  · apply ByteArray.ext
    apply Array.ext'
    rw [strOfNums_data, List.map_map]
    conv => lhs; rw [← List.map_id s.data.toList]
    apply List.map_congr_left
    intro b _
    simp
  · intro z hz
    obtain ⟨b, _, rfl⟩ := List.mem_map.1 hz
    have := b.toNat_lt
    omega
  · rw [List.length_map]; rfl
theorem good_none {k : List Int} {n : Nat} (h : (txK k).length < n) (hn : n < k.length) (hz : k.getD n 0 ≠ 0) : goodK k = false := by
  refine decide_eq_false fun hg => hz ?_
  refine hg.2 _ ?_
  have : k.getD n 0 = (k.drop (txK k).length).getD (n - (txK k).length) 0 := by
    simp [List.getD, show (txK k).length + (n - (txK k).length) = n by omega]
  rw [this]
  have hl : n - (txK k).length < (k.drop (txK k).length).length := by simp; omega
  have e : (k.drop (txK k).length).getD (n - (txK k).length) 0 = (k.drop (txK k).length)[n - (txK k).length] := by rw [List.getD, List.getElem?_eq_getElem hl]; rfl
  rw [e]
  exact List.getElem_mem hl
theorem good_end {k : List Int} (hk : Ky k) (h : ∀ z ∈ (k.take 16).drop (txK k).length, z = 0) : goodK k = (k.getD 0 0 != 0) := by
  have e : k.take 16 = k := List.take_of_length_le (by rw [hk.len]; exact Nat.le_refl _)
  rw [e] at h
  unfold goodK
  by_cases h0 : k.getD 0 0 = 0
  · rw [decide_eq_false (fun x => x.1 h0), h0]; rfl
  · rw [decide_eq_true ⟨h0, h⟩]; exact (bne_iff_ne.2 h0).symm
end Go.Proofs.Ytmiafadmcpmjgaa

namespace Go.Proofs.Ytmiafadmcpmjgaa
open Go.RowKit
set_option linter.unusedVariables false

theorem below_cells {B : Nat} {a : World} {b : Nat} (hB : B ≤ b) : ∀ {vs : List Value} {o : Nat} {w : World}, Below B a w → Below B a (w.setCells b o vs)
  | [], _, _, h => h
  | v :: r, o, w, h => below_cells hB (vs := r) (h.setCell (p := ⟨b, o, none⟩) hB v)
theorem size_cells (b : Nat) : ∀ (vs : List Value) (o : Nat) (w : World), (w.setCells b o vs).heap.size = w.heap.size
  | [], _, _ => rfl
  | v :: r, o, w => by rw [World.setCells, size_cells b r, World.size_setCell]
/-- A key that lies in a block that may be written. -/
structure KeyMine (w : World) (b o : Nat) (k : List Int) : Prop where
  lies : KeyAt w b o k
  free : ∀ i, i < 16 → w.frozen? ⟨b, o + i, none⟩ = false
  ky : Ky k
theorem KeyMine.free0 {w : World} {b : Nat} {k : List Int} (h : KeyMine w b 0 k) (i : Nat) (hi : i < 16) : w.frozen? ⟨b, i, none⟩ = false := by
  have := h.free i hi
  rwa [Nat.zero_add] at this
theorem KeyMine.made (w : World) (T : TypeId) (k : List Int) (hk : Ky k) : KeyMine (w.alloc (.cells (kcs k) T)) w.heap.size 0 k :=
  ⟨KeyAt.made w T k hk, fun i hi => World.frozen?_alloc_new _ _ _ _, hk⟩
theorem KeyMine.below {w w' : World} {b o B : Nat} {k : List Int} (h : KeyMine w b o k) (hb : Below B w w') (hB : b < B) : KeyMine w' b o k :=
  ⟨h.lies.below hb hB, fun i hi => by rw [hb.frozen (p := ⟨b, o + i, none⟩) hB]; exact h.free i hi, h.ky⟩
theorem KeyMine.alloc {w : World} {b o : Nat} {k : List Int} (h : KeyMine w b o k) (ob : Obj) : KeyMine (w.alloc ob) b o k :=
  h.below ((Below.refl w.heap.size _).alloc (Nat.le_refl _) ob) h.lies.lt
theorem KeyMine.there {w : World} {b o : Nat} {k : List Int} (h : KeyMine w b o k) : w.there b o 16 :=
  fun j hj => ⟨by rw [h.lies.cell j hj]; rfl, h.free j hj⟩
theorem KeyMine.store {w : World} {b o : Nat} {k k' : List Int} (h : KeyMine w b o k) (hk : Ky k') : KeyMine (w.setCells b o (k'.map (Value.int .u8))) b o k' := by
  have ht := h.there
  have hl : (k'.map (Value.int .u8)).length = 16 := by rw [List.length_map]; exact hk.len
  rw [← hl] at ht
  have hr := World.rangeAt_setCells_same w b o (k'.map (Value.int .u8)) ht
  refine ⟨⟨fun i hi => ?_⟩, fun i hi => by rw [World.frozen?_setCells]; exact h.free i hi, hk⟩
  refine hr i _ ?_
  have hi' : i < k'.length := by rw [hk.len]; exact hi
  simp [List.getD, hi']
theorem KeyMine.other {w : World} {b o c o' : Nat} {k : List Int} {vs : List Value} (h : KeyMine w b o k) (hne : b ≠ c) : KeyMine (w.setCells c o' vs) b o k :=
  ⟨⟨fun i hi => by rw [World.cell?_setCells_out c vs o' w ⟨b, o + i, none⟩ (fun e _ => absurd e hne)]; exact h.lies.cell i hi⟩, fun i hi => by rw [World.frozen?_setCells]; exact h.free i hi, h.ky⟩
theorem KeyMine.aside {w : World} {b o : Nat} {k : List Int} {p : Addr} {v : Value} (h : KeyMine w b o k) (hne : b ≠ p.block) : KeyMine (w.setCell p v) b o k :=
  ⟨⟨fun i hi => by rw [World.cell?_setCell_other _ _ _ _ (by intro e; exact hne (by rw [e]))]; exact h.lies.cell i hi⟩, fun i hi => by rw [World.frozen?_setCell]; exact h.free i hi, h.ky⟩
theorem KeyMine.set {w : World} {b : Nat} {k : List Int} (h : KeyMine w b 0 k) (n : Nat) (z : Int) (hn : n < 16) (h0 : 0 ≤ z) (h1 : z ≤ 255) : KeyMine (w.setCell ⟨b, n, none⟩ (.int .u8 z)) b 0 (k.set n z) := by
  refine ⟨⟨fun i hi => ?_⟩, fun i hi => by rw [World.frozen?_setCell]; exact h.free i hi, ⟨by rw [List.length_set]; exact h.ky.len, fun y hy => ?_⟩⟩
  · rw [Nat.zero_add]
    by_cases e : n = i
    · subst e
      rw [World.cell?_setCell_same _ _ _ (h.lies.cell0 n hn)]
      have : n < k.length := by rw [h.ky.len]; exact hn
      simp [List.getD, this]
    · rw [World.cell?_setCell_other _ _ _ _ (by intro h'; injection h' with _ h2; exact e h2), h.lies.cell0 i hi]
      simp [List.getD, e]
  · rcases List.mem_or_eq_of_mem_set hy with h' | rfl
    · exact h.ky.bytes y h'
    · exact ⟨h0, h1⟩
theorem kcs_one (k : List Int) : (kcs k).all (·.oneCell') = true := all_oneCell_toArray (ints_oneCell _ _)
/-- A key is stored whole. -/
theorem wpList_store_key {ops : Array Oper} {rest : List Oper} {op : Oper} {a : Act} {w : World} {Q : Exit → Act → World → Prop} (hgd : op.guard = none) (x y : Operand) (ho : op.op = .store 34 x y)
    (b o : Nat) (k k' : List Int) (hx : a.eval x = .pointer (some ⟨b, o, none⟩)) (hy : a.eval y = kv k') (hk : Ky k') (hat : KeyMine w b o k)
    (h : wpList Try.prog ops Q rest (a.put op.dst undef) (w.setCells b o (k'.map (Value.int .u8)))) : wpList Try.prog ops Q (op :: rest) a w := by
  have hl : (kcs k').size = 16 := by simp [kcs, hk.len]
  refine wpList_store_mid hgd 34 x y ho b o (kcs k') hx hy (by rw [hl]; exact hat.there) (by rw [info_key, hl]) (kcs_one k') ?_
  exact h
/-- As above, the world behind it a letter. -/
theorem wpList_store_keyU {ops : Array Oper} {rest : List Oper} {op : Oper} {a : Act} {w : World} {Q : Exit → Act → World → Prop} (hgd : op.guard = none) (x y : Operand) (ho : op.op = .store 34 x y)
    (b o : Nat) (k k' : List Int) (hx : a.eval x = .pointer (some ⟨b, o, none⟩)) (hy : a.eval y = kv k') (hk : Ky k') (hat : KeyMine w b o k)
    (h : ∀ u, u = w.setCells b o (k'.map (Value.int .u8)) → wpList Try.prog ops Q rest (a.put op.dst undef) u) : wpList Try.prog ops Q (op :: rest) a w :=
  wpList_store_key hgd x y ho b o k k' hx hy hk hat (h _ rfl)
/-- A key and a plain value are answered. -/
theorem results_key {fn : Func} {c t : Tmp} (h : fn.results = #[.cell c 34, .tmp t]) (tmps : Array Value) (w : World) (b o : Nat) (k : List Int) (hp : tmps.getD c undef = .pointer (some ⟨b, o, none⟩)) (hk : Ky k) (hat : KeyAt w b o k) :
    (results fn tmps).run Try.prog w = .ok (.tuple #[kv k, tmps.getD t undef]) w := by
  have hl := run_loadVar_mid (P := Try.prog) w b o 34 (k.map (Value.int .u8)) _ (hat.range hk) Try.underlying34 rfl (by rw [info_key, List.length_map, hk.len])
  unfold results
  rw [h]
  simp only [List.mapM_toArray, List.mapM_cons, List.mapM_nil, hp]
  simp [asAddr, hl]
theorem keyK_next {s : List Int} {n : Nat} (hn : n < s.length) (hs : s.length ≤ 16) : keyK (s.take (n + 1)) = (keyK (s.take n)).set n (s.getD n 0) := by
  have e : s.take (n + 1) = s.take n ++ [s.getD n 0] := by rw [List.take_add_one]; simp [List.getD, hn]
  have l1 : (s.take n).length = n := by simp; omega
  unfold keyK
  rw [e, List.length_append, l1]
  obtain ⟨m, hm⟩ : ∃ m, 16 - n = m + 1 := ⟨15 - n, by omega⟩
  rw [show 16 - (n + [s.getD n 0].length) = m by simp; omega, hm, List.replicate_succ]
  rw [List.set_append_right _ _ (by omega), l1]
  simp
end Go.Proofs.Ytmiafadmcpmjgaa

