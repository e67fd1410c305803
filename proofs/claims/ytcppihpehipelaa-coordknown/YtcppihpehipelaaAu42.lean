/-
  Keys in memory: a key's block, a key as a value.
  Keys that a call makes and writes: the laws of its block.
-/
import Derived.Test.YtcppihpehipelaaAu56
import Derived.Test.YtcppihpehipelaaAu52
import Derived.Deep.MidRow
import Derived.Deep.RegionHeld3
namespace Go.Proofs.Ytcppihpehipelaa
open Go.RowKit
set_option linter.unusedVariables false

/-- A key's cells. -/
abbrev kcs (k : List Int) : Array Value := (k.map (Value.int .u8)).toArray
/-- A key as a value. -/
abbrev kv (k : List Int) : Value := .agg (kcs k)
theorem Ky.at {k : List Int} (h : Ky k) (i : Nat) : 0 ≤ k.getD i 0 ∧ k.getD i 0 ≤ 255 := by
  by_cases hi : i < k.length
  · have e : k.getD i 0 = k[i] := by simp [List.getD, hi]
    rw [e]; exact h.bytes _ (List.getElem_mem hi)
  · have e : k.getD i 0 = 0 := by simp [List.getD]; rw [List.getElem?_eq_none (by omega)]; rfl
    rw [e]; omega
/-- A key that lies in a block, from a place on. -/
structure KeyAt (w : World) (b o : Nat) (k : List Int) : Prop where
  cell : ∀ i, i < 16 → w.cell? ⟨b, o + i, none⟩ = some (.int .u8 (k.getD i 0))
theorem KeyAt.cell0 {w : World} {b : Nat} {k : List Int} (h : KeyAt w b 0 k) (i : Nat) (hi : i < 16) : w.cell? ⟨b, i, none⟩ = some (.int .u8 (k.getD i 0)) := by
  have := h.cell i hi
  rwa [Nat.zero_add] at this
theorem KeyAt.lt {w : World} {b o : Nat} {k : List Int} (h : KeyAt w b o k) : b < w.heap.size := lt_of_cell (h.cell 0 (by omega))
theorem KeyAt.made (w : World) (T : TypeId) (k : List Int) (hk : Ky k) : KeyAt (w.alloc (.cells (kcs k) T)) w.heap.size 0 k := by
  refine ⟨fun i hi => ?_⟩
  rw [World.cell?_alloc_new]
  have hl : i < k.length := by rw [hk.len]; exact hi
  simp [kcs, List.getD, hl]
theorem KeyAt.below {w w' : World} {b o B : Nat} {k : List Int} (h : KeyAt w b o k) (hb : Below B w w') (hB : b < B) : KeyAt w' b o k :=
  ⟨fun i hi => by rw [hb.cell (p := ⟨b, o + i, none⟩) hB]; exact h.cell i hi⟩
theorem KeyAt.past {w w' : World} {b o : Nat} {k : List Int} (h : KeyAt w b o k) (hb : Below w.heap.size w w') : KeyAt w' b o k := h.below hb h.lt
theorem KeyAt.same {w w' : World} {b o : Nat} {k : List Int} (h : KeyAt w b o k) (he : w'.heap = w.heap) : KeyAt w' b o k :=
  ⟨fun i hi => by rw [same_heap he]; exact h.cell i hi⟩
theorem KeyAt.alloc {w : World} {b o : Nat} {k : List Int} (h : KeyAt w b o k) (ob : Obj) : KeyAt (w.alloc ob) b o k :=
  h.below ((Below.refl w.heap.size _).alloc (Nat.le_refl _) ob) h.lt
theorem KeyAt.range {w : World} {b o : Nat} {k : List Int} (h : KeyAt w b o k) (hk : Ky k) : w.rangeAt b o (k.map (Value.int .u8)) := by
  intro j v hv
  rw [List.getElem?_map] at hv
  obtain ⟨z, hz, rfl⟩ := Option.map_eq_some_iff.1 hv
  have hj : j < 16 := by rw [← hk.len]; exact (List.getElem?_eq_some_iff.1 hz).1
  rw [h.cell j hj]
  simp [List.getD, hz]
theorem info_key : (Try.prog.info? 84).map (·.size) = some 16 := by kernel_rfl
/-- A key is read whole. -/
theorem wpList_load_key {ops : Array Oper} {rest : List Oper} {op : Oper} {a : Act} {w : World} {Q : Exit → Act → World → Prop} (hgd : op.guard = none) (x : Operand) (ho : op.op = .load 84 x)
    (b o : Nat) (hx : a.eval x = .pointer (some ⟨b, o, none⟩)) (k : List Int) (hk : Ky k) (hat : KeyAt w b o k)
    (h : wpList Try.prog ops Q rest (a.put op.dst (kv k)) w) : wpList Try.prog ops Q (op :: rest) a w :=
  wpList_load_mid hgd 84 x ho b o hx (k.map (Value.int .u8)) _ (hat.range hk) Try.underlying84 rfl (by rw [info_key, List.length_map, hk.len]) h
/-- As above, at a guarded operation whose guard is met. -/
theorem wpList_load_keyG {ops : Array Oper} {rest : List Oper} {op : Oper} {a : Act} {w : World} {Q : Exit → Act → World → Prop} (hw : Region.wanted op (yielded ops a.tmps) = true) (x : Operand) (ho : op.op = .load 84 x)
    (b o : Nat) (hx : a.eval x = .pointer (some ⟨b, o, none⟩)) (k : List Int) (hk : Ky k) (hat : KeyAt w b o k)
    (h : wpList Try.prog ops Q rest (a.put op.dst (kv k)) w) : wpList Try.prog ops Q (op :: rest) a w :=
  wpList_step fun K hK => by
    rw [if_pos hw]
    exact wp_load_mid 84 x ho b o hx (k.map (Value.int .u8)) _ (hat.range hk) Try.underlying84 rfl (by rw [info_key, List.length_map, hk.len]) (hK _ _ h)
/-- As above, at the operation that fills slot d. -/
theorem wpList_load_keyD (d : Tmp) {ops : Array Oper} {rest : List Oper} {op : Oper} {a : Act} {w : World} {Q : Exit → Act → World → Prop} (hd : op.dst = some d) (hw : Region.wanted op (yielded ops a.tmps) = true) (x : Operand) (ho : op.op = .load 84 x)
    (b o : Nat) (hx : a.eval x = .pointer (some ⟨b, o, none⟩)) (k : List Int) (hk : Ky k) (hat : KeyAt w b o k)
    (h : wpList Try.prog ops Q rest (a.put op.dst (kv k)) w) : wpList Try.prog ops Q (op :: rest) a w :=
  wpList_load_keyG hw x ho b o hx k hk hat h
theorem key_parts : ∃ i, Try.prog.info? 5 = some i := by
  have : (Try.prog.info? 5).isSome = true := by kernel_rfl
  exact Option.isSome_iff_exists.1 this
end Go.Proofs.Ytcppihpehipelaa

namespace Go.Proofs.Ytcppihpehipelaa
open Go.RowKit
set_option linter.unusedVariables false

theorem below_cells {B : Nat} {a : World} {b : Nat} (hB : B ≤ b) : ∀ {vs : List Value} {o : Nat} {w : World}, Below B a w → Below B a (w.setCells b o vs)
  | [], _, _, h => h
  | v :: r, o, w, h => below_cells hB (vs := r) (h.setCell (p := ⟨b, o, none⟩) hB v)
theorem size_cells (b : Nat) : ∀ (vs : List Value) (o : Nat) (w : World), (w.setCells b o vs).heap.size = w.heap.size
  | [], _, _ => rfl
  | v :: r, o, w => by rw [World.setCells, size_cells b r, World.size_setCell]
/-- A key that lies in a block that may be written. -/
structure KeyMine (w : World) (b o : Nat) (k : List Int) : Prop where
  lies : KeyAt w b o k
  free : ∀ i, i < 16 → w.frozen? ⟨b, o + i, none⟩ = false
  ky : Ky k
theorem KeyMine.made (w : World) (T : TypeId) (k : List Int) (hk : Ky k) : KeyMine (w.alloc (.cells (kcs k) T)) w.heap.size 0 k :=
  ⟨KeyAt.made w T k hk, fun i hi => World.frozen?_alloc_new _ _ _ _, hk⟩
theorem KeyMine.below {w w' : World} {b o B : Nat} {k : List Int} (h : KeyMine w b o k) (hb : Below B w w') (hB : b < B) : KeyMine w' b o k :=
  ⟨h.lies.below hb hB, fun i hi => by rw [hb.frozen (p := ⟨b, o + i, none⟩) hB]; exact h.free i hi, h.ky⟩
theorem KeyMine.alloc {w : World} {b o : Nat} {k : List Int} (h : KeyMine w b o k) (ob : Obj) : KeyMine (w.alloc ob) b o k :=
  h.below ((Below.refl w.heap.size _).alloc (Nat.le_refl _) ob) h.lies.lt
theorem KeyMine.there {w : World} {b o : Nat} {k : List Int} (h : KeyMine w b o k) : w.there b o 16 :=
  fun j hj => ⟨by rw [h.lies.cell j hj]; rfl, h.free j hj⟩
theorem KeyMine.store {w : World} {b o : Nat} {k k' : List Int} (h : KeyMine w b o k) (hk : Ky k') : KeyMine (w.setCells b o (k'.map (Value.int .u8))) b o k' := by
  have ht := h.there
  have hl : (k'.map (Value.int .u8)).length = 16 := by rw [List.length_map]; exact hk.len
  rw [← hl] at ht
  have hr := World.rangeAt_setCells_same w b o (k'.map (Value.int .u8)) ht
  refine ⟨⟨fun i hi => ?_⟩, fun i hi => by rw [World.frozen?_setCells]; exact h.free i hi, hk⟩
  refine hr i _ ?_
  have hi' : i < k'.length := by rw [hk.len]; exact hi
  simp [List.getD, hi']
theorem KeyMine.other {w : World} {b o c o' : Nat} {k : List Int} {vs : List Value} (h : KeyMine w b o k) (hne : b ≠ c) : KeyMine (w.setCells c o' vs) b o k :=
  ⟨⟨fun i hi => by rw [World.cell?_setCells_out c vs o' w ⟨b, o + i, none⟩ (fun e _ => absurd e hne)]; exact h.lies.cell i hi⟩, fun i hi => by rw [World.frozen?_setCells]; exact h.free i hi, h.ky⟩
theorem KeyMine.aside {w : World} {b o : Nat} {k : List Int} {p : Addr} {v : Value} (h : KeyMine w b o k) (hne : b ≠ p.block) : KeyMine (w.setCell p v) b o k :=
  ⟨⟨fun i hi => by rw [World.cell?_setCell_other _ _ _ _ (by intro e; exact hne (by rw [e]))]; exact h.lies.cell i hi⟩, fun i hi => by rw [World.frozen?_setCell]; exact h.free i hi, h.ky⟩
theorem KeyMine.set {w : World} {b : Nat} {k : List Int} (h : KeyMine w b 0 k) (n : Nat) (z : Int) (hn : n < 16) (h0 : 0 ≤ z) (h1 : z ≤ 255) : KeyMine (w.setCell ⟨b, n, none⟩ (.int .u8 z)) b 0 (k.set n z) := by
  refine ⟨⟨fun i hi => ?_⟩, fun i hi => by rw [World.frozen?_setCell]; exact h.free i hi, ⟨by rw [List.length_set]; exact h.ky.len, fun y hy => ?_⟩⟩
  · rw [Nat.zero_add]
    by_cases e : n = i
    · subst e
      rw [World.cell?_setCell_same _ _ _ (h.lies.cell0 n hn)]
      have : n < k.length := by rw [h.ky.len]; exact hn
      simp [List.getD, this]
    · rw [World.cell?_setCell_other _ _ _ _ (by intro h'; injection h' with _ h2; exact e h2), h.lies.cell0 i hi]
      simp [List.getD, e]
  · rcases List.mem_or_eq_of_mem_set hy with h' | rfl
    · exact h.ky.bytes y h'
    · exact ⟨h0, h1⟩
end Go.Proofs.Ytcppihpehipelaa

