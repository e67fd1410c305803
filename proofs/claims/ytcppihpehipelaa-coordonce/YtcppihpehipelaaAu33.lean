/-
  What the document reads next: a stamp.
  Keys in memory: a key's block, a key as a value.
-/
import Derived.Test.YtcppihpehipelaaAu45
import Derived.Test.YtcppihpehipelaaAu55
import Derived.Test.YtcppihpehipelaaAu50
import Derived.Deep.MidRow
import Derived.Deep.RegionHeld3
namespace Go.Proofs.Ytcppihpehipelaa
open Go.RowKit
set_option linter.unusedVariables false

theorem cell_of_block {w w' : World} {q : Nat} (h : w'.heap[q]? = w.heap[q]?) (i : Nat) : w'.cell? ⟨q, i, none⟩ = w.cell? ⟨q, i, none⟩ ∧ w'.frozen? ⟨q, i, none⟩ = w.frozen? ⟨q, i, none⟩ := by
  refine ⟨?_, ?_⟩
  · unfold World.cell?; rw [h]
  · unfold World.frozen?; rw [h]
/-- A world in which, but for the reader and what is new, nothing has turned, and the reader is as in another world. -/
theorem Rd.as {w u u' : World} {g : Nat} {a : Option Addr} {cap : Nat} {zs : List Int} {k k' : Nat} {b b' : Bool} (h : Rd w g a cap zs k b) (hc : Chg w u' (fun j => j = g)) (h1 : Rd u g a cap zs k' b') (hb : u'.heap[g]? = u.heap[g]?) : Rd u' g a cap zs k' b' :=
  ⟨(cell_of_block hb 0).1.trans h1.c0, (cell_of_block hb 1).1.trans h1.c1, (cell_of_block hb 2).1.trans h1.c2, fun i => (cell_of_block hb i).2.trans (h1.free i), h.row.chg hc h.far, h.far, h1.len, h.few, h.most⟩
theorem Rds.stamp {o o1 o2 : Option (List Int)} {v t n : Int} (h : Rds numP o o1 v) (h2 : (¬ v < 9223372036854775808 ∧ o2 = none) ∨ (v < 9223372036854775808 ∧ o2 = o1 ∧ t = v / 256 ∧ n = v % 256)) : Rds stampP o o2 (t, n) := by
  refine h.seq ?_
  rcases h2 with ⟨hc, rfl⟩ | ⟨hc, rfl, rfl, rfl⟩
  · rw [if_neg hc]; exact .non _ _
  · rw [if_pos hc]; exact .ret _ _
end Go.Proofs.Ytcppihpehipelaa

namespace Go.Proofs.Ytcppihpehipelaa
open Go.RowKit
set_option linter.unusedVariables false

/-- A key's cells. -/
abbrev kcs (k : List Int) : Array Value := (k.map (Value.int .u8)).toArray
/-- A key as a value. -/
abbrev kv (k : List Int) : Value := .agg (kcs k)
theorem Ky.at {k : List Int} (h : Ky k) (i : Nat) : 0 ≤ k.getD i 0 ∧ k.getD i 0 ≤ 255 := by
  by_cases hi : i < k.length
  · have e : k.getD i 0 = k[i] := by simp [List.getD, hi]
    rw [e]; exact h.bytes _ (List.getElem_mem hi)
  · have e : k.getD i 0 = 0 := by simp [List.getD]; rw [List.getElem?_eq_none (by omega)]; rfl
    rw [e]; omega
/-- A key that lies in a block, from a place on. -/
structure KeyAt (w : World) (b o : Nat) (k : List Int) : Prop where
  cell : ∀ i, i < 16 → w.cell? ⟨b, o + i, none⟩ = some (.int .u8 (k.getD i 0))
theorem KeyAt.cell0 {w : World} {b : Nat} {k : List Int} (h : KeyAt w b 0 k) (i : Nat) (hi : i < 16) : w.cell? ⟨b, i, none⟩ = some (.int .u8 (k.getD i 0)) := by
  have := h.cell i hi
  rwa [Nat.zero_add] at this
theorem KeyAt.lt {w : World} {b o : Nat} {k : List Int} (h : KeyAt w b o k) : b < w.heap.size := lt_of_cell (h.cell 0 (by omega))
theorem KeyAt.made (w : World) (T : TypeId) (k : List Int) (hk : Ky k) : KeyAt (w.alloc (.cells (kcs k) T)) w.heap.size 0 k := by
  refine ⟨fun i hi => ?_⟩
  rw [World.cell?_alloc_new]
  have hl : i < k.length := by rw [hk.len]; exact hi
  simp [kcs, List.getD, hl]
theorem KeyAt.below {w w' : World} {b o B : Nat} {k : List Int} (h : KeyAt w b o k) (hb : Below B w w') (hB : b < B) : KeyAt w' b o k :=
  ⟨fun i hi => by rw [hb.cell (p := ⟨b, o + i, none⟩) hB]; exact h.cell i hi⟩
theorem KeyAt.past {w w' : World} {b o : Nat} {k : List Int} (h : KeyAt w b o k) (hb : Below w.heap.size w w') : KeyAt w' b o k := h.below hb h.lt
theorem KeyAt.same {w w' : World} {b o : Nat} {k : List Int} (h : KeyAt w b o k) (he : w'.heap = w.heap) : KeyAt w' b o k :=
  ⟨fun i hi => by rw [same_heap he]; exact h.cell i hi⟩
theorem KeyAt.alloc {w : World} {b o : Nat} {k : List Int} (h : KeyAt w b o k) (ob : Obj) : KeyAt (w.alloc ob) b o k :=
  h.below ((Below.refl w.heap.size _).alloc (Nat.le_refl _) ob) h.lt
theorem KeyAt.range {w : World} {b o : Nat} {k : List Int} (h : KeyAt w b o k) (hk : Ky k) : w.rangeAt b o (k.map (Value.int .u8)) := by
  intro j v hv
  rw [List.getElem?_map] at hv
  obtain ⟨z, hz, rfl⟩ := Option.map_eq_some_iff.1 hv
  have hj : j < 16 := by rw [← hk.len]; exact (List.getElem?_eq_some_iff.1 hz).1
  rw [h.cell j hj]
  simp [List.getD, hz]
theorem info_key : (Try.prog.info? 84).map (·.size) = some 16 := by kernel_rfl
/-- A key is read whole. -/
theorem wpList_load_key {ops : Array Oper} {rest : List Oper} {op : Oper} {a : Act} {w : World} {Q : Exit → Act → World → Prop} (hgd : op.guard = none) (x : Operand) (ho : op.op = .load 84 x)
    (b o : Nat) (hx : a.eval x = .pointer (some ⟨b, o, none⟩)) (k : List Int) (hk : Ky k) (hat : KeyAt w b o k)
    (h : wpList Try.prog ops Q rest (a.put op.dst (kv k)) w) : wpList Try.prog ops Q (op :: rest) a w :=
  wpList_load_mid hgd 84 x ho b o hx (k.map (Value.int .u8)) _ (hat.range hk) Try.underlying84 rfl (by rw [info_key, List.length_map, hk.len]) h
/-- As above, at a guarded operation whose guard is met. -/
theorem wpList_load_keyG {ops : Array Oper} {rest : List Oper} {op : Oper} {a : Act} {w : World} {Q : Exit → Act → World → Prop} (hw : Region.wanted op (yielded ops a.tmps) = true) (x : Operand) (ho : op.op = .load 84 x)
    (b o : Nat) (hx : a.eval x = .pointer (some ⟨b, o, none⟩)) (k : List Int) (hk : Ky k) (hat : KeyAt w b o k)
    (h : wpList Try.prog ops Q rest (a.put op.dst (kv k)) w) : wpList Try.prog ops Q (op :: rest) a w :=
  wpList_step fun K hK => by
    rw [if_pos hw]
    exact wp_load_mid 84 x ho b o hx (k.map (Value.int .u8)) _ (hat.range hk) Try.underlying84 rfl (by rw [info_key, List.length_map, hk.len]) (hK _ _ h)
/-- As above, at the operation that fills slot d. -/
theorem wpList_load_keyD (d : Tmp) {ops : Array Oper} {rest : List Oper} {op : Oper} {a : Act} {w : World} {Q : Exit → Act → World → Prop} (hd : op.dst = some d) (hw : Region.wanted op (yielded ops a.tmps) = true) (x : Operand) (ho : op.op = .load 84 x)
    (b o : Nat) (hx : a.eval x = .pointer (some ⟨b, o, none⟩)) (k : List Int) (hk : Ky k) (hat : KeyAt w b o k)
    (h : wpList Try.prog ops Q rest (a.put op.dst (kv k)) w) : wpList Try.prog ops Q (op :: rest) a w :=
  wpList_load_keyG hw x ho b o hx k hk hat h
theorem key_parts : ∃ i, Try.prog.info? 5 = some i := by
  have : (Try.prog.info? 5).isSome = true := by kernel_rfl
  exact Option.isSome_iff_exists.1 this
end Go.Proofs.Ytcppihpehipelaa

