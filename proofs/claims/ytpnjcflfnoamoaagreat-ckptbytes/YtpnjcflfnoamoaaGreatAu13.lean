/-
  Regions that draw their order and one of whose operations writes what the others ahead of it read: what holds behind every operation is asked until that one has come.
  A list of bytes in a block of the call's own, under stores: what is read behind them.
  What layer 15's laws lean on: the document's side beside the landed one.
-/
import Derived.Test.YtpnjcflfnoamoaaGreatAu29
import Derived.Test.YtpnjcflfnoamoaaGreatBase
import Derived.Below
import Derived.Deep.QuietTactic
import Derived.BigQuiet
import Derived.Test.YtpnjcflfnoamoaaGreatCk
import Derived.Test.YtpnjcflfnoamoaaGreatRefCk2
import Derived.Test.YtpnjcflfnoamoaaGreatRefCk5
import Derived.Test.YtpnjcflfnoamoaaGreatAu36
import Derived.Test.YtpnjcflfnoamoaaGreatVerEq
import Derived.Deep.DeepCutAuto
namespace Go.Proofs.YtpnjcflfnoamoaaGreat
open Go Go.RowKit
set_option linter.unusedVariables false

section
variable {P : Program} {ops : Array Oper} {Q : Exit → Act → World → Prop} {md : Region.Mode} {S : World → Prop} {z : Nat}
/-- Whatever order is picked from here on; S holds behind each operation that comes ahead of number z. -/
def wpUp (P : Program) (md : Region.Mode) (ops : Array Oper) (Q : Exit → Act → World → Prop) (S : World → Prop) (z : Nat) : Nat → Array Bool → Act → World → Prop
  | 0, l, a, w => Region.ready md ops l = [] ∧ Q .normal a w
  | n + 1, l, a, w => (Region.ready md ops l = [] → Q .normal a w) ∧
    ∀ i ∈ Region.ready md ops l, wpOp P ops Q i (fun a' w' => (l.getD z false = false → i ≠ z → S w') ∧ wpUp P md ops Q S z n (l.setIfInBounds i true) a' w') a w
/-- Each of those that may come up comes up. -/
def AllUp (P : Program) (md : Region.Mode) (ops : Array Oper) (Q : Exit → Act → World → Prop) (S : World → Prop) (z : Nat) (n : Nat) (l : Array Bool) (a : Act) (w : World) (rs : List Nat) : Prop :=
  ∀ i ∈ rs, wpOp P ops Q i (fun a' w' => (l.getD z false = false → i ≠ z → S w') ∧ wpUp P md ops Q S z n (l.setIfInBounds i true) a' w') a w
theorem AllUp.nil {n : Nat} {l : Array Bool} {a : Act} {w : World} : AllUp P md ops Q S z n l a w [] := fun _ h => by cases h
theorem AllUp.cons {n : Nat} {l : Array Bool} {a : Act} {w : World} {i : Nat} {o : Oper} {rs : List Nat} (ho : ops[i]? = some o)
    (h : ∀ K : Act → World → Prop, Hid (∀ a w, S w → (S w → wpUp P md ops Q S z n (l.setIfInBounds i true) a w) → K a w) → if Region.wanted o (yielded ops a.tmps) = true then Oper.wp P o a w K Q else K (a.put o.dst undef) w)
    (hs : AllUp P md ops Q S z n l a w rs) : AllUp P md ops Q S z n l a w (i :: rs) := fun j hj => by
  rcases List.mem_cons.1 hj with rfl | hj
  · exact wpOp_step ho (fun K hK => h K (fun a w hS hW => hK a w ⟨fun _ _ => hS, hW hS⟩))
  · exact hs j hj
/-- Number z itself: nothing is asked behind it. -/
theorem AllUp.that {n : Nat} {l : Array Bool} {a : Act} {w : World} {o : Oper} {rs : List Nat} (ho : ops[z]? = some o)
    (h : ∀ K : Act → World → Prop, Hid (∀ a w, wpUp P md ops Q S z n (l.setIfInBounds z true) a w → K a w) → if Region.wanted o (yielded ops a.tmps) = true then Oper.wp P o a w K Q else K (a.put o.dst undef) w)
    (hs : AllUp P md ops Q S z n l a w rs) : AllUp P md ops Q S z n l a w (z :: rs) := fun j hj => by
  rcases List.mem_cons.1 hj with rfl | hj
  · exact wpOp_step ho (fun K hK => h K (fun a w hW => hK a w ⟨fun _ hne => absurd rfl hne, hW⟩))
  · exact hs j hj
end
end Go.Proofs.YtpnjcflfnoamoaaGreat

namespace Go.Proofs.YtpnjcflfnoamoaaGreat
open Go.RowKit
set_option linter.unusedVariables false

/-- A list of bytes that fills the first cells of block g, none of them frozen. -/
structure Mine (w : World) (g : Nat) (zs : List Int) : Prop where
  bytes : ∀ z ∈ zs, 0 ≤ z ∧ z ≤ 255
  cells : ∀ j, j < zs.length → w.cell? ⟨g, j, none⟩ = some (.int .u8 (zs.getD j 0))
  free : ∀ j, w.frozen? ⟨g, j, none⟩ = false
  lt : g < w.heap.size

theorem Mine.row {w : World} {g : Nat} {zs : List Int} (h : Mine w g zs) : Row w (some ⟨g, 0, none⟩) zs :=
  ⟨h.bytes, .inr ⟨g, 0, rfl, fun j hj => by rw [Nat.zero_add]; exact h.cells j hj⟩⟩
theorem Mine.same {w w' : World} {g : Nat} {zs : List Int} (h : Mine w g zs) (he : w'.heap = w.heap) : Mine w' g zs :=
  ⟨h.bytes, fun j hj => by rw [← h.cells j hj]; unfold World.cell?; rw [he], fun j => by rw [← h.free j]; unfold World.frozen?; rw [he], by rw [he]; exact h.lt⟩
theorem Mine.set {w : World} {g : Nat} {zs : List Int} (h : Mine w g zs) (k : Nat) (v : Int) (hk : k < zs.length) (h0 : 0 ≤ v) (h1 : v ≤ 255) : Mine (w.setCell ⟨g, k, none⟩ (.int .u8 v)) g (zs.set k v) := by
  refine ⟨fun z hz => ?_, fun j hj => ?_, fun j => by rw [World.frozen?_setCell]; exact h.free j, by simpa using h.lt⟩
  · rcases List.mem_or_eq_of_mem_set hz with h' | rfl
    · exact h.bytes z h'
    · exact ⟨h0, h1⟩
  · simp at hj
    by_cases e : k = j
    · subst e
      rw [World.cell?_setCell_same _ _ _ (h.cells k hk)]
      simp [List.getD, hk]
    · rw [World.cell?_setCell_other _ _ _ _ (by intro h'; injection h' with _ h2; exact e h2), h.cells j hj]
      simp [List.getD, e]
theorem Mine.below {w w' : World} {g : Nat} {zs : List Int} (h : Mine w g zs) {B : Nat} (hb : Below B w w') (hB : g < B) : Mine w' g zs :=
  ⟨h.bytes, fun j hj => by rw [hb.cell (p := ⟨g, j, none⟩) hB]; exact h.cells j hj, fun j => by rw [hb.frozen (p := ⟨g, j, none⟩) hB]; exact h.free j, Nat.lt_of_lt_of_le h.lt hb.size⟩
theorem below_drewN {B : Nat} {a w : World} (h : Below B a w) (n : Nat) : Below B a (w.drewN n) := ⟨h.os, h.tape, h.output, h.size, h.block⟩
/-- A block that was just made. -/
theorem Mine.made (w : World) (C : Array Value) (zs : List Int) (hC : C.toList = bs zs) (hz : ∀ z ∈ zs, 0 ≤ z ∧ z ≤ 255) : Mine (w.alloc (.cells C 5)) w.heap.size zs := by
  refine ⟨hz, fun j hj => ?_, fun j => ?_, by simp⟩
  · rw [World.cell?_alloc_new, ← Array.getElem?_toList, hC]
    simp [bs, hj]
  · have : (w.alloc (.cells C 5)).heap[w.heap.size]? = some (.cells C 5 (0, 0)) := by
      show (w.heap.push _)[w.heap.size]? = _
      simp
    unfold World.frozen?; rw [this]; simp
theorem mine_of_own {w : World} {base n cap : Nat} {a : Option Addr} {zs : List Int} (h : w.ownsRow base 5 1 (.slice a n cap) n (bs zs)) (hb : ∀ z ∈ zs, 0 ≤ z ∧ z ≤ 255) (hn : 0 < n) : ∃ g, a = some ⟨g, 0, none⟩ ∧ base ≤ g ∧ Mine w g zs ∧ zs.length = n := by
  have hl : zs.length = n := by have := h.1; rw [bs_len] at this; omega
  rcases h.2 with ⟨_, h0⟩ | ⟨g, cap', cur, hv, hg, hheap, hc1, hc2, hc3, hc4⟩
  · omega
  · cases hv
    have hlt : g < w.heap.size := by
      apply Classical.byContradiction
      intro hn'
      have : w.heap[g]? = none := by simp; omega
      rw [this] at hheap; cases hheap
    refine ⟨g, rfl, hg, ⟨hb, fun j hj => ?_, fun j => ?_, hlt⟩, hl⟩
    · have hr := (row_of_own h hb).cells
      rcases hr with h' | ⟨b, off, h', hcell⟩
      · rw [h'] at hj; simp at hj
      · cases h'
        have := hcell j hj
        rwa [Nat.zero_add] at this
    · unfold World.frozen?; rw [hheap]; simp
/-- 'make([]byte, n)'. -/
def zeros (n : Nat) : Array Value := madeCells (Value.int IntKind.u8 0).cells n
end Go.Proofs.YtpnjcflfnoamoaaGreat

namespace Go.Proofs.YtpnjcflfnoamoaaGreat
open Go.RowKit
set_option linter.unusedVariables false

theorem info_by : (Tryz.prog.info? 23).map (fun i => (i.zero, i.size, i.bytes)) = some (some (.slice none 0 0), 1, 24) := by kernel_rfl
theorem idxB_zero (w : World) (a0 a1 : Option Addr) (n0 c0 n1 c1 : Nat) : (Instr.index 31 (.agg #[.slice a0 n0 c0, .slice a1 n1 c1]) (.int .i64 0)).run Tryz.prog w = .ok (.slice a0 n0 c0) w := by
  obtain ⟨i0, hi, hz0, hz1, hz2⟩ := info_parts info_by
  have hs := run_sizeOf (P := Tryz.prog) w hi
  simp [Instr.index, run_underlying Tryz.underlying31, asIntOf, part, hs]
theorem idxB_one (w : World) (a0 a1 : Option Addr) (n0 c0 n1 c1 : Nat) : (Instr.index 31 (.agg #[.slice a0 n0 c0, .slice a1 n1 c1]) (.int .i64 1)).run Tryz.prog w = .ok (.slice a1 n1 c1) w := by
  obtain ⟨i0, hi, hz0, hz1, hz2⟩ := info_parts info_by
  have hs := run_sizeOf (P := Tryz.prog) w hi
  have hc : Tryz.prog.cellsOf 23 = 1 := by kernel_rfl
  simp [Instr.index, run_underlying Tryz.underlying31, asIntOf, part, hs, hc]
theorem rgets_some (a : Option Addr) (cap len : Nat) (zs : List Int) (w : World) (hr : Row w a zs) (hl : zs.length = len) (hc : len ≤ cap) (hm : len ≤ 1000000) (M : List Ver) (h : getS zs = some M) :
    Calls Tryz.prog 12 #[.slice a len cap] w fun e w' => ∃ q, e = .returned (.tuple #[.pointer (some ⟨q, 0, none⟩), .bool true]) ∧ StoreL w' q M ∧ Below w.heap.size w w' := by
  refine (rgetstore_any a cap len zs w hr hl hc hm).mono ?_
  rintro e w' ⟨⟨q, M', e1, rfl, h1⟩ | ⟨e1, _⟩, hb⟩
  · rw [h] at e1
    cases e1
    exact ⟨q, rfl, h1.looks, hb⟩
  · rw [h] at e1; cases e1
theorem rgets_none (a : Option Addr) (cap len : Nat) (zs : List Int) (w : World) (hr : Row w a zs) (hl : zs.length = len) (hc : len ≤ cap) (hm : len ≤ 1000000) (h : getS zs = none) :
    Calls Tryz.prog 12 #[.slice a len cap] w fun e w' => e = .returned (.tuple #[.pointer none, .bool false]) ∧ Below w.heap.size w w' := by
  refine (rgetstore_any a cap len zs w hr hl hc hm).mono ?_
  rintro e w' ⟨⟨q, M', e1, _⟩ | ⟨_, rfl⟩, hb⟩
  · rw [h] at e1; cases e1
  · exact ⟨rfl, hb⟩
end Go.Proofs.YtpnjcflfnoamoaaGreat

