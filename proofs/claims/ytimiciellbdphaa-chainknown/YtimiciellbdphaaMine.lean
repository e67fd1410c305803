/-
  A list of bytes in a block of the call's own, under stores: what is read behind them.
-/
import Derived.Test.YtimiciellbdphaaRowBase
import Derived.Below
import Derived.Deep.QuietTactic
import Derived.BigQuiet
namespace Go.Proofs.Ytimiciellbdphaa
open Go.RowKit
set_option linter.unusedVariables false

/-- A list of bytes that fills the first cells of block g, none of them frozen. -/
structure Mine (w : World) (g : Nat) (zs : List Int) : Prop where
  bytes : ∀ z ∈ zs, 0 ≤ z ∧ z ≤ 255
  cells : ∀ j, j < zs.length → w.cell? ⟨g, j, none⟩ = some (.int .u8 (zs.getD j 0))
  free : ∀ j, w.frozen? ⟨g, j, none⟩ = false
  lt : g < w.heap.size

theorem Mine.row {w : World} {g : Nat} {zs : List Int} (h : Mine w g zs) : Row w (some ⟨g, 0, none⟩) zs :=
  ⟨h.bytes, .inr ⟨g, 0, rfl, fun j hj => by rw [Nat.zero_add]; exact h.cells j hj⟩⟩
theorem Mine.same {w w' : World} {g : Nat} {zs : List Int} (h : Mine w g zs) (he : w'.heap = w.heap) : Mine w' g zs :=
  ⟨h.bytes, fun j hj => by rw [← h.cells j hj]; unfold World.cell?; rw [he], fun j => by rw [← h.free j]; unfold World.frozen?; rw [he], by rw [he]; exact h.lt⟩
theorem Mine.set {w : World} {g : Nat} {zs : List Int} (h : Mine w g zs) (k : Nat) (v : Int) (hk : k < zs.length) (h0 : 0 ≤ v) (h1 : v ≤ 255) : Mine (w.setCell ⟨g, k, none⟩ (.int .u8 v)) g (zs.set k v) := by
  refine ⟨fun z hz => ?_, fun j hj => ?_, fun j => by rw [World.frozen?_setCell]; exact h.free j, by simpa using h.lt⟩
  · rcases List.mem_or_eq_of_mem_set hz with h' | rfl
    · exact h.bytes z h'
    · exact ⟨h0, h1⟩
  · simp at hj
    by_cases e : k = j
    · subst e
      rw [World.cell?_setCell_same _ _ _ (h.cells k hk)]
      simp [List.getD, hk]
    · rw [World.cell?_setCell_other _ _ _ _ (by intro h'; injection h' with _ h2; exact e h2), h.cells j hj]
      simp [List.getD, e]
theorem Mine.below {w w' : World} {g : Nat} {zs : List Int} (h : Mine w g zs) {B : Nat} (hb : Below B w w') (hB : g < B) : Mine w' g zs :=
  ⟨h.bytes, fun j hj => by rw [hb.cell (p := ⟨g, j, none⟩) hB]; exact h.cells j hj, fun j => by rw [hb.frozen (p := ⟨g, j, none⟩) hB]; exact h.free j, Nat.lt_of_lt_of_le h.lt hb.size⟩
theorem below_drewN {B : Nat} {a w : World} (h : Below B a w) (n : Nat) : Below B a (w.drewN n) := ⟨h.os, h.tape, h.output, h.size, h.block⟩
/-- A block that was just made. -/
theorem Mine.made (w : World) (C : Array Value) (zs : List Int) (hC : C.toList = bs zs) (hz : ∀ z ∈ zs, 0 ≤ z ∧ z ≤ 255) : Mine (w.alloc (.cells C 5)) w.heap.size zs := by
  refine ⟨hz, fun j hj => ?_, fun j => ?_, by simp⟩
  · rw [World.cell?_alloc_new, ← Array.getElem?_toList, hC]
    simp [bs, hj]
  · have : (w.alloc (.cells C 5)).heap[w.heap.size]? = some (.cells C 5 (0, 0)) := by
      show (w.heap.push _)[w.heap.size]? = _
      simp
    unfold World.frozen?; rw [this]; simp
theorem mine_of_own {w : World} {base n cap : Nat} {a : Option Addr} {zs : List Int} (h : w.ownsRow base 5 1 (.slice a n cap) n (bs zs)) (hb : ∀ z ∈ zs, 0 ≤ z ∧ z ≤ 255) (hn : 0 < n) : ∃ g, a = some ⟨g, 0, none⟩ ∧ base ≤ g ∧ Mine w g zs ∧ zs.length = n := by
  have hl : zs.length = n := by have := h.1; rw [bs_len] at this; omega
  rcases h.2 with ⟨_, h0⟩ | ⟨g, cap', cur, hv, hg, hheap, hc1, hc2, hc3, hc4⟩
  · omega
  · cases hv
    have hlt : g < w.heap.size := by
      apply Classical.byContradiction
      intro hn'
      have : w.heap[g]? = none := by simp; omega
      rw [this] at hheap; cases hheap
    refine ⟨g, rfl, hg, ⟨hb, fun j hj => ?_, fun j => ?_, hlt⟩, hl⟩
    · have hr := (row_of_own h hb).cells
      rcases hr with h' | ⟨b, off, h', hcell⟩
      · rw [h'] at hj; simp at hj
      · cases h'
        have := hcell j hj
        rwa [Nat.zero_add] at this
    · unfold World.frozen?; rw [hheap]; simp
/-- 'make([]byte, n)'. -/
def zeros (n : Nat) : Array Value := madeCells (Value.int IntKind.u8 0).cells n
theorem zeros_list (n : Nat) : (zeros n).toList = bs (List.replicate n 0) := by
  apply List.ext_getElem
  · simp [zeros, size_madeCells, bs]
  · intro i h1 h2
    simp [zeros, madeCells, bs, Value.cells, Nat.mod_one]
theorem run_bytes (w : World) (n : Nat) (hn : n ≤ 140737488351232) : (Instr.makeSlice 32 (.int .i64 n) (.int .i64 n)).run Try.prog w = .ok (.slice (some ⟨w.heap.size, 0, none⟩) n n) (w.alloc (.cells (zeros n) 5)) := by
  obtain ⟨i0, hi, hz0, hz1, hz2⟩ := info_parts info5
  have h := run_make (P := Try.prog) w 32 5 i0 (.int .u8 0) Try.underlying32 hi hz0 .i64 .i64 (n : Int) (n : Int) (by omega) (by omega) (by rw [hz2]; omega) (by omega)
  rw [hz1] at h
  have e1 : ((n : Int)).toNat = n := by omega
  rw [e1, Nat.mul_one] at h
  exact h
theorem mine_zeros (w : World) (n : Nat) : Mine (w.alloc (.cells (zeros n) 5)) w.heap.size (List.replicate n 0) :=
  Mine.made w _ _ (zeros_list n) (fun z hz => by rw [(List.mem_replicate.1 hz).2]; omega)
end Go.Proofs.Ytimiciellbdphaa
