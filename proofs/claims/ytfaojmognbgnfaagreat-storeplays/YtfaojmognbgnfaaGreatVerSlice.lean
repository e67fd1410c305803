/-
  Lists of versions cut in two; one version as a list.
-/
import Derived.Test.YtfaojmognbgnfaaGreatVerMem
import Derived.Deep.Slices
namespace Go.Proofs.YtfaojmognbgnfaaGreat
open Go.RowKit
set_option linter.unusedVariables false

theorem slice_versT (w : World) (a : Option Addr) (ha : ∀ ad, a = some ad → ∃ bb, ad = ⟨bb, 0, none⟩) (len cap h : Nat) (hh : h ≤ cap) (hn : a = none → cap = 0) (hlen : a = none → len = 0) :
    (Instr.slice 31 (.slice a len cap) none (some (.int .i64 (h : Int))) none).run Tryz.prog w = .ok (.slice a h cap) w := by
  cases a with
  | none =>
    obtain rfl := hn rfl
    obtain rfl := hlen rfl
    obtain rfl : h = 0 := by omega
    kernel_rfl
  | some ad =>
    obtain ⟨bb, rfl⟩ := ha ad rfl
    obtain ⟨i0, z, hi, _⟩ := verEl.info
    have he : Tryz.prog.elem 31 = 71 := by kernel_rfl
    rw [run_slice_h w 31 _ len cap (by rw [he]; exact Tryz.underlying31) .i64 (h : Int) (by omega) (by omega), he, run_sizeOf w hi]
    simp [sliced, addr_add]
def dropV (a : Option Addr) (cap k : Nat) : Option Addr := match a with | none => none | some ad => if cap = k then some ad else some (ad.add (k * 20))
theorem slice_versL (w : World) (a : Option Addr) (ha : ∀ ad, a = some ad → ∃ bb, ad = ⟨bb, 0, none⟩) (len cap k : Nat) (hk : k ≤ len) (hh : len ≤ cap) (hn : a = none → cap = 0) :
    (Instr.slice 31 (.slice a len cap) (some (.int .i64 (k : Int))) none none).run Tryz.prog w = .ok (.slice (dropV a cap k) (len - k) (cap - k)) w := by
  cases a with
  | none =>
    obtain rfl := hn rfl
    obtain rfl : len = 0 := by omega
    obtain rfl : k = 0 := by omega
    kernel_rfl
  | some ad =>
    obtain ⟨bb, rfl⟩ := ha ad rfl
    obtain ⟨i0, z, hi, _, hsz, _⟩ := verEl.info
    have he : Tryz.prog.elem 31 = 71 := by kernel_rfl
    rw [run_slice_l w 31 _ len cap (by rw [he]; exact Tryz.underlying31) .i64 (k : Int) (by omega) (by omega), he, run_sizeOf w hi]
    have hc : Tryz.prog.cellsOf 71 = 20 := by kernel_rfl
    simp [sliced, addr_add, hc, dropV]
theorem dropV_none {a : Option Addr} {cap k : Nat} (h : dropV a cap k = none) : a = none := by
  cases a with
  | none => rfl
  | some ad => simp only [dropV] at h; split at h <;> cases h
theorem lies_dropV {u : World} {a : Option Addr} {cap k : Nat} {xs : List Ver} (ha : ∀ ad, a = some ad → ∃ bb, ad = ⟨bb, 0, none⟩) (h : Lies u a (xs.flatMap encV)) (ho : OkL xs) (hl : xs.length ≤ cap) : Lies u (dropV a cap k) ((xs.drop k).flatMap encV) := by
  by_cases hc : cap = k
  · have : xs.drop k = [] := List.drop_eq_nil_of_le (by omega)
    rw [this]; exact lies_nil _ _
  · cases a with
    | none => exact lies_none _ _
    | some ad =>
      obtain ⟨bb, rfl⟩ := ha ad rfl
      have := h.dropped (k * 20)
      rw [flat_drop xs k ho.len] at this
      show Lies u (if cap = k then some ⟨bb, 0, none⟩ else some ((⟨bb, 0, none⟩ : Addr).add (k * 20))) _
      rw [if_neg hc, addr_add]
      exact this
theorem lies_takeV {u : World} {a : Option Addr} {k : Nat} {xs : List Ver} (ha : ∀ ad, a = some ad → ∃ bb, ad = ⟨bb, 0, none⟩) (h : Lies u a (xs.flatMap encV)) (ho : OkL xs) : Lies u a ((xs.take k).flatMap encV) := by
  cases a with
  | none => exact lies_none _ _
  | some ad =>
    obtain ⟨bb, rfl⟩ := ha ad rfl
    have := h.taken (k * 20)
    rw [flat_take xs k ho.len] at this
    exact this
theorem run_build_ver (w : World) (V : Ver) (hk : Ky V.k) :
    (Instr.buildSlice 31 1 #[(0, vv V)]).run Tryz.prog w = .ok (.slice (some ⟨w.heap.size, 0, none⟩) 1 1) (w.alloc (.cells (encV V).toArray 71)) := by
  have hl := enc_len hk
  have hf : Instr.fill (fun i => some (i * 20, 20)) (encV zeroV).toArray [(0, vv V)] = some (encV V).toArray := by
    rw [fill_step _ (encV zeroV) 0 0 20 (encV V) rfl hl (by rw [enc_len zeroV_ky]; omega)]
    show some _ = some _
    congr 2
    rw [List.drop_eq_nil_of_le (by rw [enc_len zeroV_ky]; omega)]
    simp
  simp [Instr.buildSlice, run_underlying Tryz.underlying31]
  generalize hz : Array.map _ (Array.range 20) = Z
  have hz2 : Z = (encV zeroV).toArray := by rw [← hz]; kernel_rfl
  rw [hz2, hf]
  simp [newRow]
theorem step_build_ver {w : World} {ops : Array Oper} {o : Oper} {a : Act} {K : Act → World → Prop} {Q : Exit → Act → World → Prop} {E : Prop} (hgd : o.guard = none) (x : Operand) (ho : o.op = .buildSlice 31 1 #[(0, x)]) (V : Ver) (hk : Ky V.k) (hx : a.eval x = vv V)
    (h : K (a.put o.dst (.slice (some ⟨w.heap.size, 0, none⟩) 1 1)) (w.alloc (.cells (encV V).toArray 71))) : if Region.wanted o (yielded ops a.tmps) = true then Oper.wp Tryz.prog o a w K Q else E := by
  have hw : Region.wanted o (yielded ops a.tmps) = true := by simp [Region.wanted, hgd]
  rw [if_pos hw]
  have hrun := run_build_ver w V hk
  unfold Oper.wp
  simp [execOp, ho, hx, hrun, Result.andThen]
  exact h
theorem wpList_build_ver (d : Tmp) {ops : Array Oper} {rest : List Oper} {op : Oper} {a : Act} {w : World} {Q : Exit → Act → World → Prop} (hd : op.dst = some d) (hgd : op.guard = none) (x : Operand) (ho : op.op = .buildSlice 31 1 #[(0, x)])
    (V : Ver) (hk : Ky V.k) (hx : a.eval x = vv V)
    (h : wpList Tryz.prog ops Q rest (a.put op.dst (.slice (some ⟨w.heap.size, 0, none⟩) 1 1)) (w.alloc (.cells (encV V).toArray 71))) : wpList Tryz.prog ops Q (op :: rest) a w := by
  refine wpList_plain hgd fun K hK => ?_
  have hrun := run_build_ver w V hk
  unfold Oper.wp
  simp [execOp, ho, hx, hrun, Result.andThen]
  exact hK _ _ h
end Go.Proofs.YtfaojmognbgnfaaGreat
