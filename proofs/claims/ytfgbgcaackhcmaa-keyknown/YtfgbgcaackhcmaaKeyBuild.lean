/-
  '[]api.Key{a, b, c}' as one step of a walk.
-/
import Derived.Test.YtfgbgcaackhcmaaKeyList
import Derived.Test.YtfgbgcaackhcmaaFill
namespace Go.Proofs.Ytfgbgcaackhcmaa
open Go.RowKit
set_option linter.unusedVariables false

theorem fill_keys3 (A B C : List Int) (hA : Ky A) (hB : Ky B) (hC : Ky C) (Z : List Value) (hZ : Z.length = 48) :
    Instr.fill (fun i => some (i * 16, 16)) Z.toArray [(0, kv A), (1, kv B), (2, kv C)] = some (kc A ++ kc B ++ kc C).toArray := by
  have a := kc_len hA
  have b := kc_len hB
  have c := kc_len hC
  show Instr.fill _ Z.toArray [(0, .agg (kc A).toArray), (1, .agg (kc B).toArray), (2, .agg (kc C).toArray)] = _
  rw [fill_step _ Z 0 0 16 (kc A) rfl a (by omega), fill_step _ _ 1 16 16 (kc B) rfl b (by simp; omega), fill_step _ _ 2 32 16 (kc C) rfl c (by simp; omega)]
  show some _ = some _
  congr 2
  have e1 : (kc A).take 32 = kc A := List.take_of_length_le (by omega)
  have e2 : (kc A).drop 48 = [] := List.drop_eq_nil_of_le (by omega)
  have e3 : (kc B).drop 32 = [] := List.drop_eq_nil_of_le (by omega)
  have e4 : Z.drop 48 = [] := List.drop_eq_nil_of_le (by omega)
  simp [List.take_append, List.drop_append, a, b, e1, e2, e3, e4]
theorem run_build_keys3 (w : World) (A B C : List Int) (hA : Ky A) (hB : Ky B) (hC : Ky C) :
    (Instr.buildSlice 28 3 #[(0, kv A), (1, kv B), (2, kv C)]).run Try.prog w = .ok (.slice (some ⟨w.heap.size, 0, none⟩) 3 3) (w.alloc (.cells (kc A ++ kc B ++ kc C).toArray 24)) := by
  have hf := fill_keys3 A B C hA hB hC (List.replicate 48 (Value.int .u8 0)) rfl
  simp [Instr.buildSlice, run_underlying Try.underlying28]
  generalize hz : Array.map _ (Array.range 48) = Z
  have hz2 : Z = (List.replicate 48 (Value.int .u8 0)).toArray := by rw [← hz]; kernel_rfl
  rw [hz2, hf]
  simp [newRow]
/-- .. as a step. -/
theorem wpList_build_keys3 (d : Tmp) {ops : Array Oper} {rest : List Oper} {op : Oper} {a : Act} {w : World} {Q : Exit → Act → World → Prop} (hd : op.dst = some d) (hgd : op.guard = none) (x y z : Operand) (ho : op.op = .buildSlice 28 3 #[(0, x), (1, y), (2, z)])
    (A B C : List Int) (hA : Ky A) (hB : Ky B) (hC : Ky C) (ex : a.eval x = kv A) (ey : a.eval y = kv B) (ez : a.eval z = kv C)
    (h : ∀ W, W = w.alloc (.cells (kc A ++ kc B ++ kc C).toArray 24) → wpList Try.prog ops Q rest (a.put op.dst (.slice (some ⟨w.heap.size, 0, none⟩) 3 3)) W) : wpList Try.prog ops Q (op :: rest) a w := by
  refine wpList_plain hgd fun K hK => ?_
  have hrun := run_build_keys3 w A B C hA hB hC
  unfold Oper.wp
  simp [execOp, ho, ex, ey, ez, hrun, Result.andThen]
  exact hK _ _ (h _ (by rw [List.append_assoc]))
theorem keys3_at (w : World) (A B C : List Int) (hA : Ky A) (hB : Ky B) (hC : Ky C) : KeysAt (w.alloc (.cells (kc A ++ kc B ++ kc C).toArray 24)) (some ⟨w.heap.size, 0, none⟩) [A, B, C] := by
  refine ⟨fun sa hs => ?_, fun k hk => ?_, fun e => by cases e⟩
  · injection hs with hs
    subst hs
    refine ⟨fun _ => rfl, fun j u hj => ?_⟩
    rw [addr_add, Nat.zero_add, World.cell?_alloc_new]
    simpa [kc] using hj
  · simp at hk
    rcases hk with rfl | rfl | rfl
    · exact hA
    · exact hB
    · exact hC
end Go.Proofs.Ytfgbgcaackhcmaa
