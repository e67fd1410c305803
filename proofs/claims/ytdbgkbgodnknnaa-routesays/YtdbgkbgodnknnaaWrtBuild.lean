/-
  Writes, and lists of one to three writes, made of their parts.
-/
import Derived.Test.YtdbgkbgodnknnaaWrtMem
import Derived.Test.YtdbgkbgodnknnaaFill
namespace Go.Proofs.Ytdbgkbgodnknnaa
open Go.RowKit
set_option linter.unusedVariables false

/-- A write is made of its parts. -/
theorem encW_zero_len : (encW zeroW).length = 18 := encW_len zeroW_ky
/-- Lists of one, two, three writes are made. -/
theorem run_build_ws1 (w : World) (A : Wrt) (hA : Ky A.k) :
    (Instr.buildSlice 33 1 #[(0, wv A)]).run Try.prog w = .ok (.slice (some ⟨w.heap.size, 0, none⟩) 1 1) (w.alloc (.cells (encW A).toArray 32)) := by
  have hf : Instr.fill (fun i => some (i * 18, 18)) (encW zeroW).toArray [(0, wv A)] = some (encW A).toArray := by
    rw [fill_step _ (encW zeroW) 0 0 18 (encW A) rfl (encW_len hA) (by rw [encW_zero_len]; omega)]
    show some _ = some _
    congr 2
    rw [List.drop_eq_nil_of_le (by rw [encW_zero_len]; omega)]
    simp
  simp [Instr.buildSlice, run_underlying Try.underlying33]
  generalize hz : Array.map _ (Array.range 18) = Z
  have hz2 : Z = (encW zeroW).toArray := by rw [← hz]; kernel_rfl
  rw [hz2, hf]
  simp [newRow]
end Go.Proofs.Ytdbgkbgodnknnaa
