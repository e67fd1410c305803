/-
  Writes, and lists of one to three writes, made of their parts.
-/
import Derived.Test.YtdbgkbgodnknnaaWrtMem
import Derived.Test.YtdbgkbgodnknnaaFill
namespace Go.Proofs.Ytdbgkbgodnknnaa
open Go.RowKit
set_option linter.unusedVariables false

/-- A write is made of its parts. -/
theorem encW_zero_len : (encW zeroW).length = 18 := encW_len zeroW_ky
theorem fill_key0 (place : Nat → Option (Nat × Nat)) (hp : place 0 = some (0, 16)) (k : List Int) (hk : Ky k) (rest : List (Nat × Value)) : Instr.fill place (encW zeroW).toArray ((0, kv k) :: rest) = Instr.fill place (encW ⟨k, [], false⟩).toArray rest := by
  show Instr.fill place (encW zeroW).toArray ((0, .agg (kc k).toArray) :: rest) = _
  rw [fill_step place (encW zeroW) 0 0 16 (kc k) hp (kc_len hk) (by rw [encW_zero_len]; omega)]
  congr 2
theorem run_build_w1 (w : World) (k : List Int) (hk : Ky k) : (Instr.build 32 #[(0, kv k)]).run Try.prog w = .ok (wv ⟨k, [], false⟩) w := by
  have hf : Instr.fill (fun x => [(0, 16), (16, 1), (17, 1)][x]?) (encW zeroW).toArray [(0, kv k)] = some (encW ⟨k, [], false⟩).toArray := by rw [fill_key0 _ rfl k hk]; rfl
  simp [Instr.build, run_underlying Try.underlying32]
  have hf2 : Instr.fill (fun x => [(0, 16), (16, 1), (17, 1)][x]?) (Value.agg #[.int .u8 0, .int .u8 0, .int .u8 0, .int .u8 0, .int .u8 0, .int .u8 0, .int .u8 0, .int .u8 0, .int .u8 0, .int .u8 0, .int .u8 0, .int .u8 0, .int .u8 0, .int .u8 0, .int .u8 0, .int .u8 0, .string ⟨#[]⟩, .bool false]).cells [(0, kv k)] = some (encW ⟨k, [], false⟩).toArray := hf
  rw [hf2]
  rfl
theorem wpList_build_w1 (d : Tmp) {ops : Array Oper} {rest : List Oper} {op : Oper} {a : Act} {w : World} {Q : Exit → Act → World → Prop} (hd : op.dst = some d) (hgd : op.guard = none) (x : Operand) (ho : op.op = .build 32 #[(0, x)])
    (k : List Int) (hk : Ky k) (hx : a.eval x = kv k) (h : wpList Try.prog ops Q rest (a.put op.dst (wv ⟨k, [], false⟩)) w) : wpList Try.prog ops Q (op :: rest) a w := by
  refine wpList_plain hgd fun K hK => ?_
  have hrun := run_build_w1 w k hk
  unfold Oper.wp
  simp only [execOp, ho, List.map_toArray, List.map_cons, List.map_nil, hx, Sem.run_bind, hrun, Result.andThen]
  exact hK _ _ h
/-- Lists of one, two, three writes are made. -/
theorem run_build_ws1 (w : World) (A : Wrt) (hA : Ky A.k) :
    (Instr.buildSlice 33 1 #[(0, wv A)]).run Try.prog w = .ok (.slice (some ⟨w.heap.size, 0, none⟩) 1 1) (w.alloc (.cells (encW A).toArray 32)) := by
  have hf : Instr.fill (fun i => some (i * 18, 18)) (encW zeroW).toArray [(0, wv A)] = some (encW A).toArray := by
    rw [fill_step _ (encW zeroW) 0 0 18 (encW A) rfl (encW_len hA) (by rw [encW_zero_len]; omega)]
    show some _ = some _
    congr 2
    rw [List.drop_eq_nil_of_le (by rw [encW_zero_len]; omega)]
    simp
  simp [Instr.buildSlice, run_underlying Try.underlying33]
  generalize hz : Array.map _ (Array.range 18) = Z
  have hz2 : Z = (encW zeroW).toArray := by rw [← hz]; kernel_rfl
  rw [hz2, hf]
  simp [newRow]
theorem wrts_made (w : World) (l : List Wrt) (h : ∀ W ∈ l, WrtOk W) : WrtsAt (w.alloc (.cells (l.flatMap encW).toArray 32)) (some ⟨w.heap.size, 0, none⟩) l := by
  refine ⟨.inr ⟨w.heap.size, 0, rfl, fun i W hW => ⟨?_⟩⟩, h⟩
  have hl := lies_made w (l.flatMap encW).toArray 32
  rw [List.toList_toArray] at hl
  exact hl.el (fun V hV => encW_len (h V hV).key) hW
end Go.Proofs.Ytdbgkbgodnknnaa
