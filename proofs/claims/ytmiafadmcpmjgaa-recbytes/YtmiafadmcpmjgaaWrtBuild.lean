/-
  Writes, and lists of one to three writes, made of their parts.
-/
import Derived.Test.YtmiafadmcpmjgaaVm
import Derived.Test.YtmiafadmcpmjgaaEf
namespace Go.Proofs.Ytmiafadmcpmjgaa
open Go.RowKit
set_option linter.unusedVariables false

/-- A part of one cell laid into a row of cells. -/
theorem fill_cell (place : Nat → Option (Nat × Nat)) (C : List Value) (i off : Nat) (v : Value) (hp : place i = some (off, 1)) (hv : v.cells = #[v]) (hs : off < C.length) (rest : List (Nat × Value)) :
    Instr.fill place C.toArray ((i, v) :: rest) = Instr.fill place (C.set off v).toArray rest := by
  conv => lhs; unfold Instr.fill
  have h0 : ¬ (decide (v.cells.size ≠ 1) || decide (off + v.cells.size > C.toArray.size)) = true := by rw [hv]; simp; omega
  simp only [hp]
  rw [if_neg h0, hv]
  simp
/-- A write is made of its parts. -/
theorem encW_zero_len : (encW zeroW).length = 18 := encW_len zeroW_ky
theorem fill_key0 (place : Nat → Option (Nat × Nat)) (hp : place 0 = some (0, 16)) (k : List Int) (hk : Ky k) (rest : List (Nat × Value)) : Instr.fill place (encW zeroW).toArray ((0, kv k) :: rest) = Instr.fill place (encW ⟨k, [], false⟩).toArray rest := by
  show Instr.fill place (encW zeroW).toArray ((0, .agg (kc k).toArray) :: rest) = _
  rw [fill_step place (encW zeroW) 0 0 16 (kc k) hp (kc_len hk) (by rw [encW_zero_len]; omega)]
  congr 2
theorem run_build_w1 (w : World) (k : List Int) (hk : Ky k) : (Instr.build 36 #[(0, kv k)]).run Try.prog w = .ok (wv ⟨k, [], false⟩) w := by
  have hf : Instr.fill (fun x => [(0, 16), (16, 1), (17, 1)][x]?) (encW zeroW).toArray [(0, kv k)] = some (encW ⟨k, [], false⟩).toArray := by rw [fill_key0 _ rfl k hk]; rfl
  simp [Instr.build, run_underlying Try.underlying36]
  have hf2 : Instr.fill (fun x => [(0, 16), (16, 1), (17, 1)][x]?) (Value.agg #[.int .u8 0, .int .u8 0, .int .u8 0, .int .u8 0, .int .u8 0, .int .u8 0, .int .u8 0, .int .u8 0, .int .u8 0, .int .u8 0, .int .u8 0, .int .u8 0, .int .u8 0, .int .u8 0, .int .u8 0, .int .u8 0, .string ⟨#[]⟩, .bool false]).cells [(0, kv k)] = some (encW ⟨k, [], false⟩).toArray := hf
  rw [hf2]
  rfl
theorem run_build_w2 (w : World) (k v : List Int) (hk : Ky k) : (Instr.build 36 #[(0, kv k), (1, .string (strOfNums v))]).run Try.prog w = .ok (wv ⟨k, v, false⟩) w := by
  have hf : Instr.fill (fun x => [(0, 16), (16, 1), (17, 1)][x]?) (encW zeroW).toArray [(0, kv k), (1, .string (strOfNums v))] = some (encW ⟨k, v, false⟩).toArray := by
    rw [fill_key0 _ rfl k hk, fill_cell (fun x => [(0, 16), (16, 1), (17, 1)][x]?) _ 1 16 (.string (strOfNums v)) rfl rfl (by rw [encW_len (W := ⟨k, [], false⟩) hk]; omega)]
    show some _ = some _
    congr 2
    unfold encW
    rw [List.set_append_right _ _ (by rw [kc_len hk]; exact Nat.le_refl _), kc_len hk]
    rfl
  simp [Instr.build, run_underlying Try.underlying36]
  have hf2 : Instr.fill (fun x => [(0, 16), (16, 1), (17, 1)][x]?) (Value.agg #[.int .u8 0, .int .u8 0, .int .u8 0, .int .u8 0, .int .u8 0, .int .u8 0, .int .u8 0, .int .u8 0, .int .u8 0, .int .u8 0, .int .u8 0, .int .u8 0, .int .u8 0, .int .u8 0, .int .u8 0, .int .u8 0, .string ⟨#[]⟩, .bool false]).cells [(0, kv k), (1, .string (strOfNums v))] = some (encW ⟨k, v, false⟩).toArray := hf
  rw [hf2]
  rfl
theorem run_build_w3 (w : World) (k : List Int) (g : Bool) (hk : Ky k) : (Instr.build 36 #[(0, kv k), (2, .bool g)]).run Try.prog w = .ok (wv ⟨k, [], g⟩) w := by
  have hf : Instr.fill (fun x => [(0, 16), (16, 1), (17, 1)][x]?) (encW zeroW).toArray [(0, kv k), (2, .bool g)] = some (encW ⟨k, [], g⟩).toArray := by
    rw [fill_key0 _ rfl k hk, fill_cell (fun x => [(0, 16), (16, 1), (17, 1)][x]?) _ 2 17 (.bool g) rfl rfl (by rw [encW_len (W := ⟨k, [], false⟩) hk]; omega)]
    show some _ = some _
    congr 2
    unfold encW
    rw [List.set_append_right _ _ (by rw [kc_len hk]; omega), kc_len hk]
    rfl
  simp [Instr.build, run_underlying Try.underlying36]
  have hf2 : Instr.fill (fun x => [(0, 16), (16, 1), (17, 1)][x]?) (Value.agg #[.int .u8 0, .int .u8 0, .int .u8 0, .int .u8 0, .int .u8 0, .int .u8 0, .int .u8 0, .int .u8 0, .int .u8 0, .int .u8 0, .int .u8 0, .int .u8 0, .int .u8 0, .int .u8 0, .int .u8 0, .int .u8 0, .string ⟨#[]⟩, .bool false]).cells [(0, kv k), (2, .bool g)] = some (encW ⟨k, [], g⟩).toArray := hf
  rw [hf2]
  rfl
theorem wpList_build_w1 (d : Tmp) {ops : Array Oper} {rest : List Oper} {op : Oper} {a : Act} {w : World} {Q : Exit → Act → World → Prop} (hd : op.dst = some d) (hgd : op.guard = none) (x : Operand) (ho : op.op = .build 36 #[(0, x)])
    (k : List Int) (hk : Ky k) (hx : a.eval x = kv k) (h : wpList Try.prog ops Q rest (a.put op.dst (wv ⟨k, [], false⟩)) w) : wpList Try.prog ops Q (op :: rest) a w := by
  refine wpList_plain hgd fun K hK => ?_
  have hrun := run_build_w1 w k hk
  unfold Oper.wp
  simp only [execOp, ho, List.map_toArray, List.map_cons, List.map_nil, hx, Sem.run_bind, hrun, Result.andThen]
  exact hK _ _ h
theorem wpList_build_w2 (d : Tmp) {ops : Array Oper} {rest : List Oper} {op : Oper} {a : Act} {w : World} {Q : Exit → Act → World → Prop} (hd : op.dst = some d) (hgd : op.guard = none) (x y : Operand) (ho : op.op = .build 36 #[(0, x), (1, y)])
    (k v : List Int) (hk : Ky k) (hx : a.eval x = kv k) (hy : a.eval y = .string (strOfNums v)) (h : wpList Try.prog ops Q rest (a.put op.dst (wv ⟨k, v, false⟩)) w) : wpList Try.prog ops Q (op :: rest) a w := by
  refine wpList_plain hgd fun K hK => ?_
  have hrun := run_build_w2 w k v hk
  unfold Oper.wp
  simp only [execOp, ho, List.map_toArray, List.map_cons, List.map_nil, hx, hy, Sem.run_bind, hrun, Result.andThen]
  exact hK _ _ h
theorem wpList_build_w3 (d : Tmp) {ops : Array Oper} {rest : List Oper} {op : Oper} {a : Act} {w : World} {Q : Exit → Act → World → Prop} (hd : op.dst = some d) (hgd : op.guard = none) (x y : Operand) (ho : op.op = .build 36 #[(0, x), (2, y)])
    (k : List Int) (g : Bool) (hk : Ky k) (hx : a.eval x = kv k) (hy : a.eval y = .bool g) (h : wpList Try.prog ops Q rest (a.put op.dst (wv ⟨k, [], g⟩)) w) : wpList Try.prog ops Q (op :: rest) a w := by
  refine wpList_plain hgd fun K hK => ?_
  have hrun := run_build_w3 w k g hk
  unfold Oper.wp
  simp only [execOp, ho, List.map_toArray, List.map_cons, List.map_nil, hx, hy, Sem.run_bind, hrun, Result.andThen]
  exact hK _ _ h
/-- Lists of one, two, three writes are made. -/
theorem run_build_ws1 (w : World) (A : Wrt) (hA : Ky A.k) :
    (Instr.buildSlice 25 1 #[(0, wv A)]).run Try.prog w = .ok (.slice (some ⟨w.heap.size, 0, none⟩) 1 1) (w.alloc (.cells (encW A).toArray 36)) := by
  have hf : Instr.fill (fun i => some (i * 18, 18)) (encW zeroW).toArray [(0, wv A)] = some (encW A).toArray := by
    rw [fill_step _ (encW zeroW) 0 0 18 (encW A) rfl (encW_len hA) (by rw [encW_zero_len]; omega)]
    show some _ = some _
    congr 2
    rw [List.drop_eq_nil_of_le (by rw [encW_zero_len]; omega)]
    simp
  simp [Instr.buildSlice, run_underlying Try.underlying25]
  generalize hz : Array.map _ (Array.range 18) = Z
  have hz2 : Z = (encW zeroW).toArray := by rw [← hz]; kernel_rfl
  rw [hz2, hf]
  simp [newRow]
theorem run_build_ws2 (w : World) (A B : Wrt) (hA : Ky A.k) (hB : Ky B.k) :
    (Instr.buildSlice 25 2 #[(0, wv A), (1, wv B)]).run Try.prog w = .ok (.slice (some ⟨w.heap.size, 0, none⟩) 2 2) (w.alloc (.cells ([A, B].flatMap encW).toArray 36)) := by
  have lA := encW_len hA
  have lB := encW_len hB
  have lz := encW_zero_len
  have hf : Instr.fill (fun i => some (i * 18, 18)) (encW zeroW ++ encW zeroW).toArray [(0, wv A), (1, wv B)] = some ([A, B].flatMap encW).toArray := by
    rw [fill_step _ (encW zeroW ++ encW zeroW) 0 0 18 (encW A) rfl lA (by rw [List.length_append]; omega)]
    rw [List.take_zero, List.nil_append, List.drop_append, List.drop_eq_nil_of_le (by omega), List.nil_append, lz, show 0 + 18 - 18 = 0 from rfl, List.drop_zero]
    rw [fill_step _ (encW A ++ encW zeroW) 1 18 18 (encW B) rfl lB (by rw [List.length_append]; omega)]
    show some _ = some _
    congr 2
    rw [List.take_append, List.take_of_length_le (by omega), lA, Nat.sub_self, List.take_zero, List.append_nil, List.drop_eq_nil_of_le (by rw [List.length_append]; omega), List.append_nil]
    simp
  simp [Instr.buildSlice, run_underlying Try.underlying25]
  generalize hz : Array.map _ (Array.range 36) = Z
  have hz2 : Z = (encW zeroW ++ encW zeroW).toArray := by rw [← hz]; kernel_rfl
  rw [hz2, hf]
  simp [newRow]
theorem run_build_ws3 (w : World) (A B D : Wrt) (hA : Ky A.k) (hB : Ky B.k) (hD : Ky D.k) :
    (Instr.buildSlice 25 3 #[(0, wv A), (1, wv B), (2, wv D)]).run Try.prog w = .ok (.slice (some ⟨w.heap.size, 0, none⟩) 3 3) (w.alloc (.cells ([A, B, D].flatMap encW).toArray 36)) := by
  have lA := encW_len hA
  have lB := encW_len hB
  have lD := encW_len hD
  have lz := encW_zero_len
  have hf : Instr.fill (fun i => some (i * 18, 18)) (encW zeroW ++ (encW zeroW ++ encW zeroW)).toArray [(0, wv A), (1, wv B), (2, wv D)] = some ([A, B, D].flatMap encW).toArray := by
    rw [fill_step _ (encW zeroW ++ (encW zeroW ++ encW zeroW)) 0 0 18 (encW A) rfl lA (by simp only [List.length_append]; omega)]
    rw [List.take_zero, List.nil_append, List.drop_append, List.drop_eq_nil_of_le (by omega), List.nil_append, lz, show 0 + 18 - 18 = 0 from rfl, List.drop_zero]
    rw [fill_step _ (encW A ++ (encW zeroW ++ encW zeroW)) 1 18 18 (encW B) rfl lB (by simp only [List.length_append]; omega)]
    rw [List.take_append, List.take_of_length_le (by omega), lA, Nat.sub_self, List.take_zero, List.append_nil, List.drop_append, List.drop_eq_nil_of_le (by omega), List.nil_append, lA, show 18 + 18 - 18 = 18 from rfl, List.drop_append, List.drop_eq_nil_of_le (by omega), List.nil_append, lz, show 18 - 18 = 0 from rfl, List.drop_zero]
    rw [fill_step _ (encW A ++ encW B ++ encW zeroW) 2 36 18 (encW D) rfl lD (by simp only [List.length_append]; omega)]
    show some _ = some _
    congr 2
    rw [List.take_append, List.take_of_length_le (by simp only [List.length_append]; omega), show 36 - (encW A ++ encW B).length = 0 by simp only [List.length_append]; omega, List.take_zero, List.append_nil, List.drop_eq_nil_of_le (by simp only [List.length_append]; omega), List.append_nil]
    simp
  simp [Instr.buildSlice, run_underlying Try.underlying25]
  generalize hz : Array.map _ (Array.range 54) = Z
  have hz2 : Z = (encW zeroW ++ (encW zeroW ++ encW zeroW)).toArray := by rw [← hz]; kernel_rfl
  rw [hz2, hf]
  simp [newRow]
theorem wrts_made (w : World) (l : List Wrt) (h : ∀ W ∈ l, WrtOk W) : WrtsAt (w.alloc (.cells (l.flatMap encW).toArray 36)) (some ⟨w.heap.size, 0, none⟩) l := by
  refine ⟨.inr ⟨w.heap.size, 0, rfl, fun i W hW => ⟨?_⟩⟩, h⟩
  have hl := lies_made w (l.flatMap encW).toArray 36
  rw [List.toList_toArray] at hl
  exact hl.el (fun V hV => encW_len (h V hV).key) hW
theorem wpList_build_ws1 (d : Tmp) {ops : Array Oper} {rest : List Oper} {op : Oper} {a : Act} {w : World} {Q : Exit → Act → World → Prop} (hd : op.dst = some d) (hgd : op.guard = none) (x : Operand) (ho : op.op = .buildSlice 25 1 #[(0, x)])
    (A : Wrt) (hA : Ky A.k) (ex : a.eval x = wv A)
    (h : wpList Try.prog ops Q rest (a.put op.dst (.slice (some ⟨w.heap.size, 0, none⟩) 1 1)) (w.alloc (.cells (encW A).toArray 36))) : wpList Try.prog ops Q (op :: rest) a w := by
  refine wpList_plain hgd fun K hK => ?_
  have hrun := run_build_ws1 w A hA
  unfold Oper.wp
  simp only [execOp, ho, List.map_toArray, List.map_cons, List.map_nil, ex, Sem.run_bind, hrun, Result.andThen]
  exact hK _ _ h
theorem wpList_build_ws2 (d : Tmp) {ops : Array Oper} {rest : List Oper} {op : Oper} {a : Act} {w : World} {Q : Exit → Act → World → Prop} (hd : op.dst = some d) (hgd : op.guard = none) (x y : Operand) (ho : op.op = .buildSlice 25 2 #[(0, x), (1, y)])
    (A B : Wrt) (hA : Ky A.k) (hB : Ky B.k) (ex : a.eval x = wv A) (ey : a.eval y = wv B)
    (h : wpList Try.prog ops Q rest (a.put op.dst (.slice (some ⟨w.heap.size, 0, none⟩) 2 2)) (w.alloc (.cells ([A, B].flatMap encW).toArray 36))) : wpList Try.prog ops Q (op :: rest) a w := by
  refine wpList_plain hgd fun K hK => ?_
  have hrun := run_build_ws2 w A B hA hB
  unfold Oper.wp
  simp only [execOp, ho, List.map_toArray, List.map_cons, List.map_nil, ex, ey, Sem.run_bind, hrun, Result.andThen]
  exact hK _ _ h
theorem wpList_build_ws3 (d : Tmp) {ops : Array Oper} {rest : List Oper} {op : Oper} {a : Act} {w : World} {Q : Exit → Act → World → Prop} (hd : op.dst = some d) (hgd : op.guard = none) (x y z : Operand) (ho : op.op = .buildSlice 25 3 #[(0, x), (1, y), (2, z)])
    (A B D : Wrt) (hA : Ky A.k) (hB : Ky B.k) (hD : Ky D.k) (ex : a.eval x = wv A) (ey : a.eval y = wv B) (ez : a.eval z = wv D)
    (h : wpList Try.prog ops Q rest (a.put op.dst (.slice (some ⟨w.heap.size, 0, none⟩) 3 3)) (w.alloc (.cells ([A, B, D].flatMap encW).toArray 36))) : wpList Try.prog ops Q (op :: rest) a w := by
  refine wpList_plain hgd fun K hK => ?_
  have hrun := run_build_ws3 w A B D hA hB hD
  unfold Oper.wp
  simp only [execOp, ho, List.map_toArray, List.map_cons, List.map_nil, ex, ey, ez, Sem.run_bind, hrun, Result.andThen]
  exact hK _ _ h
end Go.Proofs.Ytmiafadmcpmjgaa
