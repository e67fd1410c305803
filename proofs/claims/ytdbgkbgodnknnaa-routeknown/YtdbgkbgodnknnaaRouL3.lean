/-
  Lists of keys and of writes made of their parts; the numbers of chapter 17's examples (for layer 17's closed law).
-/
import Derived.Test.YtdbgkbgodnknnaaRouL2
namespace Go.Proofs.Ytdbgkbgodnknnaa
open Go.RowKit
set_option linter.unusedVariables false
set_option linter.unusedSimpArgs false

/-- Elements of one size, by their places. -/
def pairsR {α : Type} (enc : α → List Value) : Nat → List α → List (Nat × Value)
  | _, [] => []
  | n, x :: r => (n, .agg (enc x).toArray) :: pairsR enc (n + 1) r
theorem fill_runR {α : Type} (enc : α → List Value) (s : Nat) : ∀ (l : List α) (pre Z : List Value) (n : Nat), pre.length = n * s → Z.length = l.length * s → (∀ x ∈ l, (enc x).length = s) → Instr.fill (fun i => some (i * s, s)) (pre ++ Z).toArray (pairsR enc n l) = some (pre ++ l.flatMap enc).toArray
  | [], pre, Z, n, hp, hZ, hl => by
    have : Z = [] := List.eq_nil_of_length_eq_zero (by simpa using hZ)
    subst this
    rfl
  | x :: r, pre, Z, n, hp, hZ, hl => by
    have hx := hl x (by simp)
    rw [List.length_cons, Nat.add_mul, Nat.one_mul] at hZ
    show Instr.fill _ _ ((n, .agg (enc x).toArray) :: pairsR enc (n + 1) r) = _
    rw [fill_step _ (pre ++ Z) n (n * s) s (enc x) rfl hx (by rw [List.length_append]; omega)]
    have e1 : (pre ++ Z).take (n * s) = pre := by rw [← hp]; exact List.take_left
    have e2 : (pre ++ Z).drop (n * s + s) = Z.drop s := by rw [← hp, List.drop_append, List.drop_eq_nil_of_le (by omega), List.nil_append]; congr 1; omega
    rw [e1, e2, fill_runR enc s r (pre ++ enc x) (Z.drop s) (n + 1) (by rw [List.length_append, hp, hx, Nat.add_mul, Nat.one_mul]) (by rw [List.length_drop]; omega) (fun y hy => hl y (by simp [hy]))]
    rw [List.append_assoc, List.flatMap_cons]
theorem run_build_keys2R (w : World) (A B : List Int) (hA : Ky A) (hB : Ky B) :
    (Instr.buildSlice 30 2 #[(0, kv A), (1, kv B)]).run Try.prog w = .ok (.slice (some ⟨w.heap.size, 0, none⟩) 2 2) (w.alloc (.cells ([A, B].flatMap kc).toArray 28)) := by
  have hf : Instr.fill (fun i => some (i * 16, 16)) (List.replicate 32 (Value.int .u8 0)).toArray [(0, kv A), (1, kv B)] = some ([A, B].flatMap kc).toArray :=
    fill_runR kc 16 [A, B] [] (List.replicate 32 (Value.int .u8 0)) 0 rfl (by simp) (fun x hx => by
      rcases List.mem_cons.1 hx with rfl | hx
      · exact kc_len hA
      · rw [List.mem_singleton.1 hx]; exact kc_len hB)
  simp [Instr.buildSlice, run_underlying Try.underlying30]
  generalize hz : Array.map _ (Array.range 32) = Z
  have hz2 : Z = (List.replicate 32 (Value.int .u8 0)).toArray := by rw [← hz]; kernel_rfl
  rw [hz2, hf]
  simp [newRow]
theorem wpList_build_keys2R (d : Tmp) {ops : Array Oper} {rest : List Oper} {op : Oper} {a : Act} {w : World} {Q : Exit → Act → World → Prop} (hd : op.dst = some d) (hw : Region.wanted op (yielded ops a.tmps) = true) (x y : Operand) (ho : op.op = .buildSlice 30 2 #[(0, x), (1, y)])
    (A B : List Int) (hA : Ky A) (hB : Ky B) (ex : a.eval x = kv A) (ey : a.eval y = kv B)
    (h : ∀ W, W = w.alloc (.cells ([A, B].flatMap kc).toArray 28) → wpList Try.prog ops Q rest (a.put op.dst (.slice (some ⟨w.heap.size, 0, none⟩) 2 2)) W) : wpList Try.prog ops Q (op :: rest) a w :=
  wpList_step fun K hK => by
    rw [if_pos hw]
    have hrun := run_build_keys2R w A B hA hB
    unfold Oper.wp
    simp only [execOp, ho, List.map_toArray, List.map_cons, List.map_nil, ex, ey, Sem.run_bind, hrun, Result.andThen]
    exact hK _ _ (h _ rfl)
theorem wpList_build_key1W (d : Tmp) {ops : Array Oper} {rest : List Oper} {op : Oper} {a : Act} {w : World} {Q : Exit → Act → World → Prop} (hd : op.dst = some d) (hw : Region.wanted op (yielded ops a.tmps) = true) (x : Operand) (ho : op.op = .buildSlice 30 1 #[(0, x)])
    (A : List Int) (hA : Ky A) (ex : a.eval x = kv A)
    (h : ∀ W, W = w.alloc (.cells ([A].flatMap kc).toArray 28) → wpList Try.prog ops Q rest (a.put op.dst (.slice (some ⟨w.heap.size, 0, none⟩) 1 1)) W) : wpList Try.prog ops Q (op :: rest) a w :=
  wpList_step fun K hK => by
    rw [if_pos hw]
    have hrun := run_build_key1R w A hA
    unfold Oper.wp
    simp only [execOp, ho, List.map_toArray, List.map_cons, List.map_nil, ex, Sem.run_bind, hrun, Result.andThen]
    exact hK _ _ (h _ (by simp))
theorem run_build_ws4R (w : World) (A B C D : Wrt) (hA : Ky A.k) (hB : Ky B.k) (hC : Ky C.k) (hD : Ky D.k) :
    (Instr.buildSlice 33 4 #[(0, wv A), (1, wv B), (2, wv C), (3, wv D)]).run Try.prog w = .ok (.slice (some ⟨w.heap.size, 0, none⟩) 4 4) (w.alloc (.cells ([A, B, C, D].flatMap encW).toArray 32)) := by
  have lz := encW_zero_len
  have hf : Instr.fill (fun i => some (i * 18, 18)) ([zeroW, zeroW, zeroW, zeroW].flatMap encW).toArray [(0, wv A), (1, wv B), (2, wv C), (3, wv D)] = some ([A, B, C, D].flatMap encW).toArray :=
    fill_runR encW 18 [A, B, C, D] [] ([zeroW, zeroW, zeroW, zeroW].flatMap encW) 0 rfl (by simp [lz]) (fun x hx => by
      simp at hx
      rcases hx with rfl | rfl | rfl | rfl
      · exact encW_len hA
      · exact encW_len hB
      · exact encW_len hC
      · exact encW_len hD)
  simp [Instr.buildSlice, run_underlying Try.underlying33]
  generalize hz : Array.map _ (Array.range 72) = Z
  have hz2 : Z = ([zeroW, zeroW, zeroW, zeroW].flatMap encW).toArray := by rw [← hz]; kernel_rfl
  rw [hz2, hf]
  simp [newRow]
theorem wpList_build_ws4R (d : Tmp) {ops : Array Oper} {rest : List Oper} {op : Oper} {a : Act} {w : World} {Q : Exit → Act → World → Prop} (hd : op.dst = some d) (hw : Region.wanted op (yielded ops a.tmps) = true) (x0 x1 x2 x3 : Operand) (ho : op.op = .buildSlice 33 4 #[(0, x0), (1, x1), (2, x2), (3, x3)])
    (A B C D : Wrt) (hA : Ky A.k) (hB : Ky B.k) (hC : Ky C.k) (hD : Ky D.k) (e0 : a.eval x0 = wv A) (e1 : a.eval x1 = wv B) (e2 : a.eval x2 = wv C) (e3 : a.eval x3 = wv D)
    (h : ∀ W, W = w.alloc (.cells ([A, B, C, D].flatMap encW).toArray 32) → wpList Try.prog ops Q rest (a.put op.dst (.slice (some ⟨w.heap.size, 0, none⟩) 4 4)) W) : wpList Try.prog ops Q (op :: rest) a w :=
  wpList_step fun K hK => by
    rw [if_pos hw]
    have hrun := run_build_ws4R w A B C D hA hB hC hD
    unfold Oper.wp
    simp only [execOp, ho, List.map_toArray, List.map_cons, List.map_nil, e0, e1, e2, e3, Sem.run_bind, hrun, Result.andThen]
    exact hK _ _ (h _ rfl)
/-- Keys in a list of the call's own. -/
theorem keys_made (w : World) (l : List (List Int)) (h : Kys l) : KeysAt (w.alloc (.cells (l.flatMap kc).toArray 28)) (some ⟨w.heap.size, 0, none⟩) l :=
  ⟨lies_made w (l.flatMap kc).toArray 28, h, fun e => by cases e⟩
theorem nums_madeR (w : World) (zs : List Int) : NumsR (w.alloc (.cells (zs.map (Value.int .i64)).toArray 3)) (some ⟨w.heap.size, 0, none⟩) zs := fun i z hz => by
  refine ⟨w.heap.size, rfl, ?_⟩
  rw [World.cell?_alloc_new]
  simp [hz]
/- The examples' numbers. -/
def pgR : List (List Int) := [kR 103, kR 112]
def lgR : List Wrt := [⟨kR 122, [], false⟩, ⟨kR 97, [], false⟩, zeroW, ⟨kR 98, [], false⟩]
theorem kn_may1 : mayR [kR 98, kR 97] = false := by decide +kernel
theorem kn_may2 : mayR [zeroK] = false := by decide +kernel
theorem kn_may3 : mayR (List.replicate 8 zeroK) = false := by decide +kernel
theorem kn_may4 : mayR pgR = true := by decide +kernel
theorem kn_of : ofR pgR zeroK = -1 := by decide +kernel
theorem kn_parts : partsR pgR lgR = [0, 2] := by decide +kernel
theorem kn_split : (nodeW pgR lgR 0).length = 2 ∧ (nodeW pgR lgR 1).length = 0 ∧ ((nodeW pgR lgR 0).map (fun W => W.k))[0]? = some (kR 97) := by decide +kernel
theorem kn_cover1 : coverR pgR (kR 97) (kR 103) = [0] := by decide +kernel
theorem kn_cover2 : coverR pgR (kR 97) (kR 104) = [0, 1] := by decide +kernel
theorem kn_cover3 : coverR pgR (kR 104) zeroK = [1, 2] := by decide +kernel
theorem kn_cover4 : coverR pgR (kR 104) (kR 104) = [] := by decide +kernel
theorem kn_cover5 : coverR pgR zeroK zeroK = [0, 1, 2] := by decide +kernel
theorem lgR_ok : ∀ W ∈ lgR, WrtOk W := fun W hW => by
  have h0 : (0 : Nat) ≤ maxLen := Nat.zero_le _
  simp only [lgR, List.mem_cons, List.not_mem_nil, or_false] at hW
  rcases hW with rfl | rfl | rfl | rfl
  · exact ⟨kR_ky 122 (by omega), fun z hz => by simp at hz, h0⟩
  · exact ⟨kR_ky 97 (by omega), fun z hz => by simp at hz, h0⟩
  · exact ⟨zeroK_ky, fun z hz => by simp [zeroW] at hz, h0⟩
  · exact ⟨kR_ky 98 (by omega), fun z hz => by simp at hz, h0⟩
theorem zeros8 : (madeCells (Value.agg #[.int .u8 0, .int .u8 0, .int .u8 0, .int .u8 0, .int .u8 0, .int .u8 0, .int .u8 0, .int .u8 0, .int .u8 0, .int .u8 0, .int .u8 0, .int .u8 0, .int .u8 0, .int .u8 0, .int .u8 0, .int .u8 0]).cells 128) = ((List.replicate 8 zeroK).flatMap kc).toArray := by kernel_rfl
theorem run_make_keys8 (u : World) : (Instr.makeSlice 30 (.int .i64 8) (.int .i64 8)).run Try.prog u = .ok (.slice (some ⟨u.heap.size, 0, none⟩) 8 8) (u.alloc (.cells ((List.replicate 8 zeroK).flatMap kc).toArray 28)) := by
  obtain ⟨i, z, hi, hz, hs, hb, hzs⟩ := keyEl.info
  have hinfo : (Try.prog.info? 28).map (fun i => (i.zero, i.size, i.bytes)) = some (some (Value.agg #[.int .u8 0, .int .u8 0, .int .u8 0, .int .u8 0, .int .u8 0, .int .u8 0, .int .u8 0, .int .u8 0, .int .u8 0, .int .u8 0, .int .u8 0, .int .u8 0, .int .u8 0, .int .u8 0, .int .u8 0, .int .u8 0]), 16, 16) := by kernel_rfl
  rw [hi] at hinfo
  simp only [Option.map_some, Option.some.injEq, Prod.mk.injEq] at hinfo
  obtain ⟨e1, e2, e3⟩ := hinfo
  rw [hz] at e1
  injection e1 with e1
  have h := run_make (P := Try.prog) (w := u) 30 28 i z Try.underlying30 hi hz .i64 .i64 8 8 (by omega) (Int.le_refl _) (by rw [e3]; omega) (by omega)
  rw [e2, e1] at h
  rw [← zeros8]
  exact h
end Go.Proofs.Ytdbgkbgodnknnaa
