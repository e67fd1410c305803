/-
  What layer 12's own sto answers: a store as the document's own.
-/
import Derived.Test.YtileidbdmpeciaaGreatAu94
import Derived.Test.YtileidbdmpeciaaGreatAu116
namespace Go.Proofs.YtileidbdmpeciaaGreat
open Go.RowKit
set_option linter.unusedVariables false

set_option maxHeartbeats 4000000 in
set_option maxRecDepth 4000 in
theorem schain2_any (p : Nat) (L : List Ver) (X : Foot) (k : List Int) (hk : Ky k) (w : World) (h : StD w p L X) :
    Calls Tryz.prog 80 #[.pointer (some ⟨p, 0, none⟩), kv k] w fun e w' => (∃ a c, e = .returned (.slice a (oneV L k).length c) ∧ w'.ownsRow w.heap.size 136 4 (.slice a (oneV L k).length c) (oneV L k).length ((oneV L k).flatMap encC)) ∧ Below w.heap.size w w' := by
  obtain ⟨hg, m, G, Y, hi, hne⟩ := h
  have KY : Hid (Ky k) := hk
  obtain ⟨w1, hw1⟩ : ∃ u, u = w.alloc (.cells (kcs k) 38) := ⟨_, rfl⟩
  have hK1 : KBox w w1 k := by rw [hw1]; exact KBox.made w hk
  have HB1 : Hid (Below w.heap.size w w1) := hK1.below
  have FK : Hid (∀ u, Below w1.heap.size w1 u → KeyAt u w.heap.size 0 k) := fun u hb => hK1.key.past hb
  have FC : Hid (∀ u, Below w1.heap.size w1 u → u.cell? ⟨p, 0, none⟩ = some (.map (some m))) := fun u hb => (hi.past (HB1.out.trans (hb.mono HB1.out.size))).c0
  have LK : Hid (∀ u, Below w1.heap.size w1 u → (Instr.lookup 137 (.map (some m)) (kv k) true).run Tryz.prog u = .ok (.tuple #[ptrV (G k), .bool (G k).isSome]) u) := fun u hb => (hi.past (HB1.out.trans (hb.mono HB1.out.size))).look hk
  have HW1 : Hid (w.alloc (.cells (kcs k) 38) = w1) := hw1.symm
  obtain ⟨M, hM⟩ : ∃ M, M = oneV L k := ⟨_, rfl⟩
  rw [← hM]
  cases hgk : G k with
  | none =>
    have HM : Hid (M = []) := hM.trans (hi.empty k hk hgk)
    have LK : Hid (∀ u, Below w1.heap.size w1 u → (Instr.lookup 137 (.map (some m)) (kv k) true).run Tryz.prog u = .ok (.tuple #[.pointer none, .bool false]) u) := by rw [hgk] at LK; exact LK
    clear hgk hi hne hg hw1 hk hK1 hM
    go_enter Tryz.func80, Tryz.ntmps80
    go_wp2
    rw [HW1.out]
    refine wp_region_noPanic ?_
    refine wp_region_held_drew (S := fun u => Below w1.heap.size w1 u) (by kernel_rfl) ?_ (fun hHeld => ?_)
    · exact (Below.refl _ _).drew
    refine wpAnyH_take (i := 0) (v := ?_) rfl (by kernel_rfl) (by kernel_rfl) (by kernel_rfl) (fun _ _ _ h => h) (Or.inl ⟨by rfl, ?_⟩) hHeld ?_
    rotate_left
    · intro u hSu
      (go_simp) <;> (with_reducible rfl)
    change wpAnyH _ _ _ _ _ _ _ (Act.put _ (some 8) _) _
    simp only [Act.put, List.setIfInBounds_toArray, List.set_cons_zero, List.set_cons_succ]
    refine wpAnyH_take (i := 1) (v := ?_) rfl (by kernel_rfl) (by kernel_rfl) (by kernel_rfl) (fun _ _ _ h => h) (Or.inl ⟨by rfl, ?_⟩) hHeld ?_
    rotate_left
    · intro u hSu
      (go_simp) <;> (with_reducible rfl)
    change wpAnyH _ _ _ _ _ _ _ (Act.put _ (some 9) _) _
    simp only [Act.put, List.setIfInBounds_toArray, List.set_cons_zero, List.set_cons_succ]
    refine wpAnyH_take (i := 2) (v := ?_) rfl (by kernel_rfl) (by kernel_rfl) (by kernel_rfl) (fun _ _ _ h => h) (Or.inl ⟨by rfl, ?_⟩) hHeld ?_
    rotate_left
    · intro u hSu
      (go_simp) <;> (with_reducible rfl)
    change wpAnyH _ _ _ _ _ _ _ (Act.put _ (some 10) _) _
    simp only [Act.put, List.setIfInBounds_toArray, List.set_cons_zero, List.set_cons_succ]
    refine wpAnyH_take (i := 3) (v := ?_) rfl (by kernel_rfl) (by kernel_rfl) (by kernel_rfl) (fun _ _ _ h => h) (Or.inl ⟨by rfl, ?_⟩) hHeld ?_
    rotate_left
    · intro u hSu
      have q0 := FC.out u hSu
      (go_simp) <;> (with_reducible rfl)
    change wpAnyH _ _ _ _ _ _ _ (Act.put _ (some 11) _) _
    simp only [Act.put, List.setIfInBounds_toArray, List.set_cons_zero, List.set_cons_succ]
    refine wpAnyH_take (i := 4) (v := kv k) rfl (by kernel_rfl) (by kernel_rfl) (by kernel_rfl) (fun _ _ _ h => h) (yieldsIf_load_mid (by rfl) _ _ rfl _ _ rfl (k.map (Value.int .u8)) _ (fun u hu => (FK.out u hu).range KY.out) Tryz.underlying38 rfl (info_keyl k KY.out)) hHeld ?_
    change wpAnyH _ _ _ _ _ _ _ (Act.put _ (some 12) _) _
    simp only [Act.put, List.setIfInBounds_toArray, List.set_cons_zero, List.set_cons_succ]
    refine wpAnyH_take (i := 5) (v := ?_) rfl (by kernel_rfl) (by kernel_rfl) (by kernel_rfl) (fun _ _ _ h => h) (Or.inl ⟨by rfl, ?_⟩) hHeld ?_
    rotate_left
    · intro u hSu
      have q1 := LK.out u hSu
      (go_simp) <;> (with_reducible rfl)
    change wpAnyH _ _ _ _ _ _ _ (Act.put _ (some 13) _) _
    simp only [Act.put, List.setIfInBounds_toArray, List.set_cons_zero, List.set_cons_succ]
    refine wpAnyH_take (i := 6) (v := ?_) rfl (by kernel_rfl) (by kernel_rfl) (by kernel_rfl) (fun _ _ _ h => h) (Or.inl ⟨by rfl, ?_⟩) hHeld ?_
    rotate_left
    · intro u hSu
      (go_simp) <;> (with_reducible rfl)
    change wpAnyH _ _ _ _ _ _ _ (Act.put _ (some 7) _) _
    simp only [Act.put, List.setIfInBounds_toArray, List.set_cons_zero, List.set_cons_succ]
    refine wpAnyH_take (i := 7) (v := ?_) rfl (by kernel_rfl) (by kernel_rfl) (by kernel_rfl) (fun _ _ _ h => h) (Or.inl ⟨by rfl, ?_⟩) hHeld ?_
    rotate_left
    · intro u hSu
      (go_simp) <;> (with_reducible rfl)
    change wpAnyH _ _ _ _ _ _ _ (Act.put _ (some 14) _) _
    simp only [Act.put, List.setIfInBounds_toArray, List.set_cons_zero, List.set_cons_succ]
    refine wpAnyH_take (i := 8) (v := ?_) rfl (by kernel_rfl) (by kernel_rfl) (by kernel_rfl) (fun _ _ _ h => h) (Or.inl ⟨by rfl, ?_⟩) hHeld ?_
    rotate_left
    · intro u hSu
      (go_simp) <;> (with_reducible rfl)
    change wpAnyH _ _ _ _ _ _ _ (Act.put _ (some 15) _) _
    simp only [Act.put, List.setIfInBounds_toArray, List.set_cons_zero, List.set_cons_succ]
    refine wpAnyH_take (i := 9) (v := ?_) rfl (by kernel_rfl) (by kernel_rfl) (by kernel_rfl) (fun _ _ _ h => h) (Or.inl ⟨by rfl, ?_⟩) hHeld ?_
    rotate_left
    · intro u hSu
      (go_simp) <;> (with_reducible rfl)
    change wpAnyH _ _ _ _ _ _ _ (Act.put _ (some 5) _) _
    simp only [Act.put, List.setIfInBounds_toArray, List.set_cons_zero, List.set_cons_succ]
    refine wpAnyH_take (i := 10) (v := ?_) rfl (by kernel_rfl) (by kernel_rfl) (by kernel_rfl) (fun _ _ _ h => h) (Or.inl ⟨by rfl, ?_⟩) hHeld ?_
    rotate_left
    · intro u hSu
      (go_simp) <;> (with_reducible rfl)
    change wpAnyH _ _ _ _ _ _ _ (Act.put _ (some 6) _) _
    simp only [Act.put, List.setIfInBounds_toArray, List.set_cons_zero, List.set_cons_succ]
    refine wpAnyH_done (by kernel_rfl) ?_ _
    refine NoPanic.normal ?_
    go_wp2
    go_ret
    rw [HM.out]
    exact ⟨⟨none, 0, rfl, World.ownsRow_nil _ _ _ _⟩, HB1.out.drew⟩
  | some g =>
    have LK : Hid (∀ u, Below w1.heap.size w1 u → (Instr.lookup 137 (.map (some m)) (kv k) true).run Tryz.prog u = .ok (.tuple #[.pointer (some ⟨g, 0, none⟩), .bool true]) u) := by rw [hgk] at LK; exact LK
    have hch := hi.file k g hk hgk
    have CA : Hid (∀ u, Below w.heap.size w u → Calls Tryz.prog 122 #[.pointer (some ⟨g, 0, none⟩)] u fun e w' => (∃ a c, e = .returned (.slice a M.length c) ∧ w'.ownsRow w.heap.size 136 4 (.slice a M.length c) M.length (M.flatMap encC)) ∧ Below u.heap.size u w') := fun u hb => by
      rw [hM]
      refine (call2_any g (oneV L k) (Y k) u (hch.past hb)).mono ?_
      rintro e w' ⟨⟨a, c, rfl, ho⟩, hb'⟩
      exact ⟨⟨a, c, rfl, World.ownsRow.mono ho hb.size⟩, hb'⟩
    clear hgk hi hne hg hw1 hk hK1 hM hch
    generalize hC : M.flatMap encC = C at *
    generalize hN : M.length = N at *
    clear hN hC
    go_enter Tryz.func80, Tryz.ntmps80
    go_wp2
    rw [HW1.out]
    refine wp_region_noPanic ?_
    refine wp_region_held_drew (S := fun u => Below w1.heap.size w1 u) (by kernel_rfl) ?_ (fun hHeld => ?_)
    · exact (Below.refl _ _).drew
    refine wpAnyH_take (i := 0) (v := ?_) rfl (by kernel_rfl) (by kernel_rfl) (by kernel_rfl) (fun _ _ _ h => h) (Or.inl ⟨by rfl, ?_⟩) hHeld ?_
    rotate_left
    · intro u hSu
      (go_simp) <;> (with_reducible rfl)
    change wpAnyH _ _ _ _ _ _ _ (Act.put _ (some 8) _) _
    simp only [Act.put, List.setIfInBounds_toArray, List.set_cons_zero, List.set_cons_succ]
    refine wpAnyH_take (i := 1) (v := ?_) rfl (by kernel_rfl) (by kernel_rfl) (by kernel_rfl) (fun _ _ _ h => h) (Or.inl ⟨by rfl, ?_⟩) hHeld ?_
    rotate_left
    · intro u hSu
      (go_simp) <;> (with_reducible rfl)
    change wpAnyH _ _ _ _ _ _ _ (Act.put _ (some 9) _) _
    simp only [Act.put, List.setIfInBounds_toArray, List.set_cons_zero, List.set_cons_succ]
    refine wpAnyH_take (i := 2) (v := ?_) rfl (by kernel_rfl) (by kernel_rfl) (by kernel_rfl) (fun _ _ _ h => h) (Or.inl ⟨by rfl, ?_⟩) hHeld ?_
    rotate_left
    · intro u hSu
      (go_simp) <;> (with_reducible rfl)
    change wpAnyH _ _ _ _ _ _ _ (Act.put _ (some 10) _) _
    simp only [Act.put, List.setIfInBounds_toArray, List.set_cons_zero, List.set_cons_succ]
    refine wpAnyH_take (i := 3) (v := ?_) rfl (by kernel_rfl) (by kernel_rfl) (by kernel_rfl) (fun _ _ _ h => h) (Or.inl ⟨by rfl, ?_⟩) hHeld ?_
    rotate_left
    · intro u hSu
      have q0 := FC.out u hSu
      (go_simp) <;> (with_reducible rfl)
    change wpAnyH _ _ _ _ _ _ _ (Act.put _ (some 11) _) _
    simp only [Act.put, List.setIfInBounds_toArray, List.set_cons_zero, List.set_cons_succ]
    refine wpAnyH_take (i := 4) (v := kv k) rfl (by kernel_rfl) (by kernel_rfl) (by kernel_rfl) (fun _ _ _ h => h) (yieldsIf_load_mid (by rfl) _ _ rfl _ _ rfl (k.map (Value.int .u8)) _ (fun u hu => (FK.out u hu).range KY.out) Tryz.underlying38 rfl (info_keyl k KY.out)) hHeld ?_
    change wpAnyH _ _ _ _ _ _ _ (Act.put _ (some 12) _) _
    simp only [Act.put, List.setIfInBounds_toArray, List.set_cons_zero, List.set_cons_succ]
    refine wpAnyH_take (i := 5) (v := ?_) rfl (by kernel_rfl) (by kernel_rfl) (by kernel_rfl) (fun _ _ _ h => h) (Or.inl ⟨by rfl, ?_⟩) hHeld ?_
    rotate_left
    · intro u hSu
      have q1 := LK.out u hSu
      (go_simp) <;> (with_reducible rfl)
    change wpAnyH _ _ _ _ _ _ _ (Act.put _ (some 13) _) _
    simp only [Act.put, List.setIfInBounds_toArray, List.set_cons_zero, List.set_cons_succ]
    refine wpAnyH_take (i := 6) (v := ?_) rfl (by kernel_rfl) (by kernel_rfl) (by kernel_rfl) (fun _ _ _ h => h) (Or.inl ⟨by rfl, ?_⟩) hHeld ?_
    rotate_left
    · intro u hSu
      (go_simp) <;> (with_reducible rfl)
    change wpAnyH _ _ _ _ _ _ _ (Act.put _ (some 7) _) _
    simp only [Act.put, List.setIfInBounds_toArray, List.set_cons_zero, List.set_cons_succ]
    refine wpAnyH_take (i := 7) (v := ?_) rfl (by kernel_rfl) (by kernel_rfl) (by kernel_rfl) (fun _ _ _ h => h) (Or.inl ⟨by rfl, ?_⟩) hHeld ?_
    rotate_left
    · intro u hSu
      (go_simp) <;> (with_reducible rfl)
    change wpAnyH _ _ _ _ _ _ _ (Act.put _ (some 14) _) _
    simp only [Act.put, List.setIfInBounds_toArray, List.set_cons_zero, List.set_cons_succ]
    refine wpAnyH_take (i := 8) (v := ?_) rfl (by kernel_rfl) (by kernel_rfl) (by kernel_rfl) (fun _ _ _ h => h) (Or.inl ⟨by rfl, ?_⟩) hHeld ?_
    rotate_left
    · intro u hSu
      (go_simp) <;> (with_reducible rfl)
    change wpAnyH _ _ _ _ _ _ _ (Act.put _ (some 15) _) _
    simp only [Act.put, List.setIfInBounds_toArray, List.set_cons_zero, List.set_cons_succ]
    refine wpAnyH_take (i := 9) (v := ?_) rfl (by kernel_rfl) (by kernel_rfl) (by kernel_rfl) (fun _ _ _ h => h) (Or.inl ⟨by rfl, ?_⟩) hHeld ?_
    rotate_left
    · intro u hSu
      (go_simp) <;> (with_reducible rfl)
    change wpAnyH _ _ _ _ _ _ _ (Act.put _ (some 5) _) _
    simp only [Act.put, List.setIfInBounds_toArray, List.set_cons_zero, List.set_cons_succ]
    refine wpAnyH_take (i := 10) (v := ?_) rfl (by kernel_rfl) (by kernel_rfl) (by kernel_rfl) (fun _ _ _ h => h) (Or.inl ⟨by rfl, ?_⟩) hHeld ?_
    rotate_left
    · intro u hSu
      (go_simp) <;> (with_reducible rfl)
    change wpAnyH _ _ _ _ _ _ _ (Act.put _ (some 6) _) _
    simp only [Act.put, List.setIfInBounds_toArray, List.set_cons_zero, List.set_cons_succ]
    refine wpAnyH_done (by kernel_rfl) ?_ _
    refine NoPanic.normal ?_
    go_wp2_with (go_at_call 122; refine (CA.out _ HB1.out.drew).mono ?_; rintro e w2 ⟨⟨a2, c2, rfl, hv2⟩, hb2⟩; have HB2 : Hid (Below w.heap.size w w2) := HB1.out.drew.trans (hb2.mono HB1.out.size); have HV2 : Hid (w2.ownsRow w.heap.size 136 4 (.slice a2 N c2) N C) := hv2; clear hb2 hv2)
    go_ret
    exact ⟨⟨a2, c2, rfl, HV2.out⟩, HB2.out⟩
/-- A version is made of its parts. -/
theorem run_build_v4 (w : World) (V : Ver) (hk : Ky V.k) : (Instr.build 127 #[(0, kv V.k), (1, .agg #[.int .i64 V.t, .int .u8 V.n]), (2, .string (strOfNums V.v)), (3, .bool V.g)]).run Tryz.prog w = .ok (vv V) w := by
  have hl := kc_len hk
  have hf : Instr.fill (fun x => [(0, 16), (16, 2), (18, 1), (19, 1)][x]?) (encV zeroV).toArray [(0, kv V.k), (1, .agg #[.int .i64 V.t, .int .u8 V.n]), (2, .string (strOfNums V.v)), (3, .bool V.g)] = some (encV V).toArray := by
    show Instr.fill (fun x => [(0, 16), (16, 2), (18, 1), (19, 1)][x]?) (encV zeroV).toArray [(0, .agg (kc V.k).toArray), (1, .agg [.int .i64 V.t, .int .u8 V.n].toArray), (2, .string (strOfNums V.v)), (3, .bool V.g)] = _
    have lz := enc_len zeroV_ky
    rw [fill_step (fun x => [(0, 16), (16, 2), (18, 1), (19, 1)][x]?) (encV zeroV) 0 0 16 (kc V.k) rfl hl (by omega)]
    have e1 : (encV zeroV).take 0 ++ kc V.k ++ (encV zeroV).drop (0 + 16) = kc V.k ++ [Value.int .i64 0, Value.int .u8 0, Value.string ⟨#[]⟩, Value.bool false] := by
      rw [List.take_zero, List.nil_append]
      congr 1
    rw [e1, fill_step (fun x => [(0, 16), (16, 2), (18, 1), (19, 1)][x]?) _ 1 16 2 [.int .i64 V.t, .int .u8 V.n] rfl rfl (by rw [List.length_append, hl]; simp)]
    have e2 : (kc V.k ++ [Value.int .i64 0, Value.int .u8 0, Value.string ⟨#[]⟩, Value.bool false]).take 16 ++ [Value.int .i64 V.t, Value.int .u8 V.n] ++ (kc V.k ++ [Value.int .i64 0, Value.int .u8 0, Value.string ⟨#[]⟩, Value.bool false]).drop (16 + 2) = kc V.k ++ [Value.int .i64 V.t, Value.int .u8 V.n, Value.string ⟨#[]⟩, Value.bool false] := by
      rw [List.take_append, List.take_of_length_le (by omega), hl, Nat.sub_self, List.take_zero, List.append_nil, List.drop_append, List.drop_eq_nil_of_le (by omega), hl, List.nil_append, List.append_assoc]
      rfl
    rw [e2, fill_cell (fun x => [(0, 16), (16, 2), (18, 1), (19, 1)][x]?) _ 2 18 (.string (strOfNums V.v)) rfl rfl (by rw [List.length_append, hl]; simp), List.set_append_right _ _ (by omega), hl]
    rw [fill_cell (fun x => [(0, 16), (16, 2), (18, 1), (19, 1)][x]?) _ 3 19 (.bool V.g) rfl rfl (by rw [List.length_append, hl]; simp), List.set_append_right _ _ (by omega), hl]
    rfl
  simp [Instr.build, run_underlying Tryz.underlying127]
  have hf2 : Instr.fill (fun x => [(0, 16), (16, 2), (18, 1), (19, 1)][x]?) (Value.agg #[.int .u8 0, .int .u8 0, .int .u8 0, .int .u8 0, .int .u8 0, .int .u8 0, .int .u8 0, .int .u8 0, .int .u8 0, .int .u8 0, .int .u8 0, .int .u8 0, .int .u8 0, .int .u8 0, .int .u8 0, .int .u8 0, .int .i64 0, .int .u8 0, .string ⟨#[]⟩, .bool false]).cells [(0, kv V.k), (1, .agg #[.int .i64 V.t, .int .u8 V.n]), (2, .string (strOfNums V.v)), (3, .bool V.g)] = some (encV V).toArray := hf
  rw [hf2]
  rfl
theorem yieldsIf_build_v4 {ops : Array Oper} {S : World → Prop} {op : Oper} {a : Act} (hw : Region.wanted op (yielded ops a.tmps) = true) (x0 x1 x2 x3 : Operand) (ho : op.op = .build 127 #[(0, x0), (1, x1), (2, x2), (3, x3)]) (V : Ver) (hk : Ky V.k) (h0 : a.eval x0 = kv V.k) (h1 : a.eval x1 = .agg #[.int .i64 V.t, .int .u8 V.n]) (h2 : a.eval x2 = .string (strOfNums V.v)) (h3 : a.eval x3 = .bool V.g) : YieldsIf Tryz.prog ops S op (vv V) a :=
  .inl ⟨hw, fun w _ => by
    unfold execOp
    simp only [ho, List.map_toArray, List.map_cons, List.map_nil, h0, h1, h2, h3, Sem.run_bind, run_build_v4 w V hk, Result.andThen, Sem.run_pure]⟩
/-- An append to a list of the call's own, as one step of a region that draws its order. -/
theorem step_append_b {t e : TypeId} {size bytes : Nat} (E : ElT t e size bytes) {w : World} {ops : Array Oper} {o : Oper} {a : Act} {K : Act → World → Prop} {Q : Exit → Act → World → Prop} {X : Prop} (B : Nat) (hB : B ≤ w.heap.size) (hgd : o.guard = none) (s x : Operand)
    (ho : o.op = .call { callee := .builtin .append, args := #[s, x], argTypes := #[t, t] })
    (v : Value) (n : Nat) (xs news : List Value) (hs : a.eval s = v) (hown : w.ownsRow B e size v n xs) (ao : Option Addr) (m c : Nat) (hx : a.eval x = .slice ao m c) (hl : news.length = m * size) (hsrc : Lies w ao news) (h1 : ∀ u ∈ news, u.oneCell' = true) (hnil : ao = none → m = 0 ∧ c = 0) (hn : n + m ≤ 1000000)
    (h : ∀ a' cap' w', w'.ownsRow B e size (.slice a' (n + m) cap') (n + m) (xs ++ news) → w.grownBy w' v.ownBlock → K (a.put o.dst (.slice a' (n + m) cap')) w') :
    if Region.wanted o (yielded ops a.tmps) = true then Oper.wp Tryz.prog o a w K Q else X := by
  have hw : Region.wanted o (yielded ops a.tmps) = true := by simp [Region.wanted, hgd]
  rw [if_pos hw]
  obtain ⟨a', cap', w', hrun, h2, h3⟩ := run_append_els E w B v n xs hown ao m c news hl hsrc h1 hnil hn hB o.type
  unfold Oper.wp
  simp [execOp, ho, resolve, invoke, builtin, hs, hx, hrun, Result.andThen]
  exact h a' cap' w' h2 h3
theorem row_kept {u u' : World} {B e size : Nat} {v : Value} {n : Nat} {xs : List Value} (h : u.ownsRow B e size v n xs) (hk : ∀ k, v.ownBlock = some k → u'.heap[k]? = u.heap[k]?) : u'.ownsRow B e size v n xs := by
  refine ⟨h.1, ?_⟩
  rcases h.2 with h0 | ⟨g, cap, cur, e1, hg, hh, r⟩
  · exact .inl h0
  · exact .inr ⟨g, cap, cur, e1, hg, (hk g (by rw [e1]; rfl)).trans hh, r⟩
/-- Lists of two types lie in two blocks. -/
theorem rows_apartS {u : World} {B B' e e' s s' : Nat} {v v' : Value} {n n' : Nat} {xs xs' : List Value} (h : u.ownsRow B e s v n xs) (h' : u.ownsRow B' e' s' v' n' xs') (hne : e ≠ e') {k : Nat} (hk : v.ownBlock = some k) (hk' : v'.ownBlock = some k) : False := by
  rcases h.2 with ⟨e1, _⟩ | ⟨g, cap, cur, e1, hg, hh, r⟩
  · rw [e1] at hk; cases hk
  · rcases h'.2 with ⟨e2, _⟩ | ⟨g', cap', cur', e2, hg', hh', r'⟩
    · rw [e2] at hk'; cases hk'
    · rw [e1] at hk
      rw [e2] at hk'
      have a1 : g = k := Option.some.inj hk
      have a2 : g' = k := Option.some.inj hk'
      rw [a1] at hh
      rw [a2, hh] at hh'
      injection hh' with hh'
      injection hh' with _ h3
      exact hne h3
/-- The answer on its way: q its block, its list since w1. -/
structure SoR (w1 u : World) (q : Nat) (M : List Ver) : Prop where
  chg : Chg w1 u (fun k => k = q)
  lt : q < w1.heap.size
  list : ∃ a c, u.cell? ⟨q, 0, none⟩ = some (.slice a M.length c) ∧ u.ownsRow w1.heap.size 127 20 (.slice a M.length c) M.length (M.flatMap encV)
  free : u.frozen? ⟨q, 0, none⟩ = false
theorem SoR.past {w1 u u' : World} {q : Nat} {M : List Ver} (h : SoR w1 u q M) (hb : Below u.heap.size u u') : SoR w1 u' q M := by
  obtain ⟨a, c, h1, h2⟩ := h.list
  have hq : q < u.heap.size := Nat.lt_of_lt_of_le h.lt h.chg.size
  exact ⟨h.chg.trans (Chg.of_below hb _) (fun _ _ x => x), h.lt, ⟨a, c, (hb.cell (p := ⟨q, 0, none⟩) hq).trans h1, own_below h2 hb (Nat.le_refl _)⟩, (hb.frozen (p := ⟨q, 0, none⟩) hq).trans h.free⟩
theorem SoR.more {w1 u w4 : World} {q N c c' : Nat} {M : List Ver} {V : Ver} {a a' : Option Addr} (h : SoR w1 u q M) (hown : u.ownsRow w1.heap.size 127 20 (.slice a M.length c) M.length (M.flatMap encV)) (hc : Chg u w4 (fun k => (Value.slice a M.length c).ownBlock = some k)) (hN : N = M.length + 1)
    (hrow : w4.ownsRow w1.heap.size 127 20 (.slice a' N c') N ((M ++ [V]).flatMap encV)) : SoR w1 (w4.setCell ⟨q, 0, none⟩ (.slice a' N c')) q (M ++ [V]) := by
  have hN2 : N = (M ++ [V]).length := by rw [hN]; simp
  subst hN2
  have hq : q < u.heap.size := Nat.lt_of_lt_of_le h.lt h.chg.size
  have hqk : w4.heap[q]? = u.heap[q]? := hc.block q hq (fun e => by have := (hown.lt q e).1; have := h.lt; omega)
  obtain ⟨a0, c0, h1, _⟩ := h.list
  refine ⟨(h.chg.trans (hc.mono (Y := fun k => (Value.slice a M.length c).ownBlock = some k) (fun _ _ x => x)) (fun k hk e => by have := (hown.lt k e).1; omega)).trans (Chg.set (X := fun k => k = q) w4 ⟨q, 0, none⟩ _ rfl) (fun _ _ x => x), h.lt, ⟨a', c', World.cell?_setCell_same _ _ _ ((cell_kept hqk 0).trans h1), row_kept hrow (fun k e => Below.heap_setCell _ _ _ k (fun e2 => ?_))⟩, by rw [World.frozen?_setCell]; exact (frozen_kept hqk 0).trans h.free⟩
  have e3 : k = q := e2
  have := (hrow.lt k e).1
  have := h.lt
  omega
theorem SoR.made (w : World) (u : World) (hb : Below (w.alloc (.cells #[.slice none 0 0] 111)).heap.size (w.alloc (.cells #[.slice none 0 0] 111)) u) : SoR u u w.heap.size [] := by
  have hlt : w.heap.size < (w.alloc (.cells #[.slice none 0 0] 111)).heap.size := by simp
  refine ⟨Chg.refl _ _, Nat.lt_of_lt_of_le hlt hb.size, ⟨none, 0, (hb.cell (p := ⟨w.heap.size, 0, none⟩) hlt).trans ?_, World.ownsRow_nil _ _ _ _⟩, (hb.frozen (p := ⟨w.heap.size, 0, none⟩) hlt).trans (World.frozen?_alloc_new _ _ _ _)⟩
  rw [World.cell?_alloc_new]; rfl
theorem SoR.store {w1 u : World} {q B : Nat} {M : List Ver} (h : SoR w1 u q M) (hB : B ≤ w1.heap.size) (hq : B ≤ q) (ho : OkL M) (hf : M.length ≤ 1000000) : StoreR u B q M := by
  obtain ⟨a, c, h1, h2⟩ := h.list
  refine ⟨Nat.lt_of_lt_of_le h.lt h.chg.size, hq, ⟨a, c, h1, World.ownsRow.mono h2 hB, fun k e => ?_⟩, h.free, ho, hf⟩
  have := (h2.lt k e).1
  have := h.lt
  omega
/-- All of a store as far as its first keys, and the first versions of the next. -/
def stoN (L : List Ver) (i : Nat) : List Ver := ((keysV L).take i).flatMap (fun k => (oneV L k).map (keyed k))
theorem sto_next {L : List Ver} {i : Nat} {k : List Int} (h : (keysV L)[i]? = some k) : stoN L (i + 1) = stoN L i ++ (oneV L k).map (keyed k) := by
  unfold stoN
  rw [List.take_add_one, h, List.flatMap_append]
  simp
theorem sto_all {L : List Ver} (h : OrdK L) : stoN L (keysV L).length = L := by
  unfold stoN
  rw [List.take_length]
  exact flat_one_keys h
theorem stoG_ok {L : List Ver} (h : StoG L) : OkL L := fun V hV => by
  have hm := h.sto.may V hV
  unfold mayV at hm
  simp only [Bool.and_eq_true, decide_eq_true_eq] at hm
  obtain ⟨⟨h1, h2⟩, _⟩ := hm
  unfold okS at h1
  obtain ⟨h3, h4, h5⟩ := h.sto.ins V hV
  exact ⟨h.kys V hV, by omega, by omega, h3, h4, h5, by omega⟩
theorem take_keyed {M : List Ver} {j : Nat} {V : Ver} {k : List Int} (h : M[j]? = some V) : (M.take (j + 1)).map (keyed k) = (M.take j).map (keyed k) ++ [keyed k V] := by
  rw [List.take_add_one, h, List.map_append]
  rfl
set_option maxHeartbeats 16000000 in
set_option maxRecDepth 8000 in
theorem lsto_any (p : Nat) (L : List Ver) (X : Foot) (w : World) (h : StD w p L X) :
    Calls Tryz.prog 37 #[.pointer (some ⟨p, 0, none⟩)] w fun e w' => ∃ q, e = .returned (.pointer (some ⟨q, 0, none⟩)) ∧ StoreR w' w.heap.size q L ∧ Below w.heap.size w w' := by
  have hg := h.1
  have HST : Hid (∀ u, Below w.heap.size w u → StD u p L X) := fun u hb => h.past hb
  obtain ⟨W0, hW0⟩ : ∃ u, u = w.alloc (.cells #[.slice none 0 0] 111) := ⟨_, rfl⟩
  have HW0 : Hid (w.alloc (.cells #[.slice none 0 0] 111) = W0) := hW0.symm
  have HB0 : Hid (Below w.heap.size w W0) := by rw [hW0]; exact (Below.refl _ _).alloc (Nat.le_refl _) _
  have hs0 : W0.heap.size = w.heap.size + 1 := by rw [hW0]; simp
  obtain ⟨q, hq⟩ : ∃ q, q = w.heap.size := ⟨_, rfl⟩
  have HQ : Hid (q = w.heap.size ∧ q < W0.heap.size) := ⟨hq, by omega⟩
  obtain ⟨K, hK⟩ : ∃ K, K = keysV L := ⟨_, rfl⟩
  obtain ⟨N, hN⟩ : ∃ N, N = K.length := ⟨_, rfl⟩
  have hN200 : N ≤ 200 := by rw [hN, hK]; exact hg.few
  have HKN : Hid (K = keysV L ∧ K.length = N ∧ Kys K) := ⟨hK, hN.symm, by rw [hK]; exact hg.keys⟩
  have CK : Hid (Calls Tryz.prog 79 #[.pointer (some ⟨p, 0, none⟩)] W0 fun e w' => ∃ a' cap', e = .returned (.slice a' N cap') ∧ N ≤ cap' ∧ Hid (Below w.heap.size w w') ∧ Hid (SoR w' w' q (stoN L 0)) ∧ Hid (∀ i k, K[i]? = some k → ∃ b o, a' = some ⟨b, o, none⟩ ∧ b < w'.heap.size ∧ b ≠ q ∧ KeyAt w' b (o + i * 16) k)) := by
    refine (skeys_any p L X W0 (h.past HB0.out)).mono ?_
    rintro e w' ⟨⟨a', cap', rfl, hka, hle⟩, hb⟩
    refine ⟨a', cap', by rw [hN, hK], by rw [hN, hK]; exact hle, HB0.out.trans (hb.mono HB0.out.size), by rw [hq]; rw [hW0] at hb; exact SoR.made w w' hb, fun i k hk => ?_⟩
    rw [hK] at hk
    have hil := (List.getElem?_eq_some_iff.1 hk).1
    obtain ⟨b, o, e, hat, _⟩ := hka.key hil
    have e2 : (keysV L).getD i [] = k := by simp [List.getD, hk]
    rw [e2] at hat
    refine ⟨b, o, e, hat.lt, fun ebq => ?_, hat⟩
    -- the answer's block holds no byte
    have h0 := hat.cell 0 (by omega)
    rw [ebq, (hb.cell (p := ⟨q, o + i * 16 + 0, none⟩) HQ.out.2), hW0, hq, World.cell?_alloc_new] at h0
    cases hoi : o + i * 16 + 0 with
    | zero => rw [hoi] at h0; cases h0
    | succ n => rw [hoi] at h0; simp at h0
  have HEND : Hid (∀ w1 u, Below w.heap.size w w1 → SoR w1 u q (stoN L N) → StoreR u w.heap.size q L ∧ Below w.heap.size w u) := fun w1 u hb hu => by
    have hbu : Below w.heap.size w u := hb.trans (hu.chg.below hb.size (fun k e => by have e : k = q := e; omega))
    rw [hN, hK, sto_all hg.sto.ord] at hu
    exact ⟨hu.store hb.size (by omega) (stoG_ok hg) (by have := hg.len; omega), hbu⟩
  have HLEN : Hid (∀ i, (stoN L i).length ≤ 10000) := fun i => by
    have h1 : (stoN L i).length ≤ ((keysV L).take i).length * 50 := flat_sum _ 50 _ (fun k _ => by rw [List.length_map, one_len]; exact hg.sto.few k)
    rw [List.length_take] at h1
    have := hg.few
    omega
  have HONE : Hid (∀ k, (oneV L k).length ≤ 50) := fun k => by rw [one_len]; exact hg.sto.few k
  have HBEL : Hid (∀ w1 u M, Below w.heap.size w w1 → SoR w1 u q M → Below w.heap.size w u) := fun w1 u M hb hu => hb.trans (hu.chg.below hb.size (fun k e => by have e : k = q := e; omega))
  clear hg hW0 hs0 hq hK hN h
  go_enter Tryz.func37, Tryz.ntmps37
  go_wp2_with (go_at_call 79; rw [HW0.out]; refine CK.out.mono ?_; rintro e w1 ⟨ka, kcap, rfl, hkc, HB1, HS1, HK1⟩)
  rw [← HQ.out.1]
  go_loopw [5] (fun iv wr => ∃ i : Nat, i ≤ N ∧ iv = .int .i64 i ∧ Hid (SoR w1 wr q (stoN L i))) (fun iv _ => N - (intOf iv).toNat)
  case atStart => exact ⟨0, Nat.zero_le _, rfl, HS1⟩
  case round =>
    obtain ⟨i, hi, rfl, HS⟩ := hrel
    have hi0 : (0 : Int) ≤ (i : Int) := by omega
    by_cases hlt : i < N
    · have h1 : (i : Int) < (N : Int) := by omega
      obtain ⟨k, hk⟩ : ∃ k, K[i]? = some k := ⟨_, List.getElem?_eq_getElem (by rw [HKN.out.2.1]; exact hlt)⟩
      obtain ⟨kb, ko, rfl, hkb, hkq, hkat⟩ := HK1.out i k hk
      have KK : Hid (Ky k) := HKN.out.2.2 k (List.mem_of_getElem? hk)
      have HKAT : Hid (∀ u M, SoR w1 u q M → KeyAt u kb (ko + i * 16) k) := fun u M hu => ⟨fun z hz => (cell_kept (hu.chg.block kb hkb hkq) _).trans (hkat.cell z hz)⟩
      have HKB : Hid (kb < w1.heap.size) := hkb
      have HNX : Hid (stoN L (i + 1) = stoN L i ++ (oneV L k).map (keyed k)) := sto_next (by rw [← HKN.out.1]; exact hk)
      obtain ⟨M, hM⟩ : ∃ M, M = oneV L k := ⟨_, rfl⟩
      obtain ⟨n3, hn3⟩ : ∃ n, n = M.length := ⟨_, rfl⟩
      have hn50 : n3 ≤ 50 := by rw [hn3, hM]; exact HONE.out k
      have HN3 : Hid (n3 = M.length) := hn3
      have CH : Hid (Calls Tryz.prog 80 #[.pointer (some ⟨p, 0, none⟩), kv k] wr fun e w' => (∃ a c, e = .returned (.slice a n3 c) ∧ n3 ≤ c ∧ w'.ownsRow wr.heap.size 136 4 (.slice a n3 c) n3 (M.flatMap encC)) ∧ Below wr.heap.size wr w') := by
        have := schain2_any p L X k KK.out wr (HST.out wr (HBEL.out w1 wr _ HB1.out HS.out))
        rw [← hM, ← hn3] at this
        refine this.mono ?_
        rintro e w' ⟨⟨a, c, rfl, ho⟩, hb⟩
        refine ⟨⟨a, c, rfl, ?_, ho⟩, hb⟩
        rcases ho.2 with ⟨e1, e2⟩ | ⟨g3, cap, cur, e1, _, _, e5, _⟩
        · omega
        · cases e1; exact e5
      have HMK : Hid (M = oneV L k) := hM
      clear hk hkb hkq hkat hM hn3
      go_wp2_with (first | (have hgo := HKAT.out; clear hgo; refine wpList_load_keyD 22 (by rfl) (by rfl) _ (by rfl) kb (ko + i * 16) (by rfl) k KK.out (HKAT.out wr _ HS.out) ?_) | (go_at_call 80; refine CH.out.mono ?_; rintro e w3 ⟨⟨a3, c3, rfl, hc3, ho3⟩, hb3⟩; have HO3 : Hid (w3.ownsRow wr.heap.size 136 4 (.slice a3 n3 c3) n3 (M.flatMap encC)) := ho3; have HS3 : Hid (SoR w1 w3 q (stoN L i)) := HS.out.past hb3; clear ho3 hb3))
      have HQW : Hid (q < wr.heap.size) := Nat.lt_of_lt_of_le HS.out.lt HS.out.chg.size
      obtain ⟨B3, hB3⟩ : ∃ B, B = wr.heap.size := ⟨_, rfl⟩
      rw [← hB3] at HO3 HQW
      clear hB3 CH
      go_loopw [7] (fun jv wr2 => ∃ j : Nat, j ≤ n3 ∧ jv = .int .i64 j ∧ Hid (SoR w1 wr2 q (stoN L i ++ (M.take j).map (keyed k)) ∧ wr2.ownsRow B3 136 4 (.slice a3 n3 c3) n3 (M.flatMap encC))) (fun jv _ => n3 - (intOf jv).toNat)
      case atStart => exact ⟨0, Nat.zero_le _, rfl, by rw [List.take_zero, List.map_nil, List.append_nil]; exact ⟨HS3.out, HO3.out⟩⟩
      case round =>
        obtain ⟨j, hj, rfl, HI⟩ := hrel
        have hj0 : (0 : Int) ≤ (j : Int) := by omega
        by_cases hlt2 : j < n3
        · have h2 : (j : Int) < (n3 : Int) := by omega
          obtain ⟨V, hV⟩ : ∃ V, M[j]? = some V := ⟨_, List.getElem?_eq_getElem (by rw [← HN3.out]; exact hlt2)⟩
          obtain ⟨la, lc, hl1, hl2⟩ := HI.out.1.list
          obtain ⟨ML, hML⟩ : ∃ ML, ML = stoN L i ++ (M.take j).map (keyed k) := ⟨_, rfl⟩
          have hS := HI.out.1
          rw [← hML] at hl1 hl2 hS
          obtain ⟨m, hm⟩ : ∃ m, m = ML.length := ⟨_, rfl⟩
          rw [← hm] at hl1 hl2
          have hm2 : m ≤ 20000 := by
            have e1 := HLEN.out i
            have e2 : ((M.take j).map (keyed k)).length ≤ 50 := by rw [List.length_map, List.length_take]; omega
            rw [hm, hML, List.length_append]
            omega
          obtain ⟨g3, rfl, hg3, hcv⟩ : ∃ g3, a3 = some ⟨g3, 0, none⟩ ∧ g3 < wr.heap.size ∧ CVerAt wr g3 (j * 4) V := by
            have ho := World.ownsRow.mono HI.out.2 (Nat.zero_le B3)
            rw [HN3.out] at ho
            exact CRow.ver ho hV
          have hgB : B3 ≤ g3 := (HI.out.2.lt g3 rfl).1
          obtain ⟨G, hG⟩ : ∃ G : Foot, G = fun b => (Value.slice la m lc).ownBlock = some b := ⟨_, rfl⟩
          have hGlo : ∀ b, G b → w1.heap.size ≤ b := fun b e => by rw [hG] at e; exact (hl2.lt b e).1
          have hGg : ¬ G g3 := fun e => by rw [hG] at e; exact rows_apartS hl2 HI.out.2 (by decide) e rfl
          have hqG : ¬ G q := fun e => by have := hGlo q e; have := hS.lt; omega
          have hqw : q < wr.heap.size := Nat.lt_of_lt_of_le hS.lt hS.chg.size
          have HGO : Hid (∀ b, (Value.slice la m lc).ownBlock = some b ↔ G b) := fun b => by rw [hG]
          have HKU : Hid (∀ u, Chg wr u G → u.cell? ⟨q, 0, none⟩ = some (.slice la m lc) ∧ u.frozen? ⟨q, 0, none⟩ = false) := fun u hu => ⟨(cell_kept (hu.block q hqw hqG) 0).trans hl1, (frozen_kept (hu.block q hqw hqG) 0).trans hS.free⟩
          have FK : Hid (∀ u, Chg wr u G → KeyAt u kb (ko + i * 16) k) := fun u hu => ⟨fun z hz => (cell_kept (hu.block kb (Nat.lt_of_lt_of_le HKB.out hS.chg.size) (fun e => by have := hGlo kb e; have := HKB.out; omega)) _).trans ((HKAT.out wr _ hS).cell z hz)⟩
          have FV : Hid (∀ u, Chg wr u G → u.cell? ⟨g3, j * 4, none⟩ = some (.int .i64 V.t) ∧ u.cell? ⟨g3, j * 4 + 1, none⟩ = some (.int .u8 V.n) ∧ u.cell? ⟨g3, j * 4 + 2, none⟩ = some (.string (strOfNums V.v)) ∧ u.cell? ⟨g3, j * 4 + 3, none⟩ = some (.bool V.g)) := fun u hu => by
            have hk := hu.block g3 hg3 hGg
            exact ⟨(cell_kept hk _).trans hcv.c0, (cell_kept hk _).trans hcv.c1, (cell_kept hk _).trans hcv.c2, (cell_kept hk _).trans hcv.c3⟩
          have HOW : Hid (∀ u, Below wr.heap.size wr u → u.ownsRow w1.heap.size 127 20 (.slice la m lc) m (ML.flatMap encV)) := fun u hu => own_below hl2 hu (Nat.le_refl _)
          have HSZ : Hid (w1.heap.size ≤ wr.heap.size) := hS.chg.size
          have KKV : Hid (Ky (keyed k V).k) := KK.out
          have HLIE : Hid (Lies (wr.drew.alloc (.cells (encV (keyed k V)).toArray 127)) (some ⟨wr.heap.size, 0, none⟩) (encV (keyed k V))) := by
            have := lies_made wr.drew (encV (keyed k V)).toArray 127
            rwa [List.toList_toArray] at this
          have HEND2 : Hid (∀ w6 a6 c6, Chg wr w6 G → w6.ownsRow w1.heap.size 127 20 (.slice a6 (m + 1) c6) (m + 1) (ML.flatMap encV ++ encV (keyed k V)) → SoR w1 (w6.setCell ⟨q, 0, none⟩ (.slice a6 (m + 1) c6)) q (stoN L i ++ (M.take (j + 1)).map (keyed k)) ∧ (w6.setCell ⟨q, 0, none⟩ (.slice a6 (m + 1) c6)).ownsRow B3 136 4 (.slice (some ⟨g3, 0, none⟩) n3 c3) n3 (M.flatMap encC)) := fun w6 a6 c6 hc6 ho6 => by
            have e1 : stoN L i ++ (M.take (j + 1)).map (keyed k) = ML ++ [keyed k V] := by rw [take_keyed hV, hML, List.append_assoc]
            rw [e1]
            have hown2 : wr.ownsRow w1.heap.size 127 20 (.slice la ML.length lc) ML.length (ML.flatMap encV) := by rw [← hm]; exact hl2
            refine ⟨hS.more hown2 (hc6.mono (fun b _ e => by rw [← hm]; exact (HGO.out b).2 e)) (by rw [hm]) (by rw [List.flatMap_append]; simpa using ho6), row_kept HI.out.2 (fun b e => ?_)⟩
            have eb : b = g3 := (Option.some.inj e).symm
            subst eb
            rw [Below.heap_setCell _ _ _ b (fun e2 => by have e2 : b = q := e2; have := HQW.out; omega)]
            exact hc6.block b hg3 hGg
          clear hV hl1 hl2 hML hm hS hg3 hcv hG hGlo hGg hqG hqw
          go_wp2
          refine wp_region_noPanic ?_
          refine region_till 29 (fun u => Chg wr u G) (by kernel_rfl) ?_ (fun hHeld => ?_)
          · exact (Chg.refl _ _).drew
          refine till_take (i := 0) (v := ?_) 0 (by kernel_rfl) (Or.inl rfl) (by kernel_rfl) rfl (by kernel_rfl) (by kernel_rfl) (by kernel_rfl) (fun _ _ _ h => h) (Or.inl ⟨by rfl, ?_⟩) hHeld ?_
          rotate_left
          · intro u hSu
            (go_simp) <;> (with_reducible rfl)
          change wpTill _ _ _ _ _ _ _ _ (Act.put _ (some 30) _) _
          simp only [Act.put, List.setIfInBounds_toArray, List.set_cons_zero, List.set_cons_succ]
          refine till_take (i := 1) (v := ?_) 1 (by kernel_rfl) (Or.inl rfl) (by kernel_rfl) rfl (by kernel_rfl) (by kernel_rfl) (by kernel_rfl) (fun _ _ _ h => h) (Or.inl ⟨by rfl, ?_⟩) hHeld ?_
          rotate_left
          · intro u hSu
            (go_simp) <;> (with_reducible rfl)
          change wpTill _ _ _ _ _ _ _ _ (Act.put _ (some 31) _) _
          simp only [Act.put, List.setIfInBounds_toArray, List.set_cons_zero, List.set_cons_succ]
          refine till_take (i := 2) (v := ?_) 2 (by kernel_rfl) (Or.inl rfl) (by kernel_rfl) rfl (by kernel_rfl) (by kernel_rfl) (by kernel_rfl) (fun _ _ _ h => h) (Or.inl ⟨by rfl, ?_⟩) hHeld ?_
          rotate_left
          · intro u hSu
            (go_simp) <;> (with_reducible rfl)
          change wpTill _ _ _ _ _ _ _ _ (Act.put _ (some 32) _) _
          simp only [Act.put, List.setIfInBounds_toArray, List.set_cons_zero, List.set_cons_succ]
          refine till_take (i := 3) (v := ?_) 3 (by kernel_rfl) (Or.inl rfl) (by kernel_rfl) rfl (by kernel_rfl) (by kernel_rfl) (by kernel_rfl) (fun _ _ _ h => h) (Or.inl ⟨by rfl, ?_⟩) hHeld ?_
          rotate_left
          · intro u hSu
            (go_simp) <;> (with_reducible rfl)
          change wpTill _ _ _ _ _ _ _ _ (Act.put _ (some 33) _) _
          simp only [Act.put, List.setIfInBounds_toArray, List.set_cons_zero, List.set_cons_succ]
          refine till_take (i := 4) (v := ?_) 4 (by kernel_rfl) (Or.inl rfl) (by kernel_rfl) rfl (by kernel_rfl) (by kernel_rfl) (by kernel_rfl) (fun _ _ _ h => h) (Or.inl ⟨by rfl, ?_⟩) hHeld ?_
          rotate_left
          · intro u hSu
            obtain ⟨z1, z3⟩ := HKU.out u hSu
            (go_simp) <;> (with_reducible rfl)
          change wpTill _ _ _ _ _ _ _ _ (Act.put _ (some 34) _) _
          simp only [Act.put, List.setIfInBounds_toArray, List.set_cons_zero, List.set_cons_succ]
          refine till_take (i := 5) (v := ?_) 5 (by kernel_rfl) (Or.inl rfl) (by kernel_rfl) rfl (by kernel_rfl) (by kernel_rfl) (by kernel_rfl) (fun _ _ _ h => h) (Or.inl ⟨by rfl, ?_⟩) hHeld ?_
          rotate_left
          · intro u hSu
            (go_simp) <;> (with_reducible rfl)
          change wpTill _ _ _ _ _ _ _ _ (Act.put _ (some 35) _) _
          simp only [Act.put, List.setIfInBounds_toArray, List.set_cons_zero, List.set_cons_succ]
          refine till_take (i := 6) (v := ?_) 6 (by kernel_rfl) (Or.inl rfl) (by kernel_rfl) rfl (by kernel_rfl) (by kernel_rfl) (by kernel_rfl) (fun _ _ _ h => h) (Or.inl ⟨by rfl, ?_⟩) hHeld ?_
          rotate_left
          · intro u hSu
            (go_simp) <;> (with_reducible rfl)
          change wpTill _ _ _ _ _ _ _ _ (Act.put _ (some 36) _) _
          simp only [Act.put, List.setIfInBounds_toArray, List.set_cons_zero, List.set_cons_succ]
          refine till_take (i := 7) (v := ?_) 7 (by kernel_rfl) (Or.inl rfl) (by kernel_rfl) rfl (by kernel_rfl) (by kernel_rfl) (by kernel_rfl) (fun _ _ _ h => h) (Or.inl ⟨by rfl, ?_⟩) hHeld ?_
          rotate_left
          · intro u hSu
            (go_simp) <;> (with_reducible rfl)
          change wpTill _ _ _ _ _ _ _ _ (Act.put _ (some 37) _) _
          simp only [Act.put, List.setIfInBounds_toArray, List.set_cons_zero, List.set_cons_succ]
          refine till_take (i := 8) (v := kv k) 8 (by kernel_rfl) (Or.inl rfl) (by kernel_rfl) rfl (by kernel_rfl) (by kernel_rfl) (by kernel_rfl) (fun _ _ _ h => h) (yieldsIf_load_mid (by rfl) _ _ rfl _ _ rfl (k.map (Value.int .u8)) _ (fun u hu => (FK.out u hu).range KK.out) Tryz.underlying38 rfl (info_keyl k KK.out)) hHeld ?_
          change wpTill _ _ _ _ _ _ _ _ (Act.put _ (some 38) _) _
          simp only [Act.put, List.setIfInBounds_toArray, List.set_cons_zero, List.set_cons_succ]
          refine till_take (i := 9) (v := ?_) 9 (by kernel_rfl) (Or.inl rfl) (by kernel_rfl) rfl (by kernel_rfl) (by kernel_rfl) (by kernel_rfl) (fun _ _ _ h => h) (Or.inl ⟨by rfl, ?_⟩) hHeld ?_
          rotate_left
          · intro u hSu
            (go_simp) <;> (with_reducible rfl)
          change wpTill _ _ _ _ _ _ _ _ (Act.put _ (some 39) _) _
          simp only [Act.put, List.setIfInBounds_toArray, List.set_cons_zero, List.set_cons_succ]
          refine till_take (i := 10) (v := ?_) 10 (by kernel_rfl) (Or.inl rfl) (by kernel_rfl) rfl (by kernel_rfl) (by kernel_rfl) (by kernel_rfl) (fun _ _ _ h => h) (Or.inl ⟨by rfl, ?_⟩) hHeld ?_
          rotate_left
          · intro u hSu
            (go_simp) <;> (with_reducible rfl)
          change wpTill _ _ _ _ _ _ _ _ (Act.put _ (some 40) _) _
          simp only [Act.put, List.setIfInBounds_toArray, List.set_cons_zero, List.set_cons_succ]
          refine till_take (i := 11) (v := ?_) 11 (by kernel_rfl) (Or.inl rfl) (by kernel_rfl) rfl (by kernel_rfl) (by kernel_rfl) (by kernel_rfl) (fun _ _ _ h => h) (Or.inl ⟨by rfl, ?_⟩) hHeld ?_
          rotate_left
          · intro u hSu
            (go_simp) <;> (with_reducible rfl)
          change wpTill _ _ _ _ _ _ _ _ (Act.put _ (some 41) _) _
          simp only [Act.put, List.setIfInBounds_toArray, List.set_cons_zero, List.set_cons_succ]
          refine till_take (i := 12) (v := ?_) 12 (by kernel_rfl) (Or.inl rfl) (by kernel_rfl) rfl (by kernel_rfl) (by kernel_rfl) (by kernel_rfl) (fun _ _ _ h => h) (Or.inl ⟨by rfl, ?_⟩) hHeld ?_
          rotate_left
          · intro u hSu
            (go_simp) <;> (with_reducible rfl)
          change wpTill _ _ _ _ _ _ _ _ (Act.put _ (some 42) _) _
          simp only [Act.put, List.setIfInBounds_toArray, List.set_cons_zero, List.set_cons_succ]
          refine till_take (i := 13) (v := ?_) 13 (by kernel_rfl) (Or.inl rfl) (by kernel_rfl) rfl (by kernel_rfl) (by kernel_rfl) (by kernel_rfl) (fun _ _ _ h => h) (Or.inl ⟨by rfl, ?_⟩) hHeld ?_
          rotate_left
          · intro u hSu
            obtain ⟨y0, y1, y2, y3⟩ := FV.out u hSu
            (go_simp) <;> (with_reducible rfl)
          change wpTill _ _ _ _ _ _ _ _ (Act.put _ (some 43) _) _
          simp only [Act.put, List.setIfInBounds_toArray, List.set_cons_zero, List.set_cons_succ]
          refine till_take (i := 14) (v := ?_) 14 (by kernel_rfl) (Or.inl rfl) (by kernel_rfl) rfl (by kernel_rfl) (by kernel_rfl) (by kernel_rfl) (fun _ _ _ h => h) (Or.inl ⟨by rfl, ?_⟩) hHeld ?_
          rotate_left
          · intro u hSu
            (go_simp) <;> (with_reducible rfl)
          change wpTill _ _ _ _ _ _ _ _ (Act.put _ (some 44) _) _
          simp only [Act.put, List.setIfInBounds_toArray, List.set_cons_zero, List.set_cons_succ]
          refine till_take (i := 15) (v := ?_) 15 (by kernel_rfl) (Or.inl rfl) (by kernel_rfl) rfl (by kernel_rfl) (by kernel_rfl) (by kernel_rfl) (fun _ _ _ h => h) (Or.inl ⟨by rfl, ?_⟩) hHeld ?_
          rotate_left
          · intro u hSu
            (go_simp) <;> (with_reducible rfl)
          change wpTill _ _ _ _ _ _ _ _ (Act.put _ (some 45) _) _
          simp only [Act.put, List.setIfInBounds_toArray, List.set_cons_zero, List.set_cons_succ]
          refine till_take (i := 16) (v := ?_) 16 (by kernel_rfl) (Or.inl rfl) (by kernel_rfl) rfl (by kernel_rfl) (by kernel_rfl) (by kernel_rfl) (fun _ _ _ h => h) (Or.inl ⟨by rfl, ?_⟩) hHeld ?_
          rotate_left
          · intro u hSu
            (go_simp) <;> (with_reducible rfl)
          change wpTill _ _ _ _ _ _ _ _ (Act.put _ (some 46) _) _
          simp only [Act.put, List.setIfInBounds_toArray, List.set_cons_zero, List.set_cons_succ]
          refine till_take (i := 17) (v := ?_) 17 (by kernel_rfl) (Or.inl rfl) (by kernel_rfl) rfl (by kernel_rfl) (by kernel_rfl) (by kernel_rfl) (fun _ _ _ h => h) (Or.inl ⟨by rfl, ?_⟩) hHeld ?_
          rotate_left
          · intro u hSu
            (go_simp) <;> (with_reducible rfl)
          change wpTill _ _ _ _ _ _ _ _ (Act.put _ (some 47) _) _
          simp only [Act.put, List.setIfInBounds_toArray, List.set_cons_zero, List.set_cons_succ]
          refine till_take (i := 18) (v := ?_) 18 (by kernel_rfl) (Or.inl rfl) (by kernel_rfl) rfl (by kernel_rfl) (by kernel_rfl) (by kernel_rfl) (fun _ _ _ h => h) (Or.inl ⟨by rfl, ?_⟩) hHeld ?_
          rotate_left
          · intro u hSu
            obtain ⟨y0, y1, y2, y3⟩ := FV.out u hSu
            (go_simp) <;> (with_reducible rfl)
          change wpTill _ _ _ _ _ _ _ _ (Act.put _ (some 48) _) _
          simp only [Act.put, List.setIfInBounds_toArray, List.set_cons_zero, List.set_cons_succ]
          refine till_take (i := 19) (v := ?_) 19 (by kernel_rfl) (Or.inl rfl) (by kernel_rfl) rfl (by kernel_rfl) (by kernel_rfl) (by kernel_rfl) (fun _ _ _ h => h) (Or.inl ⟨by rfl, ?_⟩) hHeld ?_
          rotate_left
          · intro u hSu
            (go_simp) <;> (with_reducible rfl)
          change wpTill _ _ _ _ _ _ _ _ (Act.put _ (some 49) _) _
          simp only [Act.put, List.setIfInBounds_toArray, List.set_cons_zero, List.set_cons_succ]
          refine till_take (i := 20) (v := ?_) 20 (by kernel_rfl) (Or.inl rfl) (by kernel_rfl) rfl (by kernel_rfl) (by kernel_rfl) (by kernel_rfl) (fun _ _ _ h => h) (Or.inl ⟨by rfl, ?_⟩) hHeld ?_
          rotate_left
          · intro u hSu
            (go_simp) <;> (with_reducible rfl)
          change wpTill _ _ _ _ _ _ _ _ (Act.put _ (some 50) _) _
          simp only [Act.put, List.setIfInBounds_toArray, List.set_cons_zero, List.set_cons_succ]
          refine till_take (i := 21) (v := ?_) 21 (by kernel_rfl) (Or.inl rfl) (by kernel_rfl) rfl (by kernel_rfl) (by kernel_rfl) (by kernel_rfl) (fun _ _ _ h => h) (Or.inl ⟨by rfl, ?_⟩) hHeld ?_
          rotate_left
          · intro u hSu
            (go_simp) <;> (with_reducible rfl)
          change wpTill _ _ _ _ _ _ _ _ (Act.put _ (some 51) _) _
          simp only [Act.put, List.setIfInBounds_toArray, List.set_cons_zero, List.set_cons_succ]
          refine till_take (i := 22) (v := ?_) 22 (by kernel_rfl) (Or.inl rfl) (by kernel_rfl) rfl (by kernel_rfl) (by kernel_rfl) (by kernel_rfl) (fun _ _ _ h => h) (Or.inl ⟨by rfl, ?_⟩) hHeld ?_
          rotate_left
          · intro u hSu
            (go_simp) <;> (with_reducible rfl)
          change wpTill _ _ _ _ _ _ _ _ (Act.put _ (some 52) _) _
          simp only [Act.put, List.setIfInBounds_toArray, List.set_cons_zero, List.set_cons_succ]
          refine till_take (i := 23) (v := ?_) 23 (by kernel_rfl) (Or.inl rfl) (by kernel_rfl) rfl (by kernel_rfl) (by kernel_rfl) (by kernel_rfl) (fun _ _ _ h => h) (Or.inl ⟨by rfl, ?_⟩) hHeld ?_
          rotate_left
          · intro u hSu
            obtain ⟨y0, y1, y2, y3⟩ := FV.out u hSu
            (go_simp) <;> (with_reducible rfl)
          change wpTill _ _ _ _ _ _ _ _ (Act.put _ (some 53) _) _
          simp only [Act.put, List.setIfInBounds_toArray, List.set_cons_zero, List.set_cons_succ]
          refine till_take (i := 24) (v := vv (keyed k V)) 24 (by kernel_rfl) (Or.inl rfl) (by kernel_rfl) rfl (by kernel_rfl) (by kernel_rfl) (by kernel_rfl) (fun _ _ _ h => h) (yieldsIf_build_v4 (by rfl) (.tmp 38) (.tmp 43) (.tmp 48) (.tmp 53) rfl (keyed k V) KKV.out rfl rfl rfl rfl) hHeld ?_
          change wpTill _ _ _ _ _ _ _ _ (Act.put _ (some 54) _) _
          simp only [Act.put, List.setIfInBounds_toArray, List.set_cons_zero, List.set_cons_succ]
          refine till_ready (rs := [25]) (by kernel_rfl) (by simp) ?_
          refine AllTill.cons rfl (fun K hK => ?_) AllTill.nil
          refine step_build_ver rfl (.tmp 54) rfl (keyed k V) KKV.out rfl ?_
          refine hK.out _ _ ?_ (fun hHeld2 => ?_)
          · exact hHeld.alloc _
          clear hK K hHeld
          have hHeld := hHeld2
          clear hHeld2
          change wpTill _ _ _ _ _ _ _ _ (Act.put _ (some 55) _) _
          simp only [Act.put, List.setIfInBounds_toArray, List.set_cons_zero, List.set_cons_succ]
          refine till_ready (rs := [26]) (by kernel_rfl) (by simp) ?_
          refine AllTill.cons rfl (fun K hK => ?_) AllTill.nil
          refine step_append_b verEl w1.heap.size (by have := HSZ.out; simp; omega) rfl (.tmp 34) (.tmp 55) rfl (.slice la m lc) m (ML.flatMap encV) (encV (keyed k V)) rfl (HOW.out _ ((Below.refl _ _).drew.alloc (Nat.le_refl _) _)) _ 1 1 rfl (by rw [enc_len KKV.out]) HLIE.out (enc_one _) (fun h => by cases h) (by omega) ?_; intro a6 c6 w6 h6 hg6; have O6 : Hid (w6.ownsRow w1.heap.size 127 20 (.slice a6 (m + 1) c6) (m + 1) (ML.flatMap encV ++ encV (keyed k V))) := h6; have C6 : Hid (Chg wr w6 G) := (Chg.of_below ((Below.refl _ _).drew.alloc (Nat.le_refl _) _) G).trans (Chg.of_grown hg6 (X := G) (fun b e => (HGO.out b).1 e)) (fun _ _ x => x); clear h6 hg6
          refine hK.out _ _ ?_ (fun hHeld2 => ?_)
          · exact C6.out
          clear hK K hHeld
          have hHeld := hHeld2
          clear hHeld2
          change wpTill _ _ _ _ _ _ _ _ (Act.put _ (some 56) _) _
          simp only [Act.put, List.setIfInBounds_toArray, List.set_cons_zero, List.set_cons_succ]
          refine till_take (i := 27) (v := ?_) 28 (by kernel_rfl) (Or.inr (by kernel_rfl)) (by kernel_rfl) rfl (by kernel_rfl) (by kernel_rfl) (by kernel_rfl) (fun _ _ _ h => h) (Or.inl ⟨by rfl, ?_⟩) hHeld ?_
          rotate_left
          · intro u hSu
            (go_simp) <;> (with_reducible rfl)
          change wpTill _ _ _ _ _ _ _ _ (Act.put _ (some 57) _) _
          simp only [Act.put, List.setIfInBounds_toArray, List.set_cons_zero, List.set_cons_succ]
          refine till_take (i := 28) (v := ?_) 28 (by kernel_rfl) (Or.inl rfl) (by kernel_rfl) rfl (by kernel_rfl) (by kernel_rfl) (by kernel_rfl) (fun _ _ _ h => h) (Or.inl ⟨by rfl, ?_⟩) hHeld ?_
          rotate_left
          · intro u hSu
            (go_simp) <;> (with_reducible rfl)
          change wpTill _ _ _ _ _ _ _ _ (Act.put _ (some 58) _) _
          simp only [Act.put, List.setIfInBounds_toArray, List.set_cons_zero, List.set_cons_succ]
          refine till_last (by kernel_rfl) (by kernel_rfl) rfl (fun K hK => ?_)
          (obtain ⟨z1, z3⟩ := HKU.out w6 C6.out); go_simp; refine hK.out _ _ ?_; refine NoPanic.normal ?_; clear hK hHeld z1 z3
          have HI2 : Hid _ := HEND2.out w6 a6 c6 C6.out O6.out
          go_wp2
          go_roundw
          case rel => exact ⟨j + 1, by omega, by go_num, HI2⟩
          case measure => simp [intOf]; omega
        · obtain rfl : j = n3 := by omega
          have HS4 : Hid (SoR w1 wr q (stoN L (i + 1))) := by
            have := HI.out.1
            rw [List.take_of_length_le (by rw [HN3.out]; exact Nat.le_refl _), HMK.out, ← HNX.out] at this
            exact this
          go_wp2
          go_roundw
          case rel => exact ⟨i + 1, by omega, by go_num, HS4⟩
          case measure => simp [intOf]; omega
    · obtain rfl : i = N := by omega
      have HE : Hid _ := HEND.out w1 wr HB1.out HS.out
      go_wp2
      go_ret
      exact ⟨q, rfl, HE.out.1, HE.out.2⟩
end Go.Proofs.YtileidbdmpeciaaGreat
