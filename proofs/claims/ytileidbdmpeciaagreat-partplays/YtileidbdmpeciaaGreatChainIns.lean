/-
  slices.Insert, Delete, Clone at the landed chains' lists of versions.
-/
import Derived.Test.YtileidbdmpeciaaGreatAu114
import Derived.Deep.RegionLaw
import Derived.Lib.AppendZeros
import Derived.Laws.Externs
import Derived.Lib.SliceRun
namespace Go.Proofs.YtileidbdmpeciaaGreat
open Go.RowKit
set_option linter.unusedVariables false

/-- copy whose run is known, as one step of a walk. -/
theorem wpList_copy_is (w : World) {ops : Array Oper} {rest : List Oper} {o : Oper} {a : Act} {Q : Exit → Act → World → Prop} (hgd : o.guard = none) (d s : Operand) (t t' : TypeId)
    (ho : o.op = .call { callee := .builtin .copy, args := #[d, s], argTypes := #[t, t'] }) (v u : Value) (hd : a.eval d = v) (hs : a.eval s = u) {v' : Value} {w' : World}
    (hr : (Builtin.copy_ #[t, t'] o.type #[v, u]).run Tryz.prog w = .ok v' w') (h : wpList Tryz.prog ops Q rest (a.put o.dst v') w') : wpList Tryz.prog ops Q (o :: rest) a w := by
  refine wpList_plain hgd fun K hK => ?_
  unfold Oper.wp
  simp [execOp, ho, resolve, invoke, builtin, hd, hs, hr, Result.andThen]
  exact hK _ _ h
theorem step_copy_is {ops : Array Oper} {o : Oper} {a : Act} {w : World} {K : Act → World → Prop} {Q : Exit → Act → World → Prop} {E : Prop} (hgd : o.guard = none) (d s : Operand) (t t' : TypeId)
    (ho : o.op = .call { callee := .builtin .copy, args := #[d, s], argTypes := #[t, t'] }) (v u : Value) (hd : a.eval d = v) (hs : a.eval s = u) {v' : Value} {w' : World}
    (hr : (Builtin.copy_ #[t, t'] o.type #[v, u]).run Tryz.prog w = .ok v' w') (h : K (a.put o.dst v') w') : if Region.wanted o (yielded ops a.tmps) = true then Oper.wp Tryz.prog o a w K Q else E := by
  have hw : Region.wanted o (yielded ops a.tmps) = true := by simp [Region.wanted, hgd]
  rw [if_pos hw]
  unfold Oper.wp
  simp [execOp, ho, resolve, invoke, builtin, hd, hs, hr, Result.andThen]
  exact h
theorem step_append_is {ops : Array Oper} {o : Oper} {a : Act} {w : World} {K : Act → World → Prop} {Q : Exit → Act → World → Prop} {E : Prop} (hgd : o.guard = none) (d s : Operand) (t t' : TypeId)
    (ho : o.op = .call { callee := .builtin .append, args := #[d, s], argTypes := #[t, t'] }) (v u : Value) (hd : a.eval d = v) (hs : a.eval s = u) {v' : Value} {w' : World}
    (hr : (Builtin.append_ #[t, t'] o.type #[v, u]).run Tryz.prog w = .ok v' w') (h : K (a.put o.dst v') w') : if Region.wanted o (yielded ops a.tmps) = true then Oper.wp Tryz.prog o a w K Q else E := by
  have hw : Region.wanted o (yielded ops a.tmps) = true := by simp [Region.wanted, hgd]
  rw [if_pos hw]
  unfold Oper.wp
  simp [execOp, ho, resolve, invoke, builtin, hd, hs, hr, Result.andThen]
  exact h
theorem wpList_clear_is (w : World) {ops : Array Oper} {rest : List Oper} {o : Oper} {a : Act} {Q : Exit → Act → World → Prop} (hgd : o.guard = none) (s : Operand) (t : TypeId)
    (ho : o.op = .call { callee := .builtin .clear, args := #[s], argTypes := #[t] }) (u : Value) (hs : a.eval s = u) {v' : Value} {w' : World}
    (hr : (Builtin.clear_ #[t] o.type #[u]).run Tryz.prog w = .ok v' w') (h : wpList Tryz.prog ops Q rest (a.put o.dst v') w') : wpList Tryz.prog ops Q (o :: rest) a w := by
  refine wpList_plain hgd fun K hK => ?_
  unfold Oper.wp
  simp [execOp, ho, resolve, invoke, builtin, hs, hr, Result.andThen]
  exact hK _ _ h
theorem row_cell {w : World} {g : Nat} {cur : Array Value} {e : TypeId} (hg : w.heap[g]? = some (.cells cur e (0, 0))) (j : Nat) : w.cell? ⟨g, j, none⟩ = cur[j]? := by simp [World.cell?, hg]
/-- What an insertion leaves. -/
structure Insd (w w' : World) (a a' : Option Addr) (N c c' : Nat) (M : List Ver) : Prop where
  row : w'.ownsRow 0 136 4 (.slice a' (N + 1) c') (N + 1) (M.flatMap encC)
  grown : w.grownBy w' (Value.slice a N c).ownBlock
  blk : ∀ k, (Value.slice a' (N + 1) c').ownBlock = some k → (Value.slice a N c).ownBlock = some k ∨ w.heap.size ≤ k
theorem ins_flat (L : List Ver) (V : Ver) (i : Nat) : (L.flatMap encC).take (i * 4) ++ encC V ++ (L.flatMap encC).drop (i * 4) = (L.take i ++ V :: L.drop i).flatMap encC := by
  rw [encCs_take, encCs_drop, List.flatMap_append, List.flatMap_cons, List.append_assoc]
set_option maxHeartbeats 4000000 in
set_option maxRecDepth 4000 in
theorem cins_end (a : Option Addr) (c N vb : Nat) (L : List Ver) (V : Ver) (w : World) (hN : L.length = N) (hfew : N ≤ 1000) (hrow : w.ownsRow 0 136 4 (.slice a N c) N (L.flatMap encC)) (hv : w.heap[vb]? = some (.cells (encC V).toArray 136 (0, 0))) :
    Calls Tryz.prog 159 #[.slice a N c, .int .i64 N, .slice (some ⟨vb, 0, none⟩) 1 1] w fun e w' => ∃ a' c', e = .returned (.slice a' (N + 1) c') ∧ Insd w w' a a' N c c' (L.take N ++ V :: L.drop N) := by
  obtain ⟨i0, z, hi, hz0, hz1, hz2, hz3⟩ := cverEl.info
  have hnews : ∀ j u, (encC V)[j]? = some u → w.cell? ((⟨vb, 0, none⟩ : Addr).add j) = some u := fun j u hj => by
    rw [addr_add, row_cell hv, Nat.zero_add]; simpa using hj
  obtain ⟨v', w', hrun, h1, h2, _, h4⟩ := run_append_own_at (P := Tryz.prog) w 0 133 133 136 i0 z 4 40 cverEl.ht hi hz0 hz1 hz2 hz3 (by decide) _ N _ hrow ⟨vb, 0, none⟩ 1 1 (encC V) rfl hnews (encC_one V) (by unfold maxLen; omega) (by omega) (Nat.zero_le _)
  obtain ⟨a', c', rfl⟩ := own_form h1
  have HF : Hid (Insd w w' a a' N c c' (L.take N ++ V :: L.drop N)) := by
    refine ⟨?_, h2, fun k hk => ?_⟩
    · have e := ins_flat L V N
      rw [List.take_of_length_le (by rw [encCs_len, hN]; exact Nat.le_refl _), List.drop_eq_nil_of_le (by rw [encCs_len, hN]; exact Nat.le_refl _), List.append_nil] at e
      rw [← e]
      exact h1
    · rcases h4 with h | h
      · rw [h] at hk; exact .inl hk
      · rw [h] at hk; injection hk with hk; exact .inr (by omega)
  have hcap : N ≤ c := by
    rcases hrow.2 with ⟨e1, e2⟩ | ⟨g, cap, cur, e1, _, _, e5, _⟩
    · omega
    · cases e1; exact e5
  clear h1 h2 h4 hnews hv hrow
  by_cases hcN : c = N
  · subst hcN
    go_enter Tryz.func159, Tryz.ntmps159
    go_wp2_with (at_builtin; refine Lib.wpList_append_run _ rfl _ _ _ _ rfl _ _ rfl rfl _ _ hrun ?_)
    go_ret
    exact ⟨a', c', rfl, HF.out⟩
  · go_enter Tryz.func159, Tryz.ntmps159
    go_wp2_with (at_builtin; refine Lib.wpList_append_run _ rfl _ _ _ _ rfl _ _ rfl rfl _ _ hrun ?_)
    go_ret
    exact ⟨a', c', rfl, HF.out⟩
/-- A block of one version is apart from a list in another block. -/
theorem run_overlaps_no (w : World) (g o lb cb vb : Nat) (V : Ver) (cur : Array Value) (hne : vb ≠ g) (hv : w.heap[vb]? = some (.cells (encC V).toArray 136 (0, 0))) (hg : w.heap[g]? = some (.cells cur 136 (0, 0))) (hc : cur.size ≠ 0) :
    (callFunc 168 #[.slice (some ⟨vb, 0, none⟩) 1 1, .slice (some ⟨g, o, none⟩) lb cb]).run Tryz.prog w = .ok (.value (.bool false)) w := by
  rw [run_callFunc_extern Tryz.func168 (by kernel_rfl) (by kernel_rfl) (by kernel_rfl) (e := Extern.SlicesOverlaps.overlaps #[133, 133] #[4]) (by kernel_rfl),
    Lib.run_overlaps_apart w 133 4 136 Tryz.underlying133 4 Tryz.sizeOf136 ⟨vb, 0, none⟩ ⟨g, o, none⟩ 1 1 lb cb hne 136 136 4 cur.size (by unfold World.shape?; rw [hv]; rfl) (by unfold World.shape?; rw [hg]) hc (by simp [World.frozen?, hv]) (by simp [World.frozen?, hv])]
  rfl
set_option maxHeartbeats 4000000 in
set_option maxRecDepth 4000 in
theorem cins_room (g c N i vb : Nat) (L : List Ver) (V : Ver) (w : World) (hN : L.length = N) (hi : i < N) (hc : N + 1 ≤ c) (hfew : N ≤ 1000) (hrow : w.ownsRow 0 136 4 (.slice (some ⟨g, 0, none⟩) N c) N (L.flatMap encC)) (hv : w.heap[vb]? = some (.cells (encC V).toArray 136 (0, 0))) (hne : vb ≠ g) :
    Calls Tryz.prog 159 #[.slice (some ⟨g, 0, none⟩) N c, .int .i64 i, .slice (some ⟨vb, 0, none⟩) 1 1] w fun e w' => ∃ a' c', e = .returned (.slice a' (N + 1) c') ∧ Insd w w' (some ⟨g, 0, none⟩) a' N c c' (L.take i ++ V :: L.drop i) := by
  obtain ⟨cur, hg, hcm, hcs, hcur⟩ : ∃ cur, w.heap[g]? = some (.cells cur 136 (0, 0)) ∧ c ≤ maxLen ∧ cur.size = c * 4 ∧ cur.toList.take (N * 4) = L.flatMap encC := by
    rcases hrow.2 with ⟨e1, e2⟩ | ⟨g', cap, cur, e1, _, hh, e5, e6, e7, e8⟩
    · omega
    · cases e1; exact ⟨cur, hh, e6, e7, e8⟩
  obtain ⟨D, hD⟩ : ∃ D, D = (L.flatMap encC).drop (i * 4) := ⟨_, rfl⟩
  have hDl : D.length = (N - i) * 4 := by rw [hD, List.length_drop, encCs_len, hN]; omega
  have h1D : ∀ u ∈ D, u.oneCell' = true := fun u hu => encCs_one L u (by rw [hD] at hu; exact List.mem_of_mem_drop hu)
  have hlist : ∀ j u, (L.flatMap encC)[j]? = some u → w.cell? ⟨g, j, none⟩ = some u := fun j u hj => by
    rw [row_cell hg, ← Array.getElem?_toList]
    rw [← hcur] at hj
    rw [List.getElem?_take] at hj
    split at hj
    · exact hj
    · cases hj
  obtain ⟨W1, hW1⟩ : ∃ W1, W1 = w.drew.setRow g (cur.toList.take ((i + 1) * 4) ++ D ++ cur.toList.drop ((i + 1) * 4 + D.length)).toArray := ⟨_, rfl⟩
  have hcp1 : (Builtin.copy_ #[133, 133] 3 #[.slice (some ⟨g, (i + 1) * 4, none⟩) (N + 1 - (i + 1)) (c - (i + 1)), .slice (some ⟨g, i * 4, none⟩) (N + 1 - i) (c - i)]).run Tryz.prog w.drew = .ok (goInt ((N - i : Nat) : Int)) W1 := by
    rw [hW1]
    exact run_copy_els cverEl w.drew 3 g ((i + 1) * 4) (N + 1 - (i + 1)) (c - (i + 1)) ⟨g, i * 4, none⟩ (N + 1 - i) (c - i) (N - i) cur D hg (by simp only [Nat.min_def]; split <;> omega) hDl (fun j u hj => by
      rw [addr_add]
      exact hlist _ u (by rw [hD, List.getElem?_drop] at hj; exact hj)) (by rw [hDl, hcs]; omega) h1D
  have hg1 : W1.heap[g]? = some (.cells (cur.toList.take ((i + 1) * 4) ++ D ++ cur.toList.drop ((i + 1) * 4 + D.length)).toArray 136 (0, 0)) := by
    rw [hW1]; exact setRow_heap w.drew g cur _ 136 _ hg
  have hv1 : W1.heap[vb]? = some (.cells (encC V).toArray 136 (0, 0)) := by
    rw [hW1]; exact (setRow_other w.drew g vb _ hne).trans hv
  obtain ⟨c1, hc1⟩ : ∃ c1, c1 = cur.toList.take ((i + 1) * 4) ++ D ++ cur.toList.drop ((i + 1) * 4 + D.length) := ⟨_, rfl⟩
  rw [← hc1] at hg1
  obtain ⟨c2, hc2⟩ : ∃ c2, c2 = c1.take (i * 4) ++ encC V ++ c1.drop (i * 4 + (encC V).length) := ⟨_, rfl⟩
  obtain ⟨W2, hW2⟩ : ∃ W2, W2 = W1.setRow g c2.toArray := ⟨_, rfl⟩
  have hlen1 : c1.length = cur.size := by
    rw [hc1]
    simp only [List.length_append, List.length_take, List.length_drop, hDl, Array.length_toList, hcs]
    omega
  have hcp2 : (Builtin.copy_ #[133, 133] 3 #[.slice (some ⟨g, i * 4, none⟩) (N + 1 - i) (c - i), .slice (some ⟨vb, 0, none⟩) 1 1]).run Tryz.prog W1 = .ok (goInt 1) W2 := by
    have := run_copy_els cverEl W1 3 g (i * 4) (N + 1 - i) (c - i) ⟨vb, 0, none⟩ 1 1 1 c1.toArray (encC V) hg1 (by simp only [Nat.min_def]; split <;> omega) rfl (fun j u hj => by
      rw [addr_add, Nat.zero_add, row_cell hv1]
      simpa using hj) (by rw [encC_len, List.size_toArray, hlen1, hcs]; omega) (encC_one V)
    rw [this, hW2, hc2]
    rfl
  have HF : Hid (Insd w W2 (some ⟨g, 0, none⟩) (some ⟨g, 0, none⟩) N c c (L.take i ++ V :: L.drop i)) := by
    obtain ⟨k1, k2⟩ := ins_room cur.toList (encC V) (L.flatMap encC) (i * 4) (N * 4) 4 hcur (by rw [encCs_len, hN]) (by omega) rfl (by rw [Array.length_toList, hcs]; omega) c1 c2 (by rw [hc1, hD, show (i + 1) * 4 = i * 4 + 4 by omega]) hc2
    rw [ins_flat] at k1
    refine ⟨⟨?_, .inr ⟨g, c, c2.toArray, rfl, Nat.zero_le _, by rw [hW2]; exact setRow_heap W1 g _ _ 136 _ hg1, hc, hcm, by rw [List.size_toArray, k2, Array.length_toList]; exact hcs, by rw [show (N + 1) * 4 = N * 4 + 4 by omega]; exact k1⟩⟩, ?_, fun k hk => .inl hk⟩
    · rw [encCs_len]
      simp only [List.length_append, List.length_cons, List.length_take, List.length_drop, hN]
      omega
    · rw [hW2, hW1]
      exact ⟨rfl, rfl, rfl, by simp, fun k _ hk => (setRow_other _ g k _ (fun e => hk (by simp [Value.ownBlock, e]))).trans (setRow_other w.drew g k _ (fun e => hk (by simp [Value.ownBlock, e])))⟩
  have hov : ∀ o lb cb, (callFunc 168 #[.slice (some ⟨vb, 0, none⟩) 1 1, .slice (some ⟨g, o, none⟩) lb cb]).run Tryz.prog w = .ok (.value (.bool false)) w := fun o lb cb => run_overlaps_no w g o lb cb vb V cur hne hv hg (by rw [hcs]; omega)
  have hin : i ≤ N := by omega
  have hz2 : ¬ ((i : Int) = (N : Int)) := by omega
  have hb2 : ¬ (c = i + 1) := by omega
  have hb4 : ¬ (c = i) := by omega
  have hc63 : c ≤ 9223372036854775807 := by unfold maxLen at hcm; omega
  have hw1 : IntKind.i64.wrap ((i : Int) + 1) = (i : Int) + 1 := by rw [IntKind.wrap_i64]; omega
  have hb1 : (0 : Int) ≤ (i : Int) + 1 := by omega
  have htn : ((i : Int) + 1).toNat = i + 1 := by omega
  have hb3 : (i : Int) ≤ (N : Int) + 1 := by omega
  clear hlist hc1 hc2 hW1 hW2 hlen1 hD hcur hrow hv1 hg1 hv hg hDl h1D hcs
  go_enter Tryz.func159, Tryz.ntmps159
  go_wp2_with (simp only [hov])
  go_region_law (refine step_copy_is rfl _ _ 133 133 rfl _ _ (by simp [Act.eval, Act.put]) (by simp [Act.eval, Act.put]) hcp1 ?_)
  go_wp2_with (at_builtin; refine wpList_copy_is _ rfl _ _ 133 133 rfl _ _ rfl rfl hcp2 ?_)
  go_ret
  exact ⟨_, _, rfl, HF.out⟩
set_option maxHeartbeats 4000000 in
set_option maxRecDepth 4000 in
theorem cins_grow (g N i vb : Nat) (L : List Ver) (V : Ver) (w : World) (hN : L.length = N) (hi : i < N) (hfew : N ≤ 1000) (hrow : w.ownsRow 0 136 4 (.slice (some ⟨g, 0, none⟩) N N) N (L.flatMap encC)) (hv : w.heap[vb]? = some (.cells (encC V).toArray 136 (0, 0))) :
    Calls Tryz.prog 159 #[.slice (some ⟨g, 0, none⟩) N N, .int .i64 i, .slice (some ⟨vb, 0, none⟩) 1 1] w fun e w' => ∃ a' c', e = .returned (.slice a' (N + 1) c') ∧ Insd w w' (some ⟨g, 0, none⟩) a' N N c' (L.take i ++ V :: L.drop i) := by
  obtain ⟨cur, hg, hcs, hcur⟩ : ∃ cur, w.heap[g]? = some (.cells cur 136 (0, 0)) ∧ cur.size = N * 4 ∧ cur.toList.take (N * 4) = L.flatMap encC := by
    rcases hrow.2 with ⟨e1, e2⟩ | ⟨g', cap, cur, e1, _, hh, e5, e6, e7, e8⟩
    · omega
    · cases e1; exact ⟨cur, hh, e7, e8⟩
  obtain ⟨x, hx⟩ : ∃ x, x = L.flatMap encC := ⟨_, rfl⟩
  have hxl : x.length = N * 4 := by rw [hx, encCs_len, hN]
  have h1x : ∀ u ∈ x, u.oneCell' = true := fun u hu => encCs_one L u (by rw [hx] at hu; exact hu)
  have hgl : g < w.heap.size := (Array.getElem?_eq_some_iff.1 hg).1
  have hvl : vb < w.heap.size := (Array.getElem?_eq_some_iff.1 hv).1
  have hlist : ∀ j u, x[j]? = some u → w.cell? ⟨g, j, none⟩ = some u := fun j u hj => by
    rw [row_cell hg, ← Array.getElem?_toList]
    rw [hx, ← hcur, List.getElem?_take] at hj
    split at hj
    · exact hj
    · cases hj
  have hA : (x.take (i * 4)).length = i * 4 := by rw [List.length_take]; omega
  have hD : (x.drop (i * 4)).length = (N - i) * 4 := by rw [List.length_drop]; omega
  obtain ⟨zs, rs, cap, hzl, hcap, hcm, hrl, hap⟩ := run_append_zeros cverEl (tn := 3) Tryz.underlying3 w 133 ⟨g, 0, none⟩ i N (N + 1 - i) (x.take (i * 4)) hA (fun j u hj => by
    rw [addr_add, Nat.zero_add]
    rw [List.getElem?_take] at hj
    split at hj
    · exact hlist j u hj
    · cases hj) (by omega) (by omega) (by omega)
  have eN : i + (N + 1 - i) = N + 1 := by omega
  have eI : ((N + 1 - i : Nat) : Int) = (N : Int) + 1 - (i : Int) := by omega
  rw [eN] at hcap hrl hap
  rw [eI] at hap
  obtain ⟨h, hh⟩ : ∃ h, h = w.heap.size := ⟨_, rfl⟩
  obtain ⟨c0, hc0⟩ : ∃ c0, c0 = x.take (i * 4) ++ zs ++ rs := ⟨_, rfl⟩
  obtain ⟨c1, hc1⟩ : ∃ c1, c1 = c0.take (i * 4) ++ encC V ++ c0.drop (i * 4 + (encC V).length) := ⟨_, rfl⟩
  obtain ⟨c2, hc2⟩ : ∃ c2, c2 = c1.take (i * 4 + 4) ++ x.drop (i * 4) ++ c1.drop (i * 4 + 4 + (x.drop (i * 4)).length) := ⟨_, rfl⟩
  obtain ⟨k1, k2, k3⟩ := ins_grow x (encC V) zs rs (i * 4) (N * 4) 4 hxl (by omega) rfl (by rw [hzl]; omega) c0 c1 c2 hc0 hc1 hc2
  have k0 : c0.length = cap * 4 := by rw [hc0]; simp only [List.length_append, hA, hzl, hrl]; omega
  obtain ⟨W0, hW0⟩ : ∃ W0, W0 = w.drew.alloc (.cells c0.toArray 136) := ⟨_, rfl⟩
  obtain ⟨W1, hW1⟩ : ∃ W1, W1 = W0.setRow h c1.toArray := ⟨_, rfl⟩
  obtain ⟨W2, hW2⟩ : ∃ W2, W2 = W1.drew.setRow h c2.toArray := ⟨_, rfl⟩
  rw [← hc0, ← hW0, ← hh] at hap
  have q0 : W0.heap[h]? = some (.cells c0.toArray 136 (0, 0)) := by rw [hW0, hh]; exact heap_alloc_new w.drew _
  have q1 : W1.heap[h]? = some (.cells c1.toArray 136 (0, 0)) := by rw [hW1]; exact setRow_heap W0 h _ _ 136 _ q0
  have q2 : W2.heap[h]? = some (.cells c2.toArray 136 (0, 0)) := by rw [hW2]; exact setRow_heap W1.drew h _ _ 136 _ q1
  have old0 : ∀ k, k < w.heap.size → W0.heap[k]? = w.heap[k]? := fun k hk => by rw [hW0]; exact heap_alloc_old w.drew _ hk
  have old1 : ∀ k, k < w.heap.size → W1.heap[k]? = w.heap[k]? := fun k hk => by rw [hW1]; exact (setRow_other W0 h k _ (by omega)).trans (old0 k hk)
  have old2 : ∀ k, k < w.heap.size → W2.heap[k]? = w.heap[k]? := fun k hk => by rw [hW2]; exact (setRow_other W1.drew h k _ (by omega)).trans (old1 k hk)
  have hcp1 : (Builtin.copy_ #[133, 133] 3 #[.slice (some ⟨h, i * 4, none⟩) (N + 1 - i) (cap - i), .slice (some ⟨vb, 0, none⟩) 1 1]).run Tryz.prog W0 = .ok (goInt 1) W1 := by
    have := run_copy_els cverEl W0 3 h (i * 4) (N + 1 - i) (cap - i) ⟨vb, 0, none⟩ 1 1 1 c0.toArray (encC V) q0 (by simp only [Nat.min_def]; split <;> omega) rfl (fun j u hj => by
      rw [addr_add, Nat.zero_add, row_cell ((old0 vb hvl).trans hv)]
      simpa using hj) (by rw [encC_len, List.size_toArray, k0]; omega) (encC_one V)
    rw [this, hW1, hc1]
    rfl
  have hcp2 : (Builtin.copy_ #[133, 133] 3 #[.slice (some ⟨h, (i + 1) * 4, none⟩) (N + 1 - (i + 1)) (cap - (i + 1)), .slice (some ⟨g, i * 4, none⟩) (N - i) (N - i)]).run Tryz.prog W1.drew = .ok (goInt ((N - i : Nat) : Int)) W2 := by
    have := run_copy_els cverEl W1.drew 3 h ((i + 1) * 4) (N + 1 - (i + 1)) (cap - (i + 1)) ⟨g, i * 4, none⟩ (N - i) (N - i) (N - i) c1.toArray (x.drop (i * 4)) q1 (by simp only [Nat.min_def]; split <;> omega) hD (fun j u hj => by
      rw [addr_add]
      show W1.cell? _ = _
      rw [World.cell?_of_block (w := w) (old1 g hgl)]
      exact hlist _ u (by rw [List.getElem?_drop] at hj; exact hj)) (by rw [hD, List.size_toArray, k3, hrl]; omega) (fun u hu => h1x u (List.mem_of_mem_drop hu))
    rw [this, hW2, hc2, show (i + 1) * 4 = i * 4 + 4 by omega]
  have HF : Hid (Insd w W2 (some ⟨g, 0, none⟩) (some ⟨h, 0, none⟩) N N cap (L.take i ++ V :: L.drop i)) := by
    rw [hx, ins_flat] at k1
    refine ⟨⟨?_, .inr ⟨h, cap, c2.toArray, rfl, Nat.zero_le _, q2, hcap, hcm, by rw [List.size_toArray, k2, hrl]; omega, by rw [show (N + 1) * 4 = N * 4 + 4 by omega]; exact k1⟩⟩, ?_, fun k hk => ?_⟩
    · rw [encCs_len]
      simp only [List.length_append, List.length_cons, List.length_take, List.length_drop, hN]
      omega
    · refine ⟨?_, ?_, ?_, ?_, fun k hk _ => old2 k hk⟩
      · rw [hW2, hW1, hW0]; rfl
      · rw [hW2, hW1, hW0]; rfl
      · rw [hW2, hW1, hW0]; rfl
      · rw [hW2, hW1, hW0]; simp
    · have e : h = k := by simpa [Value.ownBlock] using hk
      exact .inr (by omega)
  have hin : i ≤ N := by omega
  have hz2 : ¬ ((i : Int) = (N : Int)) := by omega
  have hb2 : ¬ (cap = i + 1) := by omega
  have hb4 : ¬ (N = i) := by omega
  have hb5 : ¬ (cap = i) := by omega
  have hc63 : cap ≤ 9223372036854775807 := by unfold maxLen at hcm; omega
  have hw1 : IntKind.i64.wrap ((i : Int) + 1) = (i : Int) + 1 := by rw [IntKind.wrap_i64]; omega
  have hb1 : (0 : Int) ≤ (i : Int) + 1 := by omega
  have htn : ((i : Int) + 1).toNat = i + 1 := by omega
  have hb3 : (i : Int) ≤ (N : Int) + 1 := by omega
  clear hlist hc0 hc1 hc2 hW0 hW1 hW2 hA hD hcur hrow hv hg hxl h1x hcs k0 k1 k2 k3 q0 q1 q2 old0 old1 old2 hzl hrl hx hgl hvl eN eI hh
  go_enter Tryz.func159, Tryz.ntmps159
  go_wp2_with (first | (at_builtin; refine Lib.wpList_append_run _ rfl _ _ 133 3 rfl _ _ rfl rfl _ _ hap ?_) | (at_builtin; refine wpList_copy_is _ rfl _ _ 133 133 rfl _ _ rfl rfl hcp1 ?_))
  go_region_law (refine step_copy_is rfl _ _ 133 133 rfl _ _ (by simp [Act.eval, Act.put]) (by simp [Act.eval, Act.put]) hcp2 ?_)
  go_wp2
  go_ret
  exact ⟨_, _, rfl, HF.out⟩
theorem cins_any (a : Option Addr) (c N i vb : Nat) (L : List Ver) (V : Ver) (w : World) (hN : L.length = N) (hi : i ≤ N) (hfew : N ≤ 1000) (hrow : w.ownsRow 0 136 4 (.slice a N c) N (L.flatMap encC)) (hv : w.heap[vb]? = some (.cells (encC V).toArray 136 (0, 0))) (hne : ∀ k, (Value.slice a N c).ownBlock = some k → vb ≠ k) :
    Calls Tryz.prog 159 #[.slice a N c, .int .i64 i, .slice (some ⟨vb, 0, none⟩) 1 1] w fun e w' => ∃ a' c', e = .returned (.slice a' (N + 1) c') ∧ Insd w w' a a' N c c' (L.take i ++ V :: L.drop i) := by
  by_cases hiN : i = N
  · subst hiN
    exact cins_end a c i vb L V w hN hfew hrow hv
  · rcases hrow.2 with ⟨e1, e2⟩ | ⟨g, cap, cur, e1, _, hh, e5, _⟩
    · omega
    · cases e1
      by_cases hc : N + 1 ≤ c
      · exact cins_room g c N i vb L V w hN (by omega) hc hfew hrow hv (hne g rfl)
      · obtain rfl : c = N := by omega
        exact cins_grow g c i vb L V w hN (by omega) hfew hrow hv
/-- What is left behind the first k. -/
structure Deld (w w' : World) (a : Option Addr) (N c k : Nat) (M : List Ver) : Prop where
  row : w'.ownsRow 0 136 4 (.slice a (N - k) c) (N - k) (M.flatMap encC)
  grown : w.grownBy w' (Value.slice a N c).ownBlock
set_option maxHeartbeats 4000000 in
set_option maxRecDepth 4000 in
theorem cdel_any (a : Option Addr) (c N k : Nat) (L : List Ver) (w : World) (hN : L.length = N) (hk : k ≤ N) (hfew : N ≤ 1000) (hrow : w.ownsRow 0 136 4 (.slice a N c) N (L.flatMap encC)) :
    Calls Tryz.prog 149 #[.slice a N c, .int .i64 0, .int .i64 k] w fun e w' => e = .returned (.slice a (N - k) c) ∧ Deld w w' a N c k (L.drop k) := by
  have hcap : N ≤ c ∧ c ≤ maxLen := by
    rcases hrow.2 with ⟨e1, e2⟩ | ⟨g, cap, cur, e1, _, _, e5, e6, _⟩
    · cases e1; exact ⟨by omega, Nat.zero_le _⟩
    · cases e1; exact ⟨e5, e6⟩
  have hc63 : c ≤ 9223372036854775807 := by have := hcap.2; unfold maxLen at this; omega
  have hNc := hcap.1
  by_cases h0 : k = 0
  · subst h0
    have HF : Hid (Deld w w a N c 0 (L.drop 0)) := ⟨by rw [List.drop_zero]; exact hrow, ⟨rfl, rfl, rfl, Nat.le_refl _, fun _ _ _ => rfl⟩⟩
    clear hrow hcap
    go_enter Tryz.func149, Tryz.ntmps149
    go_wp2
    all_goals (go_ret; exact ⟨rfl, HF.out⟩)
  · rcases hrow.2 with ⟨e1, e2⟩ | ⟨g, cap, cur, e1, _, hg, e5, hcm, hcs, hcur⟩
    · omega
    · cases e1
      obtain ⟨i0, z, hi, hz0, hz1, hz2, hz3⟩ := cverEl.info
      obtain ⟨x, hx⟩ : ∃ x, x = L.flatMap encC := ⟨_, rfl⟩
      have hxl : x.length = N * 4 := by rw [hx, encCs_len, hN]
      have h1x : ∀ u ∈ x, u.oneCell' = true := fun u hu => encCs_one L u (by rw [hx] at hu; exact hu)
      have hlist : ∀ j u, x[j]? = some u → w.drew.cell? ⟨g, j, none⟩ = some u := fun j u hj => by
        show w.cell? _ = _
        rw [row_cell hg, ← Array.getElem?_toList]
        rw [hx, ← hcur, List.getElem?_take] at hj
        split at hj
        · exact hj
        · cases hj
      have hD : (x.drop (k * 4)).length = (N - k) * 4 := by rw [List.length_drop]; omega
      obtain ⟨c1, hc1⟩ : ∃ c1, c1 = cur.toList.take 0 ++ x.drop (k * 4) ++ cur.toList.drop (0 + (x.drop (k * 4)).length) := ⟨_, rfl⟩
      obtain ⟨W1, hW1⟩ : ∃ W1, W1 = w.drew.setRow g c1.toArray := ⟨_, rfl⟩
      have hap : ∀ ad : Option Addr, (ad = some ⟨g, k * 4, none⟩ ∨ k = N ∧ ad = some ⟨g, 0, none⟩) → (Builtin.append_ #[133, 133] 133 #[.slice (some ⟨g, 0, none⟩) 0 c, .slice ad (N - k) (c - k)]).run Tryz.prog w.drew = .ok (.slice (some ⟨g, 0, none⟩) (N - k) c) W1 := fun ad had => by
        obtain ⟨sa, rfl, hsa⟩ : ∃ sa, ad = some sa ∧ ∀ j u, (x.drop (k * 4))[j]? = some u → w.drew.cell? (sa.add j) = some u := by
          rcases had with rfl | ⟨e, rfl⟩
          · exact ⟨_, rfl, fun j u hj => by rw [addr_add]; exact hlist _ u (by rw [List.getElem?_drop] at hj; exact hj)⟩
          · refine ⟨_, rfl, fun j u hj => ?_⟩
            rw [List.drop_eq_nil_of_le (by rw [hxl, e]; exact Nat.le_refl _)] at hj
            simp at hj
        have := run_append_room (P := Tryz.prog) w.drew 133 133 136 i0 cverEl.ht hi g 0 c cur hg sa (N - k) (c - k) (x.drop (k * 4)) (by rw [hz1]; exact hD) hsa (fun u hu => h1x u (List.mem_of_mem_drop hu)) (by omega) (by rw [hD, hcs]; omega)
        rw [this, hW1, hc1]
        simp
      have hl1 : c1.length = c * 4 := by rw [hc1]; simp only [List.length_append, List.length_take, List.length_drop, hD, Array.length_toList, hcs, Nat.zero_min]; omega
      have q1 : W1.heap[g]? = some (.cells c1.toArray 136 (0, 0)) := by rw [hW1]; exact setRow_heap w.drew g _ _ 136 _ hg
      obtain ⟨zs, hzl, hcl⟩ := run_clear_els cverEl cver_zero W1 0 g ((N - k) * 4) k (c - (N - k)) c1.toArray q1 (by omega) (by rw [List.size_toArray, hl1]; omega)
      obtain ⟨c2, hc2⟩ : ∃ c2, c2 = c1.take ((N - k) * 4) ++ zs ++ c1.drop ((N - k) * 4 + zs.length) := ⟨_, rfl⟩
      obtain ⟨W2, hW2⟩ : ∃ W2, W2 = W1.setRow g c2.toArray := ⟨_, rfl⟩
      obtain ⟨k1, k2, _⟩ := del_front cur.toList x zs (k * 4) (N * 4) (by rw [hx]; exact hcur) hxl (by omega) hzl (by rw [Array.length_toList, hcs]; omega) c1 c2 hc1 (by rw [hc2, show N * 4 - k * 4 = (N - k) * 4 by omega])
      have hcl2 : ∀ ty, (Builtin.clear_ #[133] ty #[.slice (some ⟨g, (N - k) * 4, none⟩) k (c - (N - k))]).run Tryz.prog W1 = .ok (.tuple #[]) W2 := fun ty => by
        rw [hW2, hc2]
        exact hcl
      have HF : Hid (Deld w W2 (some ⟨g, 0, none⟩) N c k (L.drop k)) := by
        refine ⟨⟨by rw [encCs_len, List.length_drop, hN], .inr ⟨g, c, c2.toArray, rfl, Nat.zero_le _, by rw [hW2]; exact setRow_heap W1 g _ _ 136 _ q1, by omega, hcm, by rw [List.size_toArray, k2, Array.length_toList]; exact hcs, ?_⟩⟩, ?_⟩
        · rw [show (N - k) * 4 = N * 4 - k * 4 by omega, ← encCs_drop, ← hx]
          exact k1
        · rw [hW2, hW1]
          exact ⟨rfl, rfl, rfl, by simp, fun j _ hj => (setRow_other _ g j _ (fun e => hj (by simp [Value.ownBlock, e]))).trans (setRow_other w.drew g j _ (fun e => hj (by simp [Value.ownBlock, e])))⟩
      have hz2 : ¬ ((0 : Int) = (k : Int)) := by omega
      have hb1 : (k : Int) ≤ (N : Int) := by omega
      have hb6 : ¬ (c = N - k) := by omega
      have hb7 : N - (N - k) = k := by omega
      have hb8 : N - k ≤ N := by omega
      clear hlist hc1 hc2 hW1 hW2 hD hcur hrow hg hxl h1x hcs hl1 k1 k2 q1 hzl hcl hx hcap
      by_cases hck : c = k
      · have ha := hap (some ⟨g, 0, none⟩) (.inr ⟨by omega, rfl⟩)
        clear hap
        obtain rfl : k = N := by omega
        obtain rfl : c = k := by omega
        have e0 : c - c = 0 := by omega
        rw [e0] at ha
        have hcl3 : ∀ ty, (Builtin.clear_ #[133] ty #[.slice (some ⟨g, 0, none⟩) c c]).run Tryz.prog W1 = .ok (.tuple #[]) W2 := fun ty => by
          have := hcl2 ty
          rw [e0, Nat.zero_mul, Nat.sub_zero] at this
          exact this
        have HF2 : Hid (Deld w W2 (some ⟨g, 0, none⟩) c c c (L.drop c)) := HF.out
        clear hcl2 e0
        go_enter Tryz.func149, Tryz.ntmps149
        go_wp2
        go_region_law (refine step_append_is rfl _ _ 133 133 rfl _ _ (by simp [Act.eval, Act.put]) (by simp [Act.eval, Act.put]) ha ?_)
        go_wp2_with (at_builtin; refine wpList_clear_is _ rfl _ 133 rfl _ rfl (hcl3 _) ?_)
        go_ret
        exact ⟨by rw [Nat.sub_self]; rfl, HF2.out⟩
      · have ha := hap (some ⟨g, k * 4, none⟩) (.inl rfl)
        clear hap
        go_enter Tryz.func149, Tryz.ntmps149
        go_wp2
        go_region_law (refine step_append_is rfl _ _ 133 133 rfl _ _ (by simp [Act.eval, Act.put]) (by simp [Act.eval, Act.put]) ha ?_)
        go_wp2_with (at_builtin; refine wpList_clear_is _ rfl _ 133 rfl _ rfl (hcl2 _) ?_)
        go_ret
        exact ⟨rfl, HF.out⟩
set_option maxHeartbeats 2000000 in
theorem cclone_any (a : Option Addr) (c N : Nat) (L : List Ver) (w : World) (hN : L.length = N) (hfew : N ≤ 1000) (hrow : w.ownsRow 0 136 4 (.slice a N c) N (L.flatMap encC)) :
    Calls Tryz.prog 154 #[.slice a N c] w fun e w' => (∃ a' c', e = .returned (.slice a' N c') ∧ w'.ownsRow w.heap.size 136 4 (.slice a' N c') N (L.flatMap encC)) ∧ Below w.heap.size w w' := by
  have q : ∀ (w : World) (a : Option Addr) (n c n' c' : Nat), (binOp .eql 133 (.slice a n c) (.slice none n' c')).run Tryz.prog w = .ok (.bool a.isNone) w := fun w a n c n' c' => Lib.run_eql_slice_nil w _ _ a n c n' c' Tryz.underlying133
  rcases hrow.2 with ⟨e1, e2⟩ | ⟨g, cap, cur, e1, _, hg, e5, hcm, hcs, hcur⟩
  · cases e1
    have hL := List.eq_nil_of_length_eq_zero (hN.trans e2)
    subst hL
    clear hrow hN
    go_enter Tryz.func154, Tryz.ntmps154
    go_wp2
    go_ret
    exact ⟨⟨none, 0, rfl, World.ownsRow_nil _ _ _ _⟩, Below.refl _ _⟩
  · cases e1
    have hs : Lies w (some ⟨g, 0, none⟩) (L.flatMap encC) := own_lies hrow
    have HS : Hid (Lies (w.alloc (.cells #[] 136)) (some ⟨g, 0, none⟩) (L.flatMap encC)) := hs.alloc ((Array.getElem?_eq_some_iff.1 hg).1) _
    have HO : Hid ((w.alloc (.cells #[] 136)).ownsRow w.heap.size 136 4 (.slice (some ⟨w.heap.size, 0, none⟩) 0 0) 0 []) := World.ownsRow_made w #[] 0 (Nat.le_refl _) (by unfold maxLen; omega) (by simp)
    have HB : Hid (Below w.heap.size w (w.alloc (.cells #[] 136))) := (Below.refl _ _).alloc (Nat.le_refl _) _
    have HL : Hid ((L.flatMap encC).length = N * 4) := by show _ = _; rw [encCs_len, hN]
    have HZ : Hid (0 + N = N) := Nat.zero_add N
    clear hs hrow hcur hcs hg hN
    go_enter Tryz.func154, Tryz.ntmps154
    go_wp2_with (at_builtin; refine wpList_append_els cverEl (w0 := w) rfl _ _ rfl HB.out _ 0 [] (L.flatMap encC) rfl HO.out _ N c rfl HL.out HS.out (encCs_one L) (fun h => by cases h) (by omega) ?_; intro a' c' w' h1 h2 h3; rw [HZ.out, List.nil_append] at h1; have H1 : Hid (w'.ownsRow w.heap.size 136 4 (.slice a' N c') N (L.flatMap encC)) := h1; have H3 : Hid (Below w.heap.size w w') := h3; clear h1 h2 h3; rw [HZ.out])
    go_wp2
    go_ret
    exact ⟨⟨a', c', rfl, H1.out⟩, H3.out⟩
end Go.Proofs.YtileidbdmpeciaaGreat
