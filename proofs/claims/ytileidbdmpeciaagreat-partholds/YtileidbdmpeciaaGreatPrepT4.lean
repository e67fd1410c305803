/-
  slices.Insert, Delete at the landed tables' lists of entries.
-/
import Derived.Test.YtileidbdmpeciaaGreatPrepT3
import Derived.Deep.RegionLaw
import Derived.Lib.AppendZeros
import Derived.Laws.Externs
import Derived.Lib.SliceRun
namespace Go.Proofs.YtileidbdmpeciaaGreat
open Go.RowKit
set_option linter.unusedVariables false

/-- copy whose run is known, as one step of a walk. -/
theorem wpList_copyP (w : World) {ops : Array Oper} {rest : List Oper} {o : Oper} {a : Act} {Q : Exit → Act → World → Prop} (hgd : o.guard = none) (d s : Operand) (t t' : TypeId)
    (ho : o.op = .call { callee := .builtin .copy, args := #[d, s], argTypes := #[t, t'] }) (v u : Value) (hd : a.eval d = v) (hs : a.eval s = u) {v' : Value} {w' : World}
    (hr : (Builtin.copy_ #[t, t'] o.type #[v, u]).run Tryz.prog w = .ok v' w') (h : wpList Tryz.prog ops Q rest (a.put o.dst v') w') : wpList Tryz.prog ops Q (o :: rest) a w := by
  refine wpList_plain hgd fun K hK => ?_
  unfold Oper.wp
  simp [execOp, ho, resolve, invoke, builtin, hd, hs, hr, Result.andThen]
  exact hK _ _ h
theorem step_copyP {ops : Array Oper} {o : Oper} {a : Act} {w : World} {K : Act → World → Prop} {Q : Exit → Act → World → Prop} {E : Prop} (hgd : o.guard = none) (d s : Operand) (t t' : TypeId)
    (ho : o.op = .call { callee := .builtin .copy, args := #[d, s], argTypes := #[t, t'] }) (v u : Value) (hd : a.eval d = v) (hs : a.eval s = u) {v' : Value} {w' : World}
    (hr : (Builtin.copy_ #[t, t'] o.type #[v, u]).run Tryz.prog w = .ok v' w') (h : K (a.put o.dst v') w') : if Region.wanted o (yielded ops a.tmps) = true then Oper.wp Tryz.prog o a w K Q else E := by
  have hw : Region.wanted o (yielded ops a.tmps) = true := by simp [Region.wanted, hgd]
  rw [if_pos hw]
  unfold Oper.wp
  simp [execOp, ho, resolve, invoke, builtin, hd, hs, hr, Result.andThen]
  exact h
theorem step_appendP {ops : Array Oper} {o : Oper} {a : Act} {w : World} {K : Act → World → Prop} {Q : Exit → Act → World → Prop} {E : Prop} (hgd : o.guard = none) (d s : Operand) (t t' : TypeId)
    (ho : o.op = .call { callee := .builtin .append, args := #[d, s], argTypes := #[t, t'] }) (v u : Value) (hd : a.eval d = v) (hs : a.eval s = u) {v' : Value} {w' : World}
    (hr : (Builtin.append_ #[t, t'] o.type #[v, u]).run Tryz.prog w = .ok v' w') (h : K (a.put o.dst v') w') : if Region.wanted o (yielded ops a.tmps) = true then Oper.wp Tryz.prog o a w K Q else E := by
  have hw : Region.wanted o (yielded ops a.tmps) = true := by simp [Region.wanted, hgd]
  rw [if_pos hw]
  unfold Oper.wp
  simp [execOp, ho, resolve, invoke, builtin, hd, hs, hr, Result.andThen]
  exact h
theorem wpList_clearP (w : World) {ops : Array Oper} {rest : List Oper} {o : Oper} {a : Act} {Q : Exit → Act → World → Prop} (hgd : o.guard = none) (s : Operand) (t : TypeId)
    (ho : o.op = .call { callee := .builtin .clear, args := #[s], argTypes := #[t] }) (u : Value) (hs : a.eval s = u) {v' : Value} {w' : World}
    (hr : (Builtin.clear_ #[t] o.type #[u]).run Tryz.prog w = .ok v' w') (h : wpList Tryz.prog ops Q rest (a.put o.dst v') w') : wpList Tryz.prog ops Q (o :: rest) a w := by
  refine wpList_plain hgd fun K hK => ?_
  unfold Oper.wp
  simp [execOp, ho, resolve, invoke, builtin, hs, hr, Result.andThen]
  exact hK _ _ h
theorem row_cellP {w : World} {g : Nat} {cur : Array Value} {e : TypeId} (hg : w.heap[g]? = some (.cells cur e (0, 0))) (j : Nat) : w.cell? ⟨g, j, none⟩ = cur[j]? := by simp [World.cell?, hg]
/-- What an insertion leaves. -/
structure InsP (w w' : World) (a a' : Option Addr) (N c c' : Nat) (M : List EntM) : Prop where
  row : w'.ownsRow 0 31 6 (.slice a' (N + 1) c') (N + 1) (M.flatMap encE)
  grown : w.grownBy w' (Value.slice a N c).ownBlock
  blk : ∀ k, (Value.slice a' (N + 1) c').ownBlock = some k → (Value.slice a N c).ownBlock = some k ∨ w.heap.size ≤ k
theorem ins_flatP (L : List EntM) (V : EntM) (i : Nat) : (L.flatMap encE).take (i * 6) ++ encE V ++ (L.flatMap encE).drop (i * 6) = (L.take i ++ V :: L.drop i).flatMap encE := by
  rw [encEs_take, encEs_drop, List.flatMap_append, List.flatMap_cons, List.append_assoc]
set_option maxHeartbeats 4000000 in
set_option maxRecDepth 4000 in
theorem pins_end (a : Option Addr) (c N vb : Nat) (L : List EntM) (V : EntM) (w : World) (hN : L.length = N) (hfew : N ≤ 1000) (hrow : w.ownsRow 0 31 6 (.slice a N c) N (L.flatMap encE)) (hv : w.heap[vb]? = some (.cells (encE V).toArray 31 (0, 0))) :
    Calls Tryz.prog 91 #[.slice a N c, .int .i64 N, .slice (some ⟨vb, 0, none⟩) 1 1] w fun e w' => ∃ a' c', e = .returned (.slice a' (N + 1) c') ∧ InsP w w' a a' N c c' (L.take N ++ V :: L.drop N) := by
  obtain ⟨i0, z, hi, hz0, hz1, hz2, hz3⟩ := pentEl.info
  have hnews : ∀ j u, (encE V)[j]? = some u → w.cell? ((⟨vb, 0, none⟩ : Addr).add j) = some u := fun j u hj => by
    rw [addr_add, row_cellP hv, Nat.zero_add]; simpa using hj
  obtain ⟨v', w', hrun, h1, h2, _, h4⟩ := run_append_own_at (P := Tryz.prog) w 0 107 107 31 i0 z 6 64 pentEl.ht hi hz0 hz1 hz2 hz3 (by decide) _ N _ hrow ⟨vb, 0, none⟩ 1 1 (encE V) rfl hnews (encE_one V) (by unfold maxLen; omega) (by omega) (Nat.zero_le _)
  obtain ⟨a', c', rfl⟩ := own_form h1
  have HF : Hid (InsP w w' a a' N c c' (L.take N ++ V :: L.drop N)) := by
    refine ⟨?_, h2, fun k hk => ?_⟩
    · have e := ins_flatP L V N
      rw [List.take_of_length_le (by rw [encEs_len, hN]; exact Nat.le_refl _), List.drop_eq_nil_of_le (by rw [encEs_len, hN]; exact Nat.le_refl _), List.append_nil] at e
      rw [← e]
      exact h1
    · rcases h4 with h | h
      · rw [h] at hk; exact .inl hk
      · rw [h] at hk; injection hk with hk; exact .inr (by omega)
  have hcap : N ≤ c := by
    rcases hrow.2 with ⟨e1, e2⟩ | ⟨g, cap, cur, e1, _, _, e5, _⟩
    · omega
    · cases e1; exact e5
  clear h1 h2 h4 hnews hv hrow
  by_cases hcN : c = N
  · subst hcN
    go_enter Tryz.func91, Tryz.ntmps91
    go_wp2_with (at_builtin; refine Lib.wpList_append_run _ rfl _ _ _ _ rfl _ _ rfl rfl _ _ hrun ?_)
    go_ret
    exact ⟨a', c', rfl, HF.out⟩
  · go_enter Tryz.func91, Tryz.ntmps91
    go_wp2_with (at_builtin; refine Lib.wpList_append_run _ rfl _ _ _ _ rfl _ _ rfl rfl _ _ hrun ?_)
    go_ret
    exact ⟨a', c', rfl, HF.out⟩
/-- A block of one entry is apart from a list in another block. -/
theorem run_overlaps_noP (w : World) (g o lb cb vb : Nat) (V : EntM) (cur : Array Value) (hne : vb ≠ g) (hv : w.heap[vb]? = some (.cells (encE V).toArray 31 (0, 0))) (hg : w.heap[g]? = some (.cells cur 31 (0, 0))) (hc : cur.size ≠ 0) :
    (callFunc 129 #[.slice (some ⟨vb, 0, none⟩) 1 1, .slice (some ⟨g, o, none⟩) lb cb]).run Tryz.prog w = .ok (.value (.bool false)) w := by
  rw [run_callFunc_extern Tryz.func129 (by kernel_rfl) (by kernel_rfl) (by kernel_rfl) (e := Extern.SlicesOverlaps.overlaps #[107, 107] #[4]) (by kernel_rfl),
    Lib.run_overlaps_apart w 107 4 31 Tryz.underlying107 6 Tryz.sizeOf31 ⟨vb, 0, none⟩ ⟨g, o, none⟩ 1 1 lb cb hne 31 31 6 cur.size (by unfold World.shape?; rw [hv]; rfl) (by unfold World.shape?; rw [hg]) hc (by simp [World.frozen?, hv]) (by simp [World.frozen?, hv])]
  rfl
set_option maxHeartbeats 4000000 in
set_option maxRecDepth 4000 in
theorem pins_room (g c N i vb : Nat) (L : List EntM) (V : EntM) (w : World) (hN : L.length = N) (hi : i < N) (hc : N + 1 ≤ c) (hfew : N ≤ 1000) (hrow : w.ownsRow 0 31 6 (.slice (some ⟨g, 0, none⟩) N c) N (L.flatMap encE)) (hv : w.heap[vb]? = some (.cells (encE V).toArray 31 (0, 0))) (hne : vb ≠ g) :
    Calls Tryz.prog 91 #[.slice (some ⟨g, 0, none⟩) N c, .int .i64 i, .slice (some ⟨vb, 0, none⟩) 1 1] w fun e w' => ∃ a' c', e = .returned (.slice a' (N + 1) c') ∧ InsP w w' (some ⟨g, 0, none⟩) a' N c c' (L.take i ++ V :: L.drop i) := by
  obtain ⟨cur, hg, hcm, hcs, hcur⟩ : ∃ cur, w.heap[g]? = some (.cells cur 31 (0, 0)) ∧ c ≤ maxLen ∧ cur.size = c * 6 ∧ cur.toList.take (N * 6) = L.flatMap encE := by
    rcases hrow.2 with ⟨e1, e2⟩ | ⟨g', cap, cur, e1, _, hh, e5, e6, e7, e8⟩
    · omega
    · cases e1; exact ⟨cur, hh, e6, e7, e8⟩
  obtain ⟨D, hD⟩ : ∃ D, D = (L.flatMap encE).drop (i * 6) := ⟨_, rfl⟩
  have hDl : D.length = (N - i) * 6 := by rw [hD, List.length_drop, encEs_len, hN]; omega
  have h1D : ∀ u ∈ D, u.oneCell' = true := fun u hu => encEs_one L u (by rw [hD] at hu; exact List.mem_of_mem_drop hu)
  have hlist : ∀ j u, (L.flatMap encE)[j]? = some u → w.cell? ⟨g, j, none⟩ = some u := fun j u hj => by
    rw [row_cellP hg, ← Array.getElem?_toList]
    rw [← hcur] at hj
    rw [List.getElem?_take] at hj
    split at hj
    · exact hj
    · cases hj
  obtain ⟨W1, hW1⟩ : ∃ W1, W1 = w.drew.setRow g (cur.toList.take ((i + 1) * 6) ++ D ++ cur.toList.drop ((i + 1) * 6 + D.length)).toArray := ⟨_, rfl⟩
  have hcp1 : (Builtin.copy_ #[107, 107] 3 #[.slice (some ⟨g, (i + 1) * 6, none⟩) (N + 1 - (i + 1)) (c - (i + 1)), .slice (some ⟨g, i * 6, none⟩) (N + 1 - i) (c - i)]).run Tryz.prog w.drew = .ok (goInt ((N - i : Nat) : Int)) W1 := by
    rw [hW1]
    exact run_copy_els pentEl w.drew 3 g ((i + 1) * 6) (N + 1 - (i + 1)) (c - (i + 1)) ⟨g, i * 6, none⟩ (N + 1 - i) (c - i) (N - i) cur D hg (by simp only [Nat.min_def]; split <;> omega) hDl (fun j u hj => by
      rw [addr_add]
      exact hlist _ u (by rw [hD, List.getElem?_drop] at hj; exact hj)) (by rw [hDl, hcs]; omega) h1D
  have hg1 : W1.heap[g]? = some (.cells (cur.toList.take ((i + 1) * 6) ++ D ++ cur.toList.drop ((i + 1) * 6 + D.length)).toArray 31 (0, 0)) := by
    rw [hW1]; exact setRow_heap w.drew g cur _ 31 _ hg
  have hv1 : W1.heap[vb]? = some (.cells (encE V).toArray 31 (0, 0)) := by
    rw [hW1]; exact (setRow_other w.drew g vb _ hne).trans hv
  obtain ⟨c1, hc1⟩ : ∃ c1, c1 = cur.toList.take ((i + 1) * 6) ++ D ++ cur.toList.drop ((i + 1) * 6 + D.length) := ⟨_, rfl⟩
  rw [← hc1] at hg1
  obtain ⟨c2, hc2⟩ : ∃ c2, c2 = c1.take (i * 6) ++ encE V ++ c1.drop (i * 6 + (encE V).length) := ⟨_, rfl⟩
  obtain ⟨W2, hW2⟩ : ∃ W2, W2 = W1.setRow g c2.toArray := ⟨_, rfl⟩
  have hlen1 : c1.length = cur.size := by
    rw [hc1]
    simp only [List.length_append, List.length_take, List.length_drop, hDl, Array.length_toList, hcs]
    omega
  have hcp2 : (Builtin.copy_ #[107, 107] 3 #[.slice (some ⟨g, i * 6, none⟩) (N + 1 - i) (c - i), .slice (some ⟨vb, 0, none⟩) 1 1]).run Tryz.prog W1 = .ok (goInt 1) W2 := by
    have := run_copy_els pentEl W1 3 g (i * 6) (N + 1 - i) (c - i) ⟨vb, 0, none⟩ 1 1 1 c1.toArray (encE V) hg1 (by simp only [Nat.min_def]; split <;> omega) rfl (fun j u hj => by
      rw [addr_add, Nat.zero_add, row_cellP hv1]
      simpa using hj) (by rw [encE_len, List.size_toArray, hlen1, hcs]; omega) (encE_one V)
    rw [this, hW2, hc2]
    rfl
  have HF : Hid (InsP w W2 (some ⟨g, 0, none⟩) (some ⟨g, 0, none⟩) N c c (L.take i ++ V :: L.drop i)) := by
    obtain ⟨k1, k2⟩ := ins_room cur.toList (encE V) (L.flatMap encE) (i * 6) (N * 6) 6 hcur (by rw [encEs_len, hN]) (by omega) rfl (by rw [Array.length_toList, hcs]; omega) c1 c2 (by rw [hc1, hD, show (i + 1) * 6 = i * 6 + 6 by omega]) hc2
    rw [ins_flatP] at k1
    refine ⟨⟨?_, .inr ⟨g, c, c2.toArray, rfl, Nat.zero_le _, by rw [hW2]; exact setRow_heap W1 g _ _ 31 _ hg1, hc, hcm, by rw [List.size_toArray, k2, Array.length_toList]; exact hcs, by rw [show (N + 1) * 6 = N * 6 + 6 by omega]; exact k1⟩⟩, ?_, fun k hk => .inl hk⟩
    · rw [encEs_len]
      simp only [List.length_append, List.length_cons, List.length_take, List.length_drop, hN]
      omega
    · rw [hW2, hW1]
      exact ⟨rfl, rfl, rfl, by simp, fun k _ hk => (setRow_other _ g k _ (fun e => hk (by simp [Value.ownBlock, e]))).trans (setRow_other w.drew g k _ (fun e => hk (by simp [Value.ownBlock, e])))⟩
  have hov : ∀ o lb cb, (callFunc 129 #[.slice (some ⟨vb, 0, none⟩) 1 1, .slice (some ⟨g, o, none⟩) lb cb]).run Tryz.prog w = .ok (.value (.bool false)) w := fun o lb cb => run_overlaps_noP w g o lb cb vb V cur hne hv hg (by rw [hcs]; omega)
  have hin : i ≤ N := by omega
  have hz2 : ¬ ((i : Int) = (N : Int)) := by omega
  have hb2 : ¬ (c = i + 1) := by omega
  have hb4 : ¬ (c = i) := by omega
  have hc63 : c ≤ 9223372036854775807 := by unfold maxLen at hcm; omega
  have hw1 : IntKind.i64.wrap ((i : Int) + 1) = (i : Int) + 1 := by rw [IntKind.wrap_i64]; omega
  have hb1 : (0 : Int) ≤ (i : Int) + 1 := by omega
  have htn : ((i : Int) + 1).toNat = i + 1 := by omega
  have hb3 : (i : Int) ≤ (N : Int) + 1 := by omega
  clear hlist hc1 hc2 hW1 hW2 hlen1 hD hcur hrow hv1 hg1 hv hg hDl h1D hcs
  go_enter Tryz.func91, Tryz.ntmps91
  go_wp2_with (simp only [hov])
  go_region_law (refine step_copyP rfl _ _ 107 107 rfl _ _ (by simp [Act.eval, Act.put]) (by simp [Act.eval, Act.put]) hcp1 ?_)
  go_wp2_with (at_builtin; refine wpList_copyP _ rfl _ _ 107 107 rfl _ _ rfl rfl hcp2 ?_)
  go_ret
  exact ⟨_, _, rfl, HF.out⟩
set_option maxHeartbeats 4000000 in
set_option maxRecDepth 4000 in
theorem pins_grow (g N i vb : Nat) (L : List EntM) (V : EntM) (w : World) (hN : L.length = N) (hi : i < N) (hfew : N ≤ 1000) (hrow : w.ownsRow 0 31 6 (.slice (some ⟨g, 0, none⟩) N N) N (L.flatMap encE)) (hv : w.heap[vb]? = some (.cells (encE V).toArray 31 (0, 0))) :
    Calls Tryz.prog 91 #[.slice (some ⟨g, 0, none⟩) N N, .int .i64 i, .slice (some ⟨vb, 0, none⟩) 1 1] w fun e w' => ∃ a' c', e = .returned (.slice a' (N + 1) c') ∧ InsP w w' (some ⟨g, 0, none⟩) a' N N c' (L.take i ++ V :: L.drop i) := by
  obtain ⟨cur, hg, hcs, hcur⟩ : ∃ cur, w.heap[g]? = some (.cells cur 31 (0, 0)) ∧ cur.size = N * 6 ∧ cur.toList.take (N * 6) = L.flatMap encE := by
    rcases hrow.2 with ⟨e1, e2⟩ | ⟨g', cap, cur, e1, _, hh, e5, e6, e7, e8⟩
    · omega
    · cases e1; exact ⟨cur, hh, e7, e8⟩
  obtain ⟨x, hx⟩ : ∃ x, x = L.flatMap encE := ⟨_, rfl⟩
  have hxl : x.length = N * 6 := by rw [hx, encEs_len, hN]
  have h1x : ∀ u ∈ x, u.oneCell' = true := fun u hu => encEs_one L u (by rw [hx] at hu; exact hu)
  have hgl : g < w.heap.size := (Array.getElem?_eq_some_iff.1 hg).1
  have hvl : vb < w.heap.size := (Array.getElem?_eq_some_iff.1 hv).1
  have hlist : ∀ j u, x[j]? = some u → w.cell? ⟨g, j, none⟩ = some u := fun j u hj => by
    rw [row_cellP hg, ← Array.getElem?_toList]
    rw [hx, ← hcur, List.getElem?_take] at hj
    split at hj
    · exact hj
    · cases hj
  have hA : (x.take (i * 6)).length = i * 6 := by rw [List.length_take]; omega
  have hD : (x.drop (i * 6)).length = (N - i) * 6 := by rw [List.length_drop]; omega
  obtain ⟨zs, rs, cap, hzl, hcap, hcm, hrl, hap⟩ := run_append_zeros pentEl (tn := 3) Tryz.underlying3 w 107 ⟨g, 0, none⟩ i N (N + 1 - i) (x.take (i * 6)) hA (fun j u hj => by
    rw [addr_add, Nat.zero_add]
    rw [List.getElem?_take] at hj
    split at hj
    · exact hlist j u hj
    · cases hj) (by omega) (by omega) (by omega)
  have eN : i + (N + 1 - i) = N + 1 := by omega
  have eI : ((N + 1 - i : Nat) : Int) = (N : Int) + 1 - (i : Int) := by omega
  rw [eN] at hcap hrl hap
  rw [eI] at hap
  obtain ⟨h, hh⟩ : ∃ h, h = w.heap.size := ⟨_, rfl⟩
  obtain ⟨c0, hc0⟩ : ∃ c0, c0 = x.take (i * 6) ++ zs ++ rs := ⟨_, rfl⟩
  obtain ⟨c1, hc1⟩ : ∃ c1, c1 = c0.take (i * 6) ++ encE V ++ c0.drop (i * 6 + (encE V).length) := ⟨_, rfl⟩
  obtain ⟨c2, hc2⟩ : ∃ c2, c2 = c1.take (i * 6 + 6) ++ x.drop (i * 6) ++ c1.drop (i * 6 + 6 + (x.drop (i * 6)).length) := ⟨_, rfl⟩
  obtain ⟨k1, k2, k3⟩ := ins_grow x (encE V) zs rs (i * 6) (N * 6) 6 hxl (by omega) rfl (by rw [hzl]; omega) c0 c1 c2 hc0 hc1 hc2
  have k0 : c0.length = cap * 6 := by rw [hc0]; simp only [List.length_append, hA, hzl, hrl]; omega
  obtain ⟨W0, hW0⟩ : ∃ W0, W0 = w.drew.alloc (.cells c0.toArray 31) := ⟨_, rfl⟩
  obtain ⟨W1, hW1⟩ : ∃ W1, W1 = W0.setRow h c1.toArray := ⟨_, rfl⟩
  obtain ⟨W2, hW2⟩ : ∃ W2, W2 = W1.drew.setRow h c2.toArray := ⟨_, rfl⟩
  rw [← hc0, ← hW0, ← hh] at hap
  have q0 : W0.heap[h]? = some (.cells c0.toArray 31 (0, 0)) := by rw [hW0, hh]; exact heap_alloc_new w.drew _
  have q1 : W1.heap[h]? = some (.cells c1.toArray 31 (0, 0)) := by rw [hW1]; exact setRow_heap W0 h _ _ 31 _ q0
  have q2 : W2.heap[h]? = some (.cells c2.toArray 31 (0, 0)) := by rw [hW2]; exact setRow_heap W1.drew h _ _ 31 _ q1
  have old0 : ∀ k, k < w.heap.size → W0.heap[k]? = w.heap[k]? := fun k hk => by rw [hW0]; exact heap_alloc_old w.drew _ hk
  have old1 : ∀ k, k < w.heap.size → W1.heap[k]? = w.heap[k]? := fun k hk => by rw [hW1]; exact (setRow_other W0 h k _ (by omega)).trans (old0 k hk)
  have old2 : ∀ k, k < w.heap.size → W2.heap[k]? = w.heap[k]? := fun k hk => by rw [hW2]; exact (setRow_other W1.drew h k _ (by omega)).trans (old1 k hk)
  have hcp1 : (Builtin.copy_ #[107, 107] 3 #[.slice (some ⟨h, i * 6, none⟩) (N + 1 - i) (cap - i), .slice (some ⟨vb, 0, none⟩) 1 1]).run Tryz.prog W0 = .ok (goInt 1) W1 := by
    have := run_copy_els pentEl W0 3 h (i * 6) (N + 1 - i) (cap - i) ⟨vb, 0, none⟩ 1 1 1 c0.toArray (encE V) q0 (by simp only [Nat.min_def]; split <;> omega) rfl (fun j u hj => by
      rw [addr_add, Nat.zero_add, row_cellP ((old0 vb hvl).trans hv)]
      simpa using hj) (by rw [encE_len, List.size_toArray, k0]; omega) (encE_one V)
    rw [this, hW1, hc1]
    rfl
  have hcp2 : (Builtin.copy_ #[107, 107] 3 #[.slice (some ⟨h, (i + 1) * 6, none⟩) (N + 1 - (i + 1)) (cap - (i + 1)), .slice (some ⟨g, i * 6, none⟩) (N - i) (N - i)]).run Tryz.prog W1.drew = .ok (goInt ((N - i : Nat) : Int)) W2 := by
    have := run_copy_els pentEl W1.drew 3 h ((i + 1) * 6) (N + 1 - (i + 1)) (cap - (i + 1)) ⟨g, i * 6, none⟩ (N - i) (N - i) (N - i) c1.toArray (x.drop (i * 6)) q1 (by simp only [Nat.min_def]; split <;> omega) hD (fun j u hj => by
      rw [addr_add]
      show W1.cell? _ = _
      rw [World.cell?_of_block (w := w) (old1 g hgl)]
      exact hlist _ u (by rw [List.getElem?_drop] at hj; exact hj)) (by rw [hD, List.size_toArray, k3, hrl]; omega) (fun u hu => h1x u (List.mem_of_mem_drop hu))
    rw [this, hW2, hc2, show (i + 1) * 6 = i * 6 + 6 by omega]
  have HF : Hid (InsP w W2 (some ⟨g, 0, none⟩) (some ⟨h, 0, none⟩) N N cap (L.take i ++ V :: L.drop i)) := by
    rw [hx, ins_flatP] at k1
    refine ⟨⟨?_, .inr ⟨h, cap, c2.toArray, rfl, Nat.zero_le _, q2, hcap, hcm, by rw [List.size_toArray, k2, hrl]; omega, by rw [show (N + 1) * 6 = N * 6 + 6 by omega]; exact k1⟩⟩, ?_, fun k hk => ?_⟩
    · rw [encEs_len]
      simp only [List.length_append, List.length_cons, List.length_take, List.length_drop, hN]
      omega
    · refine ⟨?_, ?_, ?_, ?_, fun k hk _ => old2 k hk⟩
      · rw [hW2, hW1, hW0]; rfl
      · rw [hW2, hW1, hW0]; rfl
      · rw [hW2, hW1, hW0]; rfl
      · rw [hW2, hW1, hW0]; simp
    · have e : h = k := by simpa [Value.ownBlock] using hk
      exact .inr (by omega)
  have hin : i ≤ N := by omega
  have hz2 : ¬ ((i : Int) = (N : Int)) := by omega
  have hb2 : ¬ (cap = i + 1) := by omega
  have hb4 : ¬ (N = i) := by omega
  have hb5 : ¬ (cap = i) := by omega
  have hc63 : cap ≤ 9223372036854775807 := by unfold maxLen at hcm; omega
  have hw1 : IntKind.i64.wrap ((i : Int) + 1) = (i : Int) + 1 := by rw [IntKind.wrap_i64]; omega
  have hb1 : (0 : Int) ≤ (i : Int) + 1 := by omega
  have htn : ((i : Int) + 1).toNat = i + 1 := by omega
  have hb3 : (i : Int) ≤ (N : Int) + 1 := by omega
  clear hlist hc0 hc1 hc2 hW0 hW1 hW2 hA hD hcur hrow hv hg hxl h1x hcs k0 k1 k2 k3 q0 q1 q2 old0 old1 old2 hzl hrl hx hgl hvl eN eI hh
  go_enter Tryz.func91, Tryz.ntmps91
  go_wp2_with (first | (at_builtin; refine Lib.wpList_append_run _ rfl _ _ 107 3 rfl _ _ rfl rfl _ _ hap ?_) | (at_builtin; refine wpList_copyP _ rfl _ _ 107 107 rfl _ _ rfl rfl hcp1 ?_))
  go_region_law (refine step_copyP rfl _ _ 107 107 rfl _ _ (by simp [Act.eval, Act.put]) (by simp [Act.eval, Act.put]) hcp2 ?_)
  go_wp2
  go_ret
  exact ⟨_, _, rfl, HF.out⟩
theorem pins_any (a : Option Addr) (c N i vb : Nat) (L : List EntM) (V : EntM) (w : World) (hN : L.length = N) (hi : i ≤ N) (hfew : N ≤ 1000) (hrow : w.ownsRow 0 31 6 (.slice a N c) N (L.flatMap encE)) (hv : w.heap[vb]? = some (.cells (encE V).toArray 31 (0, 0))) (hne : ∀ k, (Value.slice a N c).ownBlock = some k → vb ≠ k) :
    Calls Tryz.prog 91 #[.slice a N c, .int .i64 i, .slice (some ⟨vb, 0, none⟩) 1 1] w fun e w' => ∃ a' c', e = .returned (.slice a' (N + 1) c') ∧ InsP w w' a a' N c c' (L.take i ++ V :: L.drop i) := by
  by_cases hiN : i = N
  · subst hiN
    exact pins_end a c i vb L V w hN hfew hrow hv
  · rcases hrow.2 with ⟨e1, e2⟩ | ⟨g, cap, cur, e1, _, hh, e5, _⟩
    · omega
    · cases e1
      by_cases hc : N + 1 ≤ c
      · exact pins_room g c N i vb L V w hN (by omega) hc hfew hrow hv (hne g rfl)
      · obtain rfl : c = N := by omega
        exact pins_grow g c i vb L V w hN (by omega) hfew hrow hv
/-- One goes: what is behind it moves down, zeros behind the last. -/
theorem del_one {α : Type} (cur x z : List α) (k n s : Nat) (hx : cur.take n = x) (hn : x.length = n) (hk : k + s ≤ n) (hz : z.length = s) (hfit : n ≤ cur.length) (c1 c2 : List α)
    (h1 : c1 = cur.take k ++ x.drop (k + s) ++ cur.drop (k + (x.drop (k + s)).length)) (h2 : c2 = c1.take (n - s) ++ z ++ c1.drop (n - s + z.length)) :
    c2.take (n - s) = x.take k ++ x.drop (k + s) ∧ c2.length = cur.length ∧ c1.length = cur.length := by
  have hd : (x.drop (k + s)).length = n - (k + s) := by rw [List.length_drop, hn]
  have ek : cur.take k = x.take k := by rw [← hx, List.take_take]; congr 1; omega
  have hl1 : (x.take k).length = k := by rw [List.length_take]; omega
  have l1 : c1.length = cur.length := by rw [h1, ek]; simp only [List.length_append, hl1, hd, List.length_drop]; omega
  have e1 : c1.take (n - s) = x.take k ++ x.drop (k + s) := by
    rw [h1, ek]
    have : (x.take k ++ x.drop (k + s)).length = n - s := by simp only [List.length_append, hl1, hd]; omega
    rw [← this]
    exact List.take_left
  refine ⟨?_, ?_, l1⟩
  · rw [h2, e1, List.append_assoc]
    have : (x.take k ++ x.drop (k + s)).length = n - s := by simp only [List.length_append, hl1, hd]; omega
    rw [← this]
    exact List.take_left
  · rw [h2, e1]
    simp only [List.length_append, hl1, hd, hz, List.length_drop, l1]
    omega
/-- What is left behind one that went. -/
structure DelP (w w' : World) (a : Option Addr) (N c : Nat) (M : List EntM) : Prop where
  row : w'.ownsRow 0 31 6 (.slice a (N - 1) c) (N - 1) (M.flatMap encE)
  grown : w.grownBy w' (Value.slice a N c).ownBlock
theorem del_flatP (L : List EntM) (i : Nat) : (L.flatMap encE).take (i * 6) ++ (L.flatMap encE).drop (i * 6 + 6) = (L.take i ++ L.drop (i + 1)).flatMap encE := by
  rw [show i * 6 + 6 = (i + 1) * 6 by omega, encEs_take, encEs_drop, List.flatMap_append]
set_option maxHeartbeats 4000000 in
set_option maxRecDepth 4000 in
theorem pdel_any (a : Option Addr) (c N i : Nat) (L : List EntM) (w : World) (hN : L.length = N) (hi : i < N) (hfew : N ≤ 1000) (hrow : w.ownsRow 0 31 6 (.slice a N c) N (L.flatMap encE)) :
    Calls Tryz.prog 139 #[.slice a N c, .int .i64 i, .int .i64 ((i : Int) + 1)] w fun e w' => e = .returned (.slice a (N - 1) c) ∧ DelP w w' a N c (L.take i ++ L.drop (i + 1)) := by
  rcases hrow.2 with ⟨e1, e2⟩ | ⟨g, cap, cur, e1, _, hg, e5, hcm, hcs, hcur⟩
  · omega
  · cases e1
    have hc63 : c ≤ 9223372036854775807 := by unfold maxLen at hcm; omega
    obtain ⟨i0, z, hi0, hz0, hz1, hz2, hz3⟩ := pentEl.info
    obtain ⟨x, hx⟩ : ∃ x, x = L.flatMap encE := ⟨_, rfl⟩
    have hxl : x.length = N * 6 := by rw [hx, encEs_len, hN]
    have h1x : ∀ u ∈ x, u.oneCell' = true := fun u hu => encEs_one L u (by rw [hx] at hu; exact hu)
    have hlist : ∀ j u, x[j]? = some u → w.drew.cell? ⟨g, j, none⟩ = some u := fun j u hj => by
      show w.cell? _ = _
      rw [row_cellP hg, ← Array.getElem?_toList]
      rw [hx, ← hcur, List.getElem?_take] at hj
      split at hj
      · exact hj
      · cases hj
    have hD : (x.drop (i * 6 + 6)).length = (N - (i + 1)) * 6 := by rw [List.length_drop]; omega
    obtain ⟨c1, hc1⟩ : ∃ c1, c1 = cur.toList.take (i * 6) ++ x.drop (i * 6 + 6) ++ cur.toList.drop (i * 6 + (x.drop (i * 6 + 6)).length) := ⟨_, rfl⟩
    obtain ⟨W1, hW1⟩ : ∃ W1, W1 = w.drew.setRow g c1.toArray := ⟨_, rfl⟩
    have hap : ∀ ad : Option Addr, (ad = some ⟨g, (i + 1) * 6, none⟩ ∨ i + 1 = N ∧ ad = some ⟨g, 0, none⟩) → (Builtin.append_ #[107, 107] 107 #[.slice (some ⟨g, 0, none⟩) i c, .slice ad (N - (i + 1)) (c - (i + 1))]).run Tryz.prog w.drew = .ok (.slice (some ⟨g, 0, none⟩) (N - 1) c) W1 := fun ad had => by
      obtain ⟨sa, rfl, hsa⟩ : ∃ sa, ad = some sa ∧ ∀ j u, (x.drop (i * 6 + 6))[j]? = some u → w.drew.cell? (sa.add j) = some u := by
        rcases had with rfl | ⟨e, rfl⟩
        · exact ⟨_, rfl, fun j u hj => by rw [addr_add]; exact hlist _ u (by rw [List.getElem?_drop] at hj; rw [show (i + 1) * 6 + j = i * 6 + 6 + j by omega]; exact hj)⟩
        · refine ⟨_, rfl, fun j u hj => ?_⟩
          rw [List.drop_eq_nil_of_le (by rw [hxl]; omega)] at hj
          simp at hj
      have := run_append_room (P := Tryz.prog) w.drew 107 107 31 i0 pentEl.ht hi0 g i c cur hg sa (N - (i + 1)) (c - (i + 1)) (x.drop (i * 6 + 6)) (by rw [hz1]; exact hD) hsa (fun u hu => h1x u (List.mem_of_mem_drop hu)) (by omega) (by rw [hz1, hD, hcs]; omega)
      rw [this, hW1, hc1, hz1, show i + (N - (i + 1)) = N - 1 by omega]
    have hl1 : c1.length = c * 6 := by rw [hc1]; simp only [List.length_append, List.length_take, List.length_drop, hD, Array.length_toList, hcs]; omega
    have q1 : W1.heap[g]? = some (.cells c1.toArray 31 (0, 0)) := by rw [hW1]; exact setRow_heap w.drew g _ _ 31 _ hg
    obtain ⟨zs, hzl, hcl⟩ := run_clear_els pentEl pent_zero W1 0 g ((N - 1) * 6) 1 (c - (N - 1)) c1.toArray q1 (by omega) (by rw [List.size_toArray, hl1]; omega)
    obtain ⟨c2, hc2⟩ : ∃ c2, c2 = c1.take ((N - 1) * 6) ++ zs ++ c1.drop ((N - 1) * 6 + zs.length) := ⟨_, rfl⟩
    obtain ⟨W2, hW2⟩ : ∃ W2, W2 = W1.setRow g c2.toArray := ⟨_, rfl⟩
    obtain ⟨k1, k2, _⟩ := del_one cur.toList x zs (i * 6) (N * 6) 6 (by rw [hx]; exact hcur) hxl (by omega) (by rw [hzl]) (by rw [Array.length_toList, hcs]; omega) c1 c2 hc1 (by rw [hc2, show N * 6 - 6 = (N - 1) * 6 by omega])
    have hcl2 : ∀ ty, (Builtin.clear_ #[107] ty #[.slice (some ⟨g, (N - 1) * 6, none⟩) 1 (c - (N - 1))]).run Tryz.prog W1 = .ok (.tuple #[]) W2 := fun ty => by
      rw [hW2, hc2]
      exact hcl
    have HF : Hid (DelP w W2 (some ⟨g, 0, none⟩) N c (L.take i ++ L.drop (i + 1))) := by
      refine ⟨⟨?_, .inr ⟨g, c, c2.toArray, rfl, Nat.zero_le _, by rw [hW2]; exact setRow_heap W1 g _ _ 31 _ q1, by omega, hcm, by rw [List.size_toArray, k2, Array.length_toList]; exact hcs, ?_⟩⟩, ?_⟩
      · rw [encEs_len, List.length_append, List.length_take, List.length_drop, hN]
        congr 1
        omega
      · rw [← del_flatP, ← hx, show (N - 1) * 6 = N * 6 - 6 by omega]
        exact k1
      · rw [hW2, hW1]
        exact ⟨rfl, rfl, rfl, by simp, fun j _ hj => (setRow_other _ g j _ (fun e => hj (by simp [Value.ownBlock, e]))).trans (setRow_other w.drew g j _ (fun e => hj (by simp [Value.ownBlock, e])))⟩
    have hz2 : ¬ ((i : Int) = (i : Int) + 1) := by omega
    have hb1 : (i : Int) + 1 ≤ (N : Int) := by omega
    have hb6 : ¬ (c = N - 1) := by omega
    have hb7 : N - (N - 1) = 1 := by omega
    have hb8 : N - 1 ≤ N := by omega
    have hb9 : (0 : Int) ≤ (i : Int) + 1 := by omega
    have htn : ((i : Int) + 1).toNat = i + 1 := by omega
    have hii : (i : Int) ≤ (i : Int) + 1 := by omega
    have hNi : ((N - 1 : Nat) : Int) = (N : Int) - 1 := by omega
    clear hlist hc1 hc2 hW1 hW2 hD hcur hrow hg hxl h1x hcs hl1 k1 k2 q1 hzl hcl hx
    have hic : i ≤ c := by omega
    by_cases hck : c = i + 1
    · have ha := hap (some ⟨g, 0, none⟩) (.inr ⟨by omega, rfl⟩)
      clear hap
      obtain rfl : N = i + 1 := by omega
      subst hck
      rw [Nat.sub_self, Nat.add_sub_cancel] at ha
      have hcl3 : ∀ ty, (Builtin.clear_ #[107] ty #[.slice (some ⟨g, i * 6, none⟩) 1 1]).run Tryz.prog W1 = .ok (.tuple #[]) W2 := fun ty => by
        have := hcl2 ty
        rw [Nat.add_sub_cancel, Nat.add_sub_cancel_left] at this
        exact this
      rw [Nat.add_sub_cancel]
      clear hcl2 hb6 hb7 hb8 hNi
      have hne1 : ¬ (i + 1 = i) := by omega
      go_enter Tryz.func139, Tryz.ntmps139
      go_wp2
      go_region_law (refine step_appendP rfl _ _ 107 107 rfl _ _ (by simp [Act.eval, Act.put]) (by simp [Act.eval, Act.put]) ha ?_)
      go_wp2_with (at_builtin; refine wpList_clearP _ rfl _ 107 rfl _ rfl (hcl3 _) ?_)
      go_ret
      exact ⟨rfl, HF.out⟩
    · have ha := hap (some ⟨g, (i + 1) * 6, none⟩) (.inl rfl)
      clear hap
      go_enter Tryz.func139, Tryz.ntmps139
      go_wp2
      go_region_law (refine step_appendP rfl _ _ 107 107 rfl _ _ (by simp [Act.eval, Act.put]) (by simp [Act.eval, Act.put]) ha ?_)
      go_wp2_with (at_builtin; refine wpList_clearP _ rfl _ 107 rfl _ rfl (hcl2 _) ?_)
      go_ret
      exact ⟨rfl, HF.out⟩
end Go.Proofs.YtileidbdmpeciaaGreat
