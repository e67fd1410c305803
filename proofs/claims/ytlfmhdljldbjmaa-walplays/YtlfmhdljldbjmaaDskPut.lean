/-
  What the landed package disk leaves: put; strings.Clone.
-/
import Derived.Test.YtlfmhdljldbjmaaDskB
import Derived.Test.YtlfmhdljldbjmaaShelf
import Derived.Test.YtlfmhdljldbjmaaRegLast
namespace Go.Proofs.Ytlfmhdljldbjmaa
open Go.RowKit
set_option linter.unusedVariables false

theorem sclone_any (s : ByteArray) (w : World) (h : s.size ≤ 1000000) :
    Calls Try.prog 33 #[.string s] w fun e w' => e = .returned (.string s) ∧ Below w.heap.size w w' := by
  have CC : Hid (Calls Try.prog 56 #[.string s] w fun e w' => e = .returned (.string s) ∧ Below w.heap.size w w') := Try.stringslite_Clone s w (by omega)
  go_enter Try.func33, Try.ntmps33
  go_wp2_with (go_at_call 56; refine CC.out.mono ?_; rintro e w1 ⟨rfl, h2⟩; have B1 : Hid (Below w.heap.size w w1) := h2; clear h2)
  go_ret
  exact ⟨rfl, B1.out⟩
/-- 'm[k] = v' as the last operation of a region that draws its order. -/
theorem last_store {w : World} {ops : Array Oper} {o : Oper} {a : Act} {K : Act → World → Prop} {Q : Exit → Act → World → Prop} {E : Prop} (hg : o.guard = none) (m x v : Operand) (t : TypeId) (hop : o.op = Op.mapUpdate t m x v)
    (e : TypeId) (ht : Try.prog.underlying t = some (.map 9 e)) (b c : Nat) (G : ByteArray → Option Nat) (hm : a.eval m = .map (some b)) (h : PMap w b c G) (hc : c ≤ 1000000) (k : ByteArray) (hx : a.eval x = .string k) (hk : k.size ≤ 1000000) (g : Nat) (hv : a.eval v = .pointer (some ⟨g, 0, none⟩))
    (hK : ∀ w', PMap w' b (if (G k).isSome then c else c + 1) (putG G k (some g)) → w.mapTurned w' b → K (a.put o.dst undef) w') :
    if Region.wanted o (yielded ops a.tmps) = true then Oper.wp Try.prog o a w K Q else E := by
  have hw : Region.wanted o (yielded ops a.tmps) = true := by simp [Region.wanted, hg]
  rw [if_pos hw]
  obtain ⟨w', hrun, r1, r2⟩ := h.store hc ht k hk g
  unfold Oper.wp
  simp [execOp, hop, hm, hx, hv, hrun, Result.andThen]
  exact hK w' r1 r2
set_option maxHeartbeats 1000000 in
set_option maxRecDepth 4000 in
theorem dput_any (b m c g : Nat) (G : ByteArray → Option Nat) (k : ByteArray) (w : World) (c0 : w.cell? ⟨b, 0, none⟩ = some (.map (some m))) (h : PMap w m c G) (hc : c ≤ 1000000) (hk : k.size ≤ 1000000) :
    Calls Try.prog 50 #[.pointer (some ⟨b, 0, none⟩), .string k, .pointer (some ⟨g, 0, none⟩)] w fun e w' => e = .returned (.tuple #[]) ∧ PMap w' m (if (G k).isSome then c else c + 1) (putG G k (some g)) ∧ Chg w w' (fun j => j = m) := by
  obtain ⟨C, hC⟩ : ∃ C, C = if (G k).isSome then c else c + 1 := ⟨_, rfl⟩
  have HCC : Hid (C = if (G k).isSome then c else c + 1) := hC
  rw [← hC]
  clear hC
  have CC : Hid (∀ u, Calls Try.prog 33 #[.string k] u fun e w' => e = .returned (.string k) ∧ Below u.heap.size u w') := fun u => sclone_any k u hk
  have HP : Hid (PMap w m c G) := h
  have HC : Hid (∀ u, Below w.heap.size w u → u.cell? ⟨b, 0, none⟩ = some (.map (some m))) := fun u hb => (hb.cell (p := ⟨b, 0, none⟩) (lt_of_cell c0)).trans c0
  clear h c0
  go_enter Try.func50, Try.ntmps50
  refine wp_region_noPanic ?_
  refine region_till 7 (fun u => Below w.heap.size w u) (by kernel_rfl) ?_ (fun hHeld => ?_)
  · exact (Below.refl _ _).drew
  refine till_take (i := 0) (v := ?_) 0 (by kernel_rfl) (Or.inl rfl) (by kernel_rfl) rfl (by kernel_rfl) (by kernel_rfl) (by kernel_rfl) (fun _ _ _ h => h) (Or.inl ⟨by rfl, ?_⟩) hHeld ?_
  rotate_left
  · intro u hSu
    (go_simp) <;> (with_reducible rfl)
  change wpTill _ _ _ _ _ _ _ _ (Act.put _ (some 6) _) _
  simp only [Act.put, List.setIfInBounds_toArray, List.set_cons_zero, List.set_cons_succ]
  refine till_take (i := 1) (v := ?_) 1 (by kernel_rfl) (Or.inl rfl) (by kernel_rfl) rfl (by kernel_rfl) (by kernel_rfl) (by kernel_rfl) (fun _ _ _ h => h) (Or.inl ⟨by rfl, ?_⟩) hHeld ?_
  rotate_left
  · intro u hSu
    (go_simp) <;> (with_reducible rfl)
  change wpTill _ _ _ _ _ _ _ _ (Act.put _ (some 7) _) _
  simp only [Act.put, List.setIfInBounds_toArray, List.set_cons_zero, List.set_cons_succ]
  refine till_take (i := 2) (v := ?_) 2 (by kernel_rfl) (Or.inl rfl) (by kernel_rfl) rfl (by kernel_rfl) (by kernel_rfl) (by kernel_rfl) (fun _ _ _ h => h) (Or.inl ⟨by rfl, ?_⟩) hHeld ?_
  rotate_left
  · intro u hSu
    (go_simp) <;> (with_reducible rfl)
  change wpTill _ _ _ _ _ _ _ _ (Act.put _ (some 8) _) _
  simp only [Act.put, List.setIfInBounds_toArray, List.set_cons_zero, List.set_cons_succ]
  refine till_take (i := 3) (v := ?_) 3 (by kernel_rfl) (Or.inl rfl) (by kernel_rfl) rfl (by kernel_rfl) (by kernel_rfl) (by kernel_rfl) (fun _ _ _ h => h) (Or.inl ⟨by rfl, ?_⟩) hHeld ?_
  rotate_left
  · intro u hSu
    have q := HC.out u hSu
    (go_simp) <;> (with_reducible rfl)
  change wpTill _ _ _ _ _ _ _ _ (Act.put _ (some 9) _) _
  simp only [Act.put, List.setIfInBounds_toArray, List.set_cons_zero, List.set_cons_succ]
  refine till_take (i := 4) (v := ?_) 4 (by kernel_rfl) (Or.inl rfl) (by kernel_rfl) rfl (by kernel_rfl) (by kernel_rfl) (by kernel_rfl) (fun _ _ _ h => h) (Or.inl ⟨by rfl, ?_⟩) hHeld ?_
  rotate_left
  · intro u hSu
    (go_simp) <;> (with_reducible rfl)
  change wpTill _ _ _ _ _ _ _ _ (Act.put _ (some 10) _) _
  simp only [Act.put, List.setIfInBounds_toArray, List.set_cons_zero, List.set_cons_succ]
  refine till_take (i := 6) (v := ?_) 6 (by kernel_rfl) (Or.inl rfl) (by kernel_rfl) rfl (by kernel_rfl) (by kernel_rfl) (by kernel_rfl) (fun _ _ _ h => h) (Or.inl ⟨by rfl, ?_⟩) hHeld ?_
  rotate_left
  · intro u hSu
    (go_simp) <;> (with_reducible rfl)
  change wpTill _ _ _ _ _ _ _ _ (Act.put _ (some 12) _) _
  simp only [Act.put, List.setIfInBounds_toArray, List.set_cons_zero, List.set_cons_succ]
  refine till_ready (rs := [5]) (by kernel_rfl) (by simp) ?_
  refine AllTill.cons rfl (fun K hK => ?_) AllTill.nil
  go_simp
  go_at_call 33
  refine (CC.out _).mono ?_
  rintro e w1 ⟨rfl, hb1⟩
  have B1 : Hid (Below w.heap.size w w1) := hHeld.trans (hb1.mono hHeld.size); clear hb1
  refine hK.out _ _ ?_ (fun hHeld2 => ?_)
  · exact B1.out
  clear hK K hHeld
  have hHeld := hHeld2
  clear hHeld2
  refine till_last (by kernel_rfl) (by kernel_rfl) rfl (fun K hK => ?_)
  refine last_store rfl _ _ _ 59 rfl 73 Try.underlying59 m c G rfl (HP.out.kept (B1.out.block m HP.out.lt)) hc k rfl hk g rfl ?_
  intro w2 h1 h2
  rw [← HCC.out] at h1
  have HM2 : Hid (PMap w2 m C (putG G k (some g))) := h1
  have HT2 : Hid (Chg w w2 (fun j => j = m)) := (Chg.of_below B1.out _).trans (turned_chg h2 (X := fun j => j = m) rfl) (fun _ _ x => x)
  clear h1 h2
  refine hK.out _ _ ?_
  refine NoPanic.normal ?_
  clear hK K hHeld
  go_wp2
  go_end0
  exact ⟨rfl, HM2.out, HT2.out⟩
end Go.Proofs.Ytlfmhdljldbjmaa
