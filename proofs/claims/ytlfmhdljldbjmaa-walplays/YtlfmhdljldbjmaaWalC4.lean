/-
  What keep, Add of the landed logs answer and leave.
-/
import Derived.Test.YtlfmhdljldbjmaaWalC3
namespace Go.Proofs.Ytlfmhdljldbjmaa
open Go.RowKit
set_option linter.unusedVariables false

/-- A list of records that stays, whatever becomes of some blocks: it lies in none of them. -/
theorem rows_far {w : World} {a : Option Addr} {cap : Nat} {R : List (List Int)} {X : Foot} (hR : ∀ u, Chg w u X → RowsOf u a cap R) {i : Nat} (hi : i < R.length) :
    ∃ rb ro x xc, a = some ⟨rb, ro, none⟩ ∧ ∀ u, Chg w u X → u.cell? ⟨rb, ro + i, none⟩ = some (.slice x (R.getD i []).length xc) ∧ Row u x (R.getD i []) := by
  obtain ⟨rb, ro, x, xc, ha, hcl, hrx, hnx⟩ := (hR w (Chg.refl _ _)).at hi
  subst ha
  have hlt : rb < w.heap.size := lt_of_cell hcl
  have hno : ¬ X rb := fun hx => by
    have hc : Chg w { w with heap := w.heap.setIfInBounds rb (.cells #[] 0) } X := ⟨rfl, rfl, rfl, by simp, fun k hk hn => by
      have hne : rb ≠ k := fun e => hn (e ▸ hx)
      simp [hne]⟩
    obtain ⟨rb', ro', x', xc', ha', hcl', _⟩ := (hR _ hc).at hi
    injection ha' with ha'
    injection ha' with e1 e2
    subst e1
    simp [World.cell?, hlt] at hcl'
  refine ⟨rb, ro, x, xc, rfl, fun u hu => ?_⟩
  obtain ⟨rb', ro', x', xc', ha', hcl', hrx', _⟩ := (hR u hu).at hi
  injection ha' with ha'
  injection ha' with e1 e2
  subst e1; subst e2
  have hk := (cell_kept (hu.block rb hlt hno) (ro + i)).trans hcl
  rw [hk] at hcl'
  injection hcl' with e3
  injection e3 with e4 e5 e6
  subst e4
  exact ⟨hk, hrx'⟩
theorem infoT : (Try.prog.info? 9).map (fun i => (i.zero, i.size, i.bytes)) = some (some (.string ByteArray.empty), 1, 16) := by kernel_rfl
theorem run_append_txt (w : World) (B p n : Nat) (v : Value) (L : List (List Int)) (Z Z' : Foot) (h : TxtZ w B v L Z p) (hn : L.length = n) (s : Addr) (rs : List Int) (hcell : w.cell? s = some (.string (strOfNums rs)))
    (hbig : n ≤ 1000000) (hB : B ≤ w.heap.size) (hp : p < w.heap.size) (hZ : ∀ k, Z k → Z' k) (hZn : Z' w.heap.size) (ty : TypeId) :
    ∃ a' cap' w', (Builtin.append_ #[63, 63] ty #[v, .slice (some s) 1 1]).run Try.prog w = .ok (.slice a' (n + 1) cap') w' ∧ TxtZ w' B (.slice a' (n + 1) cap') (L ++ [rs]) Z' p ∧ w.grownBy w' v.ownBlock := by
  subst hn
  obtain ⟨i0, hi, hz0, hz1, hz2⟩ := info_of infoT
  have hs : s.spot = none := World.cell?_spot hcell
  have hnews : ∀ j u, ([.string (strOfNums rs)] : List Value)[j]? = some u → w.cell? (s.add j) = some u := by
    intro j u hj
    cases j with
    | zero =>
      simp at hj
      have : s.add 0 = s := by cases s; simp_all [Addr.add]
      rw [this, hcell, hj]
    | succ j => simp at hj
  obtain ⟨v', w', hrun, h1, h2, _, h4⟩ := run_append_own_at (P := Try.prog) w B 63 ty 9 i0 (.string ByteArray.empty) 1 16 Try.underlying63 hi hz0 hz1 hz2 rfl (by decide) v L.length (strs L) h.own s 1 1 [.string (strOfNums rs)] rfl hnews (by simp [Value.oneCell']) (by unfold maxLen; omega) (by omega) hB
  obtain ⟨a', cap', rfl⟩ : ∃ a' cap', v' = .slice a' (L.length + 1) cap' := by
    rcases h1.2 with ⟨_, h5⟩ | ⟨g, cap, cur, h5, _⟩
    · omega
    · exact ⟨_, _, h5⟩
  refine ⟨a', cap', w', hrun, ⟨?_, fun k e => ?_⟩, h2⟩
  · have e1 : (L ++ [rs]).length = L.length + 1 := by simp
    rw [e1, strs_app]
    exact h1
  · rcases h4 with e4 | e4
    · rw [e4] at e
      exact ⟨hZ k (h.blk k e).1, (h.blk k e).2⟩
    · rw [e4] at e
      injection e with e
      subst e
      exact ⟨hZn, by omega⟩
theorem step_append_txt {w : World} {ops : Array Oper} {o : Oper} {a : Act} {K : Act → World → Prop} {Q : Exit → Act → World → Prop} {E : Prop} (hgd : o.guard = none) (s x : Operand)
    (ho : o.op = .call { callee := .builtin .append, args := #[s, x], argTypes := #[63, 63] }) (B p n : Nat) (v : Value) (L : List (List Int)) (Z Z' : Foot) (hs : a.eval s = v) (h : TxtZ w B v L Z p) (hn : L.length = n)
    (sa : Addr) (hx : a.eval x = .slice (some sa) 1 1) (rs : List Int) (hcell : w.cell? sa = some (.string (strOfNums rs))) (hbig : n ≤ 1000000) (hB : B ≤ w.heap.size) (hp : p < w.heap.size) (hZ : ∀ k, Z k → Z' k) (hZn : Z' w.heap.size)
    (hk : ∀ a' cap' w', TxtZ w' B (.slice a' (n + 1) cap') (L ++ [rs]) Z' p → w.grownBy w' v.ownBlock → K (a.put o.dst (.slice a' (n + 1) cap')) w') :
    if Region.wanted o (yielded ops a.tmps) = true then Oper.wp Try.prog o a w K Q else E := by
  have hw : Region.wanted o (yielded ops a.tmps) = true := by simp [Region.wanted, hgd]
  rw [if_pos hw]
  obtain ⟨a', cap', w', hrun, h1, h2⟩ := run_append_txt w B p n v L Z Z' h hn sa rs hcell hbig hB hp hZ hZn o.type
  unfold Oper.wp
  simp [execOp, ho, resolve, invoke, builtin, hs, hx, hrun, Result.andThen]
  exact hk a' cap' w' h1 h2
theorem TxtZ.here {u : World} {B p : Nat} {v : Value} {L : List (List Int)} {Z Z' : Foot} (h : TxtZ u B v L Z p) (hZ : ∀ k, Z k → k < u.heap.size → Z' k) : TxtZ u B v L Z' p :=
  ⟨h.own, fun k e => ⟨hZ k (h.blk k e).1 (h.own.lt k e).2, (h.blk k e).2⟩⟩
set_option maxHeartbeats 4000000 in
set_option maxRecDepth 4000 in
theorem wkeep_any (B p b : Nat) (S : DS) (l : LS) (X Z : Foot) (a : Option Addr) (cap n : Nat) (R : List (List Int)) (w : World) (h : PD w B p b S l X Z) (hBw : B ≤ w.heap.size) (hRn : R.length = n) (hR : ∀ u, Chg w u (fun k => X k ∨ Z k) → RowsOf u a cap R) (hRs : ∀ r ∈ R, r.length ≤ 8000) (hLn : l.L.length + n ≤ 1000000) :
    Calls Try.prog 38 #[.pointer (some ⟨p, 0, none⟩), .slice a n cap] w fun e w' => e = .returned (.tuple #[]) ∧ ∃ Z', PD w' B p b S { l with L := l.L ++ R } X Z' ∧ DidP w w' X Z X Z' := by
  have HRO : Hid (∀ u, Chg w u (fun k => X k ∨ Z k) → RowsOf u a cap R) := hR
  have HRN : Hid (R.length = n) := hRn
  have HRS8 : Hid (∀ r ∈ R, r.length ≤ 8000) := hRs
  have HP : Hid (PD w B p b S l X Z) := h
  clear hR hRn hRs h
  go_enter Try.func38, Try.ntmps38
  go_wp2
  go_loopw [8] (fun iv wq => ∃ (i : Nat) (Z2 : Foot), iv = .int .i64 i ∧ i ≤ n ∧ Hid (PD wq B p b S { l with L := l.L ++ R.take i } X Z2 ∧ DidP w wq X Z X Z2)) (fun iv _ => n - (intOf iv).toNat)
  case atStart => exact ⟨0, Z, rfl, Nat.zero_le _, by rw [List.take_zero, List.append_nil]; exact HP.out, DidP.stay HP.out (Below.refl _ _)⟩
  case round =>
    obtain ⟨i, Z2, rfl, hi, HW2⟩ := hrel
    by_cases hlt : i < n
    · obtain ⟨U, rfl⟩ : ∃ U : World, U = wr := ⟨wr, rfl⟩
      have hBU : B ≤ U.heap.size := Nat.le_trans hBw HW2.out.2.chg.size
      have hil : i < R.length := by rw [HRN.out]; exact hlt
      obtain ⟨rb, ro, x, xc, hra, hall⟩ := rows_far HRO.out hil
      obtain ⟨hcl, hrx⟩ := hall U HW2.out.2.chg
      subst hra
      obtain ⟨RS, hRS⟩ : ∃ RS, RS = R.getD i [] := ⟨_, rfl⟩
      have HRS : Hid (R[i]? = some RS) := by show _ = _; rw [hRS]; simp [List.getD, hil]
      obtain ⟨rn, hrn⟩ : ∃ rn, rn = RS.length := ⟨_, rfl⟩
      have hrs8 : Hid (RS.length ≤ 8000 ∧ By RS) := ⟨HRS8.out RS (List.mem_of_getElem? HRS.out), by rw [hRS]; exact hrx.bytes⟩
      rw [← hRS, ← hrn] at hcl
      obtain ⟨a4, c4, k4, tz⟩ := HW2.out.1.log.rep.c4
      obtain ⟨NL, hNL⟩ : ∃ NL, NL = l.L.length := ⟨_, rfl⟩
      have HLL : Hid ((l.L ++ R.take i).length = NL + i) := by show _ = _; rw [List.length_append, List.length_take, hNL, HRN.out]; omega
      rw [← hNL] at hLn
      rw [show ({ l with L := l.L ++ R.take i } : LS).L.length = NL + i from HLL.out] at k4 tz
      have TZ : Hid (TxtZ U B (.slice a4 (NL + i) c4) (l.L ++ R.take i) Z2 p) := tz
      have ZLT : Hid (∀ k, Z2 k → k < U.heap.size) := HW2.out.1.log.lt
      have hpU : p < U.heap.size := ZLT.out p HW2.out.1.log.own
      obtain ⟨G, hG⟩ : ∃ G : Foot, G = fun k => (Value.slice a4 (NL + i) c4).ownBlock = some k := ⟨_, rfl⟩
      have HGZ : Hid (∀ k, G k → Z2 k ∧ k ≠ p) := fun k e => by rw [hG] at e; exact TZ.out.blk k e
      have HGO : Hid (∀ k, (Value.slice a4 (NL + i) c4).ownBlock = some k → G k) := fun k e => by rw [hG]; exact e
      have HGW : Hid (∀ u, Chg U u G → Chg w u (fun k => X k ∨ Z k)) := fun u hu => HW2.out.2.chg.trans hu (fun j hj hg => by
        rcases (HW2.out.2.nz j (HGZ.out j hg).1).1 with e | e
        · exact .inr e
        · omega)
      have HSTR : Hid (∀ u, Chg U u G → (convert 31 9 (.slice x rn xc)).run Try.prog u = .ok (.string (strOfNums RS)) u) := fun u hu => by
        have hrow : Row u x RS := by rw [hRS]; exact (hall u (HGW.out u hu)).2
        exact str_at hrn.symm hrow xc
      have HKU : Hid (∀ u, Chg U u G → u.cell? ⟨p, 4, none⟩ = some (.slice a4 (NL + i) c4) ∧ u.frozen? ⟨p, 4, none⟩ = false) := fun u hu => by
        have e1 := hu.block p hpU (fun e => (HGZ.out p e).2 rfl)
        exact ⟨(cell_kept e1 _).trans k4, (frozen_kept e1 _).trans (HW2.out.1.log.rep.free 4)⟩
      have HEND : Hid (∀ (w6 : World) (a6 : Option Addr) (c6 : Nat), Chg U w6 G → TxtZ w6 B (.slice a6 (NL + i + 1) c6) (l.L ++ R.take i ++ [RS]) (fun k => Z2 k ∨ U.heap.size ≤ k) p → ∃ Z3, PD (w6.setCell ⟨p, 4, none⟩ (.slice a6 (NL + i + 1) c6)) B p b S { l with L := l.L ++ R.take (i + 1) } X Z3 ∧ DidP w (w6.setCell ⟨p, 4, none⟩ (.slice a6 (NL + i + 1) c6)) X Z X Z3) := fun w6 a6 c6 hc hr => by
        have e1 : l.L ++ R.take (i + 1) = l.L ++ R.take i ++ [RS] := by rw [List.take_add_one, HRS.out]; simp
        have hr2 := hr.here (Z' := fun k => (Z2 k ∨ U.heap.size ≤ k) ∧ k < w6.heap.size) (fun k z hk => ⟨z, hk⟩)
        have hl2 := HW2.out.1.log.rep.more (hc.mono (fun k _ e => HGZ.out k e)) HLL.out hr2 (fun k z => ⟨.inl z, Nat.lt_of_lt_of_le (ZLT.out k z) hc.size⟩) (fun k z => z.2) (fun k z => z.1.elim (HW2.out.1.log.lo k) (fun e => Nat.le_trans hBU e)) (by omega) hrs8.out
        have hd : Did U (w6.setCell ⟨p, 4, none⟩ (.slice a6 (NL + i + 1) c6)) Z2 (fun k => (Z2 k ∨ U.heap.size ≤ k) ∧ k < w6.heap.size) := ⟨(hc.mono (fun k _ e => (HGZ.out k e).1)).trans (Chg.set w6 ⟨p, 4, none⟩ _ HW2.out.1.log.own) (fun _ _ x => x), fun k z => ⟨z.1, by rw [World.size_setCell]; exact z.2⟩⟩
        have r := HW2.out.1.log_turn hl2 hd
        rw [e1]
        exact ⟨_, r.1, HW2.out.2.trans r.2⟩
      clear hrx hall hRS hrn tz hNL hG
      have q0 := HKU.out U (Chg.refl _ _)
      go_wp2
      refine wp_region_noPanic ?_
      refine region_till 11 (fun u => Chg U u G) (by kernel_rfl) ?_ (fun hHeld => ?_)
      · exact (Chg.refl _ _).drew
      refine till_take (i := 0) (v := ?_) 0 (by kernel_rfl) (Or.inl rfl) (by kernel_rfl) rfl (by kernel_rfl) (by kernel_rfl) (by kernel_rfl) (fun _ _ _ h => h) (Or.inl ⟨by rfl, ?_⟩) hHeld ?_
      rotate_left
      · intro u hSu
        (go_simp) <;> (with_reducible rfl)
      change wpTill _ _ _ _ _ _ _ _ (Act.put _ (some 12) _) _
      simp only [Act.put, List.setIfInBounds_toArray, List.set_cons_zero, List.set_cons_succ]
      refine till_take (i := 1) (v := ?_) 1 (by kernel_rfl) (Or.inl rfl) (by kernel_rfl) rfl (by kernel_rfl) (by kernel_rfl) (by kernel_rfl) (fun _ _ _ h => h) (Or.inl ⟨by rfl, ?_⟩) hHeld ?_
      rotate_left
      · intro u hSu
        (go_simp) <;> (with_reducible rfl)
      change wpTill _ _ _ _ _ _ _ _ (Act.put _ (some 13) _) _
      simp only [Act.put, List.setIfInBounds_toArray, List.set_cons_zero, List.set_cons_succ]
      refine till_take (i := 2) (v := ?_) 2 (by kernel_rfl) (Or.inl rfl) (by kernel_rfl) rfl (by kernel_rfl) (by kernel_rfl) (by kernel_rfl) (fun _ _ _ h => h) (Or.inl ⟨by rfl, ?_⟩) hHeld ?_
      rotate_left
      · intro u hSu
        (go_simp) <;> (with_reducible rfl)
      change wpTill _ _ _ _ _ _ _ _ (Act.put _ (some 14) _) _
      simp only [Act.put, List.setIfInBounds_toArray, List.set_cons_zero, List.set_cons_succ]
      refine till_take (i := 3) (v := ?_) 3 (by kernel_rfl) (Or.inl rfl) (by kernel_rfl) rfl (by kernel_rfl) (by kernel_rfl) (by kernel_rfl) (fun _ _ _ h => h) (Or.inl ⟨by rfl, ?_⟩) hHeld ?_
      rotate_left
      · intro u hSu
        (go_simp) <;> (with_reducible rfl)
      change wpTill _ _ _ _ _ _ _ _ (Act.put _ (some 15) _) _
      simp only [Act.put, List.setIfInBounds_toArray, List.set_cons_zero, List.set_cons_succ]
      refine till_take (i := 4) (v := ?_) 4 (by kernel_rfl) (Or.inl rfl) (by kernel_rfl) rfl (by kernel_rfl) (by kernel_rfl) (by kernel_rfl) (fun _ _ _ h => h) (Or.inl ⟨by rfl, ?_⟩) hHeld ?_
      rotate_left
      · intro u hSu
        obtain ⟨q1, q3⟩ := HKU.out u hSu
        (go_simp) <;> (with_reducible rfl)
      change wpTill _ _ _ _ _ _ _ _ (Act.put _ (some 16) _) _
      simp only [Act.put, List.setIfInBounds_toArray, List.set_cons_zero, List.set_cons_succ]
      refine till_take (i := 5) (v := ?_) 5 (by kernel_rfl) (Or.inl rfl) (by kernel_rfl) rfl (by kernel_rfl) (by kernel_rfl) (by kernel_rfl) (fun _ _ _ h => h) (Or.inl ⟨by rfl, ?_⟩) hHeld ?_
      rotate_left
      · intro u hSu
        (go_simp) <;> (with_reducible rfl)
      change wpTill _ _ _ _ _ _ _ _ (Act.put _ (some 17) _) _
      simp only [Act.put, List.setIfInBounds_toArray, List.set_cons_zero, List.set_cons_succ]
      refine till_take (i := 6) (v := ?_) 6 (by kernel_rfl) (Or.inl rfl) (by kernel_rfl) rfl (by kernel_rfl) (by kernel_rfl) (by kernel_rfl) (fun _ _ _ h => h) (Or.inl ⟨by rfl, ?_⟩) hHeld ?_
      rotate_left
      · intro u hSu
        have hcv := HSTR.out u hSu
        (go_simp) <;> (with_reducible rfl)
      change wpTill _ _ _ _ _ _ _ _ (Act.put _ (some 18) _) _
      simp only [Act.put, List.setIfInBounds_toArray, List.set_cons_zero, List.set_cons_succ]
      refine till_ready (rs := [7]) (by kernel_rfl) (by simp) ?_
      refine AllTill.cons rfl (fun K hK => ?_) AllTill.nil
      go_simp
      refine hK.out _ _ ?_ (fun hHeld2 => ?_)
      · exact hHeld.alloc _
      clear hK K hHeld
      have hHeld := hHeld2
      clear hHeld2
      refine till_ready (rs := [8]) (by kernel_rfl) (by simp) ?_
      refine AllTill.cons rfl (fun K hK => ?_) AllTill.nil
      refine step_append_txt rfl (.tmp 16) (.tmp 19) rfl B p (NL + i) (.slice a4 (NL + i) c4) (l.L ++ R.take i) Z2 (fun k => Z2 k ∨ U.heap.size ≤ k) rfl ((TZ.out.kept (fun k z _ => Below.heap_alloc _ _ k (ZLT.out k z)) (fun _ x => x))) HLL.out _ rfl RS (World.cell?_alloc_new _ _ _ _) (by omega) (by simp; omega) (by simp; omega) (fun k z => .inl z) (.inr (by simp)) ?_; intro a6 c6 w6 h6 hg6; have Z6 : Hid (TxtZ w6 B (.slice a6 (NL + i + 1) c6) (l.L ++ R.take i ++ [RS]) (fun k => Z2 k ∨ U.heap.size ≤ k) p) := h6; have C6 : Hid (Chg U w6 G) := (Chg.of_below ((Below.refl _ _).alloc (Nat.le_refl _) _).drew G).trans (Chg.of_grown hg6 (X := G) (fun k e => HGO.out k e)) (fun _ _ x => x); clear h6 hg6
      refine hK.out _ _ ?_ (fun hHeld2 => ?_)
      · exact C6.out
      clear hK K hHeld
      have hHeld := hHeld2
      clear hHeld2
      change wpTill _ _ _ _ _ _ _ _ (Act.put _ (some 20) _) _
      simp only [Act.put, List.setIfInBounds_toArray, List.set_cons_zero, List.set_cons_succ]
      refine till_take (i := 9) (v := ?_) 10 (by kernel_rfl) (Or.inr (by kernel_rfl)) (by kernel_rfl) rfl (by kernel_rfl) (by kernel_rfl) (by kernel_rfl) (fun _ _ _ h => h) (Or.inl ⟨by rfl, ?_⟩) hHeld ?_
      rotate_left
      · intro u hSu
        (go_simp) <;> (with_reducible rfl)
      change wpTill _ _ _ _ _ _ _ _ (Act.put _ (some 21) _) _
      simp only [Act.put, List.setIfInBounds_toArray, List.set_cons_zero, List.set_cons_succ]
      refine till_take (i := 10) (v := ?_) 10 (by kernel_rfl) (Or.inl rfl) (by kernel_rfl) rfl (by kernel_rfl) (by kernel_rfl) (by kernel_rfl) (fun _ _ _ h => h) (Or.inl ⟨by rfl, ?_⟩) hHeld ?_
      rotate_left
      · intro u hSu
        (go_simp) <;> (with_reducible rfl)
      change wpTill _ _ _ _ _ _ _ _ (Act.put _ (some 22) _) _
      simp only [Act.put, List.setIfInBounds_toArray, List.set_cons_zero, List.set_cons_succ]
      refine till_last (by kernel_rfl) (by kernel_rfl) rfl (fun K hK => ?_)
      (obtain ⟨q1, q3⟩ := HKU.out w6 C6.out); go_simp; refine hK.out _ _ ?_; refine NoPanic.normal ?_; clear hK K hHeld q1 q3
      go_wp2
      go_roundw
      case rel =>
        obtain ⟨Z3, r1, r2⟩ := HEND.out w6 a6 c6 C6.out Z6.out
        exact ⟨i + 1, Z3, by simp, by omega, r1, r2⟩
      case measure => simp [intOf]; omega
    · have hin : i = n := by omega
      have HEE : Hid (PD wr B p b S { l with L := l.L ++ R } X Z2 ∧ DidP w wr X Z X Z2) := by have := HW2.out; rw [show R.take i = R from by rw [hin, ← HRN.out, List.take_length]] at this; exact this
      have bN : decide ((i : Int) < (n : Int)) = false := decide_eq_false (by omega)
      clear hin
      go_wp2
      go_end0
      exact ⟨rfl, Z2, HEE.out.1, HEE.out.2⟩
end Go.Proofs.Ytlfmhdljldbjmaa
