/-
  What the landed route answers: Split.
-/
import Derived.Test.YtdbgkbgodnknnaaRouC3
import Derived.Test.YtdbgkbgodnknnaaRegUpto
namespace Go.Proofs.Ytdbgkbgodnknnaa
open Go.RowKit
set_option linter.unusedVariables false
set_option linter.unusedSimpArgs false

theorem run_make_listsR (n : Nat) (hn : n ≤ 1000001) (u : World) : (Instr.makeSlice 34 (.int .i64 ((n : Int) + 1)) (.int .i64 ((n : Int) + 1))).run Try.prog u = .ok (.slice (some ⟨u.heap.size, 0, none⟩) (n + 1) (n + 1)) (u.alloc (.cells (madeCells #[Value.slice none 0 0] (n + 1)) 33)) := by
  have h := run_make_row' (P := Try.prog) 34 33 (.slice none 0 0) 24 Try.underlying34 (by kernel_rfl) rfl .i64 .i64 (n + 1) (by omega) (by omega) u
  have e : ((n + 1 : Nat) : Int) = (n : Int) + 1 := by omega
  rw [e] at h
  exact h
theorem info_wrtR (W : Wrt) (h : Ky W.k) : (Try.prog.info? 32).map (·.size) = some (encW W).length := by rw [encW_len h]; exact info_wrt
/-- One more write laid into its node's list, as a walk through Split finds it. -/
theorem OwnL.next {w0 u u1 u2 : World} {g i m : Nat} {P : List (List Int)} {l : List Wrt} {W : Wrt} {a : Option Addr} {c n : Nat} {v' : Value} (h : OwnL w0 u g (splitR P (l.take i))) (hW : l[i]? = some W) (hm : ofR P W.k = (m : Int)) (hml : m < P.length + 1) (hn : (nodeW P (l.take i) m).length = n) (hv : u.cell? ⟨g, m, none⟩ = some (.slice a n c)) (hok : WrtOk W)
    (hb : Below u.heap.size u u1) (hg : u1.grownBy u2 (Value.slice a n c).ownBlock) (ho : u2.ownsRow w0.heap.size 32 18 v' (n + 1) ((nodeW P (l.take i) m).flatMap encW ++ encW W)) (hat : v'.ownBlock = (Value.slice a n c).ownBlock ∨ v'.ownBlock = some u1.heap.size) :
    OwnL w0 (u2.setCell ⟨g, m, none⟩ v') g (splitR P (l.take (i + 1))) := by
  subst hn
  rw [split_next hW hm hml]
  exact h.put (split_at hml) hv hok hb hg ho hat
set_option maxHeartbeats 8000000 in
set_option maxRecDepth 8000 in
theorem rosplit_any {q : Nat} {P : List (List Int)} (a : Option Addr) (M cap : Nat) (l : List Wrt) (w : World) (h : RtAt w q P) (hf : P.length ≤ 1000) (hl : l.length = M) (hc : M ≤ cap) (hM : M ≤ 1000000) (hat : WrtsAt w a l) :
    Calls Try.prog 10 #[.pointer (some ⟨q, 0, none⟩), .slice a M cap] w fun e w' => ∃ g, e = .returned (.slice (some ⟨g, 0, none⟩) (P.length + 1) (P.length + 1)) ∧ SpAt w' g (splitR P l) ∧ Below w.heap.size w w' := by
  obtain ⟨N, hN⟩ : ∃ n, P.length = n := ⟨_, rfl⟩
  have HN : Hid (P.length = N) := hN
  have HL : Hid (l.length = M) := hl
  have HT : Hid (RtAt w q P) := h
  have HA : Hid (WrtsAt w a l) := hat
  have CN : Hid (Calls Try.prog 18 #[.pointer (some ⟨q, 0, none⟩)] w fun e w' => e = .returned (.int .i64 ((N : Int) + 1)) ∧ w' = w) := by
    have := ronodes_any w h (by omega)
    rw [hN] at this
    exact this
  have HO0 : Hid (OwnL w (w.alloc (.cells (madeCells #[Value.slice none 0 0] (N + 1)) 33)) w.heap.size (splitR P (l.take 0))) := by
    rw [split_none, hN]
    exact OwnL.made (Below.refl _ _) (N + 1)
  rw [hN] at hf ⊢
  have hmk := run_make_listsR N (by omega)
  obtain ⟨g, hg⟩ : ∃ x, x = w.heap.size := ⟨_, rfl⟩
  have HG : Hid (g = w.heap.size) := hg
  have CO : Hid (∀ W : Wrt, Ky W.k → ∀ u, Below w.heap.size w u → Calls Try.prog 11 #[.pointer (some ⟨q, 0, none⟩), kv W.k] u fun e w' => e = .returned (.int .i64 (ofR P W.k)) ∧ Below u.heap.size u w') := fun W hW u hu => roof_any W.k hW u (HT.out.past hu) (by rw [HN.out]; omega)
  clear h hl hat hN hg
  go_enter Try.func10, Try.ntmps10
  go_wp2_with (go_at_call 18; refine CN.out.mono ?_; rintro e w1 ⟨rfl, hw⟩; obtain rfl := hw.symm; clear hw)
  rw [← HG.out] at HO0 ⊢
  go_loopw [14] (fun iv wr => ∃ i : Nat, i ≤ M ∧ iv = .int .i64 i ∧ Hid (OwnL w wr g (splitR P (l.take i)))) (fun iv _ => M - (intOf iv).toNat)
  case atStart => exact ⟨0, Nat.zero_le _, rfl, HO0.out⟩
  case round =>
    obtain ⟨i, hi, rfl, HO⟩ := hrel
    have hi0 : (0 : Int) ≤ (i : Int) := by omega
    by_cases hlt : i < M
    · have h1 : (i : Int) < (M : Int) := by omega
      obtain ⟨W, hW⟩ : ∃ W, l[i]? = some W := ⟨_, List.getElem?_eq_getElem (by rw [HL.out]; exact hlt)⟩
      obtain ⟨b, o, hao, hwa, hwo⟩ := (HA.out.past HO.out.below).wrt hW
      subst hao
      have HW : Hid (l[i]? = some W) := hW
      have FW : Hid (WrtAt wr b (o + i * 18) W) := hwa
      have KW : Hid (Ky W.k) := hwo.key
      have OK : Hid (WrtOk W) := hwo
      have hmine := WrtMine.made wr 32 zeroW zeroW_ky
      obtain ⟨hk1, hb2, hz1⟩ := laid_wrt wr 32 hwo.key
      rw [zeroW_cells] at hmine hk1 hb2 hz1
      have HMI : Hid _ := hmine
      have HK1 : Hid _ := hk1
      have HB2 : Hid _ := hb2
      obtain ⟨m, hm⟩ : ∃ x, x = ofR P W.k := ⟨_, rfl⟩
      have HMM : Hid (m = ofR P W.k) := hm
      have hr := ofR_range P W.k
      rw [← hm, HN.out] at hr
      obtain ⟨hr1, hr2⟩ := hr
      have CO1 : Hid (∀ u, Below w.heap.size w u → Calls Try.prog 11 #[.pointer (some ⟨q, 0, none⟩), kv W.k] u fun e w' => e = .returned (.int .i64 m) ∧ Below u.heap.size u w') := by rw [hm]; exact CO.out W hwo.key
      clear hW hwa hwo hmine hk1 hb2 hz1 hm
      by_cases hm0 : 0 ≤ m
      · obtain ⟨m, rfl⟩ : ∃ x : Nat, m = (x : Int) := ⟨m.toNat, by omega⟩
        have hmN : (m : Int) < (N : Int) + 1 := by omega
        have HmN : Hid (m < P.length + 1) := by show _ < _; rw [HN.out]; omega
        obtain ⟨la, lc, hcell, hfro, hown⟩ := HO.out.one (split_at (P := P) (l := l.take i) HmN.out)
        obtain ⟨n, hn⟩ : ∃ x, (nodeW P (l.take i) m).length = x := ⟨_, rfl⟩
        have hn9 : n + 1 ≤ 1000000 := by
          have := nodeW_len P (l.take i) m
          rw [hn, List.length_take, HL.out] at this
          omega
        rw [hn] at hcell hown
        have HNn : Hid ((nodeW P (l.take i) m).length = n) := hn
        have HC0 : Hid (wr.cell? ⟨g, m, none⟩ = some (.slice la n lc)) := hcell
        have HF0 : Hid (wr.frozen? ⟨g, m, none⟩ = false) := hfro
        have HOW : Hid (wr.ownsRow w.heap.size 32 18 (.slice la n lc) n ((nodeW P (l.take i) m).flatMap encW)) := hown
        have HGL : Hid (g < wr.heap.size) := HO.out.lt
        have HNG : Hid ((Value.slice la n lc).ownBlock ≠ some g) := fun e => by
          obtain ⟨cur, e1, _⟩ := HO.out.row
          rcases hown.2 with ⟨e2, _⟩ | ⟨g2, cap2, cur2, e2, _, hh, _⟩
          · rw [e2] at e; simp [Value.ownBlock] at e
          · rw [e2] at e
            simp [Value.ownBlock] at e
            rw [e, e1] at hh
            injection hh with hh
            injection hh with _ hh
            exact absurd hh (by decide)
        clear hn hcell hfro hown
        go_wp2_with (first
          | ((with_reducible show wpList _ _ _ (Oper.mk (some 17) _ _ _ _ _ :: _) _ _); refine wpList_load_wrt 17 (by rfl) (by rfl) _ (by rfl) b (o + i * 18) (by rfl) W KW.out FW.out ?_)
          | (have hgo := HMI.out; clear hgo; refine wpList_store_wrt (.tmp 7) (by rfl) _ (by rfl) wr.heap.size 0 zeroW W (by rfl) (by rfl) KW.out HMI.out ?_; intro u2 hu; rw [← hu] at HK1 HB2; clear hu HMI)
          | ((with_reducible show wpList _ _ _ (Oper.mk (some 20) _ _ _ _ _ :: _) _ _); refine wpList_load_keyD 20 (by rfl) (by rfl) _ (by rfl) wr.heap.size 0 (by rfl) W.k KW.out (HK1.out.at_.key KW.out) ?_)
          | (go_at_call 11; refine (CO1.out _ (HO.out.below.trans (HB2.out.mono HO.out.below.size))).mono ?_; rintro e w4 ⟨rfl, hb4⟩; have H4 : Hid (Below wr.heap.size wr w4) := HB2.out.trans (hb4.mono HB2.out.size); have HX4 : Hid (WrtAt w4 wr.heap.size 0 W) := HK1.out.at_.past hb4; clear hb4))
        have HXL : Hid (wr.heap.size < w4.heap.size) := HX4.out.lt KW.out
        have HKO : Hid (∀ k, (Value.slice la n lc).ownBlock = some k → w.heap.size ≤ k ∧ k < wr.heap.size) := HOW.out.lt
        have FG : Hid (∀ u, Chg w4 u (fun k => (Value.slice la n lc).ownBlock = some k) → u.heap[g]? = wr.heap[g]?) := fun u hu => (hu.block g (Nat.lt_of_lt_of_le HGL.out H4.out.size) (fun e => HNG.out e)).trans (H4.out.block g HGL.out)
        have FC : Hid (∀ u, Chg w4 u (fun k => (Value.slice la n lc).ownBlock = some k) → u.cell? ⟨g, m, none⟩ = some (.slice la n lc) ∧ u.frozen? ⟨g, m, none⟩ = false) := fun u hu => ⟨(World.cell?_of_block (a := ⟨g, m, none⟩) (FG.out u hu)).trans HC0.out, (World.frozen?_of_block (a := ⟨g, m, none⟩) (FG.out u hu)).trans HF0.out⟩
        have FX : Hid (∀ u, Chg w4 u (fun k => (Value.slice la n lc).ownBlock = some k) → WrtAt u wr.heap.size 0 W) := fun u hu => ⟨lies_of fun j v hj => (World.cell?_of_block (a := ⟨wr.heap.size, 0 + j, none⟩) (hu.block _ HXL.out (fun e => Nat.lt_irrefl _ (HKO.out _ e).2))).trans (HX4.out.lies.at j v hj)⟩
        have HO4 : Hid (OwnL w w4.drew g (splitR P (l.take i))) := HO.out.past H4.out.drew
        have HOW4 : Hid ((w4.drew.alloc (.cells (encW W).toArray 32)).ownsRow w.heap.size 32 18 (.slice la n lc) n ((nodeW P (l.take i) m).flatMap encW)) := own_below HOW.out (H4.out.drew.alloc H4.out.size _) (Nat.le_refl _)
        have HBW : Hid (w.heap.size ≤ (w4.drew.alloc (.cells (encW W).toArray 32)).heap.size) := by
          show w.heap.size ≤ _
          rw [World.size_alloc]
          exact Nat.le_succ_of_le (Nat.le_trans HO.out.below.size H4.out.size)
        have HLE : Hid ((encW W).length = 1 * 18) := by show _ = _; rw [encW_len KW.out]
        have hS0 : Chg w4 w4.drew (fun k => (Value.slice la n lc).ownBlock = some k) := (Chg.refl _ _).drew
        refine wp_region_noPanic ?_
        refine region_up 10 (fun u => Chg w4 u (fun k => (Value.slice la n lc).ownBlock = some k)) (by kernel_rfl) ?_ (fun hHeld => ?_)
        · exact hS0
        refine up_take (i := 0) (v := ?_) (by kernel_rfl) (by kernel_rfl) (by kernel_rfl) rfl (by kernel_rfl) (by kernel_rfl) (by kernel_rfl) (fun _ _ _ h => h) (Or.inl ⟨by rfl, ?_⟩) hHeld ?_
        rotate_left
        · intro u hSu
          (go_simp) <;> (with_reducible rfl)
        change wpUp _ _ _ _ _ _ _ _ (Act.put _ (some 24) _) _
        simp only [Act.put, List.setIfInBounds_toArray, List.set_cons_zero, List.set_cons_succ]
        refine up_take (i := 1) (v := ?_) (by kernel_rfl) (by kernel_rfl) (by kernel_rfl) rfl (by kernel_rfl) (by kernel_rfl) (by kernel_rfl) (fun _ _ _ h => h) (Or.inl ⟨by rfl, ?_⟩) hHeld ?_
        rotate_left
        · intro u hSu
          (go_simp) <;> (with_reducible rfl)
        change wpUp _ _ _ _ _ _ _ _ (Act.put _ (some 25) _) _
        simp only [Act.put, List.setIfInBounds_toArray, List.set_cons_zero, List.set_cons_succ]
        refine up_take (i := 2) (v := ?_) (by kernel_rfl) (by kernel_rfl) (by kernel_rfl) rfl (by kernel_rfl) (by kernel_rfl) (by kernel_rfl) (fun _ _ _ h => h) (Or.inl ⟨by rfl, ?_⟩) hHeld ?_
        rotate_left
        · intro u hSu
          (go_simp) <;> (with_reducible rfl)
        change wpUp _ _ _ _ _ _ _ _ (Act.put _ (some 26) _) _
        simp only [Act.put, List.setIfInBounds_toArray, List.set_cons_zero, List.set_cons_succ]
        refine up_take (i := 3) (v := ?_) (by kernel_rfl) (by kernel_rfl) (by kernel_rfl) rfl (by kernel_rfl) (by kernel_rfl) (by kernel_rfl) (fun _ _ _ h => h) (Or.inl ⟨by rfl, ?_⟩) hHeld ?_
        rotate_left
        · intro u hSu
          (go_simp) <;> (with_reducible rfl)
        change wpUp _ _ _ _ _ _ _ _ (Act.put _ (some 27) _) _
        simp only [Act.put, List.setIfInBounds_toArray, List.set_cons_zero, List.set_cons_succ]
        refine up_take (i := 4) (v := ?_) (by kernel_rfl) (by kernel_rfl) (by kernel_rfl) rfl (by kernel_rfl) (by kernel_rfl) (by kernel_rfl) (fun _ _ _ h => h) (Or.inl ⟨by rfl, ?_⟩) hHeld ?_
        rotate_left
        · intro u hSu
          (go_simp) <;> (with_reducible rfl)
        change wpUp _ _ _ _ _ _ _ _ (Act.put _ (some 28) _) _
        simp only [Act.put, List.setIfInBounds_toArray, List.set_cons_zero, List.set_cons_succ]
        refine up_take (i := 5) (v := ?_) (by kernel_rfl) (by kernel_rfl) (by kernel_rfl) rfl (by kernel_rfl) (by kernel_rfl) (by kernel_rfl) (fun _ _ _ h => h) (Or.inl ⟨by rfl, ?_⟩) hHeld ?_
        rotate_left
        · intro u hSu
          have q1 := (FC.out u hSu).1
          (go_simp) <;> (with_reducible rfl)
        change wpUp _ _ _ _ _ _ _ _ (Act.put _ (some 29) _) _
        simp only [Act.put, List.setIfInBounds_toArray, List.set_cons_zero, List.set_cons_succ]
        refine up_take (i := 6) (v := wv W) (by kernel_rfl) (by kernel_rfl) (by kernel_rfl) rfl (by kernel_rfl) (by kernel_rfl) (by kernel_rfl) (fun _ _ _ h => h) (yieldsIf_load_mid (by rfl) _ _ rfl _ _ rfl (encW W) _ (fun u hu => (FX.out u hu).range) Try.underlying32 rfl (info_wrtR W KW.out)) hHeld ?_
        change wpUp _ _ _ _ _ _ _ _ (Act.put _ (some 30) _) _
        simp only [Act.put, List.setIfInBounds_toArray, List.set_cons_zero, List.set_cons_succ]
        refine up_ready (rs := [7]) (by kernel_rfl) (by simp) ?_
        refine AllUp.cons rfl (fun K hK => ?_) AllUp.nil
        refine step_build_ws1R rfl (.tmp 30) rfl W KW.out rfl ?_
        refine hK.out _ _ ?_ (fun hHeld2 => ?_)
        · exact hHeld.alloc _
        clear hK K hHeld
        have hHeld := hHeld2
        clear hHeld2
        change wpUp _ _ _ _ _ _ _ _ (Act.put _ (some 31) _) _
        simp only [Act.put, List.setIfInBounds_toArray, List.set_cons_zero, List.set_cons_succ]
        refine up_ready (rs := [8]) (by kernel_rfl) (by simp) ?_
        refine AllUp.cons rfl (fun K hK => ?_) AllUp.nil
        refine step_append_els_at wrt_elR w.heap.size HBW.out rfl (.tmp 29) (.tmp 31) rfl (.slice la n lc) n _ (encW W) rfl HOW4.out ⟨w4.drew.heap.size, 0, none⟩ 1 1 rfl HLE.out (lies_made _ (encW W).toArray _) (encW_one W) hn9 ?_; intro a6 c6 w6 g1 g2 g3; have G1 : Hid (w6.ownsRow w.heap.size 32 18 (.slice a6 (n + 1) c6) (n + 1) ((nodeW P (l.take i) m).flatMap encW ++ encW W)) := g1; have G2 : Hid ((w4.drew.alloc (.cells (encW W).toArray 32)).grownBy w6 (Value.slice la n lc).ownBlock) := g2; have G3 : Hid ((Value.slice a6 (n + 1) c6).ownBlock = (Value.slice la n lc).ownBlock ∨ (Value.slice a6 (n + 1) c6).ownBlock = some (w4.drew.alloc (.cells (encW W).toArray 32)).heap.size) := g3; clear g1 g2 g3
        refine hK.out _ _ ?_ (fun hHeld2 => ?_)
        · exact hHeld.trans (Chg.of_grown G2.out (fun k e => e)) (fun _ _ x => x)
        clear hK K hHeld
        have hHeld := hHeld2
        clear hHeld2
        change wpUp _ _ _ _ _ _ _ _ (Act.put _ (some 32) _) _
        simp only [Act.put, List.setIfInBounds_toArray, List.set_cons_zero, List.set_cons_succ]
        refine up_take (i := 9) (v := ?_) (by kernel_rfl) (by kernel_rfl) (by kernel_rfl) rfl (by kernel_rfl) (by kernel_rfl) (by kernel_rfl) (fun _ _ _ h => h) (Or.inl ⟨by rfl, ?_⟩) hHeld ?_
        rotate_left
        · intro u hSu
          (go_simp) <;> (with_reducible rfl)
        change wpUp _ _ _ _ _ _ _ _ (Act.put _ (some 33) _) _
        simp only [Act.put, List.setIfInBounds_toArray, List.set_cons_zero, List.set_cons_succ]
        refine up_ready (rs := [10]) (by kernel_rfl) (by simp) ?_
        refine AllUp.that rfl (fun K hK => ?_) AllUp.nil
        (obtain ⟨z1, z2⟩ := FC.out w6 hHeld); go_simp; refine hK.out _ _ ?_; clear hK K z1 z2
        refine up_done (by kernel_rfl) ?_
        refine NoPanic.normal ?_
        have HZ : Hid (OwnL w (w6.setCell ⟨g, m, none⟩ (.slice a6 (n + 1) c6)) g (splitR P (l.take (i + 1)))) := OwnL.next HO4.out HW.out HMM.out.symm HmN.out HNn.out (FC.out _ hS0).1 OK.out ((Below.refl _ _).alloc (Nat.le_refl _) _) G2.out G1.out G3.out
        go_wp2
        go_roundw
        case rel => exact ⟨i + 1, by omega, by go_num, HZ⟩
        case measure => simp [intOf]; omega
      · have hm1 : ¬ (0 : Int) ≤ m := hm0
        have HS : Hid (splitR P (l.take (i + 1)) = splitR P (l.take i)) := split_skip HW.out (by rw [← HMM.out]; omega)
        go_wp2_with (first
          | ((with_reducible show wpList _ _ _ (Oper.mk (some 17) _ _ _ _ _ :: _) _ _); refine wpList_load_wrt 17 (by rfl) (by rfl) _ (by rfl) b (o + i * 18) (by rfl) W KW.out FW.out ?_)
          | (have hgo := HMI.out; clear hgo; refine wpList_store_wrt (.tmp 7) (by rfl) _ (by rfl) wr.heap.size 0 zeroW W (by rfl) (by rfl) KW.out HMI.out ?_; intro u2 hu; rw [← hu] at HK1 HB2; have HBU : Hid (OwnL w u2 g (splitR P (l.take i))) := HO.out.past HB2.out; clear hu HMI)
          | ((with_reducible show wpList _ _ _ (Oper.mk (some 20) _ _ _ _ _ :: _) _ _); refine wpList_load_keyD 20 (by rfl) (by rfl) _ (by rfl) wr.heap.size 0 (by rfl) W.k KW.out (HK1.out.at_.key KW.out) ?_)
          | (go_at_call 11; refine (CO1.out _ HBU.out.below).mono ?_; rintro e w4 ⟨rfl, hb4⟩; have H4 : Hid (OwnL w w4 g (splitR P (l.take i))) := HBU.out.past hb4; clear hb4))
        go_roundw
        case rel => exact ⟨i + 1, by omega, by go_num, by rw [HS.out]; exact H4⟩
        case measure => simp [intOf]; omega
    · obtain rfl : i = M := by omega
      have HX : Hid (l.take i = l) := List.take_of_length_le (by rw [HL.out]; exact Nat.le_refl _)
      go_wp2
      go_ret
      refine ⟨g, rfl, ?_, HO.out.below⟩
      have := HO.out.lies
      rw [HX.out] at this
      exact this
end Go.Proofs.Ytdbgkbgodnknnaa
