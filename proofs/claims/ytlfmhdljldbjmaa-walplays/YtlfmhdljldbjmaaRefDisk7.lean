/-
  What the document's own disks (hourglassref8: Append of a Disk) answer and leave.
-/
import Derived.Test.YtlfmhdljldbjmaaRefDisk6
namespace Go.Proofs.Ytlfmhdljldbjmaa
open Go.RowKit
set_option linter.unusedVariables false

set_option maxHeartbeats 2000000 in
set_option maxRecDepth 4000 in
theorem rdappend_any (b : Nat) (S : DS) (X : Foot) (s zs : List Int) (a : Option Addr) (c n : Nat) (w : World) (h : DiskR w b S X) (hs : By s) (hl : s.length ≤ 1000000) (hz : sizeN S.fs ≤ 1099511627776) (hroom : 0 ≤ S.room ∧ S.room ≤ 1099511627776) (hfew : S.fs.length + 1 ≤ 1000) (hn : zs.length = n) (hrow : Row w a zs) (hnil : a = none → n = 0 ∧ c = 0) (hbig : n ≤ 1099511627776) :
    Calls Try.prog 27 #[.pointer (some ⟨b, 0, none⟩), .string (strOfNums s), .slice a n c] w fun e w' => ∃ X', e = .returned (.int .i64 (S.append s zs).1) ∧ DiskR w' b (S.append s zs).2 X' ∧ Did w w' X X' := by
  have CA : Hid (Calls Try.prog 51 #[.pointer (some ⟨b, 0, none⟩), .string (strOfNums s)] w fun e w' => e = .returned (.tuple #[.int .i64 (S.place s), .int .i64 (S.err s)]) ∧ w' = w) := rask_any b S X s w h hs hl
  have CZ : Hid (∀ m, Calls Try.prog 52 #[.pointer (some ⟨b, 0, none⟩)] (w.drewN m) fun e w' => e = .returned (.int .i64 (sizeN S.fs : Nat)) ∧ w' = w.drewN m) := fun m => rsize_any b S X (w.drewN m) (h.past (below_drewN (Below.refl _ _) m)) hz
  have c0 := h.c0
  obtain ⟨R, hR⟩ : ∃ R, R = S.room := ⟨_, rfl⟩
  rw [← hR] at c0 hroom
  have HRR : Hid (R = S.room) := hR
  have HD : Hid (DiskR w b S X) := h
  obtain ⟨Z, hZ⟩ : ∃ Z, Z = sizeN S.fs := ⟨_, rfl⟩
  have HZ : Hid (Z = sizeN S.fs) := hZ
  have HNN : Hid (zs.length = n) := hn
  have HRW : Hid (Row w a zs) := hrow
  have HNL : Hid (a = none → n = 0 ∧ c = 0) := hnil
  clear hrow hnil
  rw [← hZ] at hz CZ
  cases ho : S.off with
  | true =>
    have e : S.append s zs = (7, S) := by unfold DS.append; rw [if_pos ho]
    have e2 : S.err s = 7 := by unfold DS.err; rw [if_pos ho]
    rw [e2] at CA
    rw [e]
    obtain ⟨P, hP⟩ : ∃ P, P = S.place s := ⟨_, rfl⟩
    rw [← hP] at CA
    clear hP e e2 h
    go_enter Try.func27, Try.ntmps27
    go_wp2_with (go_at_call 51; refine CA.out.mono ?_; rintro e wz ⟨rfl, hwz⟩; obtain rfl := hwz.symm; clear hwz)
    go_ret
    exact ⟨X, rfl, HD.out, Did.stay (Below.refl _ _) HD.out.lt⟩
  | false =>
    cases hm : mayN s with
    | false =>
      have e : S.append s zs = (1, S) := by unfold DS.append; rw [if_neg (by rw [ho]; simp), if_pos hm]
      have e2 : S.err s = 1 := by unfold DS.err; rw [if_neg (by rw [ho]; simp), if_pos hm]
      rw [e2] at CA
      rw [e]
      obtain ⟨P, hP⟩ : ∃ P, P = S.place s := ⟨_, rfl⟩
      rw [← hP] at CA
      clear hP e e2 h
      go_enter Try.func27, Try.ntmps27
      go_wp2_with (go_at_call 51; refine CA.out.mono ?_; rintro e wz ⟨rfl, hwz⟩; obtain rfl := hwz.symm; clear hwz)
      go_ret
      exact ⟨X, rfl, HD.out, Did.stay (Below.refl _ _) HD.out.lt⟩
    | true =>
      have wsub : IntKind.i64.wrap (R - (Z : Int)) = R - (Z : Int) := by rw [IntKind.wrap_i64]; omega
      by_cases hfull : R - (Z : Int) < (n : Int)
      · have bf : decide (R - (Z : Int) < (n : Int)) = true := decide_eq_true hfull
        have e : S.append s zs = (6, S) := by unfold DS.append; rw [if_neg (by rw [ho]; simp), if_neg (by rw [hm]; simp), ← hZ, ← hR, hn, if_pos hfull]
        rw [e]
        cases hf : findN S.fs s with
        | none =>
          have e2 : S.err s = 4 := by unfold DS.err; rw [if_neg (by rw [ho]; simp), if_neg (by rw [hm]; simp), hf]
          have e3 : S.place s = -1 := by unfold DS.place; rw [ho, hm, hf]; rfl
          rw [e2, e3] at CA
          clear e e2 e3 h hR hZ ho hm hf
          go_enter Try.func27, Try.ntmps27
          go_wp2_with ((go_at_call 51; refine CA.out.mono ?_; rintro e wz ⟨rfl, hwz⟩; obtain rfl := hwz.symm; clear hwz))
          go_quiet ((go_at_call 52; exact Calls.quiet_of_same (CZ.out _)))
          go_wp2
          go_ret
          exact ⟨X, rfl, HD.out.past (below_drewN (Below.refl _ _) _), Did.stay (below_drewN (Below.refl _ _) _) HD.out.lt⟩
        | some i =>
          have e2 : S.err s = 0 := by unfold DS.err; rw [if_neg (by rw [ho]; simp), if_neg (by rw [hm]; simp), hf]
          have e3 : S.place s = (i : Int) := place_zero ho hm hf
          rw [e2, e3] at CA
          clear e e2 e3 h hR hZ ho hm hf
          go_enter Try.func27, Try.ntmps27
          go_wp2_with ((go_at_call 51; refine CA.out.mono ?_; rintro e wz ⟨rfl, hwz⟩; obtain rfl := hwz.symm; clear hwz))
          go_quiet ((go_at_call 52; exact Calls.quiet_of_same (CZ.out _)))
          go_wp2
          go_ret
          exact ⟨X, rfl, HD.out.past (below_drewN (Below.refl _ _) _), Did.stay (below_drewN (Below.refl _ _) _) HD.out.lt⟩
      · have bf : decide (R - (Z : Int) < (n : Int)) = false := decide_eq_false hfull
        have e0 : S.append s zs = match findN S.fs s with | none => (0, { S with fs := layN ⟨s, zs, 0⟩ S.fs }) | some i => (0, { S with fs := setF S.fs i { fileAt S.fs i with b := (fileAt S.fs i).b ++ zs } }) := by unfold DS.append; rw [if_neg (by rw [ho]; simp), if_neg (by rw [hm]; simp), ← hZ, ← hR, hn, if_neg hfull]; rfl
        rw [e0]
        cases hf : findN S.fs s with
        | none =>
          have e2 : S.err s = 4 := by unfold DS.err; rw [if_neg (by rw [ho]; simp), if_neg (by rw [hm]; simp), hf]
          have e3 : S.place s = -1 := by unfold DS.place; rw [ho, hm, hf]; rfl
          rw [e2, e3] at CA
          clear e0 e2 e3 h hR hZ ho hf hn
          go_enter Try.func27, Try.ntmps27
          go_wp2_with ((go_at_call 51; refine CA.out.mono ?_; rintro e wz ⟨rfl, hwz⟩; obtain rfl := hwz.symm; clear hwz))
          go_quiet ((go_at_call 52; exact Calls.quiet_of_same (CZ.out _)))
          obtain ⟨U, hU⟩ : ∃ U, U = w.drewN nq := ⟨_, rfl⟩
          have HBU : Hid (Below w.heap.size w U ∧ U.heap.size = w.heap.size) := by rw [hU]; exact ⟨below_drewN (Below.refl _ _) nq, rfl⟩
          rw [← hU]
          clear hU
          have CL : Hid (∀ (u : World) (a4 : Option Addr) (c4 : Nat), Below U.heap.size U u → u.ownsRow U.heap.size 5 1 (.slice a4 n c4) n (bs zs) → Calls Try.prog 53 #[.pointer (some ⟨b, 0, none⟩), .agg #[.string (strOfNums s), .slice a4 n c4, .int .i64 0]] u fun e w' => e = .returned (.tuple #[]) ∧ ∃ X', DiskR w' b { S with fs := layN ⟨s, zs, 0⟩ S.fs } X' ∧ Did w w' X X') := fun u a4 c4 hb ho => by
            have hu := HBU.out.1.trans (hb.mono HBU.out.1.size)
            have hlb : b < u.heap.size := Nat.lt_of_lt_of_le (HD.out.lt b HD.out.own) hu.size
            have hlo : ∃ q, q < u.heap.size ∧ (q = b ∨ w.heap.size ≤ q) ∧ Buf u a4 c4 zs (fun k => k = q) b b := by
              have hby := HRW.out.bytes
              have hr := own_row ho hby
              rcases ho.2 with ⟨e, e0⟩ | ⟨q, cap, cur, e, hq, hqq, hle, _⟩
              · injection e with e1 e2 e3
                subst e1; subst e3
                exact ⟨b, hlb, .inl rfl, ⟨by rw [HNN.out]; omega, fun _ => rfl, hr, fun ad h => by cases h⟩⟩
              · injection e with e1 e2 e3
                subst e1; subst e3
                have hlt : q < u.heap.size := (Array.getElem?_eq_some_iff.1 hqq).1
                have hqb : q ≠ b := by have := HD.out.lt b HD.out.own; have := HBU.out.2; omega
                exact ⟨q, hlt, .inr (by have := HBU.out.2; omega), ⟨by rw [HNN.out]; omega, (fun h => by cases h), hr, fun ad h => by injection h with h; subst h; exact ⟨q, rfl, rfl, hqb, hqb⟩⟩⟩
            obtain ⟨q, hq, hqw, hbuf⟩ := hlo
            have hc := rlay_any b S X ⟨s, zs, 0⟩ a4 c4 q u (HD.out.past hu) hbuf hq hm (Nat.zero_le _) hfew
            rw [show ({ name := s, b := zs, safe := 0 } : FileV).b.length = n from HNN.out] at hc
            refine hc.mono ?_
            rintro e w' ⟨rfl, hd, hch⟩
            refine ⟨rfl, _, hd, (Chg.of_below hu X).trans hch (fun _ _ x => x), fun k hk => ⟨?_, hd.lt k hk⟩⟩
            rcases hk with x | x | x
            · exact .inl x
            · rw [x]
              rcases hqw with e | e
              · rw [e]; exact .inl HD.out.own
              · exact .inr e
            · exact .inr (Nat.le_trans hu.size x.1)
          have HRU : Hid (Row U a zs) := HRW.out.below HBU.out.1 (Nat.le_refl _)
          go_wp2_with (first | (at_builtin; refine wpList_append_new rfl (.tmp 36) (.tmp 37) rfl rfl zs _ _ _ rfl HRU.out HNN.out HNL.out (by omega) ?_; intro b4 c4 w4 hown4 hb4; have O4 : Hid (w4.ownsRow U.heap.size 5 1 (.slice b4 n c4) n (bs zs)) := hown4; have B4 : Hid (Below U.heap.size U w4) := hb4; clear hown4 hb4) | (go_at_call 53; refine (CL.out _ _ _ B4.out O4.out).mono ?_; rintro e w5 ⟨rfl, X5, hd5, hdid5⟩; have D5 : Hid (DiskR w5 b { S with fs := layN ⟨s, zs, 0⟩ S.fs } X5) := hd5; have E5 : Hid (Did w w5 X X5) := hdid5; clear hd5 hdid5))
          go_ret
          exact ⟨X5, rfl, D5.out, E5.out⟩
        | some i =>
          have e2 : S.err s = 0 := by unfold DS.err; rw [if_neg (by rw [ho]; simp), if_neg (by rw [hm]; simp), hf]
          have e3 : S.place s = (i : Int) := place_zero ho hm hf
          rw [e2, e3] at CA
          obtain ⟨_, _, i', f, hf', hif, hfn⟩ := err_zero e2
          obtain rfl : i' = i := by rw [hf] at hf'; injection hf' with e; exact e.symm
          show Calls _ _ _ _ fun e w' => ∃ X', e = .returned (.int .i64 0) ∧ DiskR w' b ({ S with fs := setF S.fs i' { fileAt S.fs i' with b := (fileAt S.fs i').b ++ zs } } : DS) X' ∧ Did w w' X X'
          rw [file_at hif]
          rcases h.list with ⟨_, h2⟩ | ⟨g, cap, c1, hcap, hXg, hgb, hfree, hall⟩
          · rw [h2] at hif; simp at hif
          have hr := hall i' f hif
          obtain ⟨aa, cc, k1, kb⟩ := hr.c1
          have hil : i' < S.fs.length := (List.getElem?_eq_some_iff.1 hif).1
          have hMz : f.b.length ≤ Z := by rw [hZ]; exact size_at hif
          obtain ⟨N, hN⟩ : ∃ N, N = S.fs.length := ⟨_, rfl⟩
          have HN : Hid (N = S.fs.length) := hN
          have hfew2 := h.few
          rw [← hN] at c1 hcap hil hfew2
          obtain ⟨M, hM⟩ : ∃ M, M = f.b.length := ⟨_, rfl⟩
          have HM : Hid (f.b.length = M) := hM.symm
          have k2 := kb.le
          rw [← hM] at k1 k2 hMz
          have hgl : g < w.heap.size := h.lt g hXg
          have hbl : b < w.heap.size := h.lt b h.own
          have HC : Hid (∀ u, Below w.heap.size w u → u.cell? ⟨b, 1, none⟩ = some (.slice (some ⟨g, 0, none⟩) N cap) ∧ u.cell? ⟨g, i' * 3 + 1, none⟩ = some (.slice aa M cc) ∧ u.frozen? ⟨g, i' * 3 + 1, none⟩ = false) := fun u hb => ⟨(hb.cell (p := ⟨b, 1, none⟩) hbl).trans c1, (hb.cell (p := ⟨g, i' * 3 + 1, none⟩) hgl).trans k1, (hb.frozen (p := ⟨g, i' * 3 + 1, none⟩) hgl).trans (hfree _)⟩
          have FB : Hid (∀ z ∈ f.b, 0 ≤ z ∧ z ≤ 255) := kb.row.bytes
          have HROW : Hid (Row w aa f.b) := kb.row
          have NB : Hid (aa = none → M = 0 ∧ cc = 0) := fun e => ⟨by have := kb.nil e; omega, kb.nil e⟩
          obtain ⟨S', hS'⟩ : ∃ S', S' = ({ S with fs := setF S.fs i' { f with b := f.b ++ zs } } : DS) := ⟨_, rfl⟩
          have HEND : Hid (∀ (w6 : World) (a6 : Option Addr) (c6 : Nat), Below w.heap.size w w6 → w6.ownsRow w.heap.size 5 1 (.slice a6 (M + n) c6) (M + n) (bs (f.b ++ zs)) → DiskR (w6.setCell ⟨g, i' * 3 + 1, none⟩ (.slice a6 (M + n) c6)) b S' (fun k => X k ∨ w.heap.size ≤ k ∧ k < w6.heap.size) ∧ Did w (w6.setCell ⟨g, i' * 3 + 1, none⟩ (.slice a6 (M + n) c6)) X (fun k => X k ∨ w.heap.size ≤ k ∧ k < w6.heap.size)) := fun w6 a6 c6 hb6 ho6 => by
            have hs6 : (w6.setCell ⟨g, i' * 3 + 1, none⟩ (.slice a6 (M + n) c6)).heap.size = w6.heap.size := World.size_setCell _ _ _
            have hX' : ∀ k, (X k ∨ w.heap.size ≤ k ∧ k < w6.heap.size) → k < (w6.setCell ⟨g, i' * 3 + 1, none⟩ (.slice a6 (M + n) c6)).heap.size := fun k hk => by
              rw [hs6]
              exact hk.elim (fun x => Nat.lt_of_lt_of_le (h.lt k x) hb6.size) (fun x => x.2)
            have hby : By (f.b ++ zs) := By.app kb.row.bytes HRW.out.bytes
            rw [hS']
            refine ⟨h.turn (f' := { f with b := f.b ++ zs }) (by rw [← hN]; exact c1) hgb hXg (by rw [← hN]; exact hcap) hall hif (fun k x => .inl x) hX' (fun k x hk => (Below.heap_setCell _ ⟨g, i' * 3 + 1, none⟩ _ k hk).trans (hb6.block k (h.lt k x))) (fun j o hj ho => ?_) (fun j => ?_) ((hr.kept hXg (fun k x => hb6.block k (h.lt k x))).anew hgl hbl (by rw [List.length_append, ← hM, HNN.out]) hby ho6) ?_ hby (h.good.names f (List.mem_of_getElem? hif)), ?_, fun k hk => ⟨hk.imp id (fun x => x.1), hX' k hk⟩⟩
            · exact (World.cell?_setCell_other _ _ _ _ (by intro e; injection e with _ e2; omega)).trans (hb6.cell (p := ⟨g, j * 3 + o, none⟩) hgl)
            · rw [World.frozen?_setCell]; exact (hb6.frozen (p := ⟨g, j, none⟩) hgl).trans (hfree j)
            · show f.safe ≤ (f.b ++ zs).length
              have := h.good.safe f (List.mem_of_getElem? hif)
              rw [List.length_append]; omega
            · exact (Chg.of_below hb6 X).trans (Chg.set w6 ⟨g, i' * 3 + 1, none⟩ _ hXg) (fun _ _ x => x)
          show Calls _ _ _ _ fun e w' => ∃ X', e = .returned (.int .i64 0) ∧ DiskR w' b ({ S with fs := setF S.fs i' { f with b := f.b ++ zs } } : DS) X' ∧ Did w w' X X'
          rw [← hS']
          clear e0 e2 e3 h hR hZ ho hf hn hall hr kb hif hfn hf' hfree hN hM hS'
          go_enter Try.func27, Try.ntmps27
          go_wp2_with ((go_at_call 51; refine CA.out.mono ?_; rintro e wz ⟨rfl, hwz⟩; obtain rfl := hwz.symm; clear hwz))
          go_quiet ((go_at_call 52; exact Calls.quiet_of_same (CZ.out _)))
          obtain ⟨U, hU⟩ : ∃ U, U = w.drewN nq := ⟨_, rfl⟩
          have HBU : Hid (Below w.heap.size w U ∧ U.heap.size = w.heap.size) := by rw [hU]; exact ⟨below_drewN (Below.refl _ _) nq, rfl⟩
          rw [← hU]
          clear hU
          have HKU : Hid (∀ u, Below U.heap.size U u → u.cell? ⟨b, 1, none⟩ = some (.slice (some ⟨g, 0, none⟩) N cap) ∧ u.cell? ⟨g, i' * 3 + 1, none⟩ = some (.slice aa M cc) ∧ u.frozen? ⟨g, i' * 3 + 1, none⟩ = false) := fun u hb => HC.out u (HBU.out.1.trans (hb.mono HBU.out.1.size))
          have RB : Hid (∀ u, Below U.heap.size U u → Row u aa f.b) := fun u hb => HROW.out.below (HBU.out.1.trans (hb.mono HBU.out.1.size)) (Nat.le_refl _)
          have RZ : Hid (∀ u, Below U.heap.size U u → Row u a zs) := fun u hb => HRW.out.below (HBU.out.1.trans (hb.mono HBU.out.1.size)) (Nat.le_refl _)
          go_wp2
          refine wp_region_noPanic ?_
          refine region_till 19 (fun u => Below U.heap.size U u) (by kernel_rfl) ?_ (fun hHeld => ?_)
          · exact (Below.refl _ _).drew
          refine till_take (i := 0) (v := ?_) 0 (by kernel_rfl) (Or.inl rfl) (by kernel_rfl) rfl (by kernel_rfl) (by kernel_rfl) (by kernel_rfl) (fun _ _ _ h => h) (Or.inl ⟨by rfl, ?_⟩) hHeld ?_
          rotate_left
          · intro u hSu
            (go_simp) <;> (with_reducible rfl)
          change wpTill _ _ _ _ _ _ _ _ (Act.put _ (some 41) _) _
          simp only [Act.put, List.setIfInBounds_toArray, List.set_cons_zero, List.set_cons_succ]
          refine till_take (i := 1) (v := ?_) 1 (by kernel_rfl) (Or.inl rfl) (by kernel_rfl) rfl (by kernel_rfl) (by kernel_rfl) (by kernel_rfl) (fun _ _ _ h => h) (Or.inl ⟨by rfl, ?_⟩) hHeld ?_
          rotate_left
          · intro u hSu
            (go_simp) <;> (with_reducible rfl)
          change wpTill _ _ _ _ _ _ _ _ (Act.put _ (some 42) _) _
          simp only [Act.put, List.setIfInBounds_toArray, List.set_cons_zero, List.set_cons_succ]
          refine till_take (i := 2) (v := ?_) 2 (by kernel_rfl) (Or.inl rfl) (by kernel_rfl) rfl (by kernel_rfl) (by kernel_rfl) (by kernel_rfl) (fun _ _ _ h => h) (Or.inl ⟨by rfl, ?_⟩) hHeld ?_
          rotate_left
          · intro u hSu
            (go_simp) <;> (with_reducible rfl)
          change wpTill _ _ _ _ _ _ _ _ (Act.put _ (some 43) _) _
          simp only [Act.put, List.setIfInBounds_toArray, List.set_cons_zero, List.set_cons_succ]
          refine till_take (i := 3) (v := ?_) 3 (by kernel_rfl) (Or.inl rfl) (by kernel_rfl) rfl (by kernel_rfl) (by kernel_rfl) (by kernel_rfl) (fun _ _ _ h => h) (Or.inl ⟨by rfl, ?_⟩) hHeld ?_
          rotate_left
          · intro u hSu
            obtain ⟨q1, q2, q3⟩ := HKU.out u hSu
            (go_simp) <;> (with_reducible rfl)
          change wpTill _ _ _ _ _ _ _ _ (Act.put _ (some 44) _) _
          simp only [Act.put, List.setIfInBounds_toArray, List.set_cons_zero, List.set_cons_succ]
          refine till_take (i := 4) (v := ?_) 4 (by kernel_rfl) (Or.inl rfl) (by kernel_rfl) rfl (by kernel_rfl) (by kernel_rfl) (by kernel_rfl) (fun _ _ _ h => h) (Or.inl ⟨by rfl, ?_⟩) hHeld ?_
          rotate_left
          · intro u hSu
            (go_simp) <;> (with_reducible rfl)
          change wpTill _ _ _ _ _ _ _ _ (Act.put _ (some 45) _) _
          simp only [Act.put, List.setIfInBounds_toArray, List.set_cons_zero, List.set_cons_succ]
          refine till_take (i := 6) (v := ?_) 6 (by kernel_rfl) (Or.inl rfl) (by kernel_rfl) rfl (by kernel_rfl) (by kernel_rfl) (by kernel_rfl) (fun _ _ _ h => h) (Or.inl ⟨by rfl, ?_⟩) hHeld ?_
          rotate_left
          · intro u hSu
            (go_simp) <;> (with_reducible rfl)
          change wpTill _ _ _ _ _ _ _ _ (Act.put _ (some 47) _) _
          simp only [Act.put, List.setIfInBounds_toArray, List.set_cons_zero, List.set_cons_succ]
          refine till_take (i := 7) (v := ?_) 7 (by kernel_rfl) (Or.inl rfl) (by kernel_rfl) rfl (by kernel_rfl) (by kernel_rfl) (by kernel_rfl) (fun _ _ _ h => h) (Or.inl ⟨by rfl, ?_⟩) hHeld ?_
          rotate_left
          · intro u hSu
            (go_simp) <;> (with_reducible rfl)
          change wpTill _ _ _ _ _ _ _ _ (Act.put _ (some 48) _) _
          simp only [Act.put, List.setIfInBounds_toArray, List.set_cons_zero, List.set_cons_succ]
          refine till_take (i := 8) (v := ?_) 8 (by kernel_rfl) (Or.inl rfl) (by kernel_rfl) rfl (by kernel_rfl) (by kernel_rfl) (by kernel_rfl) (fun _ _ _ h => h) (Or.inl ⟨by rfl, ?_⟩) hHeld ?_
          rotate_left
          · intro u hSu
            (go_simp) <;> (with_reducible rfl)
          change wpTill _ _ _ _ _ _ _ _ (Act.put _ (some 49) _) _
          simp only [Act.put, List.setIfInBounds_toArray, List.set_cons_zero, List.set_cons_succ]
          refine till_take (i := 9) (v := ?_) 9 (by kernel_rfl) (Or.inl rfl) (by kernel_rfl) rfl (by kernel_rfl) (by kernel_rfl) (by kernel_rfl) (fun _ _ _ h => h) (Or.inl ⟨by rfl, ?_⟩) hHeld ?_
          rotate_left
          · intro u hSu
            obtain ⟨q1, q2, q3⟩ := HKU.out u hSu
            (go_simp) <;> (with_reducible rfl)
          change wpTill _ _ _ _ _ _ _ _ (Act.put _ (some 50) _) _
          simp only [Act.put, List.setIfInBounds_toArray, List.set_cons_zero, List.set_cons_succ]
          refine till_take (i := 10) (v := ?_) 10 (by kernel_rfl) (Or.inl rfl) (by kernel_rfl) rfl (by kernel_rfl) (by kernel_rfl) (by kernel_rfl) (fun _ _ _ h => h) (Or.inl ⟨by rfl, ?_⟩) hHeld ?_
          rotate_left
          · intro u hSu
            (go_simp) <;> (with_reducible rfl)
          change wpTill _ _ _ _ _ _ _ _ (Act.put _ (some 51) _) _
          simp only [Act.put, List.setIfInBounds_toArray, List.set_cons_zero, List.set_cons_succ]
          refine till_take (i := 11) (v := ?_) 11 (by kernel_rfl) (Or.inl rfl) (by kernel_rfl) rfl (by kernel_rfl) (by kernel_rfl) (by kernel_rfl) (fun _ _ _ h => h) (Or.inl ⟨by rfl, ?_⟩) hHeld ?_
          rotate_left
          · intro u hSu
            (go_simp) <;> (with_reducible rfl)
          change wpTill _ _ _ _ _ _ _ _ (Act.put _ (some 52) _) _
          simp only [Act.put, List.setIfInBounds_toArray, List.set_cons_zero, List.set_cons_succ]
          refine till_take (i := 12) (v := ?_) 12 (by kernel_rfl) (Or.inl rfl) (by kernel_rfl) rfl (by kernel_rfl) (by kernel_rfl) (by kernel_rfl) (fun _ _ _ h => h) (Or.inl ⟨by rfl, ?_⟩) hHeld ?_
          rotate_left
          · intro u hSu
            (go_simp) <;> (with_reducible rfl)
          change wpTill _ _ _ _ _ _ _ _ (Act.put _ (some 53) _) _
          simp only [Act.put, List.setIfInBounds_toArray, List.set_cons_zero, List.set_cons_succ]
          refine till_take (i := 13) (v := ?_) 13 (by kernel_rfl) (Or.inl rfl) (by kernel_rfl) rfl (by kernel_rfl) (by kernel_rfl) (by kernel_rfl) (fun _ _ _ h => h) (Or.inl ⟨by rfl, ?_⟩) hHeld ?_
          rotate_left
          · intro u hSu
            obtain ⟨q1, q2, q3⟩ := HKU.out u hSu
            (go_simp) <;> (with_reducible rfl)
          change wpTill _ _ _ _ _ _ _ _ (Act.put _ (some 54) _) _
          simp only [Act.put, List.setIfInBounds_toArray, List.set_cons_zero, List.set_cons_succ]
          refine till_take (i := 15) (v := ?_) 15 (by kernel_rfl) (Or.inl rfl) (by kernel_rfl) rfl (by kernel_rfl) (by kernel_rfl) (by kernel_rfl) (fun _ _ _ h => h) (Or.inl ⟨by rfl, ?_⟩) hHeld ?_
          rotate_left
          · intro u hSu
            (go_simp) <;> (with_reducible rfl)
          change wpTill _ _ _ _ _ _ _ _ (Act.put _ (some 56) _) _
          simp only [Act.put, List.setIfInBounds_toArray, List.set_cons_zero, List.set_cons_succ]
          refine till_ready (rs := [5]) (by kernel_rfl) (by simp) ?_
          refine AllTill.cons rfl (fun K hK => ?_) AllTill.nil
          go_simp
          refine hK.out _ _ ?_ (fun hHeld2 => ?_)
          · exact hHeld.alloc hHeld.size _
          clear hK K hHeld
          have hHeld := hHeld2
          clear hHeld2
          refine till_ready (rs := [14]) (by kernel_rfl) (by simp) ?_
          refine AllTill.cons rfl (fun K hK => ?_) AllTill.nil
          refine step_append_first rfl (.tmp 46) (.tmp 54) rfl U.heap.size (.slice (some ⟨U.heap.size, 0, none⟩) 0 0) f.b rfl (World.ownsRow_made U #[] 0 (Nat.le_refl _) (by decide) rfl).drew _ M _ rfl (RB.out _ ((Below.refl _ _).alloc (Nat.le_refl _) _).drew) HM.out NB.out (by omega) (by simp) U ((Below.refl _ _).alloc (Nat.le_refl _) _).drew ?_
          intro a5 c5 w5 h5 hb5
          have O5 : Hid (w5.ownsRow U.heap.size 5 1 (.slice a5 M c5) M (bs f.b)) := h5
          have B5 : Hid (Below U.heap.size U w5) := hb5
          clear h5 hb5
          refine hK.out _ _ ?_ (fun hHeld2 => ?_)
          · exact B5.out
          clear hK K hHeld
          have hHeld := hHeld2
          clear hHeld2
          change wpTill _ _ _ _ _ _ _ _ (Act.put _ (some 55) _) _
          simp only [Act.put, List.setIfInBounds_toArray, List.set_cons_zero, List.set_cons_succ]
          refine till_ready (rs := [16]) (by kernel_rfl) (by simp) ?_
          refine AllTill.cons rfl (fun K hK => ?_) AllTill.nil
          refine step_append_row rfl (.tmp 55) (.tmp 56) rfl U.heap.size (.slice a5 M c5) M f.b zs rfl O5.out _ n _ rfl (RZ.out _ B5.out) HNN.out HNL.out FB.out (by omega) B5.out.size ?_
          intro a6 c6 w6 h6 hg6
          have O6 : Hid (w6.ownsRow U.heap.size 5 1 (.slice a6 (M + n) c6) (M + n) (bs (f.b ++ zs))) := h6
          have B6 : Hid (Below U.heap.size U w6) := B5.out.grown hg6 B5.out.size (fun k hk => (O5.out.lt k hk).1)
          clear h6 hg6
          refine hK.out _ _ ?_ (fun hHeld2 => ?_)
          · exact B6.out
          clear hK K hHeld
          have hHeld := hHeld2
          clear hHeld2
          change wpTill _ _ _ _ _ _ _ _ (Act.put _ (some 57) _) _
          simp only [Act.put, List.setIfInBounds_toArray, List.set_cons_zero, List.set_cons_succ]
          refine till_take (i := 17) (v := ?_) 18 (by kernel_rfl) (Or.inr (by kernel_rfl)) (by kernel_rfl) rfl (by kernel_rfl) (by kernel_rfl) (by kernel_rfl) (fun _ _ _ h => h) (Or.inl ⟨by rfl, ?_⟩) hHeld ?_
          rotate_left
          · intro u hSu
            (go_simp) <;> (with_reducible rfl)
          change wpTill _ _ _ _ _ _ _ _ (Act.put _ (some 58) _) _
          simp only [Act.put, List.setIfInBounds_toArray, List.set_cons_zero, List.set_cons_succ]
          refine till_take (i := 18) (v := ?_) 18 (by kernel_rfl) (Or.inl rfl) (by kernel_rfl) rfl (by kernel_rfl) (by kernel_rfl) (by kernel_rfl) (fun _ _ _ h => h) (Or.inl ⟨by rfl, ?_⟩) hHeld ?_
          rotate_left
          · intro u hSu
            (go_simp) <;> (with_reducible rfl)
          change wpTill _ _ _ _ _ _ _ _ (Act.put _ (some 59) _) _
          simp only [Act.put, List.setIfInBounds_toArray, List.set_cons_zero, List.set_cons_succ]
          refine till_last (by kernel_rfl) (by kernel_rfl) rfl (fun K hK => ?_)
          obtain ⟨q1, q2, q3⟩ := HKU.out w6 B6.out
          go_simp
          refine hK.out _ _ ?_
          refine NoPanic.normal ?_
          clear hK K hHeld q1 q2 q3
          go_wp2
          go_ret
          obtain ⟨r1, r2⟩ := HEND.out w6 a6 c6 (HBU.out.1.trans (B6.out.mono HBU.out.1.size)) (by rw [← HBU.out.2]; exact O6.out)
          exact ⟨_, rfl, r1, r2⟩
end Go.Proofs.Ytlfmhdljldbjmaa
