/-
  StorePlays: what each key is at any time, stretches, newest stamps, all keys, all versions are as the document says, for all calls (of more than 50, of more than 20 writes in one, of values of more than 250 bytes the statement asks nothing).
-/
import Derived.Test.YtfaojmognbgnfaaGreatRows
import Derived.Test.YtfaojmognbgnfaaGreatStoL7
import Derived.Test.YtfaojmognbgnfaaGreatBase
import Derived.Test.YtfaojmognbgnfaaGreatSActs
import Derived.Test.YtfaojmognbgnfaaGreatPairOpen
import Derived.WalkKit
import Derived.ProofKit
import Derived.OpenShut
import Derived.ShutString
import Derived.ChangeOld
import Derived.Below
import Derived.Carry
namespace Go.Proofs.YtfaojmognbgnfaaGreat.storePlays
open Go.ChangeShapes Go.WideShapes Go.ChangeAt Go.RowKit
open Go.ChangeMaps (open_string shut_string)
set_option linter.unusedVariables false

theorem own : ownKnob Tryz.prog.godebug = none := by kernel_rfl
theorem laidOut : laidOutB Tryz.prog = true := by kernel_rfl
/-- A slice of integers that came in: nil, or a row of 'cap' cells, of which the first 'len' are its elements. -/
def IsRow (k : IntKind) (w : World) (a : Option Addr) (len cap : Nat) (zs : List Int) : Prop :=
  (a = none ∧ len = 0 ∧ cap = 0 ∧ zs = []) ∨
  ∃ x, a = some x ∧ len ≤ cap ∧ cap ≤ maxLen ∧ zs.length = cap ∧ (∀ i, i < zs.length → w.cell? (x.add i) = some (.int k (zs.getD i 0))) ∧ ∀ n ∈ zs, (Lit.int k n).wf = true

set_option maxRecDepth 20000 in
set_option maxHeartbeats 16000000 in
theorem walk (a0 : Option Addr) (len0 cap0 : Nat) (z0 : List SAct) (z1 : List Int) (z2 : List Int) (z3 : List Int) (a4 b4 : Int) (a5 : Int) (w : World) (l0 : z0.length = len0) (w0 : SActsOf w a0 cap0 z0) (w1 : IsArr .u8 16 z1) (w2 : IsArr .u8 16 z2) (w3 : IsArr .u8 16 z3) (w4 : (Lit.int .i64 a4).wf = true) (x4 : (Lit.int .u8 b4).wf = true) (w5 : (Lit.int .i64 a5).wf = true) :
    Calls Tryz.prog 3 #[.slice a0 len0 cap0, .agg (z1.map (Value.int .u8)).toArray, .agg (z2.map (Value.int .u8)).toArray, .agg (z3.map (Value.int .u8)).toArray, .agg #[.int .i64 a4, .int .u8 b4], .int .i64 a5] w fun e w' => e = .returned (.bool true) ∧ Below w.heap.size w w' := by
  have by4 := bounds_i64 w4
  have by4n := bounds_u8 x4
  have by5 := bounds_i64 w5
  have KY1 : Hid (Ky z1) := w1.ky
  have KY2 : Hid (Ky z2) := w2.ky
  have KY3 : Hid (Ky z3) := w3.ky
  have AW : Hid (∀ u, Calls Tryz.prog 4 #[] u fun e w' => e = .returned (.bool true) ∧ Below u.heap.size u w') := fun u => lawake_any u
  have HL : Hid (z0.length = len0) := l0
  have HA : Hid (SActsOf w a0 cap0 z0) := w0
  have hcap : len0 ≤ cap0 := by rw [← l0]; exact w0.room
  obtain ⟨W0, hW0⟩ : ∃ W0, W0 = (((w.alloc (.cells (kcs z1) 24)).alloc (.cells (kcs z2) 24)).alloc (.cells (kcs z3) 24)).alloc (.cells #[.int .i64 a4, .int .u8 b4] 26) := ⟨_, rfl⟩
  have HW0 : Hid ((((w.alloc (.cells (kcs z1) 24)).alloc (.cells (kcs z2) 24)).alloc (.cells (kcs z3) 24)).alloc (.cells #[.int .i64 a4, .int .u8 b4] 26) = W0) := hW0.symm
  have HB0 : Hid (Below w.heap.size w W0) := by rw [hW0]; exact ((((Below.refl _ _).alloc (Nat.le_refl _) _).alloc (by simp) _).alloc (by simp; omega) _).alloc (by simp; omega) _
  have HKS : Hid (KsB w W0 z1 z2 z3 a4 b4) := by rw [hW0]; exact KsB.made w KY1.out KY2.out KY3.out a4 b4 24 26
  have TB : Hid (∀ u, Below W0.heap.size W0 u → KsB w u z1 z2 z3 a4 b4) := fun u hb => HKS.out.past hb
  have CN : Hid (∀ u, Below W0.heap.size W0 u → Calls Tryz.prog 5 #[] u fun e w' => ∃ p, e = .returned (.pointer (some ⟨p, 0, none⟩)) ∧ StX W0 w' p []) := fun u hb => (xnew_any u).mono fun e w' ⟨p, h1, h2⟩ => ⟨p, h1, h2.to hb⟩
  have HBW0 : Hid (∀ u, Below W0.heap.size W0 u → Below w.heap.size w u) := fun u h => HB0.out.trans (h.mono HB0.out.size)
  clear w0 w1 w2 w3 w4 x4 w5 l0 hW0 HKS
  by_cases h50 : 50 < len0
  · have b50 : (50 : Int) < (len0 : Int) := by omega
    go_enter Tryz.func3, Tryz.ntmps3
    go_wp2_with ((go_at_call 4; refine (AW.out _).mono ?_; rintro e v1 ⟨rfl, hb1⟩; rw [HW0.out] at hb1; have B1 : Hid (Below W0.heap.size W0 v1) := hb1; clear hb1))
    go_ret
    exact ⟨rfl, HBW0.out _ B1.out⟩
  · have b50 : ¬ (50 : Int) < (len0 : Int) := by omega
    go_enter Tryz.func3, Tryz.ntmps3
    go_wp2_with (first | (go_at_call 4; refine (AW.out _).mono ?_; rintro e v1 ⟨rfl, hb1⟩; rw [HW0.out] at hb1; have B1 : Hid (Below W0.heap.size W0 v1) := hb1; clear hb1) | (have hgo := B1.out; clear hgo; go_at_call 5; refine (CN.out _ B1.out).mono ?_; rintro e v3 ⟨p0, rfl, h3⟩; have H3 : Hid (Duo W0 (v3.alloc (.cells #[.slice none 0 0] 33)) p0 v3.heap.size [] [] noFoot) := duo_new h3; clear h3 B1))
    obtain ⟨q, hq⟩ : ∃ q, q = v3.heap.size := ⟨_, rfl⟩
    rw [← hq] at H3 ⊢
    clear hq CN AW
    go_loopw [13, 15] (fun sv iv wr => ∃ i p : Nat, sv = .pointer (some ⟨p, 0, none⟩) ∧ iv = .int .i64 i ∧ i ≤ len0 ∧ Hid (∃ L, Duo W0 wr p q L L noFoot)) (fun _ iv _ => len0 - (intOf iv).toNat)
    case atStart => exact ⟨0, p0, rfl, rfl, Nat.zero_le _, ⟨[], H3.out⟩⟩
    case round =>
      clear H3
      obtain ⟨i, p, rfl, rfl, hi, HML⟩ := hrel
      have h0 : (0 : Int) ≤ (i : Int) := by omega
      obtain ⟨L, hM⟩ := HML.out
      have HM : Hid (Duo W0 wr p q L L noFoot) := hM
      clear hM HML
      have HBW : Hid (Below w.heap.size w wr) := HBW0.out _ HM.out.below
      by_cases hlt : i < len0
      · have h1 : (i : Int) < (len0 : Int) := by omega
        obtain ⟨x, hx⟩ : ∃ x, z0[i]? = some x := ⟨_, List.getElem?_eq_getElem (by rw [HL.out]; exact hlt)⟩
        obtain ⟨b, off, rfl, hax, hok⟩ := HA.out.act hx
        obtain ⟨q0, q1, q2, q3⟩ := hax.past HBW.out
        obtain ⟨op, hop⟩ : ∃ t, t = x.op := ⟨_, rfl⟩
        obtain ⟨N, hN⟩ : ∃ N, N = x.l.length := ⟨_, rfl⟩
        obtain ⟨t, ht⟩ : ∃ t, t = x.t := ⟨_, rfl⟩
        obtain ⟨n, hn⟩ : ∃ t, t = x.n := ⟨_, rfl⟩
        obtain ⟨xa, hxa⟩ : ∃ t, t = x.a := ⟨_, rfl⟩
        obtain ⟨xc, hxc⟩ : ∃ t, t = x.cap := ⟨_, rfl⟩
        have hop1 := hok.op
        rw [← hop] at q0 hop1
        rw [← ht] at q1
        rw [← hn] at q2
        rw [← hN, ← hxa, ← hxc] at q3
        have HNB : Hid (0 ≤ n ∧ n ≤ 255) := by rw [hn]; exact hok.n
        have HWR : Hid (WrtsAt W0 xa x.l ∧ x.l.length = N ∧ N ≤ xc) := ⟨by rw [hxa]; exact hok.wr.at_.past HB0.out, hN.symm, by rw [hN, hxc]; exact hok.wr.room⟩
        have hfewN : N ≤ 9223372036854775807 := by rw [hN]; exact hok.wr.few
        obtain ⟨l, hl⟩ : ∃ l, l = x.l := ⟨_, rfl⟩
        rw [← hl] at HWR
        obtain ⟨lg, hlg⟩ : ∃ g, g = longW l := ⟨_, rfl⟩
        have CLG : Hid (∀ u, Below wr.heap.size wr u → Calls Tryz.prog 6 #[.slice xa N xc] u fun e w' => e = .returned (.bool lg) ∧ w' = u) := fun u hb => by rw [hlg]; exact llong_any xa N xc l u HWR.out.2.1 HWR.out.2.2 hfewN (HWR.out.1.past (HM.out.past hb).below)
        have HRD : Hid (RndS W0 (wr.alloc (.cells #[.int .i64 op, .int .i64 t, .int .u8 n, .slice xa N xc] 36)) p q wr.heap.size L L op t n xa N xc) := HM.out.round op t n xa N xc 36
        have HBX : Hid (Below wr.heap.size wr (wr.alloc (.cells #[.int .i64 op, .int .i64 t, .int .u8 n, .slice xa N xc] 36))) := (Below.refl _ _).alloc (Nat.le_refl _) _
        have HN20 : Hid (lg = false → N ≤ 20) := fun h9 => by
          rw [hlg] at h9
          unfold longW at h9
          simp only [Bool.or_eq_false_iff, decide_eq_false_iff_not] at h9
          have := HWR.out.2.1
          omega
        clear hlg hl hop ht hn hN hxa hxc hx hax hok
        cases lg with
        | true =>
          clear HN20
          go_wp2_with (go_at_call 6; refine (CLG.out _ HBX.out).mono ?_; rintro e v3 ⟨rfl, rfl⟩)
          go_ret
          exact ⟨rfl, HBW.out.alloc HBW.out.size _⟩
        | false =>
          have hN20 : N ≤ 20 := HN20.out rfl
          clear HN20 HM HBW
          go_upto_block 2 with (go_at_call 6; refine (CLG.out _ HBX.out).mono ?_; rintro e v3 ⟨rfl, rfl⟩)
          obtain ⟨xb, hxb⟩ : ∃ xb, xb = wr.heap.size := ⟨_, rfl⟩
          rw [← hxb] at HRD ⊢
          generalize wr.alloc (.cells #[.int .i64 op, .int .i64 t, .int .u8 n, .slice xa N xc] 36) = ux at HRD ⊢
          clear hxb HBX CLG q0 q1 q2 q3
          obtain ⟨y0, y1, y2, y3⟩ := HRD.out.box
          go_cut [13, 17] (fun sv ov wx => ov = .bool true ∧ ∃ p, sv = .pointer (some ⟨p, 0, none⟩) ∧ Hid (∃ L', Duo W0 wx p q L' L' noFoot))
          case first =>
            as_aux_lemma =>
              by_cases hop0 : op = 0
              · subst hop0
                obtain ⟨r1, hr1⟩ : ∃ r, r = (applyV L t n l).1 := ⟨_, rfl⟩
                obtain ⟨L2, hL2⟩ : ∃ l2, l2 = (applyV L t n l).2 := ⟨_, rfl⟩
                have CP : Hid (∀ u, RndS W0 u p q xb L L 0 t n xa N xc → Calls Tryz.prog 7 #[.pointer (some ⟨p, 0, none⟩), .agg #[.int .i64 t, .int .u8 n], .slice xa N xc] u fun e w' => e = .returned (.int .i64 r1) ∧ RndS W0 w' p q xb L2 L 0 t n xa N xc) := fun u h => by rw [hr1, hL2]; exact qapply_s h HNB.out l HWR.out.2.1 HWR.out.2.2 (by omega) HWR.out.1
                have CQ : Hid (∀ u, RndS W0 u p q xb L2 L 0 t n xa N xc → Calls Tryz.prog 8 #[.pointer (some ⟨q, 0, none⟩), .agg #[.int .i64 t, .int .u8 n], .slice xa N xc] u fun e w' => e = .returned (.int .i64 r1) ∧ RndS W0 w' p q xb L2 L2 0 t n xa N xc) := fun u h => by
                  have h2 := qapply_r h HNB.out l HWR.out.2.1 HWR.out.2.2 (by omega) (HRD.out.duo.stx.sto.len) HWR.out.1
                  rw [← hr1, ← hL2] at h2
                  exact h2
                clear hr1 hL2
                go_wp2
                refine wp_region_noPanic ?_
                refine wp_region_held_drew (S := fun u => XF u xb 0 t n xa N xc) (by kernel_rfl) ?_ (fun hHeld => ?_)
                · exact (HRD.out.past (Below.refl _ _).drew).box
                refine wpAnyH_take (i := 0) (v := ?_) rfl (by kernel_rfl) (by kernel_rfl) (by kernel_rfl) (fun _ _ _ h => h) (Or.inl ⟨by rfl, ?_⟩) hHeld ?_
                rotate_left
                · intro u hSu
                  (go_simp) <;> (with_reducible rfl)
                change wpAnyH _ _ _ _ _ _ _ (Act.put _ (some 53) _) _
                simp only [Act.put, List.setIfInBounds_toArray, List.set_cons_zero, List.set_cons_succ]
                refine wpAnyH_take (i := 1) (v := ?_) rfl (by kernel_rfl) (by kernel_rfl) (by kernel_rfl) (fun _ _ _ h => h) (Or.inl ⟨by rfl, ?_⟩) hHeld ?_
                rotate_left
                · intro u hSu
                  (go_simp) <;> (with_reducible rfl)
                change wpAnyH _ _ _ _ _ _ _ (Act.put _ (some 54) _) _
                simp only [Act.put, List.setIfInBounds_toArray, List.set_cons_zero, List.set_cons_succ]
                refine wpAnyH_take (i := 2) (v := ?_) rfl (by kernel_rfl) (by kernel_rfl) (by kernel_rfl) (fun _ _ _ h => h) (Or.inl ⟨by rfl, ?_⟩) hHeld ?_
                rotate_left
                · intro u hSu
                  obtain ⟨y0, y1, y2, y3⟩ := hSu
                  (go_simp) <;> (with_reducible rfl)
                change wpAnyH _ _ _ _ _ _ _ (Act.put _ (some 55) _) _
                simp only [Act.put, List.setIfInBounds_toArray, List.set_cons_zero, List.set_cons_succ]
                refine wpAnyH_take (i := 3) (v := ?_) rfl (by kernel_rfl) (by kernel_rfl) (by kernel_rfl) (fun _ _ _ h => h) (Or.inl ⟨by rfl, ?_⟩) hHeld ?_
                rotate_left
                · intro u hSu
                  (go_simp) <;> (with_reducible rfl)
                change wpAnyH _ _ _ _ _ _ _ (Act.put _ (some 56) _) _
                simp only [Act.put, List.setIfInBounds_toArray, List.set_cons_zero, List.set_cons_succ]
                refine wpAnyH_take (i := 4) (v := ?_) rfl (by kernel_rfl) (by kernel_rfl) (by kernel_rfl) (fun _ _ _ h => h) (Or.inl ⟨by rfl, ?_⟩) hHeld ?_
                rotate_left
                · intro u hSu
                  obtain ⟨y0, y1, y2, y3⟩ := hSu
                  (go_simp) <;> (with_reducible rfl)
                change wpAnyH _ _ _ _ _ _ _ (Act.put _ (some 57) _) _
                simp only [Act.put, List.setIfInBounds_toArray, List.set_cons_zero, List.set_cons_succ]
                refine wpAnyH_take (i := 6) (v := ?_) rfl (by kernel_rfl) (by kernel_rfl) (by kernel_rfl) (fun _ _ _ h => h) (Or.inl ⟨by rfl, ?_⟩) hHeld ?_
                rotate_left
                · intro u hSu
                  (go_simp) <;> (with_reducible rfl)
                change wpAnyH _ _ _ _ _ _ _ (Act.put _ (some 59) _) _
                simp only [Act.put, List.setIfInBounds_toArray, List.set_cons_zero, List.set_cons_succ]
                refine wpAnyH_take (i := 7) (v := ?_) rfl (by kernel_rfl) (by kernel_rfl) (by kernel_rfl) (fun _ _ _ h => h) (Or.inl ⟨by rfl, ?_⟩) hHeld ?_
                rotate_left
                · intro u hSu
                  (go_simp) <;> (with_reducible rfl)
                change wpAnyH _ _ _ _ _ _ _ (Act.put _ (some 60) _) _
                simp only [Act.put, List.setIfInBounds_toArray, List.set_cons_zero, List.set_cons_succ]
                refine wpAnyH_take (i := 8) (v := ?_) rfl (by kernel_rfl) (by kernel_rfl) (by kernel_rfl) (fun _ _ _ h => h) (Or.inl ⟨by rfl, ?_⟩) hHeld ?_
                rotate_left
                · intro u hSu
                  obtain ⟨y0, y1, y2, y3⟩ := hSu
                  (go_simp) <;> (with_reducible rfl)
                change wpAnyH _ _ _ _ _ _ _ (Act.put _ (some 61) _) _
                simp only [Act.put, List.setIfInBounds_toArray, List.set_cons_zero, List.set_cons_succ]
                refine wpAnyH_take (i := 9) (v := ?_) rfl (by kernel_rfl) (by kernel_rfl) (by kernel_rfl) (fun _ _ _ h => h) (Or.inl ⟨by rfl, ?_⟩) hHeld ?_
                rotate_left
                · intro u hSu
                  (go_simp) <;> (with_reducible rfl)
                change wpAnyH _ _ _ _ _ _ _ (Act.put _ (some 62) _) _
                simp only [Act.put, List.setIfInBounds_toArray, List.set_cons_zero, List.set_cons_succ]
                refine wpAnyH_take (i := 10) (v := ?_) rfl (by kernel_rfl) (by kernel_rfl) (by kernel_rfl) (fun _ _ _ h => h) (Or.inl ⟨by rfl, ?_⟩) hHeld ?_
                rotate_left
                · intro u hSu
                  obtain ⟨y0, y1, y2, y3⟩ := hSu
                  (go_simp) <;> (with_reducible rfl)
                change wpAnyH _ _ _ _ _ _ _ (Act.put _ (some 63) _) _
                simp only [Act.put, List.setIfInBounds_toArray, List.set_cons_zero, List.set_cons_succ]
                refine wpAnyH_ready (rs := [5]) (by kernel_rfl) (by simp) ?_
                refine AllReadyH.cons rfl (fun K hK => ?_) AllReadyH.nil
                go_simp
                go_at_call 7
                refine (CP.out _ (HRD.out.past (Below.refl _ _).drew)).mono ?_
                rintro e x1 ⟨rfl, hx1⟩
                have R1 : Hid (RndS W0 x1 p q xb L2 L 0 t n xa N xc) := hx1
                clear hx1
                refine hK.out _ _ ?_ (fun hHeld2 => ?_)
                · exact R1.out.box
                clear hK K hHeld
                have hHeld := hHeld2
                clear hHeld2
                refine wpAnyH_ready (rs := [11]) (by kernel_rfl) (by simp) ?_
                refine AllReadyH.cons rfl (fun K hK => ?_) AllReadyH.nil
                go_simp
                go_at_call 8
                refine (CQ.out _ R1.out).mono ?_
                rintro e x2 ⟨rfl, hx2⟩
                have R2 : Hid (RndS W0 x2 p q xb L2 L2 0 t n xa N xc) := hx2
                clear hx2 R1
                refine hK.out _ _ ?_ (fun hHeld2 => ?_)
                · exact R2.out.box
                clear hK K hHeld
                have hHeld := hHeld2
                clear hHeld2
                refine wpAnyH_take (i := 12) (v := ?_) rfl (by kernel_rfl) (by kernel_rfl) (by kernel_rfl) (fun _ _ _ h => h) (Or.inl ⟨by rfl, ?_⟩) hHeld ?_
                rotate_left
                · intro u hSu
                  (go_simp) <;> (with_reducible rfl)
                change wpAnyH _ _ _ _ _ _ _ (Act.put _ (some 65) _) _
                simp only [Act.put, List.setIfInBounds_toArray, List.set_cons_zero, List.set_cons_succ]
                refine wpAnyH_take (i := 13) (v := ?_) rfl (by kernel_rfl) (by kernel_rfl) (by kernel_rfl) (fun _ _ _ h => h) (Or.inl ⟨by rfl, ?_⟩) hHeld ?_
                rotate_left
                · intro u hSu
                  (go_simp) <;> (with_reducible rfl)
                change wpAnyH _ _ _ _ _ _ _ (Act.put _ (some 17) _) _
                simp only [Act.put, List.setIfInBounds_toArray, List.set_cons_zero, List.set_cons_succ]
                refine wpAnyH_done (by kernel_rfl) ?_ _
                refine NoPanic.normal ?_
                go_wp2
                go_meet
                case rel => exact ⟨rfl, p, rfl, L2, R2.out.duo.less (fun k hk => hk.elim)⟩
              · by_cases hop1x : op = 1
                · subst hop1x
                  obtain ⟨d3, hd3⟩ : ∃ d, d = (L.length : Int) - ((restV L t n).length : Int) := ⟨_, rfl⟩
                  obtain ⟨L2, hL2⟩ : ∃ l2, l2 = restV L t n := ⟨_, rfl⟩
                  have CP : Hid (∀ u, RndS W0 u p q xb L L 1 t n xa N xc → Calls Tryz.prog 9 #[.pointer (some ⟨p, 0, none⟩), .agg #[.int .i64 t, .int .u8 n]] u fun e w' => e = .returned (.int .i64 d3) ∧ RndS W0 w' p q xb L2 L 1 t n xa N xc) := fun u h => by rw [hd3, hL2]; exact qtrim_s h
                  have CQ : Hid (∀ u, RndS W0 u p q xb L2 L 1 t n xa N xc → Calls Tryz.prog 10 #[.pointer (some ⟨q, 0, none⟩), .agg #[.int .i64 t, .int .u8 n]] u fun e w' => e = .returned (.int .i64 d3) ∧ RndS W0 w' p q xb L2 L2 1 t n xa N xc) := fun u h => by
                    have h2 := qtrim_r h
                    rw [← hd3, ← hL2] at h2
                    exact h2
                  clear hd3 hL2 hop0
                  go_wp2
                  refine wp_region_noPanic ?_
                  refine wp_region_held_drew (S := fun u => XF u xb 1 t n xa N xc) (by kernel_rfl) ?_ (fun hHeld => ?_)
                  · exact (HRD.out.past (Below.refl _ _).drew).box
                  refine wpAnyH_take (i := 0) (v := ?_) rfl (by kernel_rfl) (by kernel_rfl) (by kernel_rfl) (fun _ _ _ h => h) (Or.inl ⟨by rfl, ?_⟩) hHeld ?_
                  rotate_left
                  · intro u hSu
                    (go_simp) <;> (with_reducible rfl)
                  change wpAnyH _ _ _ _ _ _ _ (Act.put _ (some 68) _) _
                  simp only [Act.put, List.setIfInBounds_toArray, List.set_cons_zero, List.set_cons_succ]
                  refine wpAnyH_take (i := 1) (v := ?_) rfl (by kernel_rfl) (by kernel_rfl) (by kernel_rfl) (fun _ _ _ h => h) (Or.inl ⟨by rfl, ?_⟩) hHeld ?_
                  rotate_left
                  · intro u hSu
                    (go_simp) <;> (with_reducible rfl)
                  change wpAnyH _ _ _ _ _ _ _ (Act.put _ (some 69) _) _
                  simp only [Act.put, List.setIfInBounds_toArray, List.set_cons_zero, List.set_cons_succ]
                  refine wpAnyH_take (i := 2) (v := ?_) rfl (by kernel_rfl) (by kernel_rfl) (by kernel_rfl) (fun _ _ _ h => h) (Or.inl ⟨by rfl, ?_⟩) hHeld ?_
                  rotate_left
                  · intro u hSu
                    obtain ⟨y0, y1, y2, y3⟩ := hSu
                    (go_simp) <;> (with_reducible rfl)
                  change wpAnyH _ _ _ _ _ _ _ (Act.put _ (some 70) _) _
                  simp only [Act.put, List.setIfInBounds_toArray, List.set_cons_zero, List.set_cons_succ]
                  refine wpAnyH_take (i := 4) (v := ?_) rfl (by kernel_rfl) (by kernel_rfl) (by kernel_rfl) (fun _ _ _ h => h) (Or.inl ⟨by rfl, ?_⟩) hHeld ?_
                  rotate_left
                  · intro u hSu
                    (go_simp) <;> (with_reducible rfl)
                  change wpAnyH _ _ _ _ _ _ _ (Act.put _ (some 72) _) _
                  simp only [Act.put, List.setIfInBounds_toArray, List.set_cons_zero, List.set_cons_succ]
                  refine wpAnyH_take (i := 5) (v := ?_) rfl (by kernel_rfl) (by kernel_rfl) (by kernel_rfl) (fun _ _ _ h => h) (Or.inl ⟨by rfl, ?_⟩) hHeld ?_
                  rotate_left
                  · intro u hSu
                    (go_simp) <;> (with_reducible rfl)
                  change wpAnyH _ _ _ _ _ _ _ (Act.put _ (some 73) _) _
                  simp only [Act.put, List.setIfInBounds_toArray, List.set_cons_zero, List.set_cons_succ]
                  refine wpAnyH_take (i := 6) (v := ?_) rfl (by kernel_rfl) (by kernel_rfl) (by kernel_rfl) (fun _ _ _ h => h) (Or.inl ⟨by rfl, ?_⟩) hHeld ?_
                  rotate_left
                  · intro u hSu
                    obtain ⟨y0, y1, y2, y3⟩ := hSu
                    (go_simp) <;> (with_reducible rfl)
                  change wpAnyH _ _ _ _ _ _ _ (Act.put _ (some 74) _) _
                  simp only [Act.put, List.setIfInBounds_toArray, List.set_cons_zero, List.set_cons_succ]
                  refine wpAnyH_ready (rs := [3]) (by kernel_rfl) (by simp) ?_
                  refine AllReadyH.cons rfl (fun K hK => ?_) AllReadyH.nil
                  go_simp
                  go_at_call 9
                  refine (CP.out _ (HRD.out.past (Below.refl _ _).drew)).mono ?_
                  rintro e x1 ⟨rfl, hx1⟩
                  have R1 : Hid (RndS W0 x1 p q xb L2 L 1 t n xa N xc) := hx1
                  clear hx1
                  refine hK.out _ _ ?_ (fun hHeld2 => ?_)
                  · exact R1.out.box
                  clear hK K hHeld
                  have hHeld := hHeld2
                  clear hHeld2
                  refine wpAnyH_ready (rs := [7]) (by kernel_rfl) (by simp) ?_
                  refine AllReadyH.cons rfl (fun K hK => ?_) AllReadyH.nil
                  go_simp
                  go_at_call 10
                  refine (CQ.out _ R1.out).mono ?_
                  rintro e x2 ⟨rfl, hx2⟩
                  have R2 : Hid (RndS W0 x2 p q xb L2 L2 1 t n xa N xc) := hx2
                  clear hx2 R1
                  refine hK.out _ _ ?_ (fun hHeld2 => ?_)
                  · exact R2.out.box
                  clear hK K hHeld
                  have hHeld := hHeld2
                  clear hHeld2
                  refine wpAnyH_take (i := 8) (v := ?_) rfl (by kernel_rfl) (by kernel_rfl) (by kernel_rfl) (fun _ _ _ h => h) (Or.inl ⟨by rfl, ?_⟩) hHeld ?_
                  rotate_left
                  · intro u hSu
                    (go_simp) <;> (with_reducible rfl)
                  change wpAnyH _ _ _ _ _ _ _ (Act.put _ (some 76) _) _
                  simp only [Act.put, List.setIfInBounds_toArray, List.set_cons_zero, List.set_cons_succ]
                  refine wpAnyH_take (i := 9) (v := ?_) rfl (by kernel_rfl) (by kernel_rfl) (by kernel_rfl) (fun _ _ _ h => h) (Or.inl ⟨by rfl, ?_⟩) hHeld ?_
                  rotate_left
                  · intro u hSu
                    (go_simp) <;> (with_reducible rfl)
                  change wpAnyH _ _ _ _ _ _ _ (Act.put _ (some 17) _) _
                  simp only [Act.put, List.setIfInBounds_toArray, List.set_cons_zero, List.set_cons_succ]
                  refine wpAnyH_done (by kernel_rfl) ?_ _
                  refine NoPanic.normal ?_
                  go_wp2
                  go_meet
                  case rel => exact ⟨rfl, p, rfl, L2, R2.out.duo.less (fun k hk => hk.elim)⟩
                · have bop0 : (op == 0) = false := by simpa using hop0
                  have bop1 : (op == 1) = false := by simpa using hop1x
                  have CC : Hid (Calls Tryz.prog 11 #[.pointer (some ⟨p, 0, none⟩)] ux fun e w' => ∃ p', e = .returned (.pointer (some ⟨p', 0, none⟩)) ∧ Duo W0 w' p' q L L noFoot) := qcopy HRD.out.duo
                  go_wp2_with (go_at_call 11; refine CC.out.mono ?_; rintro e x1 ⟨p2, rfl, hx1⟩; have R1 : Hid (Duo W0 x1 p2 q L L noFoot) := hx1; clear hx1)
                  go_meet
                  case rel => exact ⟨rfl, p2, rfl, L, R1.out⟩
          case rest =>
            obtain ⟨rfl, p, rfl, HR⟩ := hcut
            clear HRD y0 y1 y2 y3 hN20 HWR HNB hop1
            as_aux_lemma =>
              obtain ⟨L, hM⟩ := HR.out
              have HM : Hid (Duo W0 wc p q L L noFoot) := hM
              clear hM HR
              have HG : Hid (StoG L) := HM.out.stx.sto
              obtain ⟨A, hA⟩ : ∃ A, A = strOfNums ((getV L z1 a4 b4).getD []) := ⟨_, rfl⟩
              obtain ⟨pa, hpa⟩ : ∃ b, b = (getV L z1 a4 b4).isSome := ⟨_, rfl⟩
              obtain ⟨nt, hnt⟩ : ∃ x, x = newT (newestV L z1) := ⟨_, rfl⟩
              obtain ⟨nn, hnn⟩ : ∃ x, x = newN (newestV L z1) := ⟨_, rfl⟩
              obtain ⟨na, hna⟩ : ∃ x, x = (newestV L z1).isSome := ⟨_, rfl⟩
              obtain ⟨R, hR⟩ : ∃ R, R = (scanV L z2 z3 a4 b4).take a5.toNat := ⟨_, rfl⟩
              obtain ⟨NR, hNR⟩ : ∃ N, N = R.length := ⟨_, rfl⟩
              have hNR200 : NR ≤ 200 := by
                rw [hNR, hR, List.length_take]
                have h8 : (scanV L z2 z3 a4 b4).length ≤ (keysV L).length := List.length_filterMap_le _ _
                have h9 := HG.out.few
                omega
              obtain ⟨KS, hKS⟩ : ∃ K, K = keysV L := ⟨_, rfl⟩
              obtain ⟨NK, hNK⟩ : ∃ N, N = KS.length := ⟨_, rfl⟩
              have hNK200 : NK ≤ 200 := by rw [hNK, hKS]; exact HG.out.few
              have CG1 : Hid (∀ u, Duo W0 u p q L L noFoot → Calls Tryz.prog 12 #[.pointer (some ⟨p, 0, none⟩), kv z1, .agg #[.int .i64 a4, .int .u8 b4]] u fun e w' => e = .returned (.tuple #[.string A, .bool pa]) ∧ Below u.heap.size u w') := fun u h => by obtain ⟨X, hX, _⟩ := h.stx; rw [hA, hpa]; exact sget_any p L X z1 KY1.out a4 b4 u hX
              have CG2 : Hid (∀ u, Duo W0 u p q L L noFoot → Calls Tryz.prog 13 #[.pointer (some ⟨q, 0, none⟩), kv z1, .agg #[.int .i64 a4, .int .u8 b4]] u fun e w' => e = .returned (.tuple #[.string A, .bool pa]) ∧ Below u.heap.size u w') := fun u h => by rw [hA, hpa]; exact rget10_any W0.heap.size q L z1 KY1.out a4 b4 u h.store
              have CN1 : Hid (∀ u, Duo W0 u p q L L noFoot → Calls Tryz.prog 14 #[.pointer (some ⟨p, 0, none⟩), kv z1] u fun e w' => e = .returned (.tuple #[.agg #[.int .i64 nt, .int .u8 nn], .bool na]) ∧ Below u.heap.size u w') := fun u h => by obtain ⟨X, hX, _⟩ := h.stx; rw [hnt, hnn, hna]; exact snewest_any p L X z1 KY1.out u hX
              have CN2 : Hid (∀ u, Duo W0 u p q L L noFoot → Calls Tryz.prog 15 #[.pointer (some ⟨q, 0, none⟩), kv z1] u fun e w' => e = .returned (.tuple #[.agg #[.int .i64 nt, .int .u8 nn], .bool na]) ∧ Below u.heap.size u w') := fun u h => by rw [hnt, hnn, hna]; exact rnewest_any W0.heap.size q L z1 KY1.out u h.store
              have CS1 : Hid (∀ u, Duo W0 u p q L L noFoot → Calls Tryz.prog 17 #[.pointer (some ⟨p, 0, none⟩), kv z2, kv z3, .agg #[.int .i64 a4, .int .u8 b4], .int .i64 a5] u fun e w' => (∃ a' c', e = .returned (.slice a' NR c') ∧ ItmsAt w' a' R ∧ NR ≤ c') ∧ Below u.heap.size u w') := fun u h => by obtain ⟨X, hX, _⟩ := h.stx; rw [hNR, hR]; exact sscan_any p L X z2 z3 KY2.out KY3.out a4 b4 a5 by5 u hX
              have CS2 : Hid (∀ u, Duo W0 u p q L L noFoot → Calls Tryz.prog 18 #[.pointer (some ⟨q, 0, none⟩), kv z2, kv z3, .agg #[.int .i64 a4, .int .u8 b4], .int .i64 a5] u fun e w' => (∃ a' c', e = .returned (.slice a' NR c') ∧ ItmsAt w' a' R ∧ NR ≤ c') ∧ Below u.heap.size u w') := fun u h => by rw [hNR, hR]; exact rscan10_any W0.heap.size q L z2 z3 KY2.out KY3.out a4 b4 a5 by5 u h.store HG.out
              have CK1 : Hid (∀ u, Duo W0 u p q L L noFoot → Calls Tryz.prog 20 #[.pointer (some ⟨p, 0, none⟩)] u fun e w' => (∃ a' c', e = .returned (.slice a' NK c') ∧ KeysAt w' a' KS ∧ NK ≤ c') ∧ Below u.heap.size u w') := fun u h => by obtain ⟨X, hX, _⟩ := h.stx; rw [hNK, hKS]; exact skeys_any p L X u hX
              have CK2 : Hid (∀ u, Duo W0 u p q L L noFoot → Calls Tryz.prog 21 #[.pointer (some ⟨q, 0, none⟩)] u fun e w' => (∃ a' c', e = .returned (.slice a' NK c') ∧ KeysAt w' a' KS ∧ NK ≤ c') ∧ Below u.heap.size u w') := fun u h => by rw [hNK, hKS]; exact rkeys10_any W0.heap.size q L u h.store
              have CI : Hid (∀ u a c a' c', ItmsAt u a R → ItmsAt u a' R → NR ≤ c → NR ≤ c' → Calls Tryz.prog 16 #[.slice a NR c, .slice a' NR c'] u fun e w' => e = .returned (.bool true) ∧ Below u.heap.size u w') := fun u a c a' c' h1 h2 h3 h4 => by
                have h9 := ritems_any a a' NR NR c c' R R u hNR.symm hNR.symm h3 h4 (by omega) (by omega) h1 h2
                rw [show decide (R = R) = true from by simp] at h9
                exact h9
              have CKK : Hid (∀ u a c a' c', KeysAt u a KS → KeysAt u a' KS → NK ≤ c → NK ≤ c' → Calls Tryz.prog 19 #[.slice a NK c, .slice a' NK c'] u fun e w' => e = .returned (.bool true) ∧ Below u.heap.size u w') := fun u a c a' c' h1 h2 h3 h4 => by
                have h9 := lkeys_any a a' NK NK c c' KS KS u hNK.symm hNK.symm h3 h4 (by omega) (by omega) h1 h2
                rw [show decide (KS = KS) = true from by simp] at h9
                exact h9
              clear hA hpa hnt hnn hna hR hNR hKS hNK
              obtain ⟨_, _, _, c0, c1⟩ := TB.out _ HM.out.below
              go_wp2_with (first | (have hgo := HM.out; clear hgo; refine wpList_load_keyD 79 (by rfl) (by rfl) _ (by rfl) w.heap.size 0 (by rfl) z1 KY1.out (TB.out _ HM.out.below).a ?_) | (have hgo := HM.out; clear hgo; go_at_call 12; refine (CG1.out _ HM.out).mono ?_; rintro e v5 ⟨rfl, hb5⟩; have M5 : Hid (Duo W0 v5 p q L L noFoot) := HM.out.past hb5; clear hb5 HM CG1 c0 c1; obtain ⟨_, _, _, c0, c1⟩ := TB.out _ M5.out.below) | (have hgo := M5.out; clear hgo; refine wpList_load_keyD 86 (by rfl) (by rfl) _ (by rfl) w.heap.size 0 (by rfl) z1 KY1.out (TB.out _ M5.out.below).a ?_) | (have hgo := M5.out; clear hgo; go_at_call 13; refine (CG2.out _ M5.out).mono ?_; rintro e v6 ⟨rfl, hb6⟩; have M6 : Hid (Duo W0 v6 p q L L noFoot) := M5.out.past hb6; clear hb6 M5 CG2 c0 c1) | (have hgo := M6.out; clear hgo; refine wpList_load_keyD 93 (by rfl) (by rfl) _ (by rfl) w.heap.size 0 (by rfl) z1 KY1.out (TB.out _ M6.out.below).a ?_) | (have hgo := M6.out; clear hgo; go_at_call 14; refine (CN1.out _ M6.out).mono ?_; rintro e v7 ⟨rfl, hb7⟩; have M7 : Hid (Duo W0 (v7.alloc (.cells #[.int .i64 nt, .int .u8 nn] 26)) p q L L noFoot ∧ StB2 (v7.alloc (.cells #[.int .i64 nt, .int .u8 nn] 26)) v7.heap.size nt nn) := ⟨(M6.out.past hb7).past ((Below.refl _ _).alloc (Nat.le_refl _) _), StB2.made v7 26 nt nn⟩; clear hb7 M6 CN1) | (have hgo := M7.out; clear hgo; refine wpList_load_keyD 99 (by rfl) (by rfl) _ (by rfl) w.heap.size 0 (by rfl) z1 KY1.out (TB.out _ M7.out.1.below).a ?_) | (have hgo := M7.out; clear hgo; go_at_call 15; refine (CN2.out _ M7.out.1).mono ?_; rintro e v8 ⟨rfl, hb8⟩; have M8 : Hid (Duo W0 (v8.alloc (.cells #[.int .i64 nt, .int .u8 nn] 26)) p q L L noFoot ∧ StB2 (v8.alloc (.cells #[.int .i64 nt, .int .u8 nn] 26)) v7.heap.size nt nn ∧ StB2 (v8.alloc (.cells #[.int .i64 nt, .int .u8 nn] 26)) v8.heap.size nt nn) := ⟨(M7.out.1.past hb8).past ((Below.refl _ _).alloc (Nat.le_refl _) _), (M7.out.2.past hb8).past ((Below.refl _ _).alloc (Nat.le_refl _) _), StB2.made v8 26 nt nn⟩; clear hb8 M7 CN2))
              generalize v8.alloc (.cells #[.int .i64 nt, .int .u8 nn] 26) = U9 at M8 ⊢
              generalize v7.heap.size = cb at M8 ⊢
              generalize v8.heap.size = db at M8 ⊢
              have HMD : Hid (∀ u, Below U9.heap.size U9 u → Duo W0 u p q L L noFoot) := fun u hb => M8.out.1.past hb
              have F1 : Hid (∀ u, Below U9.heap.size U9 u → StB2 u cb nt nn) := fun u hb => M8.out.2.1.past hb
              have F2 : Hid (∀ u, Below U9.heap.size U9 u → StB2 u db nt nn) := fun u hb => M8.out.2.2.past hb
              have FB : Hid (∀ u, Below U9.heap.size U9 u → KsB w u z1 z2 z3 a4 b4) := fun u hb => TB.out u (HMD.out u hb).below
              have FA : Hid (∀ u, Below U9.heap.size U9 u → KeyAt u (w.heap.size + 1) 0 z2) := fun u hb => (FB.out u hb).m
              have FZ : Hid (∀ u, Below U9.heap.size U9 u → KeyAt u (w.heap.size + 1 + 1) 0 z3) := fun u hb => (FB.out u hb).b
              clear M8
              refine wp_region_noPanic ?_
              refine wp_region_held_drew (S := fun u => Below U9.heap.size U9 u) (by kernel_rfl) ?_ (fun hHeld => ?_)
              · exact (Below.refl _ _).drew
              refine wpAnyH_take (i := 0) (v := ?_) rfl (by kernel_rfl) (by kernel_rfl) (by kernel_rfl) (fun _ _ _ h => h) (Or.inl ⟨by rfl, ?_⟩) hHeld ?_
              rotate_left
              · intro u hSu
                (go_simp) <;> (with_reducible rfl)
              change wpAnyH _ _ _ _ _ _ _ (Act.put _ (some 103) _) _
              simp only [Act.put, List.setIfInBounds_toArray, List.set_cons_zero, List.set_cons_succ]
              refine wpAnyH_take (i := 1) (v := ?_) rfl (by kernel_rfl) (by kernel_rfl) (by kernel_rfl) (fun _ _ _ h => h) (Or.inl ⟨by rfl, ?_⟩) hHeld ?_
              rotate_left
              · intro u hSu
                (go_simp) <;> (with_reducible rfl)
              change wpAnyH _ _ _ _ _ _ _ (Act.put _ (some 104) _) _
              simp only [Act.put, List.setIfInBounds_toArray, List.set_cons_zero, List.set_cons_succ]
              refine wpAnyH_take (i := 2) (v := ?_) rfl (by kernel_rfl) (by kernel_rfl) (by kernel_rfl) (fun _ _ _ h => h) (Or.inl ⟨by rfl, ?_⟩) hHeld ?_
              rotate_left
              · intro u hSu
                (go_simp) <;> (with_reducible rfl)
              change wpAnyH _ _ _ _ _ _ _ (Act.put _ (some 105) _) _
              simp only [Act.put, List.setIfInBounds_toArray, List.set_cons_zero, List.set_cons_succ]
              refine wpAnyH_take (i := 3) (v := ?_) rfl (by kernel_rfl) (by kernel_rfl) (by kernel_rfl) (fun _ _ _ h => h) (Or.inl ⟨by rfl, ?_⟩) hHeld ?_
              rotate_left
              · intro u hSu
                (go_simp) <;> (with_reducible rfl)
              change wpAnyH _ _ _ _ _ _ _ (Act.put _ (some 106) _) _
              simp only [Act.put, List.setIfInBounds_toArray, List.set_cons_zero, List.set_cons_succ]
              refine wpAnyH_take (i := 4) (v := ?_) rfl (by kernel_rfl) (by kernel_rfl) (by kernel_rfl) (fun _ _ _ h => h) (Or.inl ⟨by rfl, ?_⟩) hHeld ?_
              rotate_left
              · intro u hSu
                (go_simp) <;> (with_reducible rfl)
              change wpAnyH _ _ _ _ _ _ _ (Act.put _ (some 107) _) _
              simp only [Act.put, List.setIfInBounds_toArray, List.set_cons_zero, List.set_cons_succ]
              refine wpAnyH_take (i := 5) (v := ?_) rfl (by kernel_rfl) (by kernel_rfl) (by kernel_rfl) (fun _ _ _ h => h) (Or.inl ⟨by rfl, ?_⟩) hHeld ?_
              rotate_left
              · intro u hSu
                (go_simp) <;> (with_reducible rfl)
              change wpAnyH _ _ _ _ _ _ _ (Act.put _ (some 108) _) _
              simp only [Act.put, List.setIfInBounds_toArray, List.set_cons_zero, List.set_cons_succ]
              refine wpAnyH_take (i := 6) (v := ?_) rfl (by kernel_rfl) (by kernel_rfl) (by kernel_rfl) (fun _ _ _ h => h) (Or.inl ⟨by rfl, ?_⟩) hHeld ?_
              rotate_left
              · intro u hSu
                (go_simp) <;> (with_reducible rfl)
              change wpAnyH _ _ _ _ _ _ _ (Act.put _ (some 109) _) _
              simp only [Act.put, List.setIfInBounds_toArray, List.set_cons_zero, List.set_cons_succ]
              refine wpAnyH_take (i := 7) (v := ?_) rfl (by kernel_rfl) (by kernel_rfl) (by kernel_rfl) (fun _ _ _ h => h) (Or.inl ⟨by rfl, ?_⟩) hHeld ?_
              rotate_left
              · intro u hSu
                (go_simp) <;> (with_reducible rfl)
              change wpAnyH _ _ _ _ _ _ _ (Act.put _ (some 110) _) _
              simp only [Act.put, List.setIfInBounds_toArray, List.set_cons_zero, List.set_cons_succ]
              refine wpAnyH_take (i := 8) (v := ?_) rfl (by kernel_rfl) (by kernel_rfl) (by kernel_rfl) (fun _ _ _ h => h) (Or.inl ⟨by rfl, ?_⟩) hHeld ?_
              rotate_left
              · intro u hSu
                (go_simp) <;> (with_reducible rfl)
              change wpAnyH _ _ _ _ _ _ _ (Act.put _ (some 111) _) _
              simp only [Act.put, List.setIfInBounds_toArray, List.set_cons_zero, List.set_cons_succ]
              refine wpAnyH_take (i := 9) (v := ?_) rfl (by kernel_rfl) (by kernel_rfl) (by kernel_rfl) (fun _ _ _ h => h) (Or.inl ⟨by rfl, ?_⟩) hHeld ?_
              rotate_left
              · intro u hSu
                (go_simp) <;> (with_reducible rfl)
              change wpAnyH _ _ _ _ _ _ _ (Act.put _ (some 112) _) _
              simp only [Act.put, List.setIfInBounds_toArray, List.set_cons_zero, List.set_cons_succ]
              refine wpAnyH_take (i := 10) (v := ?_) rfl (by kernel_rfl) (by kernel_rfl) (by kernel_rfl) (fun _ _ _ h => h) (Or.inl ⟨by rfl, ?_⟩) hHeld ?_
              rotate_left
              · intro u hSu
                (go_simp) <;> (with_reducible rfl)
              change wpAnyH _ _ _ _ _ _ _ (Act.put _ (some 113) _) _
              simp only [Act.put, List.setIfInBounds_toArray, List.set_cons_zero, List.set_cons_succ]
              refine wpAnyH_take (i := 11) (v := ?_) rfl (by kernel_rfl) (by kernel_rfl) (by kernel_rfl) (fun _ _ _ h => h) (Or.inl ⟨by rfl, ?_⟩) hHeld ?_
              rotate_left
              · intro u hSu
                (go_simp) <;> (with_reducible rfl)
              change wpAnyH _ _ _ _ _ _ _ (Act.put _ (some 114) _) _
              simp only [Act.put, List.setIfInBounds_toArray, List.set_cons_zero, List.set_cons_succ]
              refine wpAnyH_take (i := 12) (v := ?_) rfl (by kernel_rfl) (by kernel_rfl) (by kernel_rfl) (fun _ _ _ h => h) (Or.inl ⟨by rfl, ?_⟩) hHeld ?_
              rotate_left
              · intro u hSu
                (go_simp) <;> (with_reducible rfl)
              change wpAnyH _ _ _ _ _ _ _ (Act.put _ (some 115) _) _
              simp only [Act.put, List.setIfInBounds_toArray, List.set_cons_zero, List.set_cons_succ]
              refine wpAnyH_take (i := 13) (v := ?_) rfl (by kernel_rfl) (by kernel_rfl) (by kernel_rfl) (fun _ _ _ h => h) (Or.inl ⟨by rfl, ?_⟩) hHeld ?_
              rotate_left
              · intro u hSu
                obtain ⟨r1, r2⟩ := F1.out u hSu
                (go_simp) <;> (with_reducible rfl)
              change wpAnyH _ _ _ _ _ _ _ (Act.put _ (some 116) _) _
              simp only [Act.put, List.setIfInBounds_toArray, List.set_cons_zero, List.set_cons_succ]
              refine wpAnyH_take (i := 14) (v := ?_) rfl (by kernel_rfl) (by kernel_rfl) (by kernel_rfl) (fun _ _ _ h => h) (Or.inl ⟨by rfl, ?_⟩) hHeld ?_
              rotate_left
              · intro u hSu
                obtain ⟨r1, r2⟩ := F2.out u hSu
                (go_simp) <;> (with_reducible rfl)
              change wpAnyH _ _ _ _ _ _ _ (Act.put _ (some 117) _) _
              simp only [Act.put, List.setIfInBounds_toArray, List.set_cons_zero, List.set_cons_succ]
              refine wpAnyH_take (i := 15) (v := ?_) rfl (by kernel_rfl) (by kernel_rfl) (by kernel_rfl) (fun _ _ _ h => h) (Or.inl ⟨by rfl, ?_⟩) hHeld ?_
              rotate_left
              · intro u hSu
                (go_simp) <;> (with_reducible rfl)
              change wpAnyH _ _ _ _ _ _ _ (Act.put _ (some 118) _) _
              simp only [Act.put, List.setIfInBounds_toArray, List.set_cons_zero, List.set_cons_succ]
              refine wpAnyH_take (i := 16) (v := ?_) rfl (by kernel_rfl) (by kernel_rfl) (by kernel_rfl) (fun _ _ _ h => h) (Or.inl ⟨by rfl, ?_⟩) hHeld ?_
              rotate_left
              · intro u hSu
                (go_simp) <;> (with_reducible rfl)
              change wpAnyH _ _ _ _ _ _ _ (Act.put _ (some 119) _) _
              simp only [Act.put, List.setIfInBounds_toArray, List.set_cons_zero, List.set_cons_succ]
              refine wpAnyH_take (i := 17) (v := ?_) rfl (by kernel_rfl) (by kernel_rfl) (by kernel_rfl) (fun _ _ _ h => h) (Or.inl ⟨by rfl, ?_⟩) hHeld ?_
              rotate_left
              · intro u hSu
                (go_simp) <;> (with_reducible rfl)
              change wpAnyH _ _ _ _ _ _ _ (Act.put _ (some 120) _) _
              simp only [Act.put, List.setIfInBounds_toArray, List.set_cons_zero, List.set_cons_succ]
              refine wpAnyH_take (i := 18) (v := ?_) rfl (by kernel_rfl) (by kernel_rfl) (by kernel_rfl) (fun _ _ _ h => h) (Or.inl ⟨by rfl, ?_⟩) hHeld ?_
              rotate_left
              · intro u hSu
                (go_simp) <;> (with_reducible rfl)
              change wpAnyH _ _ _ _ _ _ _ (Act.put _ (some 121) _) _
              simp only [Act.put, List.setIfInBounds_toArray, List.set_cons_zero, List.set_cons_succ]
              refine wpAnyH_take (i := 19) (v := ?_) rfl (by kernel_rfl) (by kernel_rfl) (by kernel_rfl) (fun _ _ _ h => h) (Or.inl ⟨by rfl, ?_⟩) hHeld ?_
              rotate_left
              · intro u hSu
                (go_simp) <;> (with_reducible rfl)
              change wpAnyH _ _ _ _ _ _ _ (Act.put _ (some 122) _) _
              simp only [Act.put, List.setIfInBounds_toArray, List.set_cons_zero, List.set_cons_succ]
              refine wpAnyH_take (i := 20) (v := ?_) rfl (by kernel_rfl) (by kernel_rfl) (by kernel_rfl) (fun _ _ _ h => h) (Or.inl ⟨by rfl, ?_⟩) hHeld ?_
              rotate_left
              · intro u hSu
                (go_simp) <;> (with_reducible rfl)
              change wpAnyH _ _ _ _ _ _ _ (Act.put _ (some 123) _) _
              simp only [Act.put, List.setIfInBounds_toArray, List.set_cons_zero, List.set_cons_succ]
              refine wpAnyH_take (i := 21) (v := ?_) rfl (by kernel_rfl) (by kernel_rfl) (by kernel_rfl) (fun _ _ _ h => h) (Or.inl ⟨by rfl, ?_⟩) hHeld ?_
              rotate_left
              · intro u hSu
                (go_simp) <;> (with_reducible rfl)
              change wpAnyH _ _ _ _ _ _ _ (Act.put _ (some 124) _) _
              simp only [Act.put, List.setIfInBounds_toArray, List.set_cons_zero, List.set_cons_succ]
              refine wpAnyH_take (i := 22) (v := ?_) rfl (by kernel_rfl) (by kernel_rfl) (by kernel_rfl) (fun _ _ _ h => h) (Or.inl ⟨by rfl, ?_⟩) hHeld ?_
              rotate_left
              · intro u hSu
                (go_simp) <;> (with_reducible rfl)
              change wpAnyH _ _ _ _ _ _ _ (Act.put _ (some 125) _) _
              simp only [Act.put, List.setIfInBounds_toArray, List.set_cons_zero, List.set_cons_succ]
              refine wpAnyH_take (i := 23) (v := ?_) rfl (by kernel_rfl) (by kernel_rfl) (by kernel_rfl) (fun _ _ _ h => h) (Or.inl ⟨by rfl, ?_⟩) hHeld ?_
              rotate_left
              · intro u hSu
                (go_simp) <;> (with_reducible rfl)
              change wpAnyH _ _ _ _ _ _ _ (Act.put _ (some 126) _) _
              simp only [Act.put, List.setIfInBounds_toArray, List.set_cons_zero, List.set_cons_succ]
              refine wpAnyH_take (i := 24) (v := kv z2) rfl (by kernel_rfl) (by kernel_rfl) (by kernel_rfl) (fun _ _ _ h => h) (yieldsIf_load_mid (by rfl) _ _ rfl _ _ rfl (z2.map (Value.int .u8)) _ (fun u hu => (FA.out u hu).range KY2.out) Tryz.underlying24 rfl (info_keyl z2 KY2.out)) hHeld ?_
              change wpAnyH _ _ _ _ _ _ _ (Act.put _ (some 127) _) _
              simp only [Act.put, List.setIfInBounds_toArray, List.set_cons_zero, List.set_cons_succ]
              refine wpAnyH_take (i := 25) (v := kv z3) rfl (by kernel_rfl) (by kernel_rfl) (by kernel_rfl) (fun _ _ _ h => h) (yieldsIf_load_mid (by rfl) _ _ rfl _ _ rfl (z3.map (Value.int .u8)) _ (fun u hu => (FZ.out u hu).range KY3.out) Tryz.underlying24 rfl (info_keyl z3 KY3.out)) hHeld ?_
              change wpAnyH _ _ _ _ _ _ _ (Act.put _ (some 128) _) _
              simp only [Act.put, List.setIfInBounds_toArray, List.set_cons_zero, List.set_cons_succ]
              refine wpAnyH_take (i := 26) (v := ?_) rfl (by kernel_rfl) (by kernel_rfl) (by kernel_rfl) (fun _ _ _ h => h) (Or.inl ⟨by rfl, ?_⟩) hHeld ?_
              rotate_left
              · intro u hSu
                obtain ⟨_, _, _, r1, r2⟩ := FB.out u hSu
                (go_simp) <;> (with_reducible rfl)
              change wpAnyH _ _ _ _ _ _ _ (Act.put _ (some 129) _) _
              simp only [Act.put, List.setIfInBounds_toArray, List.set_cons_zero, List.set_cons_succ]
              refine wpAnyH_take (i := 27) (v := ?_) rfl (by kernel_rfl) (by kernel_rfl) (by kernel_rfl) (fun _ _ _ h => h) (Or.inl ⟨by rfl, ?_⟩) hHeld ?_
              rotate_left
              · intro u hSu
                (go_simp) <;> (with_reducible rfl)
              change wpAnyH _ _ _ _ _ _ _ (Act.put _ (some 130) _) _
              simp only [Act.put, List.setIfInBounds_toArray, List.set_cons_zero, List.set_cons_succ]
              refine wpAnyH_take (i := 29) (v := ?_) rfl (by kernel_rfl) (by kernel_rfl) (by kernel_rfl) (fun _ _ _ h => h) (Or.inl ⟨by rfl, ?_⟩) hHeld ?_
              rotate_left
              · intro u hSu
                (go_simp) <;> (with_reducible rfl)
              change wpAnyH _ _ _ _ _ _ _ (Act.put _ (some 132) _) _
              simp only [Act.put, List.setIfInBounds_toArray, List.set_cons_zero, List.set_cons_succ]
              refine wpAnyH_take (i := 30) (v := kv z2) rfl (by kernel_rfl) (by kernel_rfl) (by kernel_rfl) (fun _ _ _ h => h) (yieldsIf_load_mid (by rfl) _ _ rfl _ _ rfl (z2.map (Value.int .u8)) _ (fun u hu => (FA.out u hu).range KY2.out) Tryz.underlying24 rfl (info_keyl z2 KY2.out)) hHeld ?_
              change wpAnyH _ _ _ _ _ _ _ (Act.put _ (some 133) _) _
              simp only [Act.put, List.setIfInBounds_toArray, List.set_cons_zero, List.set_cons_succ]
              refine wpAnyH_take (i := 31) (v := kv z3) rfl (by kernel_rfl) (by kernel_rfl) (by kernel_rfl) (fun _ _ _ h => h) (yieldsIf_load_mid (by rfl) _ _ rfl _ _ rfl (z3.map (Value.int .u8)) _ (fun u hu => (FZ.out u hu).range KY3.out) Tryz.underlying24 rfl (info_keyl z3 KY3.out)) hHeld ?_
              change wpAnyH _ _ _ _ _ _ _ (Act.put _ (some 134) _) _
              simp only [Act.put, List.setIfInBounds_toArray, List.set_cons_zero, List.set_cons_succ]
              refine wpAnyH_take (i := 32) (v := ?_) rfl (by kernel_rfl) (by kernel_rfl) (by kernel_rfl) (fun _ _ _ h => h) (Or.inl ⟨by rfl, ?_⟩) hHeld ?_
              rotate_left
              · intro u hSu
                obtain ⟨_, _, _, r1, r2⟩ := FB.out u hSu
                (go_simp) <;> (with_reducible rfl)
              change wpAnyH _ _ _ _ _ _ _ (Act.put _ (some 135) _) _
              simp only [Act.put, List.setIfInBounds_toArray, List.set_cons_zero, List.set_cons_succ]
              refine wpAnyH_take (i := 33) (v := ?_) rfl (by kernel_rfl) (by kernel_rfl) (by kernel_rfl) (fun _ _ _ h => h) (Or.inl ⟨by rfl, ?_⟩) hHeld ?_
              rotate_left
              · intro u hSu
                (go_simp) <;> (with_reducible rfl)
              change wpAnyH _ _ _ _ _ _ _ (Act.put _ (some 136) _) _
              simp only [Act.put, List.setIfInBounds_toArray, List.set_cons_zero, List.set_cons_succ]
              refine wpAnyH_ready (rs := [28]) (by kernel_rfl) (by simp) ?_
              refine AllReadyH.cons rfl (fun K hK => ?_) AllReadyH.nil
              go_simp
              go_at_call 17
              refine (CS1.out _ (HMD.out _ hHeld)).mono ?_
              rintro e x1 ⟨⟨sa, sc, rfl, hs1, hsc⟩, hbx1⟩
              have Bx1 : Hid (Below U9.heap.size U9 x1) := hHeld.trans (hbx1.mono hHeld.size)
              have I1 : Hid (ItmsAt x1 sa R) := hs1
              clear hs1
              clear hbx1
              refine hK.out _ _ ?_ (fun hHeld2 => ?_)
              · exact Bx1.out
              clear hK K hHeld
              have hHeld := hHeld2
              clear hHeld2
              refine wpAnyH_ready (rs := [34]) (by kernel_rfl) (by simp) ?_
              refine AllReadyH.cons rfl (fun K hK => ?_) AllReadyH.nil
              go_simp
              go_at_call 18
              refine (CS2.out _ (HMD.out _ hHeld)).mono ?_
              rintro e x2 ⟨⟨ta, tc, rfl, ht1, htc⟩, hbx2⟩
              have Bx2 : Hid (Below U9.heap.size U9 x2) := hHeld.trans (hbx2.mono hHeld.size)
              have I2 : Hid (ItmsAt x2 sa R ∧ ItmsAt x2 ta R) := ⟨I1.out.past hbx2, ht1⟩
              clear ht1 I1
              clear hbx2
              refine hK.out _ _ ?_ (fun hHeld2 => ?_)
              · exact Bx2.out
              clear hK K hHeld
              have hHeld := hHeld2
              clear hHeld2
              refine wpAnyH_ready (rs := [35]) (by kernel_rfl) (by simp) ?_
              refine AllReadyH.cons rfl (fun K hK => ?_) AllReadyH.nil
              go_simp
              go_at_call 16
              refine (CI.out _ _ _ _ _ I2.out.1 I2.out.2 hsc htc).mono ?_
              rintro e x3 ⟨rfl, hbx3⟩
              have Bx3 : Hid (Below U9.heap.size U9 x3) := hHeld.trans (hbx3.mono hHeld.size)
              clear I2
              clear hbx3
              refine hK.out _ _ ?_ (fun hHeld2 => ?_)
              · exact Bx3.out
              clear hK K hHeld
              have hHeld := hHeld2
              clear hHeld2
              refine wpAnyH_take (i := 36) (v := ?_) rfl (by kernel_rfl) (by kernel_rfl) (by kernel_rfl) (fun _ _ _ h => h) (Or.inl ⟨by rfl, ?_⟩) hHeld ?_
              rotate_left
              · intro u hSu
                (go_simp) <;> (with_reducible rfl)
              change wpAnyH _ _ _ _ _ _ _ (Act.put _ (some 139) _) _
              simp only [Act.put, List.setIfInBounds_toArray, List.set_cons_zero, List.set_cons_succ]
              refine wpAnyH_take (i := 37) (v := ?_) rfl (by kernel_rfl) (by kernel_rfl) (by kernel_rfl) (fun _ _ _ h => h) (Or.inl ⟨by rfl, ?_⟩) hHeld ?_
              rotate_left
              · intro u hSu
                (go_simp) <;> (with_reducible rfl)
              change wpAnyH _ _ _ _ _ _ _ (Act.put _ (some 140) _) _
              simp only [Act.put, List.setIfInBounds_toArray, List.set_cons_zero, List.set_cons_succ]
              refine wpAnyH_take (i := 38) (v := ?_) rfl (by kernel_rfl) (by kernel_rfl) (by kernel_rfl) (fun _ _ _ h => h) (Or.inl ⟨by rfl, ?_⟩) hHeld ?_
              rotate_left
              · intro u hSu
                (go_simp) <;> (with_reducible rfl)
              change wpAnyH _ _ _ _ _ _ _ (Act.put _ (some 141) _) _
              simp only [Act.put, List.setIfInBounds_toArray, List.set_cons_zero, List.set_cons_succ]
              refine wpAnyH_take (i := 39) (v := ?_) rfl (by kernel_rfl) (by kernel_rfl) (by kernel_rfl) (fun _ _ _ h => h) (Or.inl ⟨by rfl, ?_⟩) hHeld ?_
              rotate_left
              · intro u hSu
                (go_simp) <;> (with_reducible rfl)
              change wpAnyH _ _ _ _ _ _ _ (Act.put _ (some 142) _) _
              simp only [Act.put, List.setIfInBounds_toArray, List.set_cons_zero, List.set_cons_succ]
              refine wpAnyH_take (i := 41) (v := ?_) rfl (by kernel_rfl) (by kernel_rfl) (by kernel_rfl) (fun _ _ _ h => h) (Or.inl ⟨by rfl, ?_⟩) hHeld ?_
              rotate_left
              · intro u hSu
                (go_simp) <;> (with_reducible rfl)
              change wpAnyH _ _ _ _ _ _ _ (Act.put _ (some 144) _) _
              simp only [Act.put, List.setIfInBounds_toArray, List.set_cons_zero, List.set_cons_succ]
              refine wpAnyH_ready (rs := [40]) (by kernel_rfl) (by simp) ?_
              refine AllReadyH.cons rfl (fun K hK => ?_) AllReadyH.nil
              go_simp
              go_at_call 20
              refine (CK1.out _ (HMD.out _ hHeld)).mono ?_
              rintro e x4 ⟨⟨ka, kc1, rfl, hk1, hkc⟩, hbx4⟩
              have Bx4 : Hid (Below U9.heap.size U9 x4) := hHeld.trans (hbx4.mono hHeld.size)
              have J1 : Hid (KeysAt x4 ka KS) := hk1
              clear hk1
              clear hbx4
              refine hK.out _ _ ?_ (fun hHeld2 => ?_)
              · exact Bx4.out
              clear hK K hHeld
              have hHeld := hHeld2
              clear hHeld2
              refine wpAnyH_ready (rs := [42]) (by kernel_rfl) (by simp) ?_
              refine AllReadyH.cons rfl (fun K hK => ?_) AllReadyH.nil
              go_simp
              go_at_call 21
              refine (CK2.out _ (HMD.out _ hHeld)).mono ?_
              rintro e x5 ⟨⟨ja, jc, rfl, hj1, hjc⟩, hbx5⟩
              have Bx5 : Hid (Below U9.heap.size U9 x5) := hHeld.trans (hbx5.mono hHeld.size)
              have J2 : Hid (KeysAt x5 ka KS ∧ KeysAt x5 ja KS) := ⟨J1.out.past hbx5, hj1⟩
              clear hj1 J1
              clear hbx5
              refine hK.out _ _ ?_ (fun hHeld2 => ?_)
              · exact Bx5.out
              clear hK K hHeld
              have hHeld := hHeld2
              clear hHeld2
              refine wpAnyH_ready (rs := [43]) (by kernel_rfl) (by simp) ?_
              refine AllReadyH.cons rfl (fun K hK => ?_) AllReadyH.nil
              go_simp
              go_at_call 19
              refine (CKK.out _ _ _ _ _ J2.out.1 J2.out.2 hkc hjc).mono ?_
              rintro e x6 ⟨rfl, hbx6⟩
              have Bx6 : Hid (Below U9.heap.size U9 x6) := hHeld.trans (hbx6.mono hHeld.size)
              clear J2
              clear hbx6
              refine hK.out _ _ ?_ (fun hHeld2 => ?_)
              · exact Bx6.out
              clear hK K hHeld
              have hHeld := hHeld2
              clear hHeld2
              refine wpAnyH_take (i := 44) (v := ?_) rfl (by kernel_rfl) (by kernel_rfl) (by kernel_rfl) (fun _ _ _ h => h) (Or.inl ⟨by rfl, ?_⟩) hHeld ?_
              rotate_left
              · intro u hSu
                (go_simp) <;> (with_reducible rfl)
              change wpAnyH _ _ _ _ _ _ _ (Act.put _ (some 147) _) _
              simp only [Act.put, List.setIfInBounds_toArray, List.set_cons_zero, List.set_cons_succ]
              refine wpAnyH_take (i := 45) (v := ?_) rfl (by kernel_rfl) (by kernel_rfl) (by kernel_rfl) (fun _ _ _ h => h) (Or.inl ⟨by rfl, ?_⟩) hHeld ?_
              rotate_left
              · intro u hSu
                (go_simp) <;> (with_reducible rfl)
              change wpAnyH _ _ _ _ _ _ _ (Act.put _ (some 148) _) _
              simp only [Act.put, List.setIfInBounds_toArray, List.set_cons_zero, List.set_cons_succ]
              refine wpAnyH_done (by kernel_rfl) ?_ _
              refine NoPanic.normal ?_
              go_wp2
              go_roundw
              case rel => exact ⟨i + 1, p, rfl, by go_num, by omega, L, HMD.out _ Bx6.out⟩
              case measure => simp [intOf]; omega
      · obtain rfl : i = len0 := by omega
        as_aux_lemma =>
          have CST : Hid (Calls Tryz.prog 23 #[.pointer (some ⟨p, 0, none⟩)] wr fun e w' => ∃ q', e = .returned (.pointer (some ⟨q', 0, none⟩)) ∧ StoreR w' wr.heap.size q' L ∧ Below wr.heap.size wr w') := xsto_any HM.out.stx
          have CSM : Hid (∀ u q', StoreR u wr.heap.size q' L → Duo W0 u p q L L noFoot → Calls Tryz.prog 22 #[.pointer (some ⟨q', 0, none⟩), .pointer (some ⟨q, 0, none⟩)] u fun e w' => e = .returned (.bool true) ∧ Below u.heap.size u w') := fun u q' h1 h2 => rsame_is q' q L L u h1.looks h2.store.looks rfl
          go_wp2_with (first | (go_at_call 23; refine CST.out.mono ?_; rintro e v5 ⟨q5, rfl, h5, hb5⟩; have S5 : Hid (StoreR v5 wr.heap.size q5 L ∧ Duo W0 v5 p q L L noFoot) := ⟨h5, HM.out.past hb5⟩; clear h5 hb5) | (go_at_call 22; refine (CSM.out _ _ S5.out.1 S5.out.2).mono ?_; rintro e v6 ⟨rfl, hb6⟩; have B6 : Hid (Below w.heap.size w v6) := HBW0.out _ (S5.out.2.past hb6).below; clear hb6))
          go_ret
          exact ⟨rfl, B6.out⟩

set_option maxRecDepth 100000 in
theorem lifted (os : Os) (started : os.Started) (H : Type) (enc : TypeId × Value → H) :
    ReturnsInHanded {} Tryz.checked os 3 .any (Rows.storePlaysSpec.pre6 enc Tryz.prog Tryz.f3 Rows.storePlaysRow.domain false) (Rows.storePlaysSpec.post enc Tryz.prog Tryz.f3 false true false false) := by
  refine returnsInHanded_of_change (C := Tryz.checked) own started (by kernel_rfl) Tryz.func3
    (ChangeSpec.witness6 (enc := enc) (C := Tryz.checked) false ⟨#[], #[.slice none 0 0, .agg #[.int .u8 0, .int .u8 0, .int .u8 0, .int .u8 0, .int .u8 0, .int .u8 0, .int .u8 0, .int .u8 0, .int .u8 0, .int .u8 0, .int .u8 0, .int .u8 0, .int .u8 0, .int .u8 0, .int .u8 0, .int .u8 0], .agg #[.int .u8 0, .int .u8 0, .int .u8 0, .int .u8 0, .int .u8 0, .int .u8 0, .int .u8 0, .int .u8 0, .int .u8 0, .int .u8 0, .int .u8 0, .int .u8 0, .int .u8 0, .int .u8 0, .int .u8 0, .int .u8 0], .agg #[.int .u8 0, .int .u8 0, .int .u8 0, .int .u8 0, .int .u8 0, .int .u8 0, .int .u8 0, .int .u8 0, .int .u8 0, .int .u8 0, .int .u8 0, .int .u8 0, .int .u8 0, .int .u8 0, .int .u8 0, .int .u8 0], .agg #[.int .i64 0, .int .u8 0], .int .i64 0], []⟩ 8 (by kernel_rfl) (by kernel_rfl) (by kernel_rfl) (by kernel_rfl)) ?_
  intro W base args ds gs before hval0 hW hcnd _
  have hval : ∀ (j : Nat) t v, Tryz.f3.params[j]? = some t → args[j]? = some v → Value.okWide Tryz.prog W .any base t v := hval0
  have hW' := hW
  obtain ⟨p, q, hA0, hV, rfl, hfz, hnd⟩ := hW
  have hA : DataW.TrodAll enc Tryz.prog W 0 (fun _ => true) true Tryz.f3.params.toList args.toList ds p := hA0
  rw [Tryz.params3] at hA hval
  obtain ⟨v0, vs0, d0, ds0, p0, q0, hargs, rfl, rfl, h0, r0⟩ := trodAll_cons hA
  obtain ⟨v1, vs1, d1, ds1, p1, q1, rfl, rfl, rfl, h1, r1⟩ := trodAll_cons r0
  obtain ⟨v2, vs2, d2, ds2, p2, q2, rfl, rfl, rfl, h2, r2⟩ := trodAll_cons r1
  obtain ⟨v3, vs3, d3, ds3, p3, q3, rfl, rfl, rfl, h3, r3⟩ := trodAll_cons r2
  obtain ⟨v4, vs4, d4, ds4, p4, q4, rfl, rfl, rfl, h4, r4⟩ := trodAll_cons r3
  obtain ⟨v5, vs5, d5, ds5, p5, q5, rfl, rfl, rfl, h5, r5⟩ := trodAll_cons r4
  obtain ⟨rfl, rfl, rfl⟩ := trodAll_nil r5
  obtain rfl : args = #[v0, v1, v2, v3, v4, v5] := by cases args; simp_all
  obtain ⟨rfl, rfl⟩ := trodVars_none hV
  obtain ⟨a0, len0, cap0, rfl⟩ := okWide_slice Tryz.underlying22 (hval 0 22 v0 rfl rfl)
  have k0 := h0
  have lt0 : ∀ x ∈ p0, x.block < W.heap.size := by obtain ⟨m, hm⟩ := k0; exact DataW.trod_lt m _ _ _ hm
  obtain ⟨z0, l0, w0⟩ : ∃ xs : List SAct, xs.length = len0 ∧ SActsOf W a0 cap0 xs := by
    obtain ⟨fuel, hf⟩ := h0
    exact sacts_open Tryz.underlying22 Tryz.underlying36 Tryz.underlying3 Tryz.underlying26 Tryz.underlying2 Tryz.underlying5 Tryz.underlying34 Tryz.underlying58 Tryz.underlying24 Tryz.underlying5 Tryz.underlying9 Tryz.underlying4 rfl rfl rfl rfl rfl rfl rfl rfl (by kernel_rfl) (by kernel_rfl) (by kernel_rfl) (by kernel_rfl) (by kernel_rfl) (by kernel_rfl) (by kernel_rfl) (by kernel_rfl) (by kernel_rfl) (by kernel_rfl) (by kernel_rfl) hf
  have k1 := h1
  have lt1 : ∀ x ∈ p1, x.block < W.heap.size := by obtain ⟨m, hm⟩ := k1; exact DataW.trod_lt m _ _ _ hm
  obtain ⟨z1, rfl, w1⟩ := arr_open Tryz.underlying24 Tryz.underlying5 (by kernel_rfl) (by kernel_rfl) (hval 1 24 v1 rfl rfl) h1
  have k2 := h2
  have lt2 : ∀ x ∈ p2, x.block < W.heap.size := by obtain ⟨m, hm⟩ := k2; exact DataW.trod_lt m _ _ _ hm
  obtain ⟨z2, rfl, w2⟩ := arr_open Tryz.underlying24 Tryz.underlying5 (by kernel_rfl) (by kernel_rfl) (hval 2 24 v2 rfl rfl) h2
  have k3 := h3
  have lt3 : ∀ x ∈ p3, x.block < W.heap.size := by obtain ⟨m, hm⟩ := k3; exact DataW.trod_lt m _ _ _ hm
  obtain ⟨z3, rfl, w3⟩ := arr_open Tryz.underlying24 Tryz.underlying5 (by kernel_rfl) (by kernel_rfl) (hval 3 24 v3 rfl rfl) h3
  have k4 := h4
  have lt4 : ∀ x ∈ p4, x.block < W.heap.size := by obtain ⟨m, hm⟩ := k4; exact DataW.trod_lt m _ _ _ hm
  obtain ⟨a4, b4, rfl, w4, x4⟩ := struct2_open Tryz.underlying26 Tryz.underlying2 Tryz.underlying5 rfl rfl (by kernel_rfl) (by kernel_rfl) (by kernel_rfl) (hval 4 26 v4 rfl rfl) h4
  have k5 := h5
  have lt5 : ∀ x ∈ p5, x.block < W.heap.size := by obtain ⟨m, hm⟩ := k5; exact DataW.trod_lt m _ _ _ hm
  obtain ⟨a5, rfl, rfl, rfl, w5⟩ := open_int Tryz.underlying3 (hval 5 3 v5 rfl rfl) h5
  clear hA0 hval0
  refine (walk a0 len0 cap0 z0 z1 z2 z3 a4 b4 a5 W l0 w0 w1 w2 w3 w4 x4 w5).mono fun e W' ⟨he, bel⟩ => ?_
  subst he
  exact ⟨_, rfl, _, _, _, [], _, [], hW', trodAll_mk1 (shut_bool Tryz.underlying4 _), (trodAll_cons_mk (Below.trod laidOut (by kernel_rfl) (of_decide_eq_true (by kernel_rfl)) k0 bel lt0) (trodAll_cons_mk (Below.trod laidOut (by kernel_rfl) (of_decide_eq_true (by kernel_rfl)) k1 bel lt1) (trodAll_cons_mk (Below.trod laidOut (by kernel_rfl) (of_decide_eq_true (by kernel_rfl)) k2 bel lt2) (trodAll_cons_mk (Below.trod laidOut (by kernel_rfl) (of_decide_eq_true (by kernel_rfl)) k3 bel lt3) (trodAll_cons_mk (Below.trod laidOut (by kernel_rfl) (of_decide_eq_true (by kernel_rfl)) k4 bel lt4) (trodAll_cons_mk (Below.trod laidOut (by kernel_rfl) (of_decide_eq_true (by kernel_rfl)) k5 bel lt5) trodAll_mk0)))))), rfl, bel.frame _, fun h => by cases h⟩

theorem over : Rows.storePlaysRow.holds Tryz.pinned (OpenSpec.ofChange Rows.storePlaysSpec) :=
  OpenClaim.holds_of_wide 3 Tryz.f3 rfl rfl rfl rfl rfl rfl rfl ⟨rfl, rfl, rfl, rfl, rfl⟩ rfl rfl rfl rfl rfl (by kernel_rfl) Tryz.func3 (by kernel_rfl)
    (of_decide_eq_true (by kernel_rfl)) (by unfold Func.isWrapper; first | (rw [if_pos (by decide +kernel)]; kernel_rfl) | (rw [if_neg (by decide +kernel)]; exact ⟨rfl, rfl⟩))
    (fun os started H enc _ => lifted os started H enc)
theorem proved : Rows.StorePlaysSaid := over
#print axioms proved
end Go.Proofs.YtfaojmognbgnfaaGreat.storePlays
namespace Go.Proofs.YtfaojmognbgnfaaGreat
/-- StorePlays, as given. -/
theorem storePlays_holds : Rows.StorePlaysSaid := storePlays.proved
end Go.Proofs.YtfaojmognbgnfaaGreat
