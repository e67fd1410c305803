/-
  PrepPlays: who holds a key, whom a reader must wait for, who is there, the least stamp are as the document says, for all calls, every key, every stamp (of more than 40 calls, of more than 20 writes in one, of values of more than 250 bytes the statement asks nothing).
-/
import Derived.Test.YthgkbabikeknlaaRows
import Derived.Test.YthgkbabikeknlaaPrepL5
import Derived.Test.YthgkbabikeknlaaBase
import Derived.Test.YthgkbabikeknlaaPActs
import Derived.Test.YthgkbabikeknlaaPairOpen
import Derived.WalkKit
import Derived.ProofKit
import Derived.OpenShut
import Derived.ShutString
import Derived.ChangeOld
import Derived.Below
import Derived.Carry
namespace Go.Proofs.Ythgkbabikeknlaa.prepPlays
open Go.ChangeShapes Go.WideShapes Go.ChangeAt Go.RowKit
open Go.ChangeMaps (open_string shut_string)
set_option linter.unusedVariables false

theorem own : ownKnob Try.prog.godebug = none := by kernel_rfl
theorem laidOut : laidOutB Try.prog = true := by kernel_rfl
/-- A slice of integers that came in: nil, or a row of 'cap' cells, of which the first 'len' are its elements. -/
def IsRow (k : IntKind) (w : World) (a : Option Addr) (len cap : Nat) (zs : List Int) : Prop :=
  (a = none ∧ len = 0 ∧ cap = 0 ∧ zs = []) ∨
  ∃ x, a = some x ∧ len ≤ cap ∧ cap ≤ maxLen ∧ zs.length = cap ∧ (∀ i, i < zs.length → w.cell? (x.add i) = some (.int k (zs.getD i 0))) ∧ ∀ n ∈ zs, (Lit.int k n).wf = true

set_option maxRecDepth 20000 in
set_option maxHeartbeats 16000000 in
theorem walk (a0 : Option Addr) (len0 cap0 : Nat) (z0 : List PAct) (z1 : List Int) (a2 b2 : Int) (w : World) (l0 : z0.length = len0) (w0 : PActsOf w a0 cap0 z0) (w1 : IsArr .u8 16 z1) (w2 : (Lit.int .i64 a2).wf = true) (x2 : (Lit.int .u8 b2).wf = true) :
    Calls Try.prog 4 #[.slice a0 len0 cap0, .agg (z1.map (Value.int .u8)).toArray, .agg #[.int .i64 a2, .int .u8 b2]] w fun e w' => e = .returned (.bool true) ∧ Below w.heap.size w w' := by
  have by2 := bounds_i64 w2
  have by2n := bounds_u8 x2
  have KY1 : Hid (Ky z1) := w1.ky
  have AW : Hid (∀ u, Calls Try.prog 6 #[] u fun e w' => e = .returned (.bool true) ∧ Below u.heap.size u w') := fun u => lawakeP_any u
  have HL : Hid (z0.length = len0) := l0
  have HA : Hid (PActsOf w a0 cap0 z0) := w0
  have hcap : len0 ≤ cap0 := by rw [← l0]; exact w0.room
  obtain ⟨W0, hW0⟩ : ∃ W0, W0 = (w.alloc (.cells (kcs z1) 39)).alloc (.cells #[.int .i64 a2, .int .u8 b2] 28) := ⟨_, rfl⟩
  have HW0 : Hid ((w.alloc (.cells (kcs z1) 39)).alloc (.cells #[.int .i64 a2, .int .u8 b2] 28) = W0) := hW0.symm
  have HB0 : Hid (Below w.heap.size w W0) := by rw [hW0]; exact ((Below.refl _ _).alloc (Nat.le_refl _) _).alloc (by simp) _
  have HKS : Hid (KpB w W0 z1 a2 b2) := by rw [hW0]; exact KpB.made w KY1.out a2 b2 39 28
  have TB : Hid (∀ u, Below W0.heap.size W0 u → KpB w u z1 a2 b2) := fun u hb => HKS.out.past hb
  have CN : Hid (∀ u, Below W0.heap.size W0 u → Calls Try.prog 7 #[] u fun e w' => ∃ p, e = .returned (.pointer (some ⟨p, 0, none⟩)) ∧ PX W0 w' p []) := fun u hb => (xpnew u).mono fun e w' ⟨p, h1, X, h2, h3, h4⟩ => ⟨p, h1, X, h2, hb.trans (h3.mono hb.size), fun k hk => Nat.le_trans hb.size (h4 k hk)⟩
  have HBW0 : Hid (∀ u, Below W0.heap.size W0 u → Below w.heap.size w u) := fun u h => HB0.out.trans (h.mono HB0.out.size)
  clear w0 w1 w2 x2 l0 hW0 HKS
  by_cases h40 : 40 < len0
  · have b40 : (40 : Int) < (len0 : Int) := by omega
    go_enter Try.func4, Try.ntmps4
    go_wp2_with ((go_at_call 6; refine (AW.out _).mono ?_; rintro e v1 ⟨rfl, hb1⟩; rw [HW0.out] at hb1; have B1 : Hid (Below W0.heap.size W0 v1) := hb1; clear hb1))
    go_ret
    exact ⟨rfl, HBW0.out _ B1.out⟩
  · have b40 : ¬ (40 : Int) < (len0 : Int) := by omega
    go_enter Try.func4, Try.ntmps4
    go_wp2_with (first | (go_at_call 6; refine (AW.out _).mono ?_; rintro e v1 ⟨rfl, hb1⟩; rw [HW0.out] at hb1; have B1 : Hid (Below W0.heap.size W0 v1) := hb1; clear hb1) | (have hgo := B1.out; clear hgo; go_at_call 7; refine (CN.out _ B1.out).mono ?_; rintro e v3 ⟨p, rfl, h3⟩; have H3 : Hid (DuoP W0 (v3.alloc (.cells #[.slice none 0 0] 51)) p v3.heap.size [] [] noFoot) := duop_new h3; clear h3 B1))
    obtain ⟨q, hq⟩ : ∃ q, q = v3.heap.size := ⟨_, rfl⟩
    rw [← hq] at H3 ⊢
    clear hq CN AW
    go_loopw [9] (fun iv wr => ∃ i : Nat, iv = .int .i64 i ∧ i ≤ len0 ∧ Hid (∃ M M2, DuoP W0 wr p q M M2 noFoot ∧ ents M = ents M2)) (fun iv _ => len0 - (intOf iv).toNat)
    case atStart => exact ⟨0, rfl, Nat.zero_le _, ⟨[], [], H3.out, rfl⟩⟩
    case round =>
      clear H3
      obtain ⟨i, rfl, hi, HML⟩ := hrel
      have h0 : (0 : Int) ≤ (i : Int) := by omega
      obtain ⟨M, M2, hM, hQ⟩ := HML.out
      have HM : Hid (DuoP W0 wr p q M M2 noFoot) := hM
      have HEQ : Hid (ents M = ents M2) := hQ
      clear hM hQ HML
      have HBW : Hid (Below w.heap.size w wr) := HBW0.out _ HM.out.below
      by_cases hlt : i < len0
      · have h1 : (i : Int) < (len0 : Int) := by omega
        obtain ⟨y, hy⟩ : ∃ y, z0[i]? = some y := ⟨_, List.getElem?_eq_getElem (by rw [HL.out]; exact hlt)⟩
        obtain ⟨b, off, rfl, hay, hok⟩ := HA.out.act hy
        have hay2 := hay.past HBW.out
        have q0 := hay2.c0
        obtain ⟨q1, q2, q3, q4, q5, q6⟩ := hay2.ent.cells
        rw [show off + i * 7 + 1 + 1 = off + i * 7 + 2 by omega] at q2
        rw [show off + i * 7 + 1 + 2 = off + i * 7 + 3 by omega] at q3
        rw [show off + i * 7 + 1 + 3 = off + i * 7 + 4 by omega] at q4
        rw [show off + i * 7 + 1 + 4 = off + i * 7 + 5 by omega] at q5
        rw [show off + i * 7 + 1 + 5 = off + i * 7 + 6 by omega] at q6
        obtain ⟨op, hop⟩ : ∃ t, t = y.op := ⟨_, rfl⟩
        obtain ⟨id, hid⟩ : ∃ t, t = y.x.e.id := ⟨_, rfl⟩
        obtain ⟨s, hs⟩ : ∃ t, t = y.x.e.s := ⟨_, rfl⟩
        obtain ⟨m, hm⟩ : ∃ t, t = y.x.e.m := ⟨_, rfl⟩
        obtain ⟨t, ht⟩ : ∃ t, t = y.x.e.t := ⟨_, rfl⟩
        obtain ⟨n, hn⟩ : ∃ t, t = y.x.e.n := ⟨_, rfl⟩
        obtain ⟨N, hN⟩ : ∃ N, N = y.x.e.l.length := ⟨_, rfl⟩
        obtain ⟨ya, hya⟩ : ∃ t, t = y.x.a := ⟨_, rfl⟩
        obtain ⟨yc, hyc⟩ : ∃ t, t = y.x.c := ⟨_, rfl⟩
        obtain ⟨l, hl⟩ : ∃ l, l = y.x.e.l := ⟨_, rfl⟩
        have hEO : EntOk (⟨id, s, m, t, n, l⟩ : Ent) := by rw [hid, hs, hm, ht, hn, hl]; exact hok.ok
        have hop1 := hok.op
        rw [← hop] at q0 hop1
        rw [← hid] at q1
        rw [← hs] at q2
        rw [← hm] at q3
        rw [← ht] at q4
        rw [← hn] at q5
        rw [← hN, ← hya, ← hyc] at q6
        have HWR : Hid (WrtsAt W0 ya l ∧ l.length = N ∧ N ≤ yc) := ⟨by rw [hya, hl]; exact hok.wr.at_.past HB0.out, by rw [hN, hl], by rw [hN, hyc]; exact hok.wr.room⟩
        have hfewN : N ≤ 9223372036854775807 := by rw [hN]; exact hok.wr.few
        obtain ⟨lg, hlg⟩ : ∃ g, g = longW l := ⟨_, rfl⟩
        have CLG : Hid (∀ u, Below wr.heap.size wr u → Calls Try.prog 17 #[.slice ya N yc] u fun e w' => e = .returned (.bool lg) ∧ w' = u) := fun u hb => by rw [hlg]; exact llong_any ya N yc l u HWR.out.2.1 HWR.out.2.2 hfewN (HWR.out.1.past (HM.out.past hb).below)
        have HRD : Hid (RndP W0 (wr.alloc (.cells #[.int .i64 op, .int .i64 id, .int .i64 s, .int .u8 m, .int .i64 t, .int .u8 n, .slice ya N yc] 53)) p q wr.heap.size M M2 op id s m t n ya N yc) := HM.out.round op id s m t n ya N yc 53
        have HBX : Hid (Below wr.heap.size wr (wr.alloc (.cells #[.int .i64 op, .int .i64 id, .int .i64 s, .int .u8 m, .int .i64 t, .int .u8 n, .slice ya N yc] 53))) := (Below.refl _ _).alloc (Nat.le_refl _) _
        have HN20 : Hid (lg = false → N ≤ 20) := fun h9 => by
          rw [hlg] at h9
          unfold longW at h9
          simp only [Bool.or_eq_false_iff, decide_eq_false_iff_not] at h9
          have := HWR.out.2.1
          omega
        clear hlg hl hop hid hs hm ht hn hN hya hyc hy hay hay2 hok
        cases lg with
        | true =>
          clear HN20
          go_wp2_with (go_at_call 17; refine (CLG.out _ HBX.out).mono ?_; rintro e v3 ⟨rfl, rfl⟩)
          go_ret
          exact ⟨rfl, HBW.out.alloc HBW.out.size _⟩
        | false =>
          have hN20 : N ≤ 20 := HN20.out rfl
          have HEW : Hid (∀ u, Below W0.heap.size W0 u → EntW u ⟨(⟨id, s, m, t, n, l⟩ : Ent), ya, yc⟩) := fun u hb => ⟨HWR.out.1.past hb, by show l.length ≤ yc; rw [HWR.out.2.1]; exact HWR.out.2.2, by show l.length ≤ 1000000; rw [HWR.out.2.1]; omega, hEO⟩
          clear HN20 HM HBW hEO hfewN
          go_wp2_with (go_at_call 17; refine (CLG.out _ HBX.out).mono ?_; rintro e v3 ⟨rfl, rfl⟩)
          obtain ⟨xb, hxb⟩ : ∃ xb, xb = wr.heap.size := ⟨_, rfl⟩
          rw [← hxb] at HRD ⊢
          generalize wr.alloc (.cells #[.int .i64 op, .int .i64 id, .int .i64 s, .int .u8 m, .int .i64 t, .int .u8 n, .slice ya N yc] 53) = ux at HRD ⊢
          clear hxb HBX CLG q0 q1 q2 q3 q4 q5 q6
          have FX : Hid (∀ u, Below ux.heap.size ux u → XP u xb op id s m t n ya N yc) := fun u hb => HRD.out.box.past hb
          obtain ⟨gE, hgE⟩ : ∃ g, g = goodE (⟨id, s, m, t, n, l⟩ : Ent) := ⟨_, rfl⟩
          have CGD : Hid (∀ u, Below ux.heap.size ux u → Calls Try.prog 18 #[.agg #[.int .i64 id, .int .i64 s, .int .u8 m, .int .i64 t, .int .u8 n, .slice ya N yc]] u fun e w' => e = .returned (.bool gE) ∧ Below u.heap.size u w') := fun u hb => by rw [hgE]; exact pgood_any id s m t n ya N yc l u HWR.out.2.1 HWR.out.2.2 (by omega) (HWR.out.1.past (HRD.out.past hb).duo.below)
          have CGE : Hid (∀ u, Below ux.heap.size ux u → Calls Try.prog 19 #[.agg #[.int .i64 id, .int .i64 s, .int .u8 m, .int .i64 t, .int .u8 n, .slice ya N yc]] u fun e w' => e = .returned (.bool gE) ∧ Below u.heap.size u w') := fun u hb => by rw [hgE]; exact rgoode_any id s m t n ya N yc l u HWR.out.2.1 HWR.out.2.2 (by omega) (HWR.out.1.past (HRD.out.past hb).duo.below)
          have CEN : Hid (∀ u, Calls Try.prog 20 #[.agg #[.int .i64 id, .int .i64 s, .int .u8 m, .int .i64 t, .int .u8 n, .slice ya N yc]] u fun e w' => e = .returned (.agg #[.int .i64 id, .int .i64 s, .int .u8 m, .int .i64 t, .int .u8 n, .slice ya N yc]) ∧ Below u.heap.size u w') := fun u => lent_any id s m t n ya N yc u
          clear hgE
          refine wp_region_noPanic ?_
          refine wp_region_held_drew (S := fun u => Below ux.heap.size ux u) (by kernel_rfl) ?_ (fun hHeld => ?_)
          · exact (Below.refl _ _).drew
          refine wpAnyH_take (i := 0) (v := ?_) rfl (by kernel_rfl) (by kernel_rfl) (by kernel_rfl) (fun _ _ _ h => h) (Or.inl ⟨by rfl, ?_⟩) hHeld ?_
          rotate_left
          · intro u hSu
            (go_simp) <;> (with_reducible rfl)
          change wpAnyH _ _ _ _ _ _ _ (Act.put _ (some 55) _) _
          simp only [Act.put, List.setIfInBounds_toArray, List.set_cons_zero, List.set_cons_succ]
          refine wpAnyH_take (i := 1) (v := ?_) rfl (by kernel_rfl) (by kernel_rfl) (by kernel_rfl) (fun _ _ _ h => h) (Or.inl ⟨by rfl, ?_⟩) hHeld ?_
          rotate_left
          · intro u hSu
            obtain ⟨y0, y1, y2, y3, y4, y5, y6⟩ := FX.out u hSu
            (go_simp) <;> (with_reducible rfl)
          change wpAnyH _ _ _ _ _ _ _ (Act.put _ (some 56) _) _
          simp only [Act.put, List.setIfInBounds_toArray, List.set_cons_zero, List.set_cons_succ]
          refine wpAnyH_take (i := 3) (v := ?_) rfl (by kernel_rfl) (by kernel_rfl) (by kernel_rfl) (fun _ _ _ h => h) (Or.inl ⟨by rfl, ?_⟩) hHeld ?_
          rotate_left
          · intro u hSu
            (go_simp) <;> (with_reducible rfl)
          change wpAnyH _ _ _ _ _ _ _ (Act.put _ (some 58) _) _
          simp only [Act.put, List.setIfInBounds_toArray, List.set_cons_zero, List.set_cons_succ]
          refine wpAnyH_take (i := 4) (v := ?_) rfl (by kernel_rfl) (by kernel_rfl) (by kernel_rfl) (fun _ _ _ h => h) (Or.inl ⟨by rfl, ?_⟩) hHeld ?_
          rotate_left
          · intro u hSu
            obtain ⟨y0, y1, y2, y3, y4, y5, y6⟩ := FX.out u hSu
            (go_simp) <;> (with_reducible rfl)
          change wpAnyH _ _ _ _ _ _ _ (Act.put _ (some 59) _) _
          simp only [Act.put, List.setIfInBounds_toArray, List.set_cons_zero, List.set_cons_succ]
          refine wpAnyH_ready (rs := [2]) (by kernel_rfl) (by simp) ?_
          refine AllReadyH.cons rfl (fun K hK => ?_) AllReadyH.nil
          go_simp
          go_at_call 18
          refine (CGD.out _ hHeld).mono ?_
          rintro e g1 ⟨rfl, hbg1⟩
          have Bg1 : Hid (Below ux.heap.size ux g1) := hHeld.trans (hbg1.mono hHeld.size)
          clear hbg1
          refine hK.out _ _ ?_ (fun hHeld2 => ?_)
          · exact Bg1.out
          clear hK K hHeld
          have hHeld := hHeld2
          clear hHeld2
          refine wpAnyH_ready (rs := [5]) (by kernel_rfl) (by simp) ?_
          refine AllReadyH.cons rfl (fun K hK => ?_) AllReadyH.nil
          go_simp
          go_at_call 20
          refine (CEN.out _).mono ?_
          rintro e g2 ⟨rfl, hbg2⟩
          have Bg2 : Hid (Below ux.heap.size ux g2) := hHeld.trans (hbg2.mono hHeld.size)
          clear hbg2
          refine hK.out _ _ ?_ (fun hHeld2 => ?_)
          · exact Bg2.out
          clear hK K hHeld
          have hHeld := hHeld2
          clear hHeld2
          refine wpAnyH_ready (rs := [6]) (by kernel_rfl) (by simp) ?_
          refine AllReadyH.cons rfl (fun K hK => ?_) AllReadyH.nil
          go_simp
          go_at_call 19
          refine (CGE.out _ hHeld).mono ?_
          rintro e g3 ⟨rfl, hbg3⟩
          have Bg3 : Hid (Below ux.heap.size ux g3) := hHeld.trans (hbg3.mono hHeld.size)
          clear hbg3
          refine hK.out _ _ ?_ (fun hHeld2 => ?_)
          · exact Bg3.out
          clear hK K hHeld
          have hHeld := hHeld2
          clear hHeld2
          refine wpAnyH_take (i := 7) (v := ?_) rfl (by kernel_rfl) (by kernel_rfl) (by kernel_rfl) (fun _ _ _ h => h) (Or.inl ⟨by rfl, ?_⟩) hHeld ?_
          rotate_left
          · intro u hSu
            (go_simp) <;> (with_reducible rfl)
          change wpAnyH _ _ _ _ _ _ _ (Act.put _ (some 62) _) _
          simp only [Act.put, List.setIfInBounds_toArray, List.set_cons_zero, List.set_cons_succ]
          refine wpAnyH_done (by kernel_rfl) ?_ _
          refine NoPanic.normal ?_
          have HR3 : Hid (RndP W0 g3 p q xb M M2 op id s m t n ya N yc) := HRD.out.past Bg3.out
          clear HRD FX CGD CGE
          obtain ⟨y0, y1, y2, y3, y4, y5, y6⟩ := HR3.out.box
          go_upto_if 65 with (fail)
          go_cut [9] (fun iv wx => iv = .int .i64 i ∧ Hid (∃ M' M2', RndP W0 wx p q xb M' M2' op id s m t n ya N yc ∧ ents M' = ents M2'))
          case first =>
            as_aux_lemma =>
              by_cases hop0 : op = 0
              · subst hop0
                obtain ⟨r1, hr1⟩ : ∃ r, r = (addT (ents M) (⟨id, s, m, t, n, l⟩ : Ent)).1 := ⟨_, rfl⟩
                obtain ⟨E2, hE2⟩ : ∃ r, r = (addT (ents M) (⟨id, s, m, t, n, l⟩ : Ent)).2 := ⟨_, rfl⟩
                have CP : Hid (∀ u, RndP W0 u p q xb M M2 0 id s m t n ya N yc → Calls Try.prog 8 #[.pointer (some ⟨p, 0, none⟩), .agg #[.int .i64 id, .int .i64 s, .int .u8 m, .int .i64 t, .int .u8 n, .slice ya N yc]] u fun e w' => e = .returned (.int .i64 r1) ∧ ∃ M', Hid (ents M' = E2) ∧ Hid (RndP W0 w' p q xb M' M2 0 id s m t n ya N yc)) := fun u h => by rw [hr1, hE2]; exact qadd_p h l HWR.out.2.1 (HEW.out u h.duo.below)
                have CQ : Hid (∀ u M', RndP W0 u p q xb M' M2 0 id s m t n ya N yc → Calls Try.prog 21 #[.pointer (some ⟨q, 0, none⟩), .agg #[.int .i64 id, .int .i64 s, .int .u8 m, .int .i64 t, .int .u8 n, .slice ya N yc]] u fun e w' => e = .returned (.int .i64 r1) ∧ ∃ M3, Hid (ents M3 = E2) ∧ Hid (RndP W0 w' p q xb M' M3 0 id s m t n ya N yc)) := fun u M' h => by
                  rw [hr1, hE2, HEQ.out]
                  refine qadd_r h l HWR.out.2.1 ?_ (HEW.out u h.duo.below)
                  obtain ⟨X, hX⟩ := HR3.out.duo.ptab
                  have h8 := hX.few
                  have h9 := congrArg List.length HEQ.out
                  rw [List.length_map, List.length_map] at h9
                  omega
                clear hr1 hE2 HEQ
                go_wp2
                refine wp_region_noPanic ?_
                refine wp_region_held_drew (S := fun u => XP u xb 0 id s m t n ya N yc) (by kernel_rfl) ?_ (fun hHeld => ?_)
                · exact (HR3.out.past (Below.refl _ _).drew).box
                refine wpAnyH_take (i := 0) (v := ?_) rfl (by kernel_rfl) (by kernel_rfl) (by kernel_rfl) (fun _ _ _ h => h) (Or.inl ⟨by rfl, ?_⟩) hHeld ?_
                rotate_left
                · intro u hSu
                  (go_simp) <;> (with_reducible rfl)
                change wpAnyH _ _ _ _ _ _ _ (Act.put _ (some 66) _) _
                simp only [Act.put, List.setIfInBounds_toArray, List.set_cons_zero, List.set_cons_succ]
                refine wpAnyH_take (i := 1) (v := ?_) rfl (by kernel_rfl) (by kernel_rfl) (by kernel_rfl) (fun _ _ _ h => h) (Or.inl ⟨by rfl, ?_⟩) hHeld ?_
                rotate_left
                · intro u hSu
                  (go_simp) <;> (with_reducible rfl)
                change wpAnyH _ _ _ _ _ _ _ (Act.put _ (some 67) _) _
                simp only [Act.put, List.setIfInBounds_toArray, List.set_cons_zero, List.set_cons_succ]
                refine wpAnyH_take (i := 2) (v := ?_) rfl (by kernel_rfl) (by kernel_rfl) (by kernel_rfl) (fun _ _ _ h => h) (Or.inl ⟨by rfl, ?_⟩) hHeld ?_
                rotate_left
                · intro u hSu
                  obtain ⟨y0, y1, y2, y3, y4, y5, y6⟩ := hSu
                  (go_simp) <;> (with_reducible rfl)
                change wpAnyH _ _ _ _ _ _ _ (Act.put _ (some 68) _) _
                simp only [Act.put, List.setIfInBounds_toArray, List.set_cons_zero, List.set_cons_succ]
                refine wpAnyH_take (i := 4) (v := ?_) rfl (by kernel_rfl) (by kernel_rfl) (by kernel_rfl) (fun _ _ _ h => h) (Or.inl ⟨by rfl, ?_⟩) hHeld ?_
                rotate_left
                · intro u hSu
                  (go_simp) <;> (with_reducible rfl)
                change wpAnyH _ _ _ _ _ _ _ (Act.put _ (some 70) _) _
                simp only [Act.put, List.setIfInBounds_toArray, List.set_cons_zero, List.set_cons_succ]
                refine wpAnyH_take (i := 5) (v := ?_) rfl (by kernel_rfl) (by kernel_rfl) (by kernel_rfl) (fun _ _ _ h => h) (Or.inl ⟨by rfl, ?_⟩) hHeld ?_
                rotate_left
                · intro u hSu
                  (go_simp) <;> (with_reducible rfl)
                change wpAnyH _ _ _ _ _ _ _ (Act.put _ (some 71) _) _
                simp only [Act.put, List.setIfInBounds_toArray, List.set_cons_zero, List.set_cons_succ]
                refine wpAnyH_take (i := 6) (v := ?_) rfl (by kernel_rfl) (by kernel_rfl) (by kernel_rfl) (fun _ _ _ h => h) (Or.inl ⟨by rfl, ?_⟩) hHeld ?_
                rotate_left
                · intro u hSu
                  obtain ⟨y0, y1, y2, y3, y4, y5, y6⟩ := hSu
                  (go_simp) <;> (with_reducible rfl)
                change wpAnyH _ _ _ _ _ _ _ (Act.put _ (some 72) _) _
                simp only [Act.put, List.setIfInBounds_toArray, List.set_cons_zero, List.set_cons_succ]
                refine wpAnyH_ready (rs := [3]) (by kernel_rfl) (by simp) ?_
                refine AllReadyH.cons rfl (fun K hK => ?_) AllReadyH.nil
                go_simp
                go_at_call 8
                refine (CP.out _ (HR3.out.past (Below.refl _ _).drew)).mono ?_
                rintro e x1 ⟨rfl, M4, HM4, RX1⟩
                refine hK.out _ _ ?_ (fun hHeld2 => ?_)
                · exact RX1.out.box
                clear hK K hHeld
                have hHeld := hHeld2
                clear hHeld2
                refine wpAnyH_ready (rs := [7]) (by kernel_rfl) (by simp) ?_
                refine AllReadyH.cons rfl (fun K hK => ?_) AllReadyH.nil
                go_simp
                go_at_call 20
                refine (CEN.out _).mono ?_
                rintro e x2 ⟨rfl, hx2⟩
                have RX2 : Hid (RndP W0 x2 p q xb M4 M2 0 id s m t n ya N yc) := RX1.out.past hx2
                clear hx2 RX1
                refine hK.out _ _ ?_ (fun hHeld2 => ?_)
                · exact RX2.out.box
                clear hK K hHeld
                have hHeld := hHeld2
                clear hHeld2
                refine wpAnyH_ready (rs := [8]) (by kernel_rfl) (by simp) ?_
                refine AllReadyH.cons rfl (fun K hK => ?_) AllReadyH.nil
                go_simp
                go_at_call 21
                refine (CQ.out _ _ RX2.out).mono ?_
                rintro e x3 ⟨rfl, M5, HM5, RX3⟩
                clear RX2
                refine hK.out _ _ ?_ (fun hHeld2 => ?_)
                · exact RX3.out.box
                clear hK K hHeld
                have hHeld := hHeld2
                clear hHeld2
                refine wpAnyH_take (i := 9) (v := ?_) rfl (by kernel_rfl) (by kernel_rfl) (by kernel_rfl) (fun _ _ _ h => h) (Or.inl ⟨by rfl, ?_⟩) hHeld ?_
                rotate_left
                · intro u hSu
                  (go_simp) <;> (with_reducible rfl)
                change wpAnyH _ _ _ _ _ _ _ (Act.put _ (some 75) _) _
                simp only [Act.put, List.setIfInBounds_toArray, List.set_cons_zero, List.set_cons_succ]
                refine wpAnyH_done (by kernel_rfl) ?_ _
                refine NoPanic.normal ?_
                go_wp2
                go_meet
                case rel => exact ⟨rfl, M4, M5, RX3.out, HM4.out.trans HM5.out.symm⟩
              · have bop0 : (op == 0) = false := by simpa using hop0
                obtain ⟨A, hA⟩ : ∃ A, A = orE (hasM M id) := ⟨_, rfl⟩
                obtain ⟨B, hB⟩ : ∃ B, B = orE (hasM M2 id) := ⟨_, rfl⟩
                obtain ⟨pa, hpa⟩ : ∃ b, b = (hasM M id).isSome := ⟨_, rfl⟩
                obtain ⟨hl1, hl2⟩ := like_has HEQ.out id
                have HAB : Hid (A.e = B.e) := by rw [hA, hB]; exact hl1
                have CP : Hid (Calls Try.prog 15 #[.pointer (some ⟨p, 0, none⟩), .int .i64 id] g3 fun e w' => e = .returned (.tuple #[ev A, .bool pa]) ∧ Hid (DuoP W0 w' p q (dropM M id) M2 (fun k => k = xb ∨ wb A k) ∧ EntW w' A ∧ XP w' xb op id s m t n ya N yc)) := by
                  rw [hA, hpa]
                  refine (qdrop_p HR3.out.duo id).mono ?_
                  rintro e w' ⟨rfl, h2, h3, h4⟩
                  exact ⟨rfl, h2, h3, HR3.out.box.kept (h4 xb rfl)⟩
                have CQ : Hid (∀ u F, DuoP W0 u p q (dropM M id) M2 F → Calls Try.prog 22 #[.pointer (some ⟨q, 0, none⟩), .int .i64 id] u fun e w' => e = .returned (.tuple #[ev B, .bool pa]) ∧ Hid (DuoP W0 w' p q (dropM M id) (dropM M2 id) F ∧ EntW w' B ∧ ∀ k, F k → w'.heap[k]? = u.heap[k]?)) := fun u F h => by
                  rw [hB, hpa, hl2]
                  exact qdrop_r h id
                clear hA hB hpa hl1 hl2
                go_wp2_with (first | (go_at_call 15; refine CP.out.mono ?_; rintro e x1 ⟨rfl, S1⟩; have hmi := EntMine.made x1 31 zeroE; rw [zeroE_cells] at hmi; have HMI : Hid _ := hmi; clear hmi CP y0 y1 y2 y3 y4 y5 y6) | (have hgo := HMI.out; clear hgo; refine wpList_store_pent (.tmp 11) (by rfl) _ (by rfl) x1.heap.size zeroE A (by rfl) (by rfl) HMI.out ?_; intro x2 hu; have hb2 : Below x1.heap.size x1 x2 := hu ▸ below_cells (Nat.le_refl _) ((Below.refl _ _).alloc (Nat.le_refl _) _); have hm2 : EntMine x2 x1.heap.size A := hu ▸ HMI.out.store; have S2 : Hid (DuoP W0 x2 p q (dropM M id) M2 (fun k => (k = xb ∨ wb A k) ∨ k = x1.heap.size) ∧ EntW x2 A ∧ XP x2 xb op id s m t n ya N yc ∧ EntMine x2 x1.heap.size A) := ⟨S1.out.1.more hb2 (fun k e => e.imp (fun e => e) (fun e => by rw [e]; exact ⟨Nat.le_refl _, hm2.at_.lt⟩)), S1.out.2.1.past hb2, S1.out.2.2.past hb2, hm2⟩; have y1 := S2.out.2.2.1.c1; clear hu HMI S1 hb2 hm2) | (have hgo := S2.out; clear hgo; go_at_call 22; refine (CQ.out _ _ S2.out.1).mono ?_; rintro e x3 ⟨rfl, s3⟩; have S3 : Hid (DuoP W0 x3 p q (dropM M id) (dropM M2 id) (fun k => (k = xb ∨ wb A k) ∨ k = x1.heap.size) ∧ EntW x3 A ∧ XP x3 xb op id s m t n ya N yc ∧ EntMine x3 x1.heap.size A ∧ EntW x3 B) := ⟨s3.out.1, S2.out.2.1.keptB (fun k hk => s3.out.2.2 k (.inl (.inr hk))), S2.out.2.2.1.kept (s3.out.2.2 xb (.inl (.inl rfl))), S2.out.2.2.2.kept (s3.out.2.2 x1.heap.size (.inr rfl)), s3.out.2.1⟩; have hmi := EntMine.made x3 57 zeroE; rw [zeroE_cells] at hmi; have HMI : Hid _ := hmi; clear hmi S2 s3 y1) | (have hgo := HMI.out; clear hgo; refine wpList_store_ent (.tmp 13) (by rfl) _ (by rfl) x3.heap.size zeroE B (by rfl) (by rfl) HMI.out ?_; intro x4 hu; have hb4 : Below x3.heap.size x3 x4 := hu ▸ below_cells (Nat.le_refl _) ((Below.refl _ _).alloc (Nat.le_refl _) _); have S4 : Hid (RndP W0 x4 p q xb (dropM M id) (dropM M2 id) op id s m t n ya N yc ∧ EntW x4 A ∧ EntMine x4 x1.heap.size A ∧ EntW x4 B ∧ EntMine x4 x3.heap.size B) := ⟨⟨(S3.out.1.less (fun k e => .inl (.inl e))).past hb4, S3.out.2.2.1.past hb4⟩, S3.out.2.1.past hb4, S3.out.2.2.2.1.past hb4, S3.out.2.2.2.2.past hb4, hu ▸ HMI.out.store⟩; clear hu HMI S3 hb4))
                have FA : Hid (∀ u, Below x4.heap.size x4 u → EntAt u x1.heap.size 0 A) := fun u hb => (S4.out.2.2.1.past hb).at_
                have FB : Hid (∀ u, Below x4.heap.size x4 u → EntAt u x3.heap.size 0 B) := fun u hb => (S4.out.2.2.2.2.past hb).at_
                have CEA : Hid (∀ u, Calls Try.prog 20 #[ev A] u fun e w' => e = .returned (ev A) ∧ Below u.heap.size u w') := fun u => lent_ev A u
                have CSA : Hid (∀ u, Below x4.heap.size x4 u → Calls Try.prog 23 #[ev A, ev B] u fun e w' => e = .returned (.bool true) ∧ Below u.heap.size u w') := fun u hb => same_ev u HAB.out (S4.out.2.1.past hb) (S4.out.2.2.2.1.past hb)
                refine wp_region_noPanic ?_
                refine wp_region_held_drew (S := fun u => Below x4.heap.size x4 u) (by kernel_rfl) ?_ (fun hHeld => ?_)
                · exact (Below.refl _ _).drew
                refine wpAnyH_take (i := 0) (v := ?_) rfl (by kernel_rfl) (by kernel_rfl) (by kernel_rfl) (fun _ _ _ h => h) (Or.inl ⟨by rfl, ?_⟩) hHeld ?_
                rotate_left
                · intro u hSu
                  (go_simp) <;> (with_reducible rfl)
                change wpAnyH _ _ _ _ _ _ _ (Act.put _ (some 92) _) _
                simp only [Act.put, List.setIfInBounds_toArray, List.set_cons_zero, List.set_cons_succ]
                refine wpAnyH_take (i := 1) (v := ?_) rfl (by kernel_rfl) (by kernel_rfl) (by kernel_rfl) (fun _ _ _ h => h) (Or.inl ⟨by rfl, ?_⟩) hHeld ?_
                rotate_left
                · intro u hSu
                  (go_simp) <;> (with_reducible rfl)
                change wpAnyH _ _ _ _ _ _ _ (Act.put _ (some 93) _) _
                simp only [Act.put, List.setIfInBounds_toArray, List.set_cons_zero, List.set_cons_succ]
                refine wpAnyH_take (i := 2) (v := ?_) rfl (by kernel_rfl) (by kernel_rfl) (by kernel_rfl) (fun _ _ _ h => h) (Or.inl ⟨by rfl, ?_⟩) hHeld ?_
                rotate_left
                · intro u hSu
                  (go_simp) <;> (with_reducible rfl)
                change wpAnyH _ _ _ _ _ _ _ (Act.put _ (some 94) _) _
                simp only [Act.put, List.setIfInBounds_toArray, List.set_cons_zero, List.set_cons_succ]
                refine wpAnyH_take (i := 3) (v := ?_) rfl (by kernel_rfl) (by kernel_rfl) (by kernel_rfl) (fun _ _ _ h => h) (Or.inl ⟨by rfl, ?_⟩) hHeld ?_
                rotate_left
                · intro u hSu
                  (go_simp) <;> (with_reducible rfl)
                change wpAnyH _ _ _ _ _ _ _ (Act.put _ (some 95) _) _
                simp only [Act.put, List.setIfInBounds_toArray, List.set_cons_zero, List.set_cons_succ]
                refine wpAnyH_take (i := 4) (v := ev A) rfl (by kernel_rfl) (by kernel_rfl) (by kernel_rfl) (fun _ _ _ h => h) (yieldsIf_load_mid (by rfl) _ _ rfl _ _ rfl (encE A) _ (fun u hu => (FA.out u hu).lies.range) Try.underlying31 rfl (by rw [info_pent, encE_len])) hHeld ?_
                change wpAnyH _ _ _ _ _ _ _ (Act.put _ (some 96) _) _
                simp only [Act.put, List.setIfInBounds_toArray, List.set_cons_zero, List.set_cons_succ]
                refine wpAnyH_take (i := 6) (v := ev B) rfl (by kernel_rfl) (by kernel_rfl) (by kernel_rfl) (fun _ _ _ h => h) (yieldsIf_load_mid (by rfl) _ _ rfl _ _ rfl (encE B) _ (fun u hu => (FB.out u hu).lies.range) Try.underlying57 rfl (by rw [info_ent, encE_len])) hHeld ?_
                change wpAnyH _ _ _ _ _ _ _ (Act.put _ (some 98) _) _
                simp only [Act.put, List.setIfInBounds_toArray, List.set_cons_zero, List.set_cons_succ]
                refine wpAnyH_ready (rs := [5]) (by kernel_rfl) (by simp) ?_
                refine AllReadyH.cons rfl (fun K hK => ?_) AllReadyH.nil
                go_simp
                go_at_call 20
                refine (CEA.out _).mono ?_
                rintro e x5 ⟨rfl, hbx5⟩
                have Bx5 : Hid (Below x4.heap.size x4 x5) := hHeld.trans (hbx5.mono hHeld.size)
                clear hbx5
                refine hK.out _ _ ?_ (fun hHeld2 => ?_)
                · exact Bx5.out
                clear hK K hHeld
                have hHeld := hHeld2
                clear hHeld2
                refine wpAnyH_ready (rs := [7]) (by kernel_rfl) (by simp) ?_
                refine AllReadyH.cons rfl (fun K hK => ?_) AllReadyH.nil
                go_simp
                go_at_call 23
                refine (CSA.out _ hHeld).mono ?_
                rintro e x6 ⟨rfl, hbx6⟩
                have Bx6 : Hid (Below x4.heap.size x4 x6) := hHeld.trans (hbx6.mono hHeld.size)
                clear hbx6
                refine hK.out _ _ ?_ (fun hHeld2 => ?_)
                · exact Bx6.out
                clear hK K hHeld
                have hHeld := hHeld2
                clear hHeld2
                refine wpAnyH_take (i := 8) (v := ?_) rfl (by kernel_rfl) (by kernel_rfl) (by kernel_rfl) (fun _ _ _ h => h) (Or.inl ⟨by rfl, ?_⟩) hHeld ?_
                rotate_left
                · intro u hSu
                  (go_simp) <;> (with_reducible rfl)
                change wpAnyH _ _ _ _ _ _ _ (Act.put _ (some 100) _) _
                simp only [Act.put, List.setIfInBounds_toArray, List.set_cons_zero, List.set_cons_succ]
                refine wpAnyH_take (i := 9) (v := ?_) rfl (by kernel_rfl) (by kernel_rfl) (by kernel_rfl) (fun _ _ _ h => h) (Or.inl ⟨by rfl, ?_⟩) hHeld ?_
                rotate_left
                · intro u hSu
                  (go_simp) <;> (with_reducible rfl)
                change wpAnyH _ _ _ _ _ _ _ (Act.put _ (some 101) _) _
                simp only [Act.put, List.setIfInBounds_toArray, List.set_cons_zero, List.set_cons_succ]
                refine wpAnyH_done (by kernel_rfl) ?_ _
                refine NoPanic.normal ?_
                go_wp2
                go_meet
                case rel => exact ⟨rfl, _, _, S4.out.1.past Bx6.out, like_drop HEQ.out id⟩
          case rest =>
            obtain ⟨rfl, HR⟩ := hcut
            clear HR3 y0 y1 y2 y3 y4 y5 y6 HEW HWR HEQ
            as_aux_lemma =>
              obtain ⟨M, M2, hM, hQ⟩ := HR.out
              have HR4 : Hid (RndP W0 wc p q xb M M2 op id s m t n ya N yc) := hM
              have HEQ : Hid (ents M = ents M2) := hQ
              clear hM hQ HR
              obtain ⟨hi, hhi⟩ : ∃ x, x = (orE (holdM M z1)).e.id := ⟨_, rfl⟩
              obtain ⟨ho, hho⟩ : ∃ x, x = (holdM M z1).isSome := ⟨_, rfl⟩
              obtain ⟨bi, hbi⟩ : ∃ x, x = (blocksT (ents M) z1 a2 b2).getD 0 := ⟨_, rfl⟩
              obtain ⟨bo, hbo⟩ : ∃ x, x = (blocksT (ents M) z1 a2 b2).isSome := ⟨_, rfl⟩
              obtain ⟨lt, hlt1⟩ : ∃ x, x = lsT (leastT (ents M)) := ⟨_, rfl⟩
              obtain ⟨ln, hln⟩ : ∃ x, x = lsN (leastT (ents M)) := ⟨_, rfl⟩
              obtain ⟨lo, hlo⟩ : ∃ x, x = (leastT (ents M)).isSome := ⟨_, rfl⟩
              obtain ⟨pb, hpb⟩ : ∃ x, x = (hasM M id).isSome := ⟨_, rfl⟩
              obtain ⟨Be, hBe⟩ : ∃ B, B = orE (hasM M2 id) := ⟨_, rfl⟩
              obtain ⟨hk1, hk2⟩ := like_hold HEQ.out z1
              obtain ⟨hh1, hh2⟩ := like_has HEQ.out id
              have CH1 : Hid (∀ u, RndP W0 u p q xb M M2 op id s m t n ya N yc → Calls Try.prog 12 #[.pointer (some ⟨p, 0, none⟩), kv z1] u fun e w' => e = .returned (.tuple #[.int .i64 hi, .bool ho]) ∧ Below u.heap.size u w') := fun u h => by obtain ⟨X, hX⟩ := h.duo.ptab; rw [hhi, hho]; exact pholder_any p M X z1 KY1.out u hX
              have CH2 : Hid (∀ u, RndP W0 u p q xb M M2 op id s m t n ya N yc → Calls Try.prog 24 #[.pointer (some ⟨q, 0, none⟩), kv z1] u fun e w' => e = .returned (.tuple #[.int .i64 hi, .bool ho]) ∧ Below u.heap.size u w') := fun u h => by rw [hhi, hho, hk1, hk2]; exact rHolder_any W0.heap.size q M2 z1 KY1.out u h.duo.tabr
              have CB1 : Hid (∀ u, RndP W0 u p q xb M M2 op id s m t n ya N yc → Calls Try.prog 25 #[.pointer (some ⟨p, 0, none⟩), kv z1, .agg #[.int .i64 a2, .int .u8 b2]] u fun e w' => e = .returned (.tuple #[.int .i64 bi, .bool bo]) ∧ Below u.heap.size u w') := fun u h => by obtain ⟨X, hX⟩ := h.duo.ptab; rw [hbi, hbo]; exact pblocks_any p M X z1 KY1.out a2 b2 u hX
              have CB2 : Hid (∀ u, RndP W0 u p q xb M M2 op id s m t n ya N yc → Calls Try.prog 26 #[.pointer (some ⟨q, 0, none⟩), kv z1, .agg #[.int .i64 a2, .int .u8 b2]] u fun e w' => e = .returned (.tuple #[.int .i64 bi, .bool bo]) ∧ Below u.heap.size u w') := fun u h => by rw [hbi, hbo, HEQ.out]; exact rblocks_any W0.heap.size q M2 z1 KY1.out a2 b2 u h.duo.tabr
              have CL1 : Hid (∀ u, RndP W0 u p q xb M M2 op id s m t n ya N yc → Calls Try.prog 11 #[.pointer (some ⟨p, 0, none⟩)] u fun e w' => e = .returned (.tuple #[.agg #[.int .i64 lt, .int .u8 ln], .bool lo]) ∧ Below u.heap.size u w') := fun u h => by obtain ⟨X, hX⟩ := h.duo.ptab; rw [hlt1, hln, hlo]; exact pleast_any p M X u hX
              have CL2 : Hid (∀ u, RndP W0 u p q xb M M2 op id s m t n ya N yc → Calls Try.prog 27 #[.pointer (some ⟨q, 0, none⟩)] u fun e w' => e = .returned (.tuple #[.agg #[.int .i64 lt, .int .u8 ln], .bool lo]) ∧ Below u.heap.size u w') := fun u h => by rw [hlt1, hln, hlo, HEQ.out]; exact rleast_any W0.heap.size q M2 u h.duo.tabr
              have CS1 : Hid (∀ u, RndP W0 u p q xb M M2 op id s m t n ya N yc → Calls Try.prog 16 #[.pointer (some ⟨p, 0, none⟩), .int .i64 id] u fun e w' => (∃ Y, e = .returned (.tuple #[ev Y, .bool pb]) ∧ Hid (Y.e = Be.e) ∧ Hid (EntW w' Y)) ∧ Below u.heap.size u w') := fun u h => by obtain ⟨X, hX⟩ := h.duo.ptab; rw [hpb, hBe, ← hh1]; refine (phas_any p M X id u hX).mono ?_; rintro e w' ⟨⟨Y, rfl, hY⟩, hb⟩; exact ⟨⟨Y, rfl, hY.is, hY.ent⟩, hb⟩
              have CS2 : Hid (∀ u, RndP W0 u p q xb M M2 op id s m t n ya N yc → Calls Try.prog 28 #[.pointer (some ⟨q, 0, none⟩), .int .i64 id] u fun e w' => e = .returned (.tuple #[ev Be, .bool pb]) ∧ Below u.heap.size u w') := fun u h => by rw [hpb, hBe, hh2]; exact rhas_any W0.heap.size q M2 id u h.duo.tabr
              have HBE : Hid (∀ u, RndP W0 u p q xb M M2 op id s m t n ya N yc → EntW u Be) := fun u h => by
                rw [hBe]
                cases hx : hasM M2 id with
                | none => exact entW_zero _
                | some x => exact h.duo.tabr.wrs x (List.mem_of_find?_eq_some hx)
              obtain ⟨NL, hNL⟩ : ∃ N, N = M.length := ⟨_, rfl⟩
              have hNL2 : M2.length = NL := by
                have h9 := congrArg List.length HEQ.out
                rw [List.length_map, List.length_map] at h9
                rw [hNL]; exact h9.symm
              have HNL2 : Hid (M2.length = NL) := hNL2
              have hNL100 : NL ≤ 100 := by
                obtain ⟨X, hX⟩ := HR4.out.duo.ptab
                rw [hNL]; exact hX.few
              have CA1 : Hid (∀ u, RndP W0 u p q xb M M2 op id s m t n ya N yc → Calls Try.prog 14 #[.pointer (some ⟨p, 0, none⟩)] u fun e w' => (∃ a c L, e = .returned (.slice a NL c) ∧ Hid (AllOf w' u.heap.size (.slice a NL c) L (ents M2))) ∧ Below u.heap.size u w') := fun u h => by obtain ⟨X, hX⟩ := h.duo.ptab; rw [hNL, ← HEQ.out]; refine (pall_any p M X u hX).mono ?_; rintro e w' ⟨⟨a, c, L, rfl, h2⟩, hb⟩; exact ⟨⟨a, c, L, rfl, h2⟩, hb⟩
              clear hhi hho hbi hbo hlt1 hln hlo hpb hBe hk1 hk2 hh1 hh2 hNL hNL2
              obtain ⟨_, c0, c1⟩ := TB.out _ HR4.out.duo.below
              have z9 := HR4.out.box.c1
              go_wp2_with (first | (have hgo := HR4.out; clear hgo; (with_reducible show wpList _ _ _ (Oper.mk (some 104) _ _ _ _ _ :: _) _ _); refine wpList_load_keyD 104 (by rfl) (by rfl) _ (by rfl) w.heap.size 0 (by rfl) z1 KY1.out (TB.out _ HR4.out.duo.below).key ?_) | (have hgo := HR4.out; clear hgo; go_at_call 12; refine (CH1.out _ HR4.out).mono ?_; rintro e v5 ⟨rfl, hb⟩; have Rv5 : Hid (RndP W0 v5 p q xb M M2 op id s m t n ya N yc) := HR4.out.past hb; clear hb HR4 CH1 c0 c1 z9; obtain ⟨_, c0, c1⟩ := TB.out _ Rv5.out.duo.below; have z9 := Rv5.out.box.c1) | (have hgo := Rv5.out; clear hgo; (with_reducible show wpList _ _ _ (Oper.mk (some 110) _ _ _ _ _ :: _) _ _); refine wpList_load_keyD 110 (by rfl) (by rfl) _ (by rfl) w.heap.size 0 (by rfl) z1 KY1.out (TB.out _ Rv5.out.duo.below).key ?_) | (have hgo := Rv5.out; clear hgo; go_at_call 24; refine (CH2.out _ Rv5.out).mono ?_; rintro e v6 ⟨rfl, hb⟩; have Rv6 : Hid (RndP W0 v6 p q xb M M2 op id s m t n ya N yc) := Rv5.out.past hb; clear hb Rv5 CH2 c0 c1 z9; obtain ⟨_, c0, c1⟩ := TB.out _ Rv6.out.duo.below; have z9 := Rv6.out.box.c1) | (have hgo := Rv6.out; clear hgo; (with_reducible show wpList _ _ _ (Oper.mk (some 116) _ _ _ _ _ :: _) _ _); refine wpList_load_keyD 116 (by rfl) (by rfl) _ (by rfl) w.heap.size 0 (by rfl) z1 KY1.out (TB.out _ Rv6.out.duo.below).key ?_) | (have hgo := Rv6.out; clear hgo; go_at_call 25; refine (CB1.out _ Rv6.out).mono ?_; rintro e v7 ⟨rfl, hb⟩; have Rv7 : Hid (RndP W0 v7 p q xb M M2 op id s m t n ya N yc) := Rv6.out.past hb; clear hb Rv6 CB1 c0 c1 z9; obtain ⟨_, c0, c1⟩ := TB.out _ Rv7.out.duo.below; have z9 := Rv7.out.box.c1) | (have hgo := Rv7.out; clear hgo; (with_reducible show wpList _ _ _ (Oper.mk (some 123) _ _ _ _ _ :: _) _ _); refine wpList_load_keyD 123 (by rfl) (by rfl) _ (by rfl) w.heap.size 0 (by rfl) z1 KY1.out (TB.out _ Rv7.out.duo.below).key ?_) | (have hgo := Rv7.out; clear hgo; go_at_call 26; refine (CB2.out _ Rv7.out).mono ?_; rintro e v8 ⟨rfl, hb⟩; have Rv8 : Hid (RndP W0 v8 p q xb M M2 op id s m t n ya N yc) := Rv7.out.past hb; clear hb Rv7 CB2 c0 c1 z9; obtain ⟨_, c0, c1⟩ := TB.out _ Rv8.out.duo.below; have z9 := Rv8.out.box.c1) | (have hgo := Rv8.out; clear hgo; go_at_call 11; refine (CL1.out _ Rv8.out).mono ?_; rintro e v9 ⟨rfl, hb⟩; have S9 : Hid (RndP W0 (v9.alloc (.cells #[.int .i64 lt, .int .u8 ln] 28)) p q xb M M2 op id s m t n ya N yc ∧ StB3 (v9.alloc (.cells #[.int .i64 lt, .int .u8 ln] 28)) v9.heap.size lt ln) := ⟨(Rv8.out.past hb).past ((Below.refl _ _).alloc (Nat.le_refl _) _), StB3.made v9 28 lt ln⟩; clear hb Rv8 CL1 c0 c1 z9) | (have hgo := S9.out; clear hgo; go_at_call 27; refine (CL2.out _ S9.out.1).mono ?_; rintro e v10 ⟨rfl, hb⟩; have S10 : Hid (RndP W0 (v10.alloc (.cells #[.int .i64 lt, .int .u8 ln] 28)) p q xb M M2 op id s m t n ya N yc ∧ StB3 (v10.alloc (.cells #[.int .i64 lt, .int .u8 ln] 28)) v9.heap.size lt ln ∧ StB3 (v10.alloc (.cells #[.int .i64 lt, .int .u8 ln] 28)) v10.heap.size lt ln) := ⟨(S9.out.1.past hb).past ((Below.refl _ _).alloc (Nat.le_refl _) _), (S9.out.2.past hb).past ((Below.refl _ _).alloc (Nat.le_refl _) _), StB3.made v10 28 lt ln⟩; have z9 := S10.out.1.box.c1; clear hb S9 CL2) | (have hgo := S10.out; clear hgo; go_at_call 16; refine (CS1.out _ S10.out.1).mono ?_; rintro e v11 ⟨⟨Y, rfl, HYE, HYW⟩, hb⟩; have S11 : Hid (RndP W0 v11 p q xb M M2 op id s m t n ya N yc ∧ StB3 v11 v9.heap.size lt ln ∧ StB3 v11 v10.heap.size lt ln) := ⟨S10.out.1.past hb, S10.out.2.1.past hb, S10.out.2.2.past hb⟩; have hmi := EntMine.made v11 31 zeroE; rw [zeroE_cells] at hmi; have HMI : Hid _ := hmi; clear hb S10 CS1 z9 hmi) | (have hgo := HMI.out; clear hgo; refine wpList_store_pent (.tmp 27) (by rfl) _ (by rfl) v11.heap.size zeroE Y (by rfl) (by rfl) HMI.out ?_; intro v12 hu; have hb : Below v11.heap.size v11 v12 := hu ▸ below_cells (Nat.le_refl _) ((Below.refl _ _).alloc (Nat.le_refl _) _); have S12 : Hid (RndP W0 v12 p q xb M M2 op id s m t n ya N yc ∧ StB3 v12 v9.heap.size lt ln ∧ StB3 v12 v10.heap.size lt ln ∧ EntMine v12 v11.heap.size Y ∧ EntW v12 Y) := ⟨S11.out.1.past hb, S11.out.2.1.past hb, S11.out.2.2.past hb, hu ▸ HMI.out.store, HYW.out.past hb⟩; have z9 := S12.out.1.box.c1; clear hu HMI S11 HYW hb) | (have hgo := S12.out; clear hgo; go_at_call 28; refine (CS2.out _ S12.out.1).mono ?_; rintro e v13 ⟨rfl, hb⟩; have S13 : Hid (RndP W0 v13 p q xb M M2 op id s m t n ya N yc ∧ StB3 v13 v9.heap.size lt ln ∧ StB3 v13 v10.heap.size lt ln ∧ EntMine v13 v11.heap.size Y ∧ EntW v13 Y) := ⟨S12.out.1.past hb, S12.out.2.1.past hb, S12.out.2.2.1.past hb, S12.out.2.2.2.1.past hb, S12.out.2.2.2.2.past hb⟩; have hmi := EntMine.made v13 57 zeroE; rw [zeroE_cells] at hmi; have HMI : Hid _ := hmi; clear hb S12 CS2 z9 hmi) | (have hgo := HMI.out; clear hgo; refine wpList_store_ent (.tmp 29) (by rfl) _ (by rfl) v13.heap.size zeroE Be (by rfl) (by rfl) HMI.out ?_; intro v14 hu; have hb : Below v13.heap.size v13 v14 := hu ▸ below_cells (Nat.le_refl _) ((Below.refl _ _).alloc (Nat.le_refl _) _); have S14 : Hid (RndP W0 v14 p q xb M M2 op id s m t n ya N yc ∧ StB3 v14 v9.heap.size lt ln ∧ StB3 v14 v10.heap.size lt ln ∧ EntMine v14 v11.heap.size Y ∧ EntW v14 Y ∧ EntMine v14 v13.heap.size Be) := ⟨S13.out.1.past hb, S13.out.2.1.past hb, S13.out.2.2.1.past hb, S13.out.2.2.2.1.past hb, S13.out.2.2.2.2.past hb, hu ▸ HMI.out.store⟩; clear hu HMI S13 hb) | (have hgo := S14.out; clear hgo; go_at_call 14; refine (CA1.out _ S14.out.1).mono ?_; rintro e v15 ⟨⟨la, lc, L, rfl, HAL⟩, hb⟩; have S15 : Hid (RndP W0 v15 p q xb M M2 op id s m t n ya N yc ∧ StB3 v15 v9.heap.size lt ln ∧ StB3 v15 v10.heap.size lt ln ∧ EntMine v15 v11.heap.size Y ∧ EntW v15 Y ∧ EntMine v15 v13.heap.size Be) := ⟨S14.out.1.past hb, S14.out.2.1.past hb, S14.out.2.2.1.past hb, S14.out.2.2.2.1.past hb, S14.out.2.2.2.2.1.past hb, S14.out.2.2.2.2.2.past hb⟩; clear hb S14 CA1))
              obtain ⟨hNA, hNc, hel⟩ := HAL.out.open
              have HIS : Hid (ents L = ents M2) := HAL.out.is
              have HLN : Hid (NL = L.length) := hNA
              have HEL : Hid (∀ i y, L[i]? = some y → ∃ g, la = some ⟨g, 0, none⟩ ∧ Hid (∀ v, Below v15.heap.size v15 v → EntAt v g (i * 6) y ∧ EntW v y)) := hel
              clear hel hNA HAL
              obtain ⟨qa, qc, hqc, hqcell, hqs⟩ := S15.out.1.duo.tabr.open
              rw [HNL2.out] at hqc hqcell
              have HQ : Hid (∀ v, Below v15.heap.size v15 v → v.cell? ⟨q, 0, none⟩ = some (.slice qa NL qc)) := hqcell
              have HQE : Hid (∀ i x, M2[i]? = some x → ∃ g, qa = some ⟨g, 0, none⟩ ∧ Hid (∀ v, Below v15.heap.size v15 v → EntAt v g (i * 6) x ∧ EntW v x)) := fun i x hx => by
                rcases hqs with e | ⟨g, e1, e2⟩
                · rw [e] at hx; simp at hx
                · exact ⟨g, e1, fun v hv => ⟨e2 v hv i x hx, (S15.out.1.duo.tabr.wrs x (List.mem_of_getElem? hx)).past hv⟩⟩
              clear hqcell hqs
              generalize v9.heap.size = eb at S15 ⊢
              generalize v10.heap.size = fb at S15 ⊢
              generalize v11.heap.size = gb at S15 ⊢
              generalize v13.heap.size = hb at S15 ⊢
              have HMD : Hid (∀ u, Below v15.heap.size v15 u → DuoP W0 u p q M M2 noFoot) := fun u hb => (S15.out.1.duo.past hb).less (fun k e => e.elim)
              have F1 : Hid (∀ u, Below v15.heap.size v15 u → StB3 u eb lt ln) := fun u hb => S15.out.2.1.past hb
              have F2 : Hid (∀ u, Below v15.heap.size v15 u → StB3 u fb lt ln) := fun u hb => S15.out.2.2.1.past hb
              have FY : Hid (∀ u, Below v15.heap.size v15 u → EntAt u gb 0 Y) := fun u hb => (S15.out.2.2.2.1.past hb).at_
              have FZ : Hid (∀ u, Below v15.heap.size v15 u → EntAt u hb 0 Be) := fun u h => (S15.out.2.2.2.2.2.past h).at_
              have CEY : Hid (∀ u, Calls Try.prog 20 #[ev Y] u fun e w' => e = .returned (ev Y) ∧ Below u.heap.size u w') := fun u => lent_ev Y u
              have CSY : Hid (∀ u, Below v15.heap.size v15 u → Calls Try.prog 23 #[ev Y, ev Be] u fun e w' => e = .returned (.bool true) ∧ Below u.heap.size u w') := fun u hb => same_ev u HYE.out (S15.out.2.2.2.2.1.past hb) (HBE.out u (S15.out.1.past hb))
              clear S15 HBE CEN
              refine wp_region_noPanic ?_
              refine wp_region_held_drew (S := fun u => Below v15.heap.size v15 u) (by kernel_rfl) ?_ (fun hHeld => ?_)
              · exact (Below.refl _ _).drew
              refine wpAnyH_take (i := 0) (v := ?_) rfl (by kernel_rfl) (by kernel_rfl) (by kernel_rfl) (fun _ _ _ h => h) (Or.inl ⟨by rfl, ?_⟩) hHeld ?_
              rotate_left
              · intro u hSu
                (go_simp) <;> (with_reducible rfl)
              change wpAnyH _ _ _ _ _ _ _ (Act.put _ (some 156) _) _
              simp only [Act.put, List.setIfInBounds_toArray, List.set_cons_zero, List.set_cons_succ]
              refine wpAnyH_take (i := 1) (v := ?_) rfl (by kernel_rfl) (by kernel_rfl) (by kernel_rfl) (fun _ _ _ h => h) (Or.inl ⟨by rfl, ?_⟩) hHeld ?_
              rotate_left
              · intro u hSu
                (go_simp) <;> (with_reducible rfl)
              change wpAnyH _ _ _ _ _ _ _ (Act.put _ (some 157) _) _
              simp only [Act.put, List.setIfInBounds_toArray, List.set_cons_zero, List.set_cons_succ]
              refine wpAnyH_take (i := 2) (v := ?_) rfl (by kernel_rfl) (by kernel_rfl) (by kernel_rfl) (fun _ _ _ h => h) (Or.inl ⟨by rfl, ?_⟩) hHeld ?_
              rotate_left
              · intro u hSu
                (go_simp) <;> (with_reducible rfl)
              change wpAnyH _ _ _ _ _ _ _ (Act.put _ (some 158) _) _
              simp only [Act.put, List.setIfInBounds_toArray, List.set_cons_zero, List.set_cons_succ]
              refine wpAnyH_take (i := 3) (v := ?_) rfl (by kernel_rfl) (by kernel_rfl) (by kernel_rfl) (fun _ _ _ h => h) (Or.inl ⟨by rfl, ?_⟩) hHeld ?_
              rotate_left
              · intro u hSu
                (go_simp) <;> (with_reducible rfl)
              change wpAnyH _ _ _ _ _ _ _ (Act.put _ (some 159) _) _
              simp only [Act.put, List.setIfInBounds_toArray, List.set_cons_zero, List.set_cons_succ]
              refine wpAnyH_take (i := 4) (v := ?_) rfl (by kernel_rfl) (by kernel_rfl) (by kernel_rfl) (fun _ _ _ h => h) (Or.inl ⟨by rfl, ?_⟩) hHeld ?_
              rotate_left
              · intro u hSu
                (go_simp) <;> (with_reducible rfl)
              change wpAnyH _ _ _ _ _ _ _ (Act.put _ (some 160) _) _
              simp only [Act.put, List.setIfInBounds_toArray, List.set_cons_zero, List.set_cons_succ]
              refine wpAnyH_take (i := 5) (v := ?_) rfl (by kernel_rfl) (by kernel_rfl) (by kernel_rfl) (fun _ _ _ h => h) (Or.inl ⟨by rfl, ?_⟩) hHeld ?_
              rotate_left
              · intro u hSu
                (go_simp) <;> (with_reducible rfl)
              change wpAnyH _ _ _ _ _ _ _ (Act.put _ (some 161) _) _
              simp only [Act.put, List.setIfInBounds_toArray, List.set_cons_zero, List.set_cons_succ]
              refine wpAnyH_take (i := 6) (v := ?_) rfl (by kernel_rfl) (by kernel_rfl) (by kernel_rfl) (fun _ _ _ h => h) (Or.inl ⟨by rfl, ?_⟩) hHeld ?_
              rotate_left
              · intro u hSu
                (go_simp) <;> (with_reducible rfl)
              change wpAnyH _ _ _ _ _ _ _ (Act.put _ (some 162) _) _
              simp only [Act.put, List.setIfInBounds_toArray, List.set_cons_zero, List.set_cons_succ]
              refine wpAnyH_take (i := 7) (v := ?_) rfl (by kernel_rfl) (by kernel_rfl) (by kernel_rfl) (fun _ _ _ h => h) (Or.inl ⟨by rfl, ?_⟩) hHeld ?_
              rotate_left
              · intro u hSu
                (go_simp) <;> (with_reducible rfl)
              change wpAnyH _ _ _ _ _ _ _ (Act.put _ (some 163) _) _
              simp only [Act.put, List.setIfInBounds_toArray, List.set_cons_zero, List.set_cons_succ]
              refine wpAnyH_take (i := 8) (v := ?_) rfl (by kernel_rfl) (by kernel_rfl) (by kernel_rfl) (fun _ _ _ h => h) (Or.inl ⟨by rfl, ?_⟩) hHeld ?_
              rotate_left
              · intro u hSu
                (go_simp) <;> (with_reducible rfl)
              change wpAnyH _ _ _ _ _ _ _ (Act.put _ (some 164) _) _
              simp only [Act.put, List.setIfInBounds_toArray, List.set_cons_zero, List.set_cons_succ]
              refine wpAnyH_take (i := 9) (v := ?_) rfl (by kernel_rfl) (by kernel_rfl) (by kernel_rfl) (fun _ _ _ h => h) (Or.inl ⟨by rfl, ?_⟩) hHeld ?_
              rotate_left
              · intro u hSu
                (go_simp) <;> (with_reducible rfl)
              change wpAnyH _ _ _ _ _ _ _ (Act.put _ (some 165) _) _
              simp only [Act.put, List.setIfInBounds_toArray, List.set_cons_zero, List.set_cons_succ]
              refine wpAnyH_take (i := 10) (v := ?_) rfl (by kernel_rfl) (by kernel_rfl) (by kernel_rfl) (fun _ _ _ h => h) (Or.inl ⟨by rfl, ?_⟩) hHeld ?_
              rotate_left
              · intro u hSu
                (go_simp) <;> (with_reducible rfl)
              change wpAnyH _ _ _ _ _ _ _ (Act.put _ (some 166) _) _
              simp only [Act.put, List.setIfInBounds_toArray, List.set_cons_zero, List.set_cons_succ]
              refine wpAnyH_take (i := 11) (v := ?_) rfl (by kernel_rfl) (by kernel_rfl) (by kernel_rfl) (fun _ _ _ h => h) (Or.inl ⟨by rfl, ?_⟩) hHeld ?_
              rotate_left
              · intro u hSu
                (go_simp) <;> (with_reducible rfl)
              change wpAnyH _ _ _ _ _ _ _ (Act.put _ (some 167) _) _
              simp only [Act.put, List.setIfInBounds_toArray, List.set_cons_zero, List.set_cons_succ]
              refine wpAnyH_take (i := 12) (v := ?_) rfl (by kernel_rfl) (by kernel_rfl) (by kernel_rfl) (fun _ _ _ h => h) (Or.inl ⟨by rfl, ?_⟩) hHeld ?_
              rotate_left
              · intro u hSu
                (go_simp) <;> (with_reducible rfl)
              change wpAnyH _ _ _ _ _ _ _ (Act.put _ (some 168) _) _
              simp only [Act.put, List.setIfInBounds_toArray, List.set_cons_zero, List.set_cons_succ]
              refine wpAnyH_take (i := 13) (v := ?_) rfl (by kernel_rfl) (by kernel_rfl) (by kernel_rfl) (fun _ _ _ h => h) (Or.inl ⟨by rfl, ?_⟩) hHeld ?_
              rotate_left
              · intro u hSu
                (go_simp) <;> (with_reducible rfl)
              change wpAnyH _ _ _ _ _ _ _ (Act.put _ (some 169) _) _
              simp only [Act.put, List.setIfInBounds_toArray, List.set_cons_zero, List.set_cons_succ]
              refine wpAnyH_take (i := 14) (v := ?_) rfl (by kernel_rfl) (by kernel_rfl) (by kernel_rfl) (fun _ _ _ h => h) (Or.inl ⟨by rfl, ?_⟩) hHeld ?_
              rotate_left
              · intro u hSu
                (go_simp) <;> (with_reducible rfl)
              change wpAnyH _ _ _ _ _ _ _ (Act.put _ (some 170) _) _
              simp only [Act.put, List.setIfInBounds_toArray, List.set_cons_zero, List.set_cons_succ]
              refine wpAnyH_take (i := 15) (v := ?_) rfl (by kernel_rfl) (by kernel_rfl) (by kernel_rfl) (fun _ _ _ h => h) (Or.inl ⟨by rfl, ?_⟩) hHeld ?_
              rotate_left
              · intro u hSu
                (go_simp) <;> (with_reducible rfl)
              change wpAnyH _ _ _ _ _ _ _ (Act.put _ (some 171) _) _
              simp only [Act.put, List.setIfInBounds_toArray, List.set_cons_zero, List.set_cons_succ]
              refine wpAnyH_take (i := 16) (v := ?_) rfl (by kernel_rfl) (by kernel_rfl) (by kernel_rfl) (fun _ _ _ h => h) (Or.inl ⟨by rfl, ?_⟩) hHeld ?_
              rotate_left
              · intro u hSu
                (go_simp) <;> (with_reducible rfl)
              change wpAnyH _ _ _ _ _ _ _ (Act.put _ (some 172) _) _
              simp only [Act.put, List.setIfInBounds_toArray, List.set_cons_zero, List.set_cons_succ]
              refine wpAnyH_take (i := 17) (v := ?_) rfl (by kernel_rfl) (by kernel_rfl) (by kernel_rfl) (fun _ _ _ h => h) (Or.inl ⟨by rfl, ?_⟩) hHeld ?_
              rotate_left
              · intro u hSu
                (go_simp) <;> (with_reducible rfl)
              change wpAnyH _ _ _ _ _ _ _ (Act.put _ (some 173) _) _
              simp only [Act.put, List.setIfInBounds_toArray, List.set_cons_zero, List.set_cons_succ]
              refine wpAnyH_take (i := 18) (v := ?_) rfl (by kernel_rfl) (by kernel_rfl) (by kernel_rfl) (fun _ _ _ h => h) (Or.inl ⟨by rfl, ?_⟩) hHeld ?_
              rotate_left
              · intro u hSu
                (go_simp) <;> (with_reducible rfl)
              change wpAnyH _ _ _ _ _ _ _ (Act.put _ (some 174) _) _
              simp only [Act.put, List.setIfInBounds_toArray, List.set_cons_zero, List.set_cons_succ]
              refine wpAnyH_take (i := 19) (v := ?_) rfl (by kernel_rfl) (by kernel_rfl) (by kernel_rfl) (fun _ _ _ h => h) (Or.inl ⟨by rfl, ?_⟩) hHeld ?_
              rotate_left
              · intro u hSu
                obtain ⟨r1, r2⟩ := F1.out u hSu
                (go_simp) <;> (with_reducible rfl)
              change wpAnyH _ _ _ _ _ _ _ (Act.put _ (some 175) _) _
              simp only [Act.put, List.setIfInBounds_toArray, List.set_cons_zero, List.set_cons_succ]
              refine wpAnyH_take (i := 20) (v := ?_) rfl (by kernel_rfl) (by kernel_rfl) (by kernel_rfl) (fun _ _ _ h => h) (Or.inl ⟨by rfl, ?_⟩) hHeld ?_
              rotate_left
              · intro u hSu
                obtain ⟨r1, r2⟩ := F2.out u hSu
                (go_simp) <;> (with_reducible rfl)
              change wpAnyH _ _ _ _ _ _ _ (Act.put _ (some 176) _) _
              simp only [Act.put, List.setIfInBounds_toArray, List.set_cons_zero, List.set_cons_succ]
              refine wpAnyH_take (i := 21) (v := ?_) rfl (by kernel_rfl) (by kernel_rfl) (by kernel_rfl) (fun _ _ _ h => h) (Or.inl ⟨by rfl, ?_⟩) hHeld ?_
              rotate_left
              · intro u hSu
                (go_simp) <;> (with_reducible rfl)
              change wpAnyH _ _ _ _ _ _ _ (Act.put _ (some 177) _) _
              simp only [Act.put, List.setIfInBounds_toArray, List.set_cons_zero, List.set_cons_succ]
              refine wpAnyH_take (i := 22) (v := ?_) rfl (by kernel_rfl) (by kernel_rfl) (by kernel_rfl) (fun _ _ _ h => h) (Or.inl ⟨by rfl, ?_⟩) hHeld ?_
              rotate_left
              · intro u hSu
                (go_simp) <;> (with_reducible rfl)
              change wpAnyH _ _ _ _ _ _ _ (Act.put _ (some 178) _) _
              simp only [Act.put, List.setIfInBounds_toArray, List.set_cons_zero, List.set_cons_succ]
              refine wpAnyH_take (i := 23) (v := ?_) rfl (by kernel_rfl) (by kernel_rfl) (by kernel_rfl) (fun _ _ _ h => h) (Or.inl ⟨by rfl, ?_⟩) hHeld ?_
              rotate_left
              · intro u hSu
                (go_simp) <;> (with_reducible rfl)
              change wpAnyH _ _ _ _ _ _ _ (Act.put _ (some 179) _) _
              simp only [Act.put, List.setIfInBounds_toArray, List.set_cons_zero, List.set_cons_succ]
              refine wpAnyH_take (i := 24) (v := ?_) rfl (by kernel_rfl) (by kernel_rfl) (by kernel_rfl) (fun _ _ _ h => h) (Or.inl ⟨by rfl, ?_⟩) hHeld ?_
              rotate_left
              · intro u hSu
                (go_simp) <;> (with_reducible rfl)
              change wpAnyH _ _ _ _ _ _ _ (Act.put _ (some 180) _) _
              simp only [Act.put, List.setIfInBounds_toArray, List.set_cons_zero, List.set_cons_succ]
              refine wpAnyH_take (i := 25) (v := ?_) rfl (by kernel_rfl) (by kernel_rfl) (by kernel_rfl) (fun _ _ _ h => h) (Or.inl ⟨by rfl, ?_⟩) hHeld ?_
              rotate_left
              · intro u hSu
                (go_simp) <;> (with_reducible rfl)
              change wpAnyH _ _ _ _ _ _ _ (Act.put _ (some 181) _) _
              simp only [Act.put, List.setIfInBounds_toArray, List.set_cons_zero, List.set_cons_succ]
              refine wpAnyH_take (i := 26) (v := ?_) rfl (by kernel_rfl) (by kernel_rfl) (by kernel_rfl) (fun _ _ _ h => h) (Or.inl ⟨by rfl, ?_⟩) hHeld ?_
              rotate_left
              · intro u hSu
                (go_simp) <;> (with_reducible rfl)
              change wpAnyH _ _ _ _ _ _ _ (Act.put _ (some 182) _) _
              simp only [Act.put, List.setIfInBounds_toArray, List.set_cons_zero, List.set_cons_succ]
              refine wpAnyH_take (i := 27) (v := ?_) rfl (by kernel_rfl) (by kernel_rfl) (by kernel_rfl) (fun _ _ _ h => h) (Or.inl ⟨by rfl, ?_⟩) hHeld ?_
              rotate_left
              · intro u hSu
                (go_simp) <;> (with_reducible rfl)
              change wpAnyH _ _ _ _ _ _ _ (Act.put _ (some 183) _) _
              simp only [Act.put, List.setIfInBounds_toArray, List.set_cons_zero, List.set_cons_succ]
              refine wpAnyH_take (i := 28) (v := ?_) rfl (by kernel_rfl) (by kernel_rfl) (by kernel_rfl) (fun _ _ _ h => h) (Or.inl ⟨by rfl, ?_⟩) hHeld ?_
              rotate_left
              · intro u hSu
                (go_simp) <;> (with_reducible rfl)
              change wpAnyH _ _ _ _ _ _ _ (Act.put _ (some 184) _) _
              simp only [Act.put, List.setIfInBounds_toArray, List.set_cons_zero, List.set_cons_succ]
              refine wpAnyH_take (i := 29) (v := ?_) rfl (by kernel_rfl) (by kernel_rfl) (by kernel_rfl) (fun _ _ _ h => h) (Or.inl ⟨by rfl, ?_⟩) hHeld ?_
              rotate_left
              · intro u hSu
                (go_simp) <;> (with_reducible rfl)
              change wpAnyH _ _ _ _ _ _ _ (Act.put _ (some 185) _) _
              simp only [Act.put, List.setIfInBounds_toArray, List.set_cons_zero, List.set_cons_succ]
              refine wpAnyH_take (i := 30) (v := ?_) rfl (by kernel_rfl) (by kernel_rfl) (by kernel_rfl) (fun _ _ _ h => h) (Or.inl ⟨by rfl, ?_⟩) hHeld ?_
              rotate_left
              · intro u hSu
                (go_simp) <;> (with_reducible rfl)
              change wpAnyH _ _ _ _ _ _ _ (Act.put _ (some 186) _) _
              simp only [Act.put, List.setIfInBounds_toArray, List.set_cons_zero, List.set_cons_succ]
              refine wpAnyH_take (i := 31) (v := ?_) rfl (by kernel_rfl) (by kernel_rfl) (by kernel_rfl) (fun _ _ _ h => h) (Or.inl ⟨by rfl, ?_⟩) hHeld ?_
              rotate_left
              · intro u hSu
                (go_simp) <;> (with_reducible rfl)
              change wpAnyH _ _ _ _ _ _ _ (Act.put _ (some 187) _) _
              simp only [Act.put, List.setIfInBounds_toArray, List.set_cons_zero, List.set_cons_succ]
              refine wpAnyH_take (i := 32) (v := ?_) rfl (by kernel_rfl) (by kernel_rfl) (by kernel_rfl) (fun _ _ _ h => h) (Or.inl ⟨by rfl, ?_⟩) hHeld ?_
              rotate_left
              · intro u hSu
                (go_simp) <;> (with_reducible rfl)
              change wpAnyH _ _ _ _ _ _ _ (Act.put _ (some 188) _) _
              simp only [Act.put, List.setIfInBounds_toArray, List.set_cons_zero, List.set_cons_succ]
              refine wpAnyH_take (i := 33) (v := ?_) rfl (by kernel_rfl) (by kernel_rfl) (by kernel_rfl) (fun _ _ _ h => h) (Or.inl ⟨by rfl, ?_⟩) hHeld ?_
              rotate_left
              · intro u hSu
                (go_simp) <;> (with_reducible rfl)
              change wpAnyH _ _ _ _ _ _ _ (Act.put _ (some 189) _) _
              simp only [Act.put, List.setIfInBounds_toArray, List.set_cons_zero, List.set_cons_succ]
              refine wpAnyH_take (i := 34) (v := ev Y) rfl (by kernel_rfl) (by kernel_rfl) (by kernel_rfl) (fun _ _ _ h => h) (yieldsIf_load_mid (by rfl) _ _ rfl _ _ rfl (encE Y) _ (fun u hu => (FY.out u hu).lies.range) Try.underlying31 rfl (by rw [info_pent, encE_len])) hHeld ?_
              change wpAnyH _ _ _ _ _ _ _ (Act.put _ (some 190) _) _
              simp only [Act.put, List.setIfInBounds_toArray, List.set_cons_zero, List.set_cons_succ]
              refine wpAnyH_take (i := 36) (v := ev Be) rfl (by kernel_rfl) (by kernel_rfl) (by kernel_rfl) (fun _ _ _ h => h) (yieldsIf_load_mid (by rfl) _ _ rfl _ _ rfl (encE Be) _ (fun u hu => (FZ.out u hu).lies.range) Try.underlying57 rfl (by rw [info_ent, encE_len])) hHeld ?_
              change wpAnyH _ _ _ _ _ _ _ (Act.put _ (some 192) _) _
              simp only [Act.put, List.setIfInBounds_toArray, List.set_cons_zero, List.set_cons_succ]
              refine wpAnyH_ready (rs := [35]) (by kernel_rfl) (by simp) ?_
              refine AllReadyH.cons rfl (fun K hK => ?_) AllReadyH.nil
              go_simp
              go_at_call 20
              refine (CEY.out _).mono ?_
              rintro e x1 ⟨rfl, hbx1⟩
              have Bx1 : Hid (Below v15.heap.size v15 x1) := hHeld.trans (hbx1.mono hHeld.size)
              clear hbx1
              refine hK.out _ _ ?_ (fun hHeld2 => ?_)
              · exact Bx1.out
              clear hK K hHeld
              have hHeld := hHeld2
              clear hHeld2
              refine wpAnyH_ready (rs := [37]) (by kernel_rfl) (by simp) ?_
              refine AllReadyH.cons rfl (fun K hK => ?_) AllReadyH.nil
              go_simp
              go_at_call 23
              refine (CSY.out _ hHeld).mono ?_
              rintro e x2 ⟨rfl, hbx2⟩
              have Bx2 : Hid (Below v15.heap.size v15 x2) := hHeld.trans (hbx2.mono hHeld.size)
              clear hbx2
              refine hK.out _ _ ?_ (fun hHeld2 => ?_)
              · exact Bx2.out
              clear hK K hHeld
              have hHeld := hHeld2
              clear hHeld2
              refine wpAnyH_take (i := 38) (v := ?_) rfl (by kernel_rfl) (by kernel_rfl) (by kernel_rfl) (fun _ _ _ h => h) (Or.inl ⟨by rfl, ?_⟩) hHeld ?_
              rotate_left
              · intro u hSu
                (go_simp) <;> (with_reducible rfl)
              change wpAnyH _ _ _ _ _ _ _ (Act.put _ (some 194) _) _
              simp only [Act.put, List.setIfInBounds_toArray, List.set_cons_zero, List.set_cons_succ]
              refine wpAnyH_take (i := 39) (v := ?_) rfl (by kernel_rfl) (by kernel_rfl) (by kernel_rfl) (fun _ _ _ h => h) (Or.inl ⟨by rfl, ?_⟩) hHeld ?_
              rotate_left
              · intro u hSu
                (go_simp) <;> (with_reducible rfl)
              change wpAnyH _ _ _ _ _ _ _ (Act.put _ (some 195) _) _
              simp only [Act.put, List.setIfInBounds_toArray, List.set_cons_zero, List.set_cons_succ]
              refine wpAnyH_take (i := 40) (v := ?_) rfl (by kernel_rfl) (by kernel_rfl) (by kernel_rfl) (fun _ _ _ h => h) (Or.inl ⟨by rfl, ?_⟩) hHeld ?_
              rotate_left
              · intro u hSu
                (go_simp) <;> (with_reducible rfl)
              change wpAnyH _ _ _ _ _ _ _ (Act.put _ (some 196) _) _
              simp only [Act.put, List.setIfInBounds_toArray, List.set_cons_zero, List.set_cons_succ]
              refine wpAnyH_take (i := 41) (v := ?_) rfl (by kernel_rfl) (by kernel_rfl) (by kernel_rfl) (fun _ _ _ h => h) (Or.inl ⟨by rfl, ?_⟩) hHeld ?_
              rotate_left
              · intro u hSu
                (go_simp) <;> (with_reducible rfl)
              change wpAnyH _ _ _ _ _ _ _ (Act.put _ (some 197) _) _
              simp only [Act.put, List.setIfInBounds_toArray, List.set_cons_zero, List.set_cons_succ]
              refine wpAnyH_take (i := 42) (v := ?_) rfl (by kernel_rfl) (by kernel_rfl) (by kernel_rfl) (fun _ _ _ h => h) (Or.inl ⟨by rfl, ?_⟩) hHeld ?_
              rotate_left
              · intro u hSu
                (go_simp) <;> (with_reducible rfl)
              change wpAnyH _ _ _ _ _ _ _ (Act.put _ (some 198) _) _
              simp only [Act.put, List.setIfInBounds_toArray, List.set_cons_zero, List.set_cons_succ]
              refine wpAnyH_take (i := 43) (v := ?_) rfl (by kernel_rfl) (by kernel_rfl) (by kernel_rfl) (fun _ _ _ h => h) (Or.inl ⟨by rfl, ?_⟩) hHeld ?_
              rotate_left
              · intro u hSu
                (go_simp) <;> (with_reducible rfl)
              change wpAnyH _ _ _ _ _ _ _ (Act.put _ (some 199) _) _
              simp only [Act.put, List.setIfInBounds_toArray, List.set_cons_zero, List.set_cons_succ]
              refine wpAnyH_take (i := 44) (v := ?_) rfl (by kernel_rfl) (by kernel_rfl) (by kernel_rfl) (fun _ _ _ h => h) (Or.inl ⟨by rfl, ?_⟩) hHeld ?_
              rotate_left
              · intro u hSu
                (go_simp) <;> (with_reducible rfl)
              change wpAnyH _ _ _ _ _ _ _ (Act.put _ (some 200) _) _
              simp only [Act.put, List.setIfInBounds_toArray, List.set_cons_zero, List.set_cons_succ]
              refine wpAnyH_take (i := 45) (v := ?_) rfl (by kernel_rfl) (by kernel_rfl) (by kernel_rfl) (fun _ _ _ h => h) (Or.inl ⟨by rfl, ?_⟩) hHeld ?_
              rotate_left
              · intro u hSu
                (go_simp) <;> (with_reducible rfl)
              change wpAnyH _ _ _ _ _ _ _ (Act.put _ (some 201) _) _
              simp only [Act.put, List.setIfInBounds_toArray, List.set_cons_zero, List.set_cons_succ]
              refine wpAnyH_take (i := 46) (v := ?_) rfl (by kernel_rfl) (by kernel_rfl) (by kernel_rfl) (fun _ _ _ h => h) (Or.inl ⟨by rfl, ?_⟩) hHeld ?_
              rotate_left
              · intro u hSu
                have r1 := HQ.out u hSu
                (go_simp) <;> (with_reducible rfl)
              change wpAnyH _ _ _ _ _ _ _ (Act.put _ (some 202) _) _
              simp only [Act.put, List.setIfInBounds_toArray, List.set_cons_zero, List.set_cons_succ]
              refine wpAnyH_take (i := 47) (v := ?_) rfl (by kernel_rfl) (by kernel_rfl) (by kernel_rfl) (fun _ _ _ h => h) (Or.inl ⟨by rfl, ?_⟩) hHeld ?_
              rotate_left
              · intro u hSu
                (go_simp) <;> (with_reducible rfl)
              change wpAnyH _ _ _ _ _ _ _ (Act.put _ (some 203) _) _
              simp only [Act.put, List.setIfInBounds_toArray, List.set_cons_zero, List.set_cons_succ]
              refine wpAnyH_take (i := 48) (v := ?_) rfl (by kernel_rfl) (by kernel_rfl) (by kernel_rfl) (fun _ _ _ h => h) (Or.inl ⟨by rfl, ?_⟩) hHeld ?_
              rotate_left
              · intro u hSu
                (go_simp) <;> (with_reducible rfl)
              change wpAnyH _ _ _ _ _ _ _ (Act.put _ (some 204) _) _
              simp only [Act.put, List.setIfInBounds_toArray, List.set_cons_zero, List.set_cons_succ]
              refine wpAnyH_take (i := 49) (v := ?_) rfl (by kernel_rfl) (by kernel_rfl) (by kernel_rfl) (fun _ _ _ h => h) (Or.inl ⟨by rfl, ?_⟩) hHeld ?_
              rotate_left
              · intro u hSu
                (go_simp) <;> (with_reducible rfl)
              change wpAnyH _ _ _ _ _ _ _ (Act.put _ (some 205) _) _
              simp only [Act.put, List.setIfInBounds_toArray, List.set_cons_zero, List.set_cons_succ]
              refine wpAnyH_done (by kernel_rfl) ?_ _
              refine NoPanic.normal ?_
              clear Bx1 F1 F2 FY FZ CEY CSY
              go_wp2
              go_loopw [32] (fun nv wr => ∃ z : Nat, nv = .int .i64 z ∧ z ≤ NL ∧ Hid (Below v15.heap.size v15 wr)) (fun nv _ => NL - (intOf nv).toNat)
              case atStart => exact ⟨0, rfl, Nat.zero_le _, Bx2⟩
              case round =>
                obtain ⟨z, rfl, hz, HB2⟩ := hrel
                have hz0 : (0 : Int) ≤ (z : Int) := by omega
                by_cases hzl : z < NL
                · have h2 : (z : Int) < (NL : Int) := by omega
                  obtain ⟨y, hy⟩ : ∃ y, L[z]? = some y := ⟨_, List.getElem?_eq_getElem (by rw [← HLN.out]; exact hzl)⟩
                  obtain ⟨x, hx⟩ : ∃ x, M2[z]? = some x := ⟨_, List.getElem?_eq_getElem (by rw [HNL2.out]; exact hzl)⟩
                  obtain ⟨g, rfl, HG⟩ := HEL.out z y hy
                  obtain ⟨g2, rfl, HG2⟩ := HQE.out z x hx
                  have HXY : Hid (y.e = x.e) := by
                    have h8 := congrArg (fun l => l[z]?) HIS.out
                    simp only [List.getElem?_map, hy, hx, Option.map_some] at h8
                    exact Option.some.inj h8
                  have FA : Hid (∀ u, Below wr.heap.size wr u → EntAt u g (z * 6) y) := fun u hb => (HG.out u (HB2.out.trans (hb.mono HB2.out.size))).1
                  have FB : Hid (∀ u, Below wr.heap.size wr u → EntAt u g2 (z * 6) x) := fun u hb => (HG2.out u (HB2.out.trans (hb.mono HB2.out.size))).1
                  have FQ : Hid (∀ u, Below wr.heap.size wr u → u.cell? ⟨q, 0, none⟩ = some (.slice (some ⟨g2, 0, none⟩) NL qc)) := fun u hb => HQ.out u (HB2.out.trans (hb.mono HB2.out.size))
                  have CEY : Hid (∀ u, Calls Try.prog 20 #[ev y] u fun e w' => e = .returned (ev y) ∧ Below u.heap.size u w') := fun u => lent_ev y u
                  have CSY : Hid (∀ u, Below wr.heap.size wr u → Calls Try.prog 23 #[ev y, ev x] u fun e w' => e = .returned (.bool true) ∧ Below u.heap.size u w') := fun u hb => same_ev u HXY.out (HG.out u (HB2.out.trans (hb.mono HB2.out.size))).2 (HG2.out u (HB2.out.trans (hb.mono HB2.out.size))).2
                  clear hy hx
                  go_wp2
                  refine wp_region_noPanic ?_
                  refine wp_region_held_drew (S := fun u => Below wr.heap.size wr u) (by kernel_rfl) ?_ (fun hHeld => ?_)
                  · exact (Below.refl _ _).drew
                  refine wpAnyH_take (i := 0) (v := ?_) rfl (by kernel_rfl) (by kernel_rfl) (by kernel_rfl) (fun _ _ _ h => h) (Or.inl ⟨by rfl, ?_⟩) hHeld ?_
                  rotate_left
                  · intro u hSu
                    (go_simp) <;> (with_reducible rfl)
                  change wpAnyH _ _ _ _ _ _ _ (Act.put _ (some 212) _) _
                  simp only [Act.put, List.setIfInBounds_toArray, List.set_cons_zero, List.set_cons_succ]
                  refine wpAnyH_take (i := 1) (v := ?_) rfl (by kernel_rfl) (by kernel_rfl) (by kernel_rfl) (fun _ _ _ h => h) (Or.inl ⟨by rfl, ?_⟩) hHeld ?_
                  rotate_left
                  · intro u hSu
                    (go_simp) <;> (with_reducible rfl)
                  change wpAnyH _ _ _ _ _ _ _ (Act.put _ (some 213) _) _
                  simp only [Act.put, List.setIfInBounds_toArray, List.set_cons_zero, List.set_cons_succ]
                  refine wpAnyH_take (i := 2) (v := ?_) rfl (by kernel_rfl) (by kernel_rfl) (by kernel_rfl) (fun _ _ _ h => h) (Or.inl ⟨by rfl, ?_⟩) hHeld ?_
                  rotate_left
                  · intro u hSu
                    (go_simp) <;> (with_reducible rfl)
                  change wpAnyH _ _ _ _ _ _ _ (Act.put _ (some 214) _) _
                  simp only [Act.put, List.setIfInBounds_toArray, List.set_cons_zero, List.set_cons_succ]
                  refine wpAnyH_take (i := 3) (v := ev y) rfl (by kernel_rfl) (by kernel_rfl) (by kernel_rfl) (fun _ _ _ h => h) (yieldsIf_load_mid (by rfl) _ _ rfl _ _ rfl (encE y) _ (fun u hu => (FA.out u hu).lies.range) Try.underlying31 rfl (by rw [info_pent, encE_len])) hHeld ?_
                  change wpAnyH _ _ _ _ _ _ _ (Act.put _ (some 215) _) _
                  simp only [Act.put, List.setIfInBounds_toArray, List.set_cons_zero, List.set_cons_succ]
                  refine wpAnyH_take (i := 5) (v := ?_) rfl (by kernel_rfl) (by kernel_rfl) (by kernel_rfl) (fun _ _ _ h => h) (Or.inl ⟨by rfl, ?_⟩) hHeld ?_
                  rotate_left
                  · intro u hSu
                    (go_simp) <;> (with_reducible rfl)
                  change wpAnyH _ _ _ _ _ _ _ (Act.put _ (some 217) _) _
                  simp only [Act.put, List.setIfInBounds_toArray, List.set_cons_zero, List.set_cons_succ]
                  refine wpAnyH_take (i := 6) (v := ?_) rfl (by kernel_rfl) (by kernel_rfl) (by kernel_rfl) (fun _ _ _ h => h) (Or.inl ⟨by rfl, ?_⟩) hHeld ?_
                  rotate_left
                  · intro u hSu
                    (go_simp) <;> (with_reducible rfl)
                  change wpAnyH _ _ _ _ _ _ _ (Act.put _ (some 218) _) _
                  simp only [Act.put, List.setIfInBounds_toArray, List.set_cons_zero, List.set_cons_succ]
                  refine wpAnyH_take (i := 7) (v := ?_) rfl (by kernel_rfl) (by kernel_rfl) (by kernel_rfl) (fun _ _ _ h => h) (Or.inl ⟨by rfl, ?_⟩) hHeld ?_
                  rotate_left
                  · intro u hSu
                    (go_simp) <;> (with_reducible rfl)
                  change wpAnyH _ _ _ _ _ _ _ (Act.put _ (some 219) _) _
                  simp only [Act.put, List.setIfInBounds_toArray, List.set_cons_zero, List.set_cons_succ]
                  refine wpAnyH_take (i := 8) (v := ?_) rfl (by kernel_rfl) (by kernel_rfl) (by kernel_rfl) (fun _ _ _ h => h) (Or.inl ⟨by rfl, ?_⟩) hHeld ?_
                  rotate_left
                  · intro u hSu
                    have r1 := FQ.out u hSu
                    (go_simp) <;> (with_reducible rfl)
                  change wpAnyH _ _ _ _ _ _ _ (Act.put _ (some 220) _) _
                  simp only [Act.put, List.setIfInBounds_toArray, List.set_cons_zero, List.set_cons_succ]
                  refine wpAnyH_take (i := 9) (v := ?_) rfl (by kernel_rfl) (by kernel_rfl) (by kernel_rfl) (fun _ _ _ h => h) (Or.inl ⟨by rfl, ?_⟩) hHeld ?_
                  rotate_left
                  · intro u hSu
                    (go_simp) <;> (with_reducible rfl)
                  change wpAnyH _ _ _ _ _ _ _ (Act.put _ (some 221) _) _
                  simp only [Act.put, List.setIfInBounds_toArray, List.set_cons_zero, List.set_cons_succ]
                  refine wpAnyH_take (i := 10) (v := ?_) rfl (by kernel_rfl) (by kernel_rfl) (by kernel_rfl) (fun _ _ _ h => h) (Or.inl ⟨by rfl, ?_⟩) hHeld ?_
                  rotate_left
                  · intro u hSu
                    (go_simp) <;> (with_reducible rfl)
                  change wpAnyH _ _ _ _ _ _ _ (Act.put _ (some 222) _) _
                  simp only [Act.put, List.setIfInBounds_toArray, List.set_cons_zero, List.set_cons_succ]
                  refine wpAnyH_take (i := 11) (v := ev x) rfl (by kernel_rfl) (by kernel_rfl) (by kernel_rfl) (fun _ _ _ h => h) (yieldsIf_load_mid (by rfl) _ _ rfl _ _ rfl (encE x) _ (fun u hu => (FB.out u hu).lies.range) Try.underlying57 rfl (by rw [info_ent, encE_len])) hHeld ?_
                  change wpAnyH _ _ _ _ _ _ _ (Act.put _ (some 223) _) _
                  simp only [Act.put, List.setIfInBounds_toArray, List.set_cons_zero, List.set_cons_succ]
                  refine wpAnyH_ready (rs := [4]) (by kernel_rfl) (by simp) ?_
                  refine AllReadyH.cons rfl (fun K hK => ?_) AllReadyH.nil
                  go_simp
                  go_at_call 20
                  refine (CEY.out _).mono ?_
                  rintro e x3 ⟨rfl, hbx3⟩
                  have Bx3 : Hid (Below wr.heap.size wr x3) := hHeld.trans (hbx3.mono hHeld.size)
                  clear hbx3
                  refine hK.out _ _ ?_ (fun hHeld2 => ?_)
                  · exact Bx3.out
                  clear hK K hHeld
                  have hHeld := hHeld2
                  clear hHeld2
                  refine wpAnyH_ready (rs := [12]) (by kernel_rfl) (by simp) ?_
                  refine AllReadyH.cons rfl (fun K hK => ?_) AllReadyH.nil
                  go_simp
                  go_at_call 23
                  refine (CSY.out _ hHeld).mono ?_
                  rintro e x4 ⟨rfl, hbx4⟩
                  have Bx4 : Hid (Below wr.heap.size wr x4) := hHeld.trans (hbx4.mono hHeld.size)
                  clear hbx4
                  refine hK.out _ _ ?_ (fun hHeld2 => ?_)
                  · exact Bx4.out
                  clear hK K hHeld
                  have hHeld := hHeld2
                  clear hHeld2
                  refine wpAnyH_take (i := 13) (v := ?_) rfl (by kernel_rfl) (by kernel_rfl) (by kernel_rfl) (fun _ _ _ h => h) (Or.inl ⟨by rfl, ?_⟩) hHeld ?_
                  rotate_left
                  · intro u hSu
                    (go_simp) <;> (with_reducible rfl)
                  change wpAnyH _ _ _ _ _ _ _ (Act.put _ (some 225) _) _
                  simp only [Act.put, List.setIfInBounds_toArray, List.set_cons_zero, List.set_cons_succ]
                  refine wpAnyH_done (by kernel_rfl) ?_ _
                  refine NoPanic.normal ?_
                  go_wp2
                  go_roundw
                  case rel => exact ⟨z + 1, by go_num, by omega, HB2.out.trans (Bx4.out.mono HB2.out.size)⟩
                  case measure => simp [intOf]; omega
                · obtain rfl : z = NL := by omega
                  go_wp2
                  go_roundw
                  case rel => exact ⟨i + 1, by go_num, by omega, M, M2, HMD.out _ HB2.out, HEQ.out⟩
                  case measure => simp [intOf]; omega
      · obtain rfl : i = len0 := by omega
        go_wp2
        go_ret
        exact ⟨rfl, HBW.out⟩

set_option maxRecDepth 100000 in
theorem lifted (os : Os) (started : os.Started) (H : Type) (enc : TypeId × Value → H) :
    ReturnsInHanded {} Try.checked os 4 .any (Rows.prepPlaysSpec.pre6 enc Try.prog Try.f4 Rows.prepPlaysRow.domain false) (Rows.prepPlaysSpec.post enc Try.prog Try.f4 false true false false) := by
  refine returnsInHanded_of_change (C := Try.checked) own started (by kernel_rfl) Try.func4
    (ChangeSpec.witness6 (enc := enc) (C := Try.checked) false ⟨#[], #[.slice none 0 0, .agg #[.int .u8 0, .int .u8 0, .int .u8 0, .int .u8 0, .int .u8 0, .int .u8 0, .int .u8 0, .int .u8 0, .int .u8 0, .int .u8 0, .int .u8 0, .int .u8 0, .int .u8 0, .int .u8 0, .int .u8 0, .int .u8 0], .agg #[.int .i64 0, .int .u8 0]], []⟩ 8 (by kernel_rfl) (by kernel_rfl) (by kernel_rfl) (by kernel_rfl)) ?_
  intro W base args ds gs before hval0 hW hcnd _
  have hval : ∀ (j : Nat) t v, Try.f4.params[j]? = some t → args[j]? = some v → Value.okWide Try.prog W .any base t v := hval0
  have hW' := hW
  obtain ⟨p, q, hA0, hV, rfl, hfz, hnd⟩ := hW
  have hA : DataW.TrodAll enc Try.prog W 0 (fun _ => true) true Try.f4.params.toList args.toList ds p := hA0
  rw [Try.params4] at hA hval
  obtain ⟨v0, vs0, d0, ds0, p0, q0, hargs, rfl, rfl, h0, r0⟩ := trodAll_cons hA
  obtain ⟨v1, vs1, d1, ds1, p1, q1, rfl, rfl, rfl, h1, r1⟩ := trodAll_cons r0
  obtain ⟨v2, vs2, d2, ds2, p2, q2, rfl, rfl, rfl, h2, r2⟩ := trodAll_cons r1
  obtain ⟨rfl, rfl, rfl⟩ := trodAll_nil r2
  obtain rfl : args = #[v0, v1, v2] := by cases args; simp_all
  obtain ⟨rfl, rfl⟩ := trodVars_none hV
  obtain ⟨a0, len0, cap0, rfl⟩ := okWide_slice Try.underlying47 (hval 0 47 v0 rfl rfl)
  have k0 := h0
  have lt0 : ∀ x ∈ p0, x.block < W.heap.size := by obtain ⟨m, hm⟩ := k0; exact DataW.trod_lt m _ _ _ hm
  obtain ⟨z0, l0, w0⟩ : ∃ xs : List PAct, xs.length = len0 ∧ PActsOf W a0 cap0 xs := by
    obtain ⟨fuel, hf⟩ := h0
    exact pacts_open Try.underlying47 Try.underlying53 Try.underlying3 Try.underlying31 Try.underlying2 Try.underlying28 Try.underlying28 Try.underlying2 Try.underlying5 Try.underlying29 Try.underlying46 Try.underlying39 Try.underlying5 Try.underlying9 Try.underlying4 rfl rfl rfl rfl rfl rfl rfl rfl rfl rfl rfl (by kernel_rfl) (by kernel_rfl) (by kernel_rfl) (by kernel_rfl) (by kernel_rfl) (by kernel_rfl) (by kernel_rfl) (by kernel_rfl) (by kernel_rfl) (by kernel_rfl) (by kernel_rfl) (by kernel_rfl) (by kernel_rfl) (by kernel_rfl) hf
  have k1 := h1
  have lt1 : ∀ x ∈ p1, x.block < W.heap.size := by obtain ⟨m, hm⟩ := k1; exact DataW.trod_lt m _ _ _ hm
  obtain ⟨z1, rfl, w1⟩ := arr_open Try.underlying39 Try.underlying5 (by kernel_rfl) (by kernel_rfl) (hval 1 39 v1 rfl rfl) h1
  have k2 := h2
  have lt2 : ∀ x ∈ p2, x.block < W.heap.size := by obtain ⟨m, hm⟩ := k2; exact DataW.trod_lt m _ _ _ hm
  obtain ⟨a2, b2, rfl, w2, x2⟩ := struct2_open Try.underlying28 Try.underlying2 Try.underlying5 rfl rfl (by kernel_rfl) (by kernel_rfl) (by kernel_rfl) (hval 2 28 v2 rfl rfl) h2
  clear hA0 hval0
  refine (walk a0 len0 cap0 z0 z1 a2 b2 W l0 w0 w1 w2 x2).mono fun e W' ⟨he, bel⟩ => ?_
  subst he
  exact ⟨_, rfl, _, _, _, [], _, [], hW', trodAll_mk1 (shut_bool Try.underlying4 _), (trodAll_cons_mk (Below.trod laidOut (by kernel_rfl) (of_decide_eq_true (by kernel_rfl)) k0 bel lt0) (trodAll_cons_mk (Below.trod laidOut (by kernel_rfl) (of_decide_eq_true (by kernel_rfl)) k1 bel lt1) (trodAll_cons_mk (Below.trod laidOut (by kernel_rfl) (of_decide_eq_true (by kernel_rfl)) k2 bel lt2) trodAll_mk0))), rfl, bel.frame _, fun h => by cases h⟩

theorem over : Rows.prepPlaysRow.holds Try.pinned (OpenSpec.ofChange Rows.prepPlaysSpec) :=
  OpenClaim.holds_of_wide 4 Try.f4 rfl rfl rfl rfl rfl rfl rfl ⟨rfl, rfl, rfl, rfl, rfl⟩ rfl rfl rfl rfl rfl (by kernel_rfl) Try.func4 (by kernel_rfl)
    (of_decide_eq_true (by kernel_rfl)) (by unfold Func.isWrapper; first | (rw [if_pos (by decide +kernel)]; kernel_rfl) | (rw [if_neg (by decide +kernel)]; exact ⟨rfl, rfl⟩))
    (fun os started H enc _ => lifted os started H enc)
theorem proved : Rows.PrepPlaysSaid := over
#print axioms proved
end Go.Proofs.Ythgkbabikeknlaa.prepPlays
namespace Go.Proofs.Ythgkbabikeknlaa
/-- PrepPlays, as given. -/
theorem prepPlays_holds : Rows.PrepPlaysSaid := prepPlays.proved
end Go.Proofs.Ythgkbabikeknlaa
