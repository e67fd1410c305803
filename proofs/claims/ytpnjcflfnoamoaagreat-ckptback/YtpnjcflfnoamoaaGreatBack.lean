/-
  CkptBack: a store that is read back is it, and goes on as it would have (of stores of more than 30 calls, of more than 20 calls behind, of more than 20 writes a call, of values of more than 250 bytes the statement asks nothing).
-/
import Derived.Test.YtpnjcflfnoamoaaGreatRows
import Derived.Test.YtpnjcflfnoamoaaGreatAu14
import Derived.Test.YtpnjcflfnoamoaaGreatOp
import Derived.WalkKit
import Derived.ProofKit
import Derived.OpenShut
import Derived.ShutString
import Derived.ChangeOld
import Derived.Below
import Derived.Carry
namespace Go.Proofs.YtpnjcflfnoamoaaGreat.ckptBack
open Go.ChangeShapes Go.WideShapes Go.ChangeAt Go.RowKit
open Go.ChangeMaps (open_string shut_string)
set_option linter.unusedVariables false

theorem own : ownKnob Tryz.prog.godebug = none := by kernel_rfl
theorem laidOut : laidOutB Tryz.prog = true := by kernel_rfl
/-- A slice of integers that came in: nil, or a row of 'cap' cells, of which the first 'len' are its elements. -/
def IsRow (k : IntKind) (w : World) (a : Option Addr) (len cap : Nat) (zs : List Int) : Prop :=
  (a = none ∧ len = 0 ∧ cap = 0 ∧ zs = []) ∨
  ∃ x, a = some x ∧ len ≤ cap ∧ cap ≤ maxLen ∧ zs.length = cap ∧ (∀ i, i < zs.length → w.cell? (x.add i) = some (.int k (zs.getD i 0))) ∧ ∀ n ∈ zs, (Lit.int k n).wf = true

open Classical in
set_option maxRecDepth 20000 in
set_option maxHeartbeats 16000000 in
theorem walk (a0 : Option Addr) (len0 cap0 : Nat) (z0 : List SAct) (a1 : Option Addr) (len1 cap1 : Nat) (z1 : List SAct) (w : World) (l0 : z0.length = len0) (w0 : SActsOf w a0 cap0 z0) (l1 : z1.length = len1) (w1 : SActsOf w a1 cap1 z1) :
    Calls Tryz.prog 4 #[.slice a0 len0 cap0, .slice a1 len1 cap1] w fun e w' => e = .returned (.bool true) ∧ Below w.heap.size w w' := by
  have AW : Hid (∀ u, Calls Tryz.prog 6 #[] u fun e w' => e = .returned (.bool true) ∧ Below u.heap.size u w') := fun u => cawake_any u
  obtain ⟨L, hL⟩ : ∃ L, L = actsV [] z0 := ⟨_, rfl⟩
  have CGR : Hid (∀ u, Below w.heap.size w u → Calls Tryz.prog 7 #[.slice a0 len0 cap0] u fun e w' => ∃ v, e = .returned v ∧ Below w.heap.size w w' ∧ (v = .pointer none ∨ (∃ p, v = .pointer (some ⟨p, 0, none⟩) ∧ StX w w' p L ∧ GdK L ∧ L.length ≤ 600))) := fun u hu => by
    rw [hL]
    refine (lgrown_any z0 a0 len0 cap0 l0 w u hu w0).mono ?_
    rintro e w' (⟨rfl, hb⟩ | ⟨p, rfl, h1, h2, h3⟩)
    · exact ⟨_, rfl, hu.trans (hb.mono hu.size), .inl rfl⟩
    · exact ⟨_, rfl, (h1.to hu).below, .inr ⟨p, rfl, h1.to hu, h2, h3⟩⟩
  have HL : Hid (z1.length = len1) := l1
  have HA : Hid (SActsOf w a1 cap1 z1) := w1
  have hcap : len1 ≤ cap1 := by rw [← l1]; exact w1.room
  clear hL w0 w1 l0 l1
  by_cases h20 : 20 < len1
  · have b20 : (20 : Int) < (len1 : Int) := by omega
    go_enter Tryz.func4, Tryz.ntmps4
    go_upto_if 19 with (first
      | (have hgo := B1.out; clear hgo; go_at_call 7; refine (CGR.out _ B1.out).mono ?_; rintro e v2 ⟨v, rfl, hb, h1⟩; have S2 : Hid (Below w.heap.size w v2 ∧ (v = .pointer none ∨ (∃ p, v = .pointer (some ⟨p, 0, none⟩) ∧ StX w v2 p L ∧ GdK L ∧ L.length ≤ 600))) := ⟨hb, h1⟩; clear hb h1 CGR B1)
      | (go_at_call 6; refine (AW.out _).mono ?_; rintro e v1 ⟨rfl, hb⟩; have B1 : Hid (Below w.heap.size w v1) := hb; clear hb AW))
    obtain ⟨hb2, rfl | ⟨p, rfl, h2⟩⟩ := S2.out
    · clear S2
      have HB : Hid (Below w.heap.size w v2) := hb2
      clear hb2
      go_simp
      go_wp2
      go_ret
      exact ⟨rfl, HB.out⟩
    · clear S2
      have HB : Hid (Below w.heap.size w v2) := hb2
      clear hb2 h2
      go_simp
      go_wp2
      go_ret
      exact ⟨rfl, HB.out⟩
  · have b20 : ¬ (20 : Int) < (len1 : Int) := by omega
    go_enter Tryz.func4, Tryz.ntmps4
    go_upto_if 19 with (first
      | (have hgo := B1.out; clear hgo; go_at_call 7; refine (CGR.out _ B1.out).mono ?_; rintro e v2 ⟨v, rfl, hb, h1⟩; have S2 : Hid (Below w.heap.size w v2 ∧ (v = .pointer none ∨ (∃ p, v = .pointer (some ⟨p, 0, none⟩) ∧ StX w v2 p L ∧ GdK L ∧ L.length ≤ 600))) := ⟨hb, h1⟩; clear hb h1 CGR B1)
      | (go_at_call 6; refine (AW.out _).mono ?_; rintro e v1 ⟨rfl, hb⟩; have B1 : Hid (Below w.heap.size w v1) := hb; clear hb AW))
    obtain ⟨hb2, rfl | ⟨p, rfl, h2⟩⟩ := S2.out
    · clear S2
      have HB : Hid (Below w.heap.size w v2) := hb2
      clear hb2
      go_simp
      go_wp2
      go_ret
      exact ⟨rfl, HB.out⟩
    · clear S2 hb2
      have S2 : Hid (StX w v2 p L ∧ GdK L ∧ L.length ≤ 600) := h2
      clear h2
      obtain ⟨BZ, hBZ⟩ : ∃ B, B = storeB L := ⟨_, rfl⟩
      obtain ⟨LB, hLB⟩ : ∃ n, n = BZ.length := ⟨_, rfl⟩
      have hlm : LB ≤ 140000 := by
        have := storeB_len S2.out.1.sto S2.out.2.1
        have := S2.out.2.2
        rw [hLB, hBZ]; omega
      have CPL : Hid (∀ u, StX w u p L → Calls Tryz.prog 8 #[.pointer (some ⟨p, 0, none⟩)] u fun e w' => ∃ a c, e = .returned (.slice a LB c) ∧ Bt u w' BZ a LB c) := fun u h1 => by
        refine (ckput_any h1 S2.out.2.1 (by have := S2.out.2.2; omega)).mono ?_
        rintro e w' ⟨a, m, c, rfl, h4⟩
        rw [← hBZ] at h4
        obtain rfl : m = LB := by rw [hLB]; exact h4.len.symm
        exact ⟨a, c, rfl, h4⟩
      have HGB : Hid (getS BZ = some L) := by show _ = _; rw [hBZ]; exact getS_back S2.out.1.sto S2.out.2.1
      have HLB : Hid (BZ.length = LB) := hLB.symm
      have CGT : Hid (∀ u0 u a c, Bt u0 u BZ a LB c → Calls Tryz.prog 11 #[.slice a LB c] u fun e w' => ∃ q, e = .returned (.tuple #[.pointer (some ⟨q, 0, none⟩), .int .i64 0]) ∧ StX u w' q L) := fun u0 u a c h => by
        refine (ckget_any a c LB BZ u h.row HLB.out h.room (by omega)).mono ?_
        rintro e w' ⟨⟨q, M, e1, rfl, h2⟩ | ⟨e1, _⟩, hb⟩
        · rw [HGB.out] at e1
          cases e1
          exact ⟨q, rfl, h2⟩
        · rw [HGB.out] at e1; cases e1
      have CSM : Hid (∀ u q K, Twin w u p q K K → Calls Tryz.prog 14 #[.pointer (some ⟨p, 0, none⟩), .pointer (some ⟨q, 0, none⟩)] u fun e w' => e = .returned (.bool true) ∧ Below u.heap.size u w') := fun u q K h => by
        have := cksame_any h.fst h.snd
        rw [decide_eq_true (rfl : K = K)] at this
        exact this
      have HGD : Hid (GdK L ∧ L.length ≤ 600) := S2.out.2
      clear hBZ hLB
      go_simp
      go_wp2_with (first
        | (have hgo := S4.out; clear hgo; go_at_call 14; refine (CSM.out _ _ _ S4.out).mono ?_; rintro e v5 ⟨rfl, hb⟩; have S5 : Hid (Twin w v5 p q L L) := S4.out.past hb; clear hb S4)
        | (have hgo := S3.out; clear hgo; go_at_call 11; refine (CGT.out _ _ _ _ S3.out.2).mono ?_; rintro e v4 ⟨q, rfl, h4⟩; have S4 : Hid (Twin w v4 p q L L) := twin_of S3.out.1 h4; clear h4 S3)
        | (have hgo := S2.out; clear hgo; go_at_call 8; refine (CPL.out _ S2.out.1).mono ?_; rintro e v3 ⟨ax, cx, rfl, hbt⟩; have S3 : Hid (StX w v3 p L ∧ Bt v2 v3 BZ ax LB cx) := ⟨S2.out.1.past hbt.below, hbt⟩; clear hbt S2))
      clear CPL CGT HGB HLB
      go_loopw [8] (fun iv wr => ∃ i : Nat, iv = .int .i64 i ∧ i ≤ len1 ∧ Hid (∃ K, Twin w wr p q K K ∧ GdK K ∧ K.length ≤ 600 + 20 * i)) (fun iv _ => len1 - (intOf iv).toNat)
      case atStart => exact ⟨0, rfl, Nat.zero_le _, ⟨L, S5.out, HGD.out.1, by have := HGD.out.2; omega⟩⟩
      case round =>
        clear S5 HGD
        obtain ⟨i, rfl, hi, HC⟩ := hrel
        obtain ⟨K, hK1, hK2, hK3⟩ := HC.out
        have HT : Hid (Twin w wr p q K K) := hK1
        have HK : Hid (GdK K ∧ K.length ≤ 600 + 20 * i) := ⟨hK2, hK3⟩
        clear HC hK1 hK2 hK3
        have h0 : (0 : Int) ≤ (i : Int) := by omega
        have HBW : Hid (Below w.heap.size w wr) := HT.out.below
        by_cases hlt : i < len1
        · have h1 : (i : Int) < (len1 : Int) := by omega
          obtain ⟨x, hx⟩ : ∃ x, z1[i]? = some x := ⟨_, List.getElem?_eq_getElem (by rw [HL.out]; exact hlt)⟩
          obtain ⟨b, off, rfl, hax, hok⟩ := HA.out.act hx
          obtain ⟨q0, q1, q2, q3⟩ := hax.past HBW.out
          have HAX : Hid (SActAt w b (off + i * 4) x) := hax
          obtain ⟨N, hN⟩ : ∃ N, N = x.l.length := ⟨_, rfl⟩
          obtain ⟨o, ho⟩ : ∃ t, t = x.op := ⟨_, rfl⟩
          obtain ⟨t, ht⟩ : ∃ t, t = x.t := ⟨_, rfl⟩
          obtain ⟨n, hn⟩ : ∃ t, t = x.n := ⟨_, rfl⟩
          obtain ⟨xa, hxa⟩ : ∃ t, t = x.a := ⟨_, rfl⟩
          obtain ⟨xc, hxc⟩ : ∃ t, t = x.cap := ⟨_, rfl⟩
          rw [← ho] at q0
          rw [← ht] at q1
          rw [← hn] at q2
          rw [← hN, ← hxa, ← hxc] at q3
          have CLG : Hid (Calls Tryz.prog 15 #[.slice xa N xc] wr fun e w' => e = .returned (.bool (longW x.l)) ∧ w' = wr) := by rw [hxa, hN, hxc]; exact llong_any x.a x.l.length x.cap x.l wr rfl hok.wr.room hok.wr.few (hok.wr.at_.past HBW.out)
          obtain ⟨lg, hlg⟩ : ∃ g, g = longW x.l := ⟨_, rfl⟩
          rw [← hlg] at CLG
          cases lg with
          | true =>
            clear hok hax HAX ht hn hN hxa hxc hlg hx ho
            go_wp2_with (go_at_call 15; refine CLG.out.mono ?_; rintro e v3 ⟨rfl, rfl⟩)
            go_ret
            exact ⟨rfl, HBW.out⟩
          | false =>
            have hN20 : N ≤ 20 := by
              have h9 : longW x.l = false := hlg.symm
              unfold longW at h9
              simp only [Bool.or_eq_false_iff, decide_eq_false_iff_not] at h9
              omega
            have HQ : Hid (∀ u, Below w.heap.size w u → u.cell? ⟨b, off + i * 4 + 1, none⟩ = some (.int .i64 t) ∧ u.cell? ⟨b, off + i * 4 + 2, none⟩ = some (.int .u8 n) ∧ u.cell? ⟨b, off + i * 4 + 3, none⟩ = some (.slice xa N xc)) := fun u hb => by
              obtain ⟨_, r1, r2, r3⟩ := HAX.out.past hb
              rw [ht, hn, hN, hxa, hxc]
              exact ⟨r1, r2, r3⟩
            obtain ⟨K2, hK2⟩ : ∃ K2, K2 = actV K x := ⟨_, rfl⟩
            have HK2 : Hid (GdK K2 ∧ K2.length ≤ 600 + 20 * (i + 1)) := by
              rw [hK2]
              refine ⟨gdk_act HT.out.fst.sto HK.out.1 x, ?_⟩
              have := act_most K x hlg.symm
              have := HK.out.2
              omega
            have HO : Hid (x.op = o) := ho.symm
            by_cases h9 : o = 0
            · obtain ⟨r, hr⟩ : ∃ r, r = (applyV K x.t x.n x.l).1 := ⟨_, rfl⟩
              have hact : actV K x = (applyV K x.t x.n x.l).2 := by unfold actV; rw [if_pos (by rw [HO.out]; exact h9)]
              have PU : Hid (∀ u p' q' M, Twin w u p' q' K M → Calls Tryz.prog 16 #[.pointer (some ⟨p', 0, none⟩), .agg #[.int .i64 t, .int .u8 n], .slice xa N xc] u fun e w' => e = .returned (.int .i64 r) ∧ Twin w w' p' q' K2 M) := fun u p' q' M h => by
                rw [hK2, hact, hr, ht, hn, hxa, hN, hxc]
                exact tapply h x.t x.n hok.n x.a x.l.length x.cap x.l rfl hok.wr.room (by rw [← hN]; omega) hok.wr.at_
              have hrr : ((r : Int) != r) = false := by simp
              have hrr2 : ((r : Int) == r) = true := by simp
              clear hok hax HAX ht hn hN hxa hxc hlg hx HO ho hK2 hact hr HK
              subst h9
              go_wp2_with (go_at_call 15; refine CLG.out.mono ?_; rintro e v3 ⟨rfl, rfl⟩; clear CLG)
              refine wp_region_noPanic ?_
              refine wp_region_held_drew (S := fun u => Below w.heap.size w u) (by kernel_rfl) ?_ (fun hHeld => ?_)
              · exact HBW.out.drew
              have R4 : Hid (Twin w _ p q K K) := HT.out.past (Below.refl _ _).drew
              clear HT HBW
              refine wpAnyH_take (i := 0) (v := ?_) rfl (by kernel_rfl) (by kernel_rfl) (by kernel_rfl) (fun _ _ _ h => h) (Or.inl ⟨by rfl, ?_⟩) hHeld ?_
              rotate_left
              · intro u hSu
                (go_simp) <;> (with_reducible rfl)
              change wpAnyH _ _ _ _ _ _ _ (Act.put _ (some 52) _) _
              simp only [Act.put, List.setIfInBounds_toArray, List.set_cons_zero, List.set_cons_succ]
              refine wpAnyH_take (i := 1) (v := ?_) rfl (by kernel_rfl) (by kernel_rfl) (by kernel_rfl) (fun _ _ _ h => h) (Or.inl ⟨by rfl, ?_⟩) hHeld ?_
              rotate_left
              · intro u hSu
                (go_simp) <;> (with_reducible rfl)
              change wpAnyH _ _ _ _ _ _ _ (Act.put _ (some 53) _) _
              simp only [Act.put, List.setIfInBounds_toArray, List.set_cons_zero, List.set_cons_succ]
              refine wpAnyH_take (i := 2) (v := ?_) rfl (by kernel_rfl) (by kernel_rfl) (by kernel_rfl) (fun _ _ _ h => h) (Or.inl ⟨by rfl, ?_⟩) hHeld ?_
              rotate_left
              · intro u hSu
                (go_simp) <;> (with_reducible rfl)
              change wpAnyH _ _ _ _ _ _ _ (Act.put _ (some 54) _) _
              simp only [Act.put, List.setIfInBounds_toArray, List.set_cons_zero, List.set_cons_succ]
              refine wpAnyH_take (i := 3) (v := ?_) rfl (by kernel_rfl) (by kernel_rfl) (by kernel_rfl) (fun _ _ _ h => h) (Or.inl ⟨by rfl, ?_⟩) hHeld ?_
              rotate_left
              · intro u hSu
                (go_simp) <;> (with_reducible rfl)
              change wpAnyH _ _ _ _ _ _ _ (Act.put _ (some 55) _) _
              simp only [Act.put, List.setIfInBounds_toArray, List.set_cons_zero, List.set_cons_succ]
              refine wpAnyH_take (i := 4) (v := ?_) rfl (by kernel_rfl) (by kernel_rfl) (by kernel_rfl) (fun _ _ _ h => h) (Or.inl ⟨by rfl, ?_⟩) hHeld ?_
              rotate_left
              · intro u hSu
                (go_simp) <;> (with_reducible rfl)
              change wpAnyH _ _ _ _ _ _ _ (Act.put _ (some 56) _) _
              simp only [Act.put, List.setIfInBounds_toArray, List.set_cons_zero, List.set_cons_succ]
              refine wpAnyH_take (i := 5) (v := ?_) rfl (by kernel_rfl) (by kernel_rfl) (by kernel_rfl) (fun _ _ _ h => h) (Or.inl ⟨by rfl, ?_⟩) hHeld ?_
              rotate_left
              · intro u hSu
                obtain ⟨r1, r2, r3⟩ := HQ.out u hSu
                (go_simp) <;> (with_reducible rfl)
              change wpAnyH _ _ _ _ _ _ _ (Act.put _ (some 57) _) _
              simp only [Act.put, List.setIfInBounds_toArray, List.set_cons_zero, List.set_cons_succ]
              refine wpAnyH_take (i := 6) (v := ?_) rfl (by kernel_rfl) (by kernel_rfl) (by kernel_rfl) (fun _ _ _ h => h) (Or.inl ⟨by rfl, ?_⟩) hHeld ?_
              rotate_left
              · intro u hSu
                (go_simp) <;> (with_reducible rfl)
              change wpAnyH _ _ _ _ _ _ _ (Act.put _ (some 58) _) _
              simp only [Act.put, List.setIfInBounds_toArray, List.set_cons_zero, List.set_cons_succ]
              refine wpAnyH_take (i := 7) (v := ?_) rfl (by kernel_rfl) (by kernel_rfl) (by kernel_rfl) (fun _ _ _ h => h) (Or.inl ⟨by rfl, ?_⟩) hHeld ?_
              rotate_left
              · intro u hSu
                (go_simp) <;> (with_reducible rfl)
              change wpAnyH _ _ _ _ _ _ _ (Act.put _ (some 59) _) _
              simp only [Act.put, List.setIfInBounds_toArray, List.set_cons_zero, List.set_cons_succ]
              refine wpAnyH_take (i := 8) (v := ?_) rfl (by kernel_rfl) (by kernel_rfl) (by kernel_rfl) (fun _ _ _ h => h) (Or.inl ⟨by rfl, ?_⟩) hHeld ?_
              rotate_left
              · intro u hSu
                (go_simp) <;> (with_reducible rfl)
              change wpAnyH _ _ _ _ _ _ _ (Act.put _ (some 60) _) _
              simp only [Act.put, List.setIfInBounds_toArray, List.set_cons_zero, List.set_cons_succ]
              refine wpAnyH_take (i := 9) (v := ?_) rfl (by kernel_rfl) (by kernel_rfl) (by kernel_rfl) (fun _ _ _ h => h) (Or.inl ⟨by rfl, ?_⟩) hHeld ?_
              rotate_left
              · intro u hSu
                (go_simp) <;> (with_reducible rfl)
              change wpAnyH _ _ _ _ _ _ _ (Act.put _ (some 61) _) _
              simp only [Act.put, List.setIfInBounds_toArray, List.set_cons_zero, List.set_cons_succ]
              refine wpAnyH_take (i := 10) (v := ?_) rfl (by kernel_rfl) (by kernel_rfl) (by kernel_rfl) (fun _ _ _ h => h) (Or.inl ⟨by rfl, ?_⟩) hHeld ?_
              rotate_left
              · intro u hSu
                obtain ⟨r1, r2, r3⟩ := HQ.out u hSu
                (go_simp) <;> (with_reducible rfl)
              change wpAnyH _ _ _ _ _ _ _ (Act.put _ (some 62) _) _
              simp only [Act.put, List.setIfInBounds_toArray, List.set_cons_zero, List.set_cons_succ]
              refine wpAnyH_take (i := 12) (v := ?_) rfl (by kernel_rfl) (by kernel_rfl) (by kernel_rfl) (fun _ _ _ h => h) (Or.inl ⟨by rfl, ?_⟩) hHeld ?_
              rotate_left
              · intro u hSu
                (go_simp) <;> (with_reducible rfl)
              change wpAnyH _ _ _ _ _ _ _ (Act.put _ (some 64) _) _
              simp only [Act.put, List.setIfInBounds_toArray, List.set_cons_zero, List.set_cons_succ]
              refine wpAnyH_take (i := 13) (v := ?_) rfl (by kernel_rfl) (by kernel_rfl) (by kernel_rfl) (fun _ _ _ h => h) (Or.inl ⟨by rfl, ?_⟩) hHeld ?_
              rotate_left
              · intro u hSu
                (go_simp) <;> (with_reducible rfl)
              change wpAnyH _ _ _ _ _ _ _ (Act.put _ (some 65) _) _
              simp only [Act.put, List.setIfInBounds_toArray, List.set_cons_zero, List.set_cons_succ]
              refine wpAnyH_take (i := 14) (v := ?_) rfl (by kernel_rfl) (by kernel_rfl) (by kernel_rfl) (fun _ _ _ h => h) (Or.inl ⟨by rfl, ?_⟩) hHeld ?_
              rotate_left
              · intro u hSu
                (go_simp) <;> (with_reducible rfl)
              change wpAnyH _ _ _ _ _ _ _ (Act.put _ (some 66) _) _
              simp only [Act.put, List.setIfInBounds_toArray, List.set_cons_zero, List.set_cons_succ]
              refine wpAnyH_take (i := 15) (v := ?_) rfl (by kernel_rfl) (by kernel_rfl) (by kernel_rfl) (fun _ _ _ h => h) (Or.inl ⟨by rfl, ?_⟩) hHeld ?_
              rotate_left
              · intro u hSu
                (go_simp) <;> (with_reducible rfl)
              change wpAnyH _ _ _ _ _ _ _ (Act.put _ (some 67) _) _
              simp only [Act.put, List.setIfInBounds_toArray, List.set_cons_zero, List.set_cons_succ]
              refine wpAnyH_take (i := 16) (v := ?_) rfl (by kernel_rfl) (by kernel_rfl) (by kernel_rfl) (fun _ _ _ h => h) (Or.inl ⟨by rfl, ?_⟩) hHeld ?_
              rotate_left
              · intro u hSu
                (go_simp) <;> (with_reducible rfl)
              change wpAnyH _ _ _ _ _ _ _ (Act.put _ (some 68) _) _
              simp only [Act.put, List.setIfInBounds_toArray, List.set_cons_zero, List.set_cons_succ]
              refine wpAnyH_take (i := 17) (v := ?_) rfl (by kernel_rfl) (by kernel_rfl) (by kernel_rfl) (fun _ _ _ h => h) (Or.inl ⟨by rfl, ?_⟩) hHeld ?_
              rotate_left
              · intro u hSu
                obtain ⟨r1, r2, r3⟩ := HQ.out u hSu
                (go_simp) <;> (with_reducible rfl)
              change wpAnyH _ _ _ _ _ _ _ (Act.put _ (some 69) _) _
              simp only [Act.put, List.setIfInBounds_toArray, List.set_cons_zero, List.set_cons_succ]
              refine wpAnyH_take (i := 18) (v := ?_) rfl (by kernel_rfl) (by kernel_rfl) (by kernel_rfl) (fun _ _ _ h => h) (Or.inl ⟨by rfl, ?_⟩) hHeld ?_
              rotate_left
              · intro u hSu
                (go_simp) <;> (with_reducible rfl)
              change wpAnyH _ _ _ _ _ _ _ (Act.put _ (some 70) _) _
              simp only [Act.put, List.setIfInBounds_toArray, List.set_cons_zero, List.set_cons_succ]
              refine wpAnyH_take (i := 19) (v := ?_) rfl (by kernel_rfl) (by kernel_rfl) (by kernel_rfl) (fun _ _ _ h => h) (Or.inl ⟨by rfl, ?_⟩) hHeld ?_
              rotate_left
              · intro u hSu
                (go_simp) <;> (with_reducible rfl)
              change wpAnyH _ _ _ _ _ _ _ (Act.put _ (some 71) _) _
              simp only [Act.put, List.setIfInBounds_toArray, List.set_cons_zero, List.set_cons_succ]
              refine wpAnyH_take (i := 20) (v := ?_) rfl (by kernel_rfl) (by kernel_rfl) (by kernel_rfl) (fun _ _ _ h => h) (Or.inl ⟨by rfl, ?_⟩) hHeld ?_
              rotate_left
              · intro u hSu
                (go_simp) <;> (with_reducible rfl)
              change wpAnyH _ _ _ _ _ _ _ (Act.put _ (some 72) _) _
              simp only [Act.put, List.setIfInBounds_toArray, List.set_cons_zero, List.set_cons_succ]
              refine wpAnyH_take (i := 21) (v := ?_) rfl (by kernel_rfl) (by kernel_rfl) (by kernel_rfl) (fun _ _ _ h => h) (Or.inl ⟨by rfl, ?_⟩) hHeld ?_
              rotate_left
              · intro u hSu
                (go_simp) <;> (with_reducible rfl)
              change wpAnyH _ _ _ _ _ _ _ (Act.put _ (some 73) _) _
              simp only [Act.put, List.setIfInBounds_toArray, List.set_cons_zero, List.set_cons_succ]
              refine wpAnyH_take (i := 22) (v := ?_) rfl (by kernel_rfl) (by kernel_rfl) (by kernel_rfl) (fun _ _ _ h => h) (Or.inl ⟨by rfl, ?_⟩) hHeld ?_
              rotate_left
              · intro u hSu
                obtain ⟨r1, r2, r3⟩ := HQ.out u hSu
                (go_simp) <;> (with_reducible rfl)
              change wpAnyH _ _ _ _ _ _ _ (Act.put _ (some 74) _) _
              simp only [Act.put, List.setIfInBounds_toArray, List.set_cons_zero, List.set_cons_succ]
              refine wpAnyH_ready (rs := [11]) (by kernel_rfl) (by simp) ?_
              refine AllReadyH.cons rfl (fun K_ hK => ?_) AllReadyH.nil
              go_simp
              go_at_call 16
              refine (PU.out _ _ _ _ R4.out).mono ?_
              rintro e v5 ⟨rfl, h5⟩
              have B5 : Hid (Below w.heap.size w v5) := h5.below; have R5 : Hid (Twin w v5 q p K K2) := h5.swap; clear h5 R4
              refine hK.out _ _ ?_ (fun hHeld2 => ?_)
              · exact B5.out
              clear hK K_ hHeld
              have hHeld := hHeld2
              clear hHeld2
              refine wpAnyH_ready (rs := [23]) (by kernel_rfl) (by simp) ?_
              refine AllReadyH.cons rfl (fun K_ hK => ?_) AllReadyH.nil
              go_simp
              go_at_call 16
              refine (PU.out _ _ _ _ R5.out).mono ?_
              rintro e v6 ⟨rfl, h6⟩
              have B6 : Hid (Below w.heap.size w v6) := h6.below; have R6 : Hid (Twin w v6 q p K2 K2) := h6; clear h6 R5
              refine hK.out _ _ ?_ (fun hHeld2 => ?_)
              · exact B6.out
              clear hK K_ hHeld
              have hHeld := hHeld2
              clear hHeld2
              refine wpAnyH_take (i := 24) (v := ?_) rfl (by kernel_rfl) (by kernel_rfl) (by kernel_rfl) (fun _ _ _ h => h) (Or.inl ⟨by rfl, ?_⟩) hHeld ?_
              rotate_left
              · intro u hSu
                (go_simp) <;> (with_reducible rfl)
              change wpAnyH _ _ _ _ _ _ _ (Act.put _ (some 76) _) _
              simp only [Act.put, List.setIfInBounds_toArray, List.set_cons_zero, List.set_cons_succ]
              refine wpAnyH_done (by kernel_rfl) ?_ _
              refine NoPanic.normal ?_
              go_wp2
              go_roundw
              case rel => exact ⟨i + 1, by go_num, by omega, ⟨K2, R6.out.swap, HK2.out.1, HK2.out.2⟩⟩
              case measure => simp [intOf]; omega
            · have h9b : ((o : Int) == 0) = false := by simp; exact h9
              obtain ⟨r, hr⟩ : ∃ r, r = ((K.length : Int) - ((restV K x.t x.n).length : Int)) := ⟨_, rfl⟩
              have hact : actV K x = restV K x.t x.n := by unfold actV; rw [if_neg (by rw [HO.out]; exact h9)]
              have PT : Hid (∀ u p' q' M, Twin w u p' q' K M → Calls Tryz.prog 17 #[.pointer (some ⟨p', 0, none⟩), .agg #[.int .i64 t, .int .u8 n]] u fun e w' => e = .returned (.int .i64 r) ∧ Twin w w' p' q' K2 M) := fun u p' q' M h => by
                rw [hK2, hact, hr, ht, hn]
                exact ttrim h x.t x.n
              have hrr : ((r : Int) != r) = false := by simp
              have hrr2 : ((r : Int) == r) = true := by simp
              clear hok hax HAX ht hn hN hxa hxc hlg hx HO ho hK2 hact hr HK
              go_wp2_with (go_at_call 15; refine CLG.out.mono ?_; rintro e v3 ⟨rfl, rfl⟩; clear CLG)
              refine wp_region_noPanic ?_
              refine wp_region_held_drew (S := fun u => Below w.heap.size w u) (by kernel_rfl) ?_ (fun hHeld => ?_)
              · exact HBW.out.drew
              have R4 : Hid (Twin w _ p q K K) := HT.out.past (Below.refl _ _).drew
              clear HT HBW
              refine wpAnyH_take (i := 0) (v := ?_) rfl (by kernel_rfl) (by kernel_rfl) (by kernel_rfl) (fun _ _ _ h => h) (Or.inl ⟨by rfl, ?_⟩) hHeld ?_
              rotate_left
              · intro u hSu
                (go_simp) <;> (with_reducible rfl)
              change wpAnyH _ _ _ _ _ _ _ (Act.put _ (some 77) _) _
              simp only [Act.put, List.setIfInBounds_toArray, List.set_cons_zero, List.set_cons_succ]
              refine wpAnyH_take (i := 1) (v := ?_) rfl (by kernel_rfl) (by kernel_rfl) (by kernel_rfl) (fun _ _ _ h => h) (Or.inl ⟨by rfl, ?_⟩) hHeld ?_
              rotate_left
              · intro u hSu
                (go_simp) <;> (with_reducible rfl)
              change wpAnyH _ _ _ _ _ _ _ (Act.put _ (some 78) _) _
              simp only [Act.put, List.setIfInBounds_toArray, List.set_cons_zero, List.set_cons_succ]
              refine wpAnyH_take (i := 2) (v := ?_) rfl (by kernel_rfl) (by kernel_rfl) (by kernel_rfl) (fun _ _ _ h => h) (Or.inl ⟨by rfl, ?_⟩) hHeld ?_
              rotate_left
              · intro u hSu
                (go_simp) <;> (with_reducible rfl)
              change wpAnyH _ _ _ _ _ _ _ (Act.put _ (some 79) _) _
              simp only [Act.put, List.setIfInBounds_toArray, List.set_cons_zero, List.set_cons_succ]
              refine wpAnyH_take (i := 3) (v := ?_) rfl (by kernel_rfl) (by kernel_rfl) (by kernel_rfl) (fun _ _ _ h => h) (Or.inl ⟨by rfl, ?_⟩) hHeld ?_
              rotate_left
              · intro u hSu
                (go_simp) <;> (with_reducible rfl)
              change wpAnyH _ _ _ _ _ _ _ (Act.put _ (some 80) _) _
              simp only [Act.put, List.setIfInBounds_toArray, List.set_cons_zero, List.set_cons_succ]
              refine wpAnyH_take (i := 4) (v := ?_) rfl (by kernel_rfl) (by kernel_rfl) (by kernel_rfl) (fun _ _ _ h => h) (Or.inl ⟨by rfl, ?_⟩) hHeld ?_
              rotate_left
              · intro u hSu
                (go_simp) <;> (with_reducible rfl)
              change wpAnyH _ _ _ _ _ _ _ (Act.put _ (some 81) _) _
              simp only [Act.put, List.setIfInBounds_toArray, List.set_cons_zero, List.set_cons_succ]
              refine wpAnyH_take (i := 5) (v := ?_) rfl (by kernel_rfl) (by kernel_rfl) (by kernel_rfl) (fun _ _ _ h => h) (Or.inl ⟨by rfl, ?_⟩) hHeld ?_
              rotate_left
              · intro u hSu
                obtain ⟨r1, r2, r3⟩ := HQ.out u hSu
                (go_simp) <;> (with_reducible rfl)
              change wpAnyH _ _ _ _ _ _ _ (Act.put _ (some 82) _) _
              simp only [Act.put, List.setIfInBounds_toArray, List.set_cons_zero, List.set_cons_succ]
              refine wpAnyH_take (i := 7) (v := ?_) rfl (by kernel_rfl) (by kernel_rfl) (by kernel_rfl) (fun _ _ _ h => h) (Or.inl ⟨by rfl, ?_⟩) hHeld ?_
              rotate_left
              · intro u hSu
                (go_simp) <;> (with_reducible rfl)
              change wpAnyH _ _ _ _ _ _ _ (Act.put _ (some 84) _) _
              simp only [Act.put, List.setIfInBounds_toArray, List.set_cons_zero, List.set_cons_succ]
              refine wpAnyH_take (i := 8) (v := ?_) rfl (by kernel_rfl) (by kernel_rfl) (by kernel_rfl) (fun _ _ _ h => h) (Or.inl ⟨by rfl, ?_⟩) hHeld ?_
              rotate_left
              · intro u hSu
                (go_simp) <;> (with_reducible rfl)
              change wpAnyH _ _ _ _ _ _ _ (Act.put _ (some 85) _) _
              simp only [Act.put, List.setIfInBounds_toArray, List.set_cons_zero, List.set_cons_succ]
              refine wpAnyH_take (i := 9) (v := ?_) rfl (by kernel_rfl) (by kernel_rfl) (by kernel_rfl) (fun _ _ _ h => h) (Or.inl ⟨by rfl, ?_⟩) hHeld ?_
              rotate_left
              · intro u hSu
                (go_simp) <;> (with_reducible rfl)
              change wpAnyH _ _ _ _ _ _ _ (Act.put _ (some 86) _) _
              simp only [Act.put, List.setIfInBounds_toArray, List.set_cons_zero, List.set_cons_succ]
              refine wpAnyH_take (i := 10) (v := ?_) rfl (by kernel_rfl) (by kernel_rfl) (by kernel_rfl) (fun _ _ _ h => h) (Or.inl ⟨by rfl, ?_⟩) hHeld ?_
              rotate_left
              · intro u hSu
                (go_simp) <;> (with_reducible rfl)
              change wpAnyH _ _ _ _ _ _ _ (Act.put _ (some 87) _) _
              simp only [Act.put, List.setIfInBounds_toArray, List.set_cons_zero, List.set_cons_succ]
              refine wpAnyH_take (i := 11) (v := ?_) rfl (by kernel_rfl) (by kernel_rfl) (by kernel_rfl) (fun _ _ _ h => h) (Or.inl ⟨by rfl, ?_⟩) hHeld ?_
              rotate_left
              · intro u hSu
                (go_simp) <;> (with_reducible rfl)
              change wpAnyH _ _ _ _ _ _ _ (Act.put _ (some 88) _) _
              simp only [Act.put, List.setIfInBounds_toArray, List.set_cons_zero, List.set_cons_succ]
              refine wpAnyH_take (i := 12) (v := ?_) rfl (by kernel_rfl) (by kernel_rfl) (by kernel_rfl) (fun _ _ _ h => h) (Or.inl ⟨by rfl, ?_⟩) hHeld ?_
              rotate_left
              · intro u hSu
                obtain ⟨r1, r2, r3⟩ := HQ.out u hSu
                (go_simp) <;> (with_reducible rfl)
              change wpAnyH _ _ _ _ _ _ _ (Act.put _ (some 89) _) _
              simp only [Act.put, List.setIfInBounds_toArray, List.set_cons_zero, List.set_cons_succ]
              refine wpAnyH_ready (rs := [6]) (by kernel_rfl) (by simp) ?_
              refine AllReadyH.cons rfl (fun K_ hK => ?_) AllReadyH.nil
              go_simp
              go_at_call 17
              refine (PT.out _ _ _ _ R4.out).mono ?_
              rintro e v5 ⟨rfl, h5⟩
              have B5 : Hid (Below w.heap.size w v5) := h5.below; have R5 : Hid (Twin w v5 q p K K2) := h5.swap; clear h5 R4
              refine hK.out _ _ ?_ (fun hHeld2 => ?_)
              · exact B5.out
              clear hK K_ hHeld
              have hHeld := hHeld2
              clear hHeld2
              refine wpAnyH_ready (rs := [13]) (by kernel_rfl) (by simp) ?_
              refine AllReadyH.cons rfl (fun K_ hK => ?_) AllReadyH.nil
              go_simp
              go_at_call 17
              refine (PT.out _ _ _ _ R5.out).mono ?_
              rintro e v6 ⟨rfl, h6⟩
              have B6 : Hid (Below w.heap.size w v6) := h6.below; have R6 : Hid (Twin w v6 q p K2 K2) := h6; clear h6 R5
              refine hK.out _ _ ?_ (fun hHeld2 => ?_)
              · exact B6.out
              clear hK K_ hHeld
              have hHeld := hHeld2
              clear hHeld2
              refine wpAnyH_take (i := 14) (v := ?_) rfl (by kernel_rfl) (by kernel_rfl) (by kernel_rfl) (fun _ _ _ h => h) (Or.inl ⟨by rfl, ?_⟩) hHeld ?_
              rotate_left
              · intro u hSu
                (go_simp) <;> (with_reducible rfl)
              change wpAnyH _ _ _ _ _ _ _ (Act.put _ (some 91) _) _
              simp only [Act.put, List.setIfInBounds_toArray, List.set_cons_zero, List.set_cons_succ]
              refine wpAnyH_done (by kernel_rfl) ?_ _
              refine NoPanic.normal ?_
              go_wp2
              go_roundw
              case rel => exact ⟨i + 1, by go_num, by omega, ⟨K2, R6.out.swap, HK2.out.1, HK2.out.2⟩⟩
              case measure => simp [intOf]; omega
        · obtain rfl : i = len1 := by omega
          obtain ⟨BK, hBK⟩ : ∃ B, B = storeB K := ⟨_, rfl⟩
          obtain ⟨LK, hLK⟩ : ∃ n, n = BK.length := ⟨_, rfl⟩
          have HLK : Hid (BK.length = LK) := hLK.symm
          have CPK : Hid (∀ u p' q' M, Twin w u p' q' K M → Calls Tryz.prog 8 #[.pointer (some ⟨p', 0, none⟩)] u fun e w' => ∃ a c, e = .returned (.slice a LK c) ∧ Bt u w' BK a LK c) := fun u p' q' M h1 => by
            refine (ckput_any h1.fst HK.out.1 (by have := HK.out.2; omega)).mono ?_
            rintro e w' ⟨a, m, c, rfl, h4⟩
            rw [← hBK] at h4
            obtain rfl : m = LK := by rw [hLK]; exact h4.len.symm
            exact ⟨a, c, rfl, h4⟩
          have hseq : ((strOfNums BK).toList == (strOfNums BK).toList) = true := by simp
          clear hBK hLK HA HL HK
          go_wp2
          refine wp_region_noPanic ?_
          refine wp_region_held_drew (S := fun u => Below w.heap.size w u) (by kernel_rfl) ?_ (fun hHeld => ?_)
          · exact HBW.out.drew
          have R4 : Hid (Twin w _ p q K K) := HT.out.past (Below.refl _ _).drew
          clear HT HBW
          refine wpAnyH_take (i := 0) (v := ?_) rfl (by kernel_rfl) (by kernel_rfl) (by kernel_rfl) (fun _ _ _ h => h) (Or.inl ⟨by rfl, ?_⟩) hHeld ?_
          rotate_left
          · intro u hSu
            (go_simp) <;> (with_reducible rfl)
          change wpAnyH _ _ _ _ _ _ _ (Act.put _ (some 92) _) _
          simp only [Act.put, List.setIfInBounds_toArray, List.set_cons_zero, List.set_cons_succ]
          refine wpAnyH_take (i := 1) (v := ?_) rfl (by kernel_rfl) (by kernel_rfl) (by kernel_rfl) (fun _ _ _ h => h) (Or.inl ⟨by rfl, ?_⟩) hHeld ?_
          rotate_left
          · intro u hSu
            (go_simp) <;> (with_reducible rfl)
          change wpAnyH _ _ _ _ _ _ _ (Act.put _ (some 93) _) _
          simp only [Act.put, List.setIfInBounds_toArray, List.set_cons_zero, List.set_cons_succ]
          refine wpAnyH_ready (rs := [2]) (by kernel_rfl) (by simp) ?_
          refine AllReadyH.cons rfl (fun K_ hK => ?_) AllReadyH.nil
          go_simp
          go_at_call 14
          refine (CSM.out _ _ _ R4.out).mono ?_
          rintro e v5 ⟨rfl, hb⟩
          have B5 : Hid (Below w.heap.size w v5) := hHeld.trans (hb.mono hHeld.size); have R5 : Hid (Twin w v5 p q K K) := R4.out.past hb; clear hb R4
          refine hK.out _ _ ?_ (fun hHeld2 => ?_)
          · exact B5.out
          clear hK K_ hHeld
          have hHeld := hHeld2
          clear hHeld2
          refine wpAnyH_take (i := 3) (v := ?_) rfl (by kernel_rfl) (by kernel_rfl) (by kernel_rfl) (fun _ _ _ h => h) (Or.inl ⟨by rfl, ?_⟩) hHeld ?_
          rotate_left
          · intro u hSu
            (go_simp) <;> (with_reducible rfl)
          change wpAnyH _ _ _ _ _ _ _ (Act.put _ (some 95) _) _
          simp only [Act.put, List.setIfInBounds_toArray, List.set_cons_zero, List.set_cons_succ]
          refine wpAnyH_take (i := 4) (v := ?_) rfl (by kernel_rfl) (by kernel_rfl) (by kernel_rfl) (fun _ _ _ h => h) (Or.inl ⟨by rfl, ?_⟩) hHeld ?_
          rotate_left
          · intro u hSu
            (go_simp) <;> (with_reducible rfl)
          change wpAnyH _ _ _ _ _ _ _ (Act.put _ (some 96) _) _
          simp only [Act.put, List.setIfInBounds_toArray, List.set_cons_zero, List.set_cons_succ]
          refine wpAnyH_take (i := 7) (v := ?_) rfl (by kernel_rfl) (by kernel_rfl) (by kernel_rfl) (fun _ _ _ h => h) (Or.inl ⟨by rfl, ?_⟩) hHeld ?_
          rotate_left
          · intro u hSu
            (go_simp) <;> (with_reducible rfl)
          change wpAnyH _ _ _ _ _ _ _ (Act.put _ (some 99) _) _
          simp only [Act.put, List.setIfInBounds_toArray, List.set_cons_zero, List.set_cons_succ]
          refine wpAnyH_ready (rs := [5]) (by kernel_rfl) (by simp) ?_
          refine AllReadyH.cons rfl (fun K_ hK => ?_) AllReadyH.nil
          go_simp
          go_at_call 8
          refine (CPK.out _ _ _ _ R5.out).mono ?_
          rintro e v6 ⟨a6, c6, rfl, hbt⟩
          have B6 : Hid (Below w.heap.size w v6) := hHeld.trans (hbt.below.mono hHeld.size); have R6 : Hid (Twin w v6 q p K K) := (R5.out.past hbt.below).swap; have HA6 : Hid (∀ u, Below v6.heap.size v6 u → Row u a6 BK) := fun u hu => (hbt.past hu).row; clear hbt R5
          refine hK.out _ _ ?_ (fun hHeld2 => ?_)
          · exact B6.out
          clear hK K_ hHeld
          have hHeld := hHeld2
          clear hHeld2
          refine wpAnyH_ready (rs := [6, 8]) (by kernel_rfl) (by simp) ?_
          refine AllReadyH.cons rfl (fun K_ hK => ?_) ?_
          · have hcva := str_at HLK.out (HA6.out _ (Below.refl _ _)) c6
            go_simp
            refine hK.out _ _ ?_ (fun hHeld2 => ?_)
            · exact B6.out
            clear hK K_ hHeld
            have hHeld := hHeld2
            clear hHeld2
            refine wpAnyH_ready (rs := [8]) (by kernel_rfl) (by simp) ?_
            refine AllReadyH.cons rfl (fun K_ hK => ?_) AllReadyH.nil
            go_simp
            go_at_call 8
            refine (CPK.out _ _ _ _ R6.out).mono ?_
            rintro e v7 ⟨a7, c7, rfl, hbt⟩
            have B7 : Hid (Below w.heap.size w v7) := hHeld.trans (hbt.below.mono hHeld.size)
            have B67 : Hid (Below v6.heap.size v6 v7) := hbt.below
            have HA7 : Hid (Row v7 a7 BK) := hbt.row
            clear hbt
            refine hK.out _ _ ?_ (fun hHeld2 => ?_)
            · exact B7.out
            clear hK K_ hHeld
            have hHeld := hHeld2
            clear hHeld2
            refine wpAnyH_ready (rs := [9]) (by kernel_rfl) (by simp) ?_
            refine AllReadyH.cons rfl (fun K_ hK => ?_) AllReadyH.nil
            have hcvb := str_at HLK.out HA7.out c7
            go_simp
            refine hK.out _ _ ?_ (fun hHeld2 => ?_)
            · exact B7.out
            clear hK K_ hHeld
            have hHeld := hHeld2
            clear hHeld2
            refine wpAnyH_take (i := 10) (v := ?_) rfl (by kernel_rfl) (by kernel_rfl) (by kernel_rfl) (fun _ _ _ h => h) (Or.inl ⟨by rfl, ?_⟩) hHeld ?_
            rotate_left
            · intro u hSu
              (go_simp) <;> (with_reducible rfl)
            change wpAnyH _ _ _ _ _ _ _ (Act.put _ (some 102) _) _
            simp only [Act.put, List.setIfInBounds_toArray, List.set_cons_zero, List.set_cons_succ]
            refine wpAnyH_take (i := 11) (v := ?_) rfl (by kernel_rfl) (by kernel_rfl) (by kernel_rfl) (fun _ _ _ h => h) (Or.inl ⟨by rfl, ?_⟩) hHeld ?_
            rotate_left
            · intro u hSu
              (go_simp) <;> (with_reducible rfl)
            change wpAnyH _ _ _ _ _ _ _ (Act.put _ (some 103) _) _
            simp only [Act.put, List.setIfInBounds_toArray, List.set_cons_zero, List.set_cons_succ]
            refine wpAnyH_take (i := 12) (v := ?_) rfl (by kernel_rfl) (by kernel_rfl) (by kernel_rfl) (fun _ _ _ h => h) (Or.inl ⟨by rfl, ?_⟩) hHeld ?_
            rotate_left
            · intro u hSu
              (go_simp) <;> (with_reducible rfl)
            change wpAnyH _ _ _ _ _ _ _ (Act.put _ (some 4) _) _
            simp only [Act.put, List.setIfInBounds_toArray, List.set_cons_zero, List.set_cons_succ]
            refine wpAnyH_done (by kernel_rfl) ?_ _
            refine NoPanic.normal ?_
            go_wp2
            go_ret
            exact ⟨rfl, B7.out⟩
          refine AllReadyH.cons rfl (fun K_ hK => ?_) AllReadyH.nil
          go_simp
          go_at_call 8
          refine (CPK.out _ _ _ _ R6.out).mono ?_
          rintro e v7 ⟨a7, c7, rfl, hbt⟩
          have B7 : Hid (Below w.heap.size w v7) := hHeld.trans (hbt.below.mono hHeld.size)
          have B67 : Hid (Below v6.heap.size v6 v7) := hbt.below
          have HA7 : Hid (Row v7 a7 BK) := hbt.row
          clear hbt
          refine hK.out _ _ ?_ (fun hHeld2 => ?_)
          · exact B7.out
          clear hK K_ hHeld
          have hHeld := hHeld2
          clear hHeld2
          refine wpAnyH_ready (rs := [6, 9]) (by kernel_rfl) (by simp) ?_
          refine AllReadyH.cons rfl (fun K_ hK => ?_) ?_
          · have hcva := str_at HLK.out (HA6.out _ B67.out) c6
            go_simp
            refine hK.out _ _ ?_ (fun hHeld2 => ?_)
            · exact B7.out
            clear hK K_ hHeld
            have hHeld := hHeld2
            clear hHeld2
            refine wpAnyH_ready (rs := [9]) (by kernel_rfl) (by simp) ?_
            refine AllReadyH.cons rfl (fun K_ hK => ?_) AllReadyH.nil
            have hcvb := str_at HLK.out HA7.out c7
            go_simp
            refine hK.out _ _ ?_ (fun hHeld2 => ?_)
            · exact B7.out
            clear hK K_ hHeld
            have hHeld := hHeld2
            clear hHeld2
            refine wpAnyH_take (i := 10) (v := ?_) rfl (by kernel_rfl) (by kernel_rfl) (by kernel_rfl) (fun _ _ _ h => h) (Or.inl ⟨by rfl, ?_⟩) hHeld ?_
            rotate_left
            · intro u hSu
              (go_simp) <;> (with_reducible rfl)
            change wpAnyH _ _ _ _ _ _ _ (Act.put _ (some 102) _) _
            simp only [Act.put, List.setIfInBounds_toArray, List.set_cons_zero, List.set_cons_succ]
            refine wpAnyH_take (i := 11) (v := ?_) rfl (by kernel_rfl) (by kernel_rfl) (by kernel_rfl) (fun _ _ _ h => h) (Or.inl ⟨by rfl, ?_⟩) hHeld ?_
            rotate_left
            · intro u hSu
              (go_simp) <;> (with_reducible rfl)
            change wpAnyH _ _ _ _ _ _ _ (Act.put _ (some 103) _) _
            simp only [Act.put, List.setIfInBounds_toArray, List.set_cons_zero, List.set_cons_succ]
            refine wpAnyH_take (i := 12) (v := ?_) rfl (by kernel_rfl) (by kernel_rfl) (by kernel_rfl) (fun _ _ _ h => h) (Or.inl ⟨by rfl, ?_⟩) hHeld ?_
            rotate_left
            · intro u hSu
              (go_simp) <;> (with_reducible rfl)
            change wpAnyH _ _ _ _ _ _ _ (Act.put _ (some 4) _) _
            simp only [Act.put, List.setIfInBounds_toArray, List.set_cons_zero, List.set_cons_succ]
            refine wpAnyH_done (by kernel_rfl) ?_ _
            refine NoPanic.normal ?_
            go_wp2
            go_ret
            exact ⟨rfl, B7.out⟩
          refine AllReadyH.cons rfl (fun K_ hK => ?_) AllReadyH.nil
          have hcvb := str_at HLK.out HA7.out c7
          go_simp
          refine hK.out _ _ ?_ (fun hHeld2 => ?_)
          · exact B7.out
          clear hK K_ hHeld
          have hHeld := hHeld2
          clear hHeld2
          refine wpAnyH_ready (rs := [6]) (by kernel_rfl) (by simp) ?_
          refine AllReadyH.cons rfl (fun K_ hK => ?_) AllReadyH.nil
          have hcva := str_at HLK.out (HA6.out _ B67.out) c6
          go_simp
          refine hK.out _ _ ?_ (fun hHeld2 => ?_)
          · exact B7.out
          clear hK K_ hHeld
          have hHeld := hHeld2
          clear hHeld2
          refine wpAnyH_take (i := 10) (v := ?_) rfl (by kernel_rfl) (by kernel_rfl) (by kernel_rfl) (fun _ _ _ h => h) (Or.inl ⟨by rfl, ?_⟩) hHeld ?_
          rotate_left
          · intro u hSu
            (go_simp) <;> (with_reducible rfl)
          change wpAnyH _ _ _ _ _ _ _ (Act.put _ (some 102) _) _
          simp only [Act.put, List.setIfInBounds_toArray, List.set_cons_zero, List.set_cons_succ]
          refine wpAnyH_take (i := 11) (v := ?_) rfl (by kernel_rfl) (by kernel_rfl) (by kernel_rfl) (fun _ _ _ h => h) (Or.inl ⟨by rfl, ?_⟩) hHeld ?_
          rotate_left
          · intro u hSu
            (go_simp) <;> (with_reducible rfl)
          change wpAnyH _ _ _ _ _ _ _ (Act.put _ (some 103) _) _
          simp only [Act.put, List.setIfInBounds_toArray, List.set_cons_zero, List.set_cons_succ]
          refine wpAnyH_take (i := 12) (v := ?_) rfl (by kernel_rfl) (by kernel_rfl) (by kernel_rfl) (fun _ _ _ h => h) (Or.inl ⟨by rfl, ?_⟩) hHeld ?_
          rotate_left
          · intro u hSu
            (go_simp) <;> (with_reducible rfl)
          change wpAnyH _ _ _ _ _ _ _ (Act.put _ (some 4) _) _
          simp only [Act.put, List.setIfInBounds_toArray, List.set_cons_zero, List.set_cons_succ]
          refine wpAnyH_done (by kernel_rfl) ?_ _
          refine NoPanic.normal ?_
          go_wp2
          go_ret
          exact ⟨rfl, B7.out⟩

set_option maxRecDepth 100000 in
theorem lifted (os : Os) (started : os.Started) (H : Type) (enc : TypeId × Value → H) :
    ReturnsInHanded {} Tryz.checked os 4 .any (Rows.ckptBackSpec.pre6 enc Tryz.prog Tryz.f4 Rows.ckptBackRow.domain false) (Rows.ckptBackSpec.post enc Tryz.prog Tryz.f4 false true false false) := by
  refine returnsInHanded_of_change (C := Tryz.checked) own started (by kernel_rfl) Tryz.func4
    (ChangeSpec.witness6 (enc := enc) (C := Tryz.checked) false ⟨#[], #[.slice none 0 0, .slice none 0 0], []⟩ 8 (by kernel_rfl) (by kernel_rfl) (by kernel_rfl) (by kernel_rfl)) ?_
  intro W base args ds gs before hval0 hW hcnd _
  have hval : ∀ (j : Nat) t v, Tryz.f4.params[j]? = some t → args[j]? = some v → Value.okWide Tryz.prog W .any base t v := hval0
  have hW' := hW
  obtain ⟨p, q, hA0, hV, rfl, hfz, hnd⟩ := hW
  have hA : DataW.TrodAll enc Tryz.prog W 0 (fun _ => true) true Tryz.f4.params.toList args.toList ds p := hA0
  rw [Tryz.params4] at hA hval
  obtain ⟨v0, vs0, d0, ds0, p0, q0, hargs, rfl, rfl, h0, r0⟩ := trodAll_cons hA
  obtain ⟨v1, vs1, d1, ds1, p1, q1, rfl, rfl, rfl, h1, r1⟩ := trodAll_cons r0
  obtain ⟨rfl, rfl, rfl⟩ := trodAll_nil r1
  obtain rfl : args = #[v0, v1] := by cases args; simp_all
  obtain ⟨rfl, rfl⟩ := trodVars_none hV
  obtain ⟨a0, len0, cap0, rfl⟩ := okWide_slice Tryz.underlying22 (hval 0 22 v0 rfl rfl)
  have k0 := h0
  have lt0 : ∀ x ∈ p0, x.block < W.heap.size := by obtain ⟨m, hm⟩ := k0; exact DataW.trod_lt m _ _ _ hm
  obtain ⟨z0, l0, w0⟩ : ∃ xs : List SAct, xs.length = len0 ∧ SActsOf W a0 cap0 xs := by
    obtain ⟨fuel, hf⟩ := h0
    exact sacts_open Tryz.underlying22 Tryz.underlying45 Tryz.underlying3 Tryz.underlying42 Tryz.underlying2 Tryz.underlying5 Tryz.underlying43 Tryz.underlying95 Tryz.underlying57 Tryz.underlying5 Tryz.underlying9 Tryz.underlying4 rfl rfl rfl rfl rfl rfl rfl rfl (by kernel_rfl) (by kernel_rfl) (by kernel_rfl) (by kernel_rfl) (by kernel_rfl) (by kernel_rfl) (by kernel_rfl) (by kernel_rfl) (by kernel_rfl) (by kernel_rfl) (by kernel_rfl) hf
  obtain ⟨a1, len1, cap1, rfl⟩ := okWide_slice Tryz.underlying22 (hval 1 22 v1 rfl rfl)
  have k1 := h1
  have lt1 : ∀ x ∈ p1, x.block < W.heap.size := by obtain ⟨m, hm⟩ := k1; exact DataW.trod_lt m _ _ _ hm
  obtain ⟨z1, l1, w1⟩ : ∃ xs : List SAct, xs.length = len1 ∧ SActsOf W a1 cap1 xs := by
    obtain ⟨fuel, hf⟩ := h1
    exact sacts_open Tryz.underlying22 Tryz.underlying45 Tryz.underlying3 Tryz.underlying42 Tryz.underlying2 Tryz.underlying5 Tryz.underlying43 Tryz.underlying95 Tryz.underlying57 Tryz.underlying5 Tryz.underlying9 Tryz.underlying4 rfl rfl rfl rfl rfl rfl rfl rfl (by kernel_rfl) (by kernel_rfl) (by kernel_rfl) (by kernel_rfl) (by kernel_rfl) (by kernel_rfl) (by kernel_rfl) (by kernel_rfl) (by kernel_rfl) (by kernel_rfl) (by kernel_rfl) hf
  clear hA0 hval0
  refine (walk a0 len0 cap0 z0 a1 len1 cap1 z1 W l0 w0 l1 w1).mono fun e W' ⟨he, bel⟩ => ?_
  subst he
  exact ⟨_, rfl, _, _, _, [], _, [], hW', trodAll_mk1 (shut_bool Tryz.underlying4 _), (trodAll_cons_mk (Below.trod laidOut (by kernel_rfl) (of_decide_eq_true (by kernel_rfl)) k0 bel lt0) (trodAll_cons_mk (Below.trod laidOut (by kernel_rfl) (of_decide_eq_true (by kernel_rfl)) k1 bel lt1) trodAll_mk0)), rfl, bel.frame _, fun h => by cases h⟩

theorem over : Rows.ckptBackRow.holds Tryz.pinned (OpenSpec.ofChange Rows.ckptBackSpec) :=
  OpenClaim.holds_of_wide 4 Tryz.f4 rfl rfl rfl rfl rfl rfl rfl ⟨rfl, rfl, rfl, rfl, rfl⟩ rfl rfl rfl rfl rfl (by kernel_rfl) Tryz.func4 (by kernel_rfl)
    (of_decide_eq_true (by kernel_rfl)) (by unfold Func.isWrapper; first | (rw [if_pos (by decide +kernel)]; kernel_rfl) | (rw [if_neg (by decide +kernel)]; exact ⟨rfl, rfl⟩))
    (fun os started H enc _ => lifted os started H enc)
theorem proved : Rows.CkptBackSaid := over
#print axioms proved
end Go.Proofs.YtpnjcflfnoamoaaGreat.ckptBack
namespace Go.Proofs.YtpnjcflfnoamoaaGreat
/-- CkptBack, as given. -/
theorem ckptBack_holds : Rows.CkptBackSaid := ckptBack.proved
end Go.Proofs.YtpnjcflfnoamoaaGreat
