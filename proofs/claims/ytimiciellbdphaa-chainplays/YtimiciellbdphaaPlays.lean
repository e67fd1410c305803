/-
  ChainPlays: what it was at any time, the newest, how many since, all of them are as the document says, for all calls (of more than 80, of values of more than 300 bytes the statement asks nothing).
-/
import Derived.Test.YtimiciellbdphaaRows
import Derived.Test.YtimiciellbdphaaChainDuo
import Derived.Test.YtimiciellbdphaaVersOpen
import Derived.Test.YtimiciellbdphaaPairOpen
import Derived.WalkKit
import Derived.ProofKit
import Derived.OpenShut
import Derived.ShutString
import Derived.ChangeOld
import Derived.Below
import Derived.Carry
import Derived.Deep.DeepCutAuto
import Derived.Deep.RegionHeld3
namespace Go.Proofs.Ytimiciellbdphaa.chainPlays
open Go.ChangeShapes Go.WideShapes Go.ChangeAt Go.RowKit
open Go.ChangeMaps (open_string shut_string)
set_option linter.unusedVariables false

theorem own : ownKnob Try.prog.godebug = none := by kernel_rfl
theorem laidOut : laidOutB Try.prog = true := by kernel_rfl
/-- A slice of integers that came in: nil, or a row of 'cap' cells, of which the first 'len' are its elements. -/
def IsRow (k : IntKind) (w : World) (a : Option Addr) (len cap : Nat) (zs : List Int) : Prop :=
  (a = none ∧ len = 0 ∧ cap = 0 ∧ zs = []) ∨
  ∃ x, a = some x ∧ len ≤ cap ∧ cap ≤ maxLen ∧ zs.length = cap ∧ (∀ i, i < zs.length → w.cell? (x.add i) = some (.int k (zs.getD i 0))) ∧ ∀ n ∈ zs, (Lit.int k n).wf = true

set_option maxHeartbeats 8000000 in
set_option maxRecDepth 8000 in
theorem walk (a0 : Option Addr) (len0 cap0 : Nat) (z0 : List CAct) (a1 b1 : Int) (w : World) (l0 : z0.length = len0) (w0 : CActsOf w a0 cap0 z0) (w1 : (Lit.int .i64 a1).wf = true) (x1 : (Lit.int .u8 b1).wf = true) :
    Calls Try.prog 4 #[.slice a0 len0 cap0, .agg #[.int .i64 a1, .int .u8 b1]] w fun e w' => e = .returned (.bool true) ∧ Below w.heap.size w w' := by
  have by1 := bounds_i64 w1
  have by1n := bounds_u8 x1
  have AW : Hid (∀ u, Calls Try.prog 8 #[] u fun e w' => e = .returned (.bool true) ∧ Below u.heap.size u w') := fun u => lawake_any u
  have HL : Hid (z0.length = len0) := l0
  have HA : Hid (CActsOf w a0 cap0 z0) := w0
  have hcap : len0 ≤ cap0 := by rw [← l0]; exact w0.room
  obtain ⟨W0, hW0⟩ : ∃ W0, W0 = w.alloc (.cells #[.int .i64 a1, .int .u8 b1] 28) := ⟨_, rfl⟩
  have HW0 : Hid (w.alloc (.cells #[.int .i64 a1, .int .u8 b1] 28) = W0) := hW0.symm
  have HB0 : Hid (Below w.heap.size w W0) := by rw [hW0]; exact (Below.refl _ _).alloc (Nat.le_refl _) _
  have HS : Hid (∀ u, Below W0.heap.size W0 u → u.cell? ⟨w.heap.size, 0, none⟩ = some (.int .i64 a1) ∧ u.cell? ⟨w.heap.size, 1, none⟩ = some (.int .u8 b1)) := fun u hb => by
    have hlt : w.heap.size < W0.heap.size := by rw [hW0]; simp
    refine ⟨(hb.cell (p := ⟨w.heap.size, 0, none⟩) hlt).trans ?_, (hb.cell (p := ⟨w.heap.size, 1, none⟩) hlt).trans ?_⟩ <;> (rw [hW0, World.cell?_alloc_new]; rfl)
  have CN : Hid (∀ u, Below W0.heap.size W0 u → Calls Try.prog 9 #[] u fun e w' => ∃ p, e = .returned (.pointer (some ⟨p, 0, none⟩)) ∧ ChW W0 w' p []) := fun u hb => (wnew_any W0 u hb).mono fun e w' ⟨p, h1, h2, _⟩ => ⟨p, h1, h2⟩
  have HBW0 : Hid (∀ u, Below W0.heap.size W0 u → Below w.heap.size w u) := fun u h => HB0.out.trans (h.mono HB0.out.size)
  have HKZ : Hid (kcs zeroK = #[.int .u8 0, .int .u8 0, .int .u8 0, .int .u8 0, .int .u8 0, .int .u8 0, .int .u8 0, .int .u8 0, .int .u8 0, .int .u8 0, .int .u8 0, .int .u8 0, .int .u8 0, .int .u8 0, .int .u8 0, .int .u8 0]) := rfl
  clear w0 w1 x1 l0 hW0
  by_cases h80 : 80 < len0
  · have b80 : (80 : Int) < (len0 : Int) := by omega
    go_enter Try.func4, Try.ntmps4
    go_wp2_with (first | (go_at_call 8; refine (AW.out _).mono ?_; rintro e v1 ⟨rfl, hb1⟩; rw [HW0.out] at hb1; have B1 : Hid (Below w.heap.size w v1) := HB0.out.trans (hb1.mono HB0.out.size); clear hb1))
    go_ret
    exact ⟨rfl, B1.out⟩
  · have b80 : ¬ (80 : Int) < (len0 : Int) := by omega
    go_enter Try.func4, Try.ntmps4
    go_wp2_with (first | (go_at_call 8; refine (AW.out _).mono ?_; rintro e v1 ⟨rfl, hb1⟩; rw [HW0.out] at hb1; have B1 : Hid (Below W0.heap.size W0 v1) := hb1; clear hb1) | (have hgo := B1.out; clear hgo; go_at_call 9; refine (CN.out _ B1.out).mono ?_; rintro e v3 ⟨p, rfl, h3⟩; have H3 : Hid (Mid W0 ((v3.alloc (.cells #[.slice none 0 0] 40)).alloc (.cells #[.int .u8 0, .int .u8 0, .int .u8 0, .int .u8 0, .int .u8 0, .int .u8 0, .int .u8 0, .int .u8 0, .int .u8 0, .int .u8 0, .int .u8 0, .int .u8 0, .int .u8 0, .int .u8 0, .int .u8 0, .int .u8 0] 42)) p v3.heap.size (v3.heap.size + 1) []) := mid_new h3 40 42; clear h3 B1))
    obtain ⟨q, hq⟩ : ∃ q, q = v3.heap.size := ⟨_, rfl⟩
    rw [← hq] at H3 ⊢
    obtain ⟨kb, hkb⟩ : ∃ kb, kb = q + 1 := ⟨_, rfl⟩
    rw [← hkb] at H3 ⊢
    clear hq hkb CN AW
    go_loopw [8] (fun iv wr => ∃ i : Nat, iv = .int .i64 i ∧ i ≤ len0 ∧ Hid (∃ L, Mid W0 wr p q kb L)) (fun iv _ => len0 - (intOf iv).toNat)
    case atStart => exact ⟨0, rfl, Nat.zero_le _, ⟨[], H3.out⟩⟩
    case round =>
      clear H3
      obtain ⟨i, rfl, hi, HML⟩ := hrel
      have h0 : (0 : Int) ≤ (i : Int) := by omega
      by_cases hlt : i < len0
      · have h1 : (i : Int) < (len0 : Int) := by omega
        obtain ⟨L, hM⟩ := HML.out
        have HM : Hid (Mid W0 wr p q kb L) := hM
        clear hM HML
        obtain ⟨x, hx⟩ : ∃ x, z0[i]? = some x := ⟨_, List.getElem?_eq_getElem (by rw [HL.out]; exact hlt)⟩
        obtain ⟨hin, ho1, ho2⟩ := HA.out.ins x (List.mem_of_getElem? hx)
        obtain ⟨b, off, rfl, hcv⟩ : ∃ b off, a0 = some ⟨b, off, none⟩ ∧ (w.cell? ⟨b, off + i * 5, none⟩ = some (.int .i64 x.op) ∧ CVerAt w b (off + i * 5 + 1) x.V) := by
          rcases HA.out.cells with e | ⟨b, off, e, hc⟩
          · rw [e] at hx; simp at hx
          · exact ⟨b, off, e, hc i x hx⟩
        have HBW : Hid (Below w.heap.size w wr) := HBW0.out _ HM.out.1.below
        have q0 := (HBW.out.cell (p := ⟨b, off + i * 5, none⟩) (lt_of_cell hcv.1)).trans hcv.1
        have hcw := hcv.2.past HBW.out
        have q1 := hcw.c0
        have q2 := hcw.c1
        have q3 := hcw.c2
        have q4 := hcw.c3
        have hsz := strOfNums_size x.V.v
        obtain ⟨op, hop⟩ : ∃ t, t = x.op := ⟨_, rfl⟩
        obtain ⟨V, hV⟩ : ∃ V, V = x.V := ⟨_, rfl⟩
        rw [← hop] at q0 ho1 ho2
        rw [← hV] at q1 q2 q3 q4 hsz hin
        obtain ⟨t1, ht1⟩ : ∃ t, t = V.t := ⟨_, rfl⟩
        obtain ⟨n1, hn1⟩ : ∃ t, t = V.n := ⟨_, rfl⟩
        obtain ⟨S1, hS1⟩ : ∃ t, t = strOfNums V.v := ⟨_, rfl⟩
        obtain ⟨g1, hg1⟩ : ∃ t, t = V.g := ⟨_, rfl⟩
        have hmx : S1.size ≤ 9223372036854775807 := by rw [hS1, hsz]; exact hin.few
        have HCVV : Hid (cvv V = .agg #[.int .i64 t1, .int .u8 n1, .string S1, .bool g1]) := by show _ = _; rw [ht1, hn1, hS1, hg1]
        have HIN : Hid (VerIn V) := hin
        have HSZ : Hid (S1.size = V.v.length) := by show _ = _; rw [hS1]; exact hsz
        rw [← ht1] at q1
        rw [← hn1] at q2
        rw [← hS1] at q3
        rw [← hg1] at q4
        have HRD : Hid (Rnd W0 (wr.alloc (.cells #[.int .i64 op, .int .i64 t1, .int .u8 n1, .string S1, .bool g1] 44)) p q kb wr.heap.size L L t1 n1 S1 g1) := HM.out.round op t1 n1 S1 g1 44
        clear hop hV ht1 hn1 hS1 hg1 hx hin hcv hcw hsz
        by_cases h300 : 300 < S1.size
        · have b300 : (300 : Int) < (S1.size : Int) := by omega
          go_wp2
          go_ret
          exact ⟨rfl, HBW.out.alloc HBW.out.size _⟩
        · have b300 : ¬ (300 : Int) < (S1.size : Int) := by omega
          have HOK : Hid (VerOk V) := HIN.out.ok (by rw [← HSZ.out]; omega)
          go_upto_if 46 with (fail)
          go_cut [8] (fun iv wx => iv = .int .i64 i ∧ Hid (∃ L', Mid W0 wx p q kb L'))
          case first =>
            as_aux_lemma =>
              by_cases hop : op = 0
              · subst hop
                obtain ⟨r1, hr1⟩ : ∃ r, r = (putV L V).1 := ⟨_, rfl⟩
                obtain ⟨L2, hL2⟩ : ∃ l, l = (putV L V).2 := ⟨_, rfl⟩
                have CP : Hid (∀ u, Rnd W0 u p q kb wr.heap.size L L t1 n1 S1 g1 → Calls Try.prog 10 #[.pointer (some ⟨p, 0, none⟩), .agg #[.int .i64 t1, .int .u8 n1, .string S1, .bool g1]] u fun e w' => e = .returned (.int .i64 r1) ∧ Rnd W0 w' p q kb wr.heap.size L2 L t1 n1 S1 g1) := fun u h => by rw [hr1, hL2, ← HCVV.out]; exact qput_any h HIN.out
                have CO : Hid (∀ u, Calls Try.prog 15 #[.agg #[.int .i64 t1, .int .u8 n1, .string S1, .bool g1]] u fun e w' => e = .returned (vv V) ∧ Below u.heap.size u w') := fun u => by rw [← HCVV.out]; exact lone_any V HIN.out.key u
                have CQ : Hid (∀ u, Rnd W0 u p q kb wr.heap.size L2 L t1 n1 S1 g1 → Calls Try.prog 14 #[.pointer (some ⟨q, 0, none⟩), vv V] u fun e w' => e = .returned (.int .i64 r1) ∧ Rnd W0 w' p q kb wr.heap.size L2 L2 t1 n1 S1 g1) := fun u h => by
                  have h2 := qrput_any h HOK.out (by have := HM.out.1.chn.few; omega)
                  rw [← hr1, ← hL2] at h2
                  exact h2
                clear hr1 hL2
                go_wp2
                refine wp_region_noPanic ?_
                refine wp_region_held_drew (S := fun u => XF u wr.heap.size t1 n1 S1 g1) (by kernel_rfl) ?_ (fun hHeld => ?_)
                · exact (HRD.out.past (Below.refl _ _).drew).2.2
                refine wpAnyH_take (i := 0) (v := ?_) rfl (by kernel_rfl) (by kernel_rfl) (by kernel_rfl) (fun _ _ _ h => h) (Or.inl ⟨by rfl, ?_⟩) hHeld ?_
                rotate_left
                · intro u hSu
                  (go_simp) <;> (with_reducible rfl)
                change wpAnyH _ _ _ _ _ _ _ (Act.put _ (some 47) _) _
                simp only [Act.put, List.setIfInBounds_toArray, List.set_cons_zero, List.set_cons_succ]
                refine wpAnyH_take (i := 1) (v := ?_) rfl (by kernel_rfl) (by kernel_rfl) (by kernel_rfl) (fun _ _ _ h => h) (Or.inl ⟨by rfl, ?_⟩) hHeld ?_
                rotate_left
                · intro u hSu
                  (go_simp) <;> (with_reducible rfl)
                change wpAnyH _ _ _ _ _ _ _ (Act.put _ (some 48) _) _
                simp only [Act.put, List.setIfInBounds_toArray, List.set_cons_zero, List.set_cons_succ]
                refine wpAnyH_take (i := 2) (v := ?_) rfl (by kernel_rfl) (by kernel_rfl) (by kernel_rfl) (fun _ _ _ h => h) (Or.inl ⟨by rfl, ?_⟩) hHeld ?_
                rotate_left
                · intro u hSu
                  obtain ⟨y1, y2, y3, y4⟩ := hSu
                  (go_simp) <;> (with_reducible rfl)
                change wpAnyH _ _ _ _ _ _ _ (Act.put _ (some 49) _) _
                simp only [Act.put, List.setIfInBounds_toArray, List.set_cons_zero, List.set_cons_succ]
                refine wpAnyH_take (i := 4) (v := ?_) rfl (by kernel_rfl) (by kernel_rfl) (by kernel_rfl) (fun _ _ _ h => h) (Or.inl ⟨by rfl, ?_⟩) hHeld ?_
                rotate_left
                · intro u hSu
                  (go_simp) <;> (with_reducible rfl)
                change wpAnyH _ _ _ _ _ _ _ (Act.put _ (some 51) _) _
                simp only [Act.put, List.setIfInBounds_toArray, List.set_cons_zero, List.set_cons_succ]
                refine wpAnyH_take (i := 5) (v := ?_) rfl (by kernel_rfl) (by kernel_rfl) (by kernel_rfl) (fun _ _ _ h => h) (Or.inl ⟨by rfl, ?_⟩) hHeld ?_
                rotate_left
                · intro u hSu
                  (go_simp) <;> (with_reducible rfl)
                change wpAnyH _ _ _ _ _ _ _ (Act.put _ (some 52) _) _
                simp only [Act.put, List.setIfInBounds_toArray, List.set_cons_zero, List.set_cons_succ]
                refine wpAnyH_take (i := 6) (v := ?_) rfl (by kernel_rfl) (by kernel_rfl) (by kernel_rfl) (fun _ _ _ h => h) (Or.inl ⟨by rfl, ?_⟩) hHeld ?_
                rotate_left
                · intro u hSu
                  obtain ⟨y1, y2, y3, y4⟩ := hSu
                  (go_simp) <;> (with_reducible rfl)
                change wpAnyH _ _ _ _ _ _ _ (Act.put _ (some 53) _) _
                simp only [Act.put, List.setIfInBounds_toArray, List.set_cons_zero, List.set_cons_succ]
                refine wpAnyH_ready (rs := [3]) (by kernel_rfl) (by simp) ?_
                refine AllReadyH.cons rfl (fun K hK => ?_) AllReadyH.nil
                go_simp
                go_at_call 10
                refine (CP.out _ (HRD.out.past (Below.refl _ _).drew)).mono ?_
                rintro e x1 ⟨rfl, hx1⟩
                have R1 : Hid (Rnd W0 x1 p q kb wr.heap.size L2 L t1 n1 S1 g1) := hx1
                clear hx1
                refine hK.out _ _ ?_ (fun hHeld2 => ?_)
                · exact R1.out.2.2
                clear hK K hHeld
                have hHeld := hHeld2
                clear hHeld2
                refine wpAnyH_ready (rs := [7]) (by kernel_rfl) (by simp) ?_
                refine AllReadyH.cons rfl (fun K hK => ?_) AllReadyH.nil
                go_simp
                go_at_call 15
                refine (CO.out _).mono ?_
                rintro e x2 ⟨rfl, hx2⟩
                have R2 : Hid (Rnd W0 x2 p q kb wr.heap.size L2 L t1 n1 S1 g1) := R1.out.past hx2
                clear hx2 R1
                refine hK.out _ _ ?_ (fun hHeld2 => ?_)
                · exact R2.out.2.2
                clear hK K hHeld
                have hHeld := hHeld2
                clear hHeld2
                refine wpAnyH_ready (rs := [8]) (by kernel_rfl) (by simp) ?_
                refine AllReadyH.cons rfl (fun K hK => ?_) AllReadyH.nil
                go_simp
                go_at_call 14
                refine (CQ.out _ R2.out).mono ?_
                rintro e x3 ⟨rfl, hx3⟩
                have R3 : Hid (Rnd W0 x3 p q kb wr.heap.size L2 L2 t1 n1 S1 g1) := hx3
                clear hx3 R2
                refine hK.out _ _ ?_ (fun hHeld2 => ?_)
                · exact R3.out.2.2
                clear hK K hHeld
                have hHeld := hHeld2
                clear hHeld2
                refine wpAnyH_take (i := 9) (v := ?_) rfl (by kernel_rfl) (by kernel_rfl) (by kernel_rfl) (fun _ _ _ h => h) (Or.inl ⟨by rfl, ?_⟩) hHeld ?_
                rotate_left
                · intro u hSu
                  (go_simp) <;> (with_reducible rfl)
                change wpAnyH _ _ _ _ _ _ _ (Act.put _ (some 56) _) _
                simp only [Act.put, List.setIfInBounds_toArray, List.set_cons_zero, List.set_cons_succ]
                refine wpAnyH_done (by kernel_rfl) ?_ _
                refine NoPanic.normal ?_
                go_wp2
                go_meet
                case rel => exact ⟨rfl, L2, R3.out.mid⟩
              · have bop : (op == 0) = false := by simpa using hop
                obtain ⟨d3, hd3⟩ : ∃ d, d = (L.length : Int) - ((restV L t1 n1).length : Int) := ⟨_, rfl⟩
                obtain ⟨L2, hL2⟩ : ∃ l, l = restV L t1 n1 := ⟨_, rfl⟩
                have CP : Hid (∀ u, Rnd W0 u p q kb wr.heap.size L L t1 n1 S1 g1 → Calls Try.prog 12 #[.pointer (some ⟨p, 0, none⟩), .agg #[.int .i64 t1, .int .u8 n1]] u fun e w' => e = .returned (.int .i64 d3) ∧ Rnd W0 w' p q kb wr.heap.size L2 L t1 n1 S1 g1) := fun u h => by rw [hd3, hL2]; exact qtrim_any h t1 n1
                have CQ : Hid (∀ u, Rnd W0 u p q kb wr.heap.size L2 L t1 n1 S1 g1 → Calls Try.prog 16 #[.pointer (some ⟨q, 0, none⟩), .agg #[.int .i64 t1, .int .u8 n1]] u fun e w' => e = .returned (.int .i64 d3) ∧ Rnd W0 w' p q kb wr.heap.size L2 L2 t1 n1 S1 g1) := fun u h => by
                  have h2 := qrtrim_any h t1 n1
                  rw [← hd3, ← hL2] at h2
                  exact h2
                clear hd3 hL2 hop
                go_wp2
                refine wp_region_noPanic ?_
                refine wp_region_held_drew (S := fun u => XF u wr.heap.size t1 n1 S1 g1) (by kernel_rfl) ?_ (fun hHeld => ?_)
                · exact (HRD.out.past (Below.refl _ _).drew).2.2
                refine wpAnyH_take (i := 0) (v := ?_) rfl (by kernel_rfl) (by kernel_rfl) (by kernel_rfl) (fun _ _ _ h => h) (Or.inl ⟨by rfl, ?_⟩) hHeld ?_
                rotate_left
                · intro u hSu
                  (go_simp) <;> (with_reducible rfl)
                change wpAnyH _ _ _ _ _ _ _ (Act.put _ (some 57) _) _
                simp only [Act.put, List.setIfInBounds_toArray, List.set_cons_zero, List.set_cons_succ]
                refine wpAnyH_take (i := 1) (v := ?_) rfl (by kernel_rfl) (by kernel_rfl) (by kernel_rfl) (fun _ _ _ h => h) (Or.inl ⟨by rfl, ?_⟩) hHeld ?_
                rotate_left
                · intro u hSu
                  (go_simp) <;> (with_reducible rfl)
                change wpAnyH _ _ _ _ _ _ _ (Act.put _ (some 58) _) _
                simp only [Act.put, List.setIfInBounds_toArray, List.set_cons_zero, List.set_cons_succ]
                refine wpAnyH_take (i := 2) (v := ?_) rfl (by kernel_rfl) (by kernel_rfl) (by kernel_rfl) (fun _ _ _ h => h) (Or.inl ⟨by rfl, ?_⟩) hHeld ?_
                rotate_left
                · intro u hSu
                  (go_simp) <;> (with_reducible rfl)
                change wpAnyH _ _ _ _ _ _ _ (Act.put _ (some 59) _) _
                simp only [Act.put, List.setIfInBounds_toArray, List.set_cons_zero, List.set_cons_succ]
                refine wpAnyH_take (i := 3) (v := ?_) rfl (by kernel_rfl) (by kernel_rfl) (by kernel_rfl) (fun _ _ _ h => h) (Or.inl ⟨by rfl, ?_⟩) hHeld ?_
                rotate_left
                · intro u hSu
                  obtain ⟨y1, y2, y3, y4⟩ := hSu
                  (go_simp) <;> (with_reducible rfl)
                change wpAnyH _ _ _ _ _ _ _ (Act.put _ (some 60) _) _
                simp only [Act.put, List.setIfInBounds_toArray, List.set_cons_zero, List.set_cons_succ]
                refine wpAnyH_take (i := 5) (v := ?_) rfl (by kernel_rfl) (by kernel_rfl) (by kernel_rfl) (fun _ _ _ h => h) (Or.inl ⟨by rfl, ?_⟩) hHeld ?_
                rotate_left
                · intro u hSu
                  (go_simp) <;> (with_reducible rfl)
                change wpAnyH _ _ _ _ _ _ _ (Act.put _ (some 62) _) _
                simp only [Act.put, List.setIfInBounds_toArray, List.set_cons_zero, List.set_cons_succ]
                refine wpAnyH_take (i := 6) (v := ?_) rfl (by kernel_rfl) (by kernel_rfl) (by kernel_rfl) (fun _ _ _ h => h) (Or.inl ⟨by rfl, ?_⟩) hHeld ?_
                rotate_left
                · intro u hSu
                  (go_simp) <;> (with_reducible rfl)
                change wpAnyH _ _ _ _ _ _ _ (Act.put _ (some 63) _) _
                simp only [Act.put, List.setIfInBounds_toArray, List.set_cons_zero, List.set_cons_succ]
                refine wpAnyH_take (i := 7) (v := ?_) rfl (by kernel_rfl) (by kernel_rfl) (by kernel_rfl) (fun _ _ _ h => h) (Or.inl ⟨by rfl, ?_⟩) hHeld ?_
                rotate_left
                · intro u hSu
                  (go_simp) <;> (with_reducible rfl)
                change wpAnyH _ _ _ _ _ _ _ (Act.put _ (some 64) _) _
                simp only [Act.put, List.setIfInBounds_toArray, List.set_cons_zero, List.set_cons_succ]
                refine wpAnyH_take (i := 8) (v := ?_) rfl (by kernel_rfl) (by kernel_rfl) (by kernel_rfl) (fun _ _ _ h => h) (Or.inl ⟨by rfl, ?_⟩) hHeld ?_
                rotate_left
                · intro u hSu
                  obtain ⟨y1, y2, y3, y4⟩ := hSu
                  (go_simp) <;> (with_reducible rfl)
                change wpAnyH _ _ _ _ _ _ _ (Act.put _ (some 65) _) _
                simp only [Act.put, List.setIfInBounds_toArray, List.set_cons_zero, List.set_cons_succ]
                refine wpAnyH_ready (rs := [4]) (by kernel_rfl) (by simp) ?_
                refine AllReadyH.cons rfl (fun K hK => ?_) AllReadyH.nil
                go_simp
                go_at_call 12
                refine (CP.out _ (HRD.out.past (Below.refl _ _).drew)).mono ?_
                rintro e x1 ⟨rfl, hx1⟩
                have R1 : Hid (Rnd W0 x1 p q kb wr.heap.size L2 L t1 n1 S1 g1) := hx1
                clear hx1
                refine hK.out _ _ ?_ (fun hHeld2 => ?_)
                · exact R1.out.2.2
                clear hK K hHeld
                have hHeld := hHeld2
                clear hHeld2
                refine wpAnyH_ready (rs := [9]) (by kernel_rfl) (by simp) ?_
                refine AllReadyH.cons rfl (fun K hK => ?_) AllReadyH.nil
                go_simp
                go_at_call 16
                refine (CQ.out _ R1.out).mono ?_
                rintro e x3 ⟨rfl, hx3⟩
                have R3 : Hid (Rnd W0 x3 p q kb wr.heap.size L2 L2 t1 n1 S1 g1) := hx3
                clear hx3 R1
                refine hK.out _ _ ?_ (fun hHeld2 => ?_)
                · exact R3.out.2.2
                clear hK K hHeld
                have hHeld := hHeld2
                clear hHeld2
                refine wpAnyH_take (i := 10) (v := ?_) rfl (by kernel_rfl) (by kernel_rfl) (by kernel_rfl) (fun _ _ _ h => h) (Or.inl ⟨by rfl, ?_⟩) hHeld ?_
                rotate_left
                · intro u hSu
                  (go_simp) <;> (with_reducible rfl)
                change wpAnyH _ _ _ _ _ _ _ (Act.put _ (some 67) _) _
                simp only [Act.put, List.setIfInBounds_toArray, List.set_cons_zero, List.set_cons_succ]
                refine wpAnyH_done (by kernel_rfl) ?_ _
                refine NoPanic.normal ?_
                go_wp2
                go_meet
                case rel => exact ⟨rfl, L2, R3.out.mid⟩
          case rest =>
            obtain ⟨rfl, HR⟩ := hcut
            clear HRD HM HCVV HIN HSZ HOK q0 q1 q2 q3 q4 HBW b300 h300 hmx ho1 ho2
            obtain ⟨L, hM⟩ := HR.out
            have HM : Hid (Mid W0 wc p q kb L) := hM
            clear hM HR
            have HCH : Hid (Chn L) := HM.out.1.chn
            obtain ⟨A, hA⟩ : ∃ A, A = orZero (atV L zeroK a1 b1) := ⟨_, rfl⟩
            obtain ⟨pa, hpa⟩ : ∃ b, b = (atV L zeroK a1 b1).isSome := ⟨_, rfl⟩
            obtain ⟨B, hB⟩ : ∃ B, B = orZero (newestV L zeroK) := ⟨_, rfl⟩
            obtain ⟨ra, hra⟩ : ∃ b, b = (newestV L zeroK).isSome := ⟨_, rfl⟩
            have HAO : Hid (VerOk A ∧ A.k = zeroK) := ⟨by rw [hA]; exact chn_at HCH.out a1 b1, by rw [hA]; exact chn_key HCH.out a1 b1⟩
            obtain ⟨sn, hsn⟩ : ∃ k, k = sinceV L a1 b1 := ⟨_, rfl⟩
            obtain ⟨N, hN⟩ : ∃ k, k = L.length := ⟨_, rfl⟩
            obtain ⟨tx, nx, X1, gx, e1, e2, e3, e4⟩ : ∃ t n s g, t = A.t ∧ n = A.n ∧ s = strOfNums A.v ∧ g = A.g := ⟨_, _, _, _, rfl, rfl, rfl, rfl⟩
            obtain ⟨ty, ny, Y1, gy, f1, f2, f3, f4⟩ : ∃ t n s g, t = B.t ∧ n = B.n ∧ s = strOfNums B.v ∧ g = B.g := ⟨_, _, _, _, rfl, rfl, rfl, rfl⟩
            have HCA : Hid (cvv A = .agg #[.int .i64 tx, .int .u8 nx, .string X1, .bool gx]) := by show _ = _; rw [e1, e2, e3, e4]
            have HCB : Hid (cvv B = .agg #[.int .i64 ty, .int .u8 ny, .string Y1, .bool gy]) := by show _ = _; rw [f1, f2, f3, f4]
            have CA : Hid (∀ u, Mid W0 u p q kb L → Calls Try.prog 17 #[.pointer (some ⟨p, 0, none⟩), .agg #[.int .i64 a1, .int .u8 b1]] u fun e w' => e = .returned (.tuple #[.agg #[.int .i64 tx, .int .u8 nx, .string X1, .bool gx], .bool pa]) ∧ Below u.heap.size u w') := fun u h => by rw [← HCA.out, hA, hpa]; obtain ⟨X, hX⟩ := h.1.cd; exact cat_any p L X a1 b1 u hX
            have CB : Hid (∀ u, Mid W0 u p q kb L → Calls Try.prog 18 #[.pointer (some ⟨q, 0, none⟩), kv zeroK, .agg #[.int .i64 a1, .int .u8 b1]] u fun e w' => e = .returned (.tuple #[vv A, .bool pa]) ∧ Below u.heap.size u w') := fun u h => by rw [hA, hpa]; exact rat10_any W0.heap.size q L zeroK a1 b1 zeroK_ky u h.1.store
            have CN2 : Hid (∀ u, Mid W0 u p q kb L → Calls Try.prog 19 #[.pointer (some ⟨p, 0, none⟩)] u fun e w' => e = .returned (.tuple #[.agg #[.int .i64 ty, .int .u8 ny, .string Y1, .bool gy], .bool ra]) ∧ Below u.heap.size u w') := fun u h => by rw [← HCB.out, hB, hra]; obtain ⟨X, hX⟩ := h.1.cd; exact cnewest_any p L X u hX
            have CM : Hid (∀ u, Mid W0 u p q kb L → Calls Try.prog 20 #[.pointer (some ⟨q, 0, none⟩), kv zeroK] u fun e w' => e = .returned (.tuple #[.agg #[.int .i64 ty, .int .u8 ny], .bool ra]) ∧ Below u.heap.size u w') := fun u h => by
              have h2 := rnewest_any W0.heap.size q L zeroK zeroK_ky u h.1.store
              rw [(new_zero (newestV L zeroK)).1, (new_zero (newestV L zeroK)).2, ← hB, ← hra, ← f1, ← f2] at h2
              exact h2
            have CS : Hid (∀ u, Mid W0 u p q kb L → Calls Try.prog 22 #[.pointer (some ⟨p, 0, none⟩), .agg #[.int .i64 a1, .int .u8 b1]] u fun e w' => e = .returned (.int .i64 (sn : Nat)) ∧ Below u.heap.size u w') := fun u h => by rw [hsn]; obtain ⟨X, hX⟩ := h.1.cd; exact csince_any p L X a1 b1 u hX
            have CL : Hid (∀ u, Mid W0 u p q kb L → Calls Try.prog 23 #[.pointer (some ⟨p, 0, none⟩)] u fun e w' => e = .returned (.int .i64 (N : Nat)) ∧ Below u.heap.size u w') := fun u h => by rw [hN]; obtain ⟨X, hX⟩ := h.1.cd; exact clen_any p L X u hX
            have CAL : Hid (∀ u, Mid W0 u p q kb L → Calls Try.prog 13 #[.pointer (some ⟨p, 0, none⟩)] u fun e w' => (∃ a c, e = .returned (.slice a N c) ∧ CVersOf w' a c L) ∧ Below u.heap.size u w') := fun u h => by rw [hN]; obtain ⟨X, hX⟩ := h.1.cd; exact call_any p L X u hX
            have CV : Hid (∀ u a c, CVersOf u a c L → Calls Try.prog 25 #[.slice a N c] u fun e w' => (∃ a' c', e = .returned (.slice a' N c') ∧ w'.ownsRow u.heap.size 47 20 (.slice a' N c') N (L.flatMap encV)) ∧ Below u.heap.size u w') := fun u a c h => lvers_any a N c L u hN.symm (by have := HCH.out.few; omega) h
            have CSM : Hid (∀ u a c, Mid W0 u p q kb L → u.ownsRow W0.heap.size 47 20 (.slice a N c) N (L.flatMap encV) → Calls Try.prog 24 #[.pointer (some ⟨u.heap.size, 0, none⟩), .pointer (some ⟨q, 0, none⟩)] (u.alloc (.cells #[.slice a N c] 40)) fun e w' => e = .returned (.bool true) ∧ Below (u.alloc (.cells #[.slice a N c] 40)).heap.size (u.alloc (.cells #[.slice a N c] 40)) w') := fun u a c h ho => by
              have hb : Below u.heap.size u (u.alloc (.cells #[.slice a N c] 40)) := (Below.refl _ _).alloc (Nat.le_refl _) _
              exact same_yes u.heap.size q L L _ (store_made hN.symm ho h.1.below.size (chn_ok HCH.out) (by have := HCH.out.few; omega) 40).looks (h.1.store.past hb).looks rfl
            have CO : Hid (∀ u, Calls Try.prog 15 #[.agg #[.int .i64 tx, .int .u8 nx, .string X1, .bool gx]] u fun e w' => e = .returned (vv A) ∧ Below u.heap.size u w') := fun u => by rw [← HCA.out]; exact lone_any A HAO.out.2 u
            have HEQ : Hid (∀ u, (Op.equalIn 10000 47 (vv A) (vv A)).run Try.prog u = .ok true u) := fun u => eq_yes u HAO.out.1 HAO.out.1 rfl
            have HKY : Hid (Ky A.k) := HAO.out.1.key
            have hN50 : N ≤ 50 := by rw [hN]; exact HCH.out.few
            have HNL : Hid (L.length = N) := hN.symm
            have HSN : Hid (sn = sinceV L a1 b1) := hsn
            clear hA hpa hB hra e1 e2 e3 e4 f1 f2 f3 f4 hsn hN HCA HCB HAO
            obtain ⟨s0, s1⟩ := HS.out wc HM.out.1.below
            go_wp2_with (first | (have hgo := HM.out; clear hgo; go_at_call 17; refine (CA.out _ HM.out).mono ?_; rintro e w5 ⟨rfl, hb5⟩; have M5 : Hid (Mid W0 (w5.alloc (.cells #[.int .i64 tx, .int .u8 nx, .string X1, .bool gx] 31)) p q kb L ∧ BxA (w5.alloc (.cells #[.int .i64 tx, .int .u8 nx, .string X1, .bool gx] 31)) w5.heap.size tx nx X1 gx) := ⟨(HM.out.past hb5).past ((Below.refl _ _).alloc (Nat.le_refl _) _), BxA.made w5 31 tx nx X1 gx⟩; clear hb5 HM CA s0 s1; obtain ⟨s0, s1⟩ := HS.out _ M5.out.1.1.below) | (have hgo := M5.out; clear hgo; refine wpList_load_keyD 76 (by rfl) (by rfl) _ (by rfl) kb 0 (by rfl) zeroK zeroK_ky M5.out.1.2 ?_) | (have hgo := M5.out; clear hgo; go_at_call 18; refine (CB.out _ M5.out.1).mono ?_; rintro e w6 ⟨rfl, hb6⟩; have V6 : Hid (VerMine (w6.alloc (.cells (encV zeroV).toArray 47)) w6.heap.size 0 zeroV) := VerMine.made w6 47 zeroV zeroV_ky; have M6 : Hid (Mid W0 w6 p q kb L ∧ BxA w6 w5.heap.size tx nx X1 gx) := ⟨M5.out.1.past hb6, M5.out.2.past hb6⟩; have B6 : Hid (Below w6.heap.size w6 (w6.alloc (.cells (encV zeroV).toArray 47))) := (Below.refl _ _).alloc (Nat.le_refl _) _; rw [zeroV_cells] at V6 B6; clear hb6 M5 CB s0 s1) | (have hgo := V6.out; clear hgo; refine wpList_store_ver (.tmp 12) (by rfl) _ (by rfl) w6.heap.size 0 zeroV A (by rfl) (by rfl) HKY.out V6.out ?_; intro u7 hu; have M7 : Hid (Mid W0 u7 p q kb L ∧ BxA u7 w5.heap.size tx nx X1 gx ∧ VerAt u7 w6.heap.size 0 A) := seven_past M6.out.1 M6.out.2 V6.out HKY.out B6.out hu; clear hu V6 B6 M6) | (have hgo := M7.out; clear hgo; go_at_call 19; refine (CN2.out _ M7.out.1).mono ?_; rintro e w8 ⟨rfl, hb8⟩; have M8 : Hid (Mid W0 (w8.alloc (.cells #[.int .i64 ty, .int .u8 ny, .string Y1, .bool gy] 31)) p q kb L ∧ BxA (w8.alloc (.cells #[.int .i64 ty, .int .u8 ny, .string Y1, .bool gy] 31)) w5.heap.size tx nx X1 gx ∧ VerAt (w8.alloc (.cells #[.int .i64 ty, .int .u8 ny, .string Y1, .bool gy] 31)) w6.heap.size 0 A ∧ BxA (w8.alloc (.cells #[.int .i64 ty, .int .u8 ny, .string Y1, .bool gy] 31)) w8.heap.size ty ny Y1 gy) := eight_past M7.out.1 M7.out.2.1 M7.out.2.2 hb8 ty ny Y1 gy 31; clear hb8 M7 CN2) | (have hgo := M8.out; clear hgo; refine wpList_load_keyD 88 (by rfl) (by rfl) _ (by rfl) kb 0 (by rfl) zeroK zeroK_ky M8.out.1.2 ?_) | (have hgo := M8.out; clear hgo; go_at_call 20; refine (CM.out _ M8.out.1).mono ?_; rintro e w9 ⟨rfl, hb9⟩; obtain ⟨U9, HU9, S9⟩ : ∃ U9, Hid (w9.alloc (.cells #[.int .i64 ty, .int .u8 ny] 28) = U9) ∧ Hid (Seen W0 U9 p q kb L w5.heap.size w6.heap.size w8.heap.size w9.heap.size A tx nx X1 gx ty ny Y1 gy) := nine_past M8.out.1 M8.out.2.1 M8.out.2.2.1 M8.out.2.2.2 hb9 28; clear hb9 M8 CM))
            rw [HU9.out]
            clear HU9
            generalize w5.heap.size = ab at S9 ⊢
            generalize w6.heap.size = vb at S9 ⊢
            generalize w8.heap.size = nb at S9 ⊢
            generalize w9.heap.size = mb at S9 ⊢
            obtain ⟨a9, c9, hcap9, hcell9, hlist9⟩ := S9.out.mid.1.store.open
            rw [HNL.out] at hcap9 hcell9
            have FC : Hid (∀ u, Below U9.heap.size U9 u → u.cell? ⟨q, 0, none⟩ = some (.slice a9 N c9)) := hcell9
            have FL : Hid (∀ z V, L[z]? = some V → ∃ g, a9 = some ⟨g, 0, none⟩ ∧ Hid (∀ v, Below U9.heap.size U9 v → VerAt v g (z * 20) V)) := fun z V hV => by
              rcases hlist9 with e | ⟨g, e, _, _, e4⟩
              · rw [e] at hV; simp at hV
              · exact ⟨g, e, fun v hb => e4 v hb z V hV⟩
            have HOKS : Hid (OkL L) := S9.out.mid.1.store.oks
            clear hcell9 hlist9
            go_loopw [18, 19] (fun sv zv wr => ∃ z c : Nat, zv = .int .i64 z ∧ sv = .int .i64 c ∧ z ≤ N ∧ c ≤ z ∧ Hid (Below U9.heap.size U9 wr ∧ c = sinceV (L.take z) a1 b1)) (fun _ zv _ => N - (intOf zv).toNat)
            case atStart => exact ⟨0, 0, rfl, rfl, Nat.zero_le _, Nat.le_refl _, Below.refl _ _, by rw [List.take_zero]; rfl⟩
            case round =>
              obtain ⟨z, c, rfl, rfl, hz, hcz, HZ⟩ := hrel
              have q0 := FC.out wr HZ.out.1
              have FT : Hid (∀ u, Below wr.heap.size wr u → u.cell? ⟨w.heap.size, 0, none⟩ = some (.int .i64 a1) ∧ u.cell? ⟨w.heap.size, 1, none⟩ = some (.int .u8 b1)) := fun u hu => HS.out u ((S9.out.past (HZ.out.1.trans (hu.mono HZ.out.1.size))).mid.1.below)
              by_cases hlz : z < N
              · as_aux_lemma =>
                  have hlz2 : (z : Int) < (N : Int) := by omega
                  obtain ⟨V1, hV1⟩ : ∃ V, L[z]? = some V := ⟨_, List.getElem?_eq_getElem (by rw [HNL.out]; exact hlz)⟩
                  have hVK : Ky V1.k := (HOKS.out V1 (List.mem_of_getElem? hV1)).key
                  obtain ⟨g, hag, HAT⟩ := FL.out z V1 hV1
                  have FQ : Hid (∀ u, Below wr.heap.size wr u → u.cell? ⟨q, 0, none⟩ = some (.slice (some ⟨g, 0, none⟩) N c9)) := fun u hu => by rw [← hag]; exact FC.out u (HZ.out.1.trans (hu.mono HZ.out.1.size))
                  obtain ⟨t2, n2, ht2, hn2⟩ : ∃ t n, t = V1.t ∧ n = V1.n := ⟨_, _, rfl, rfl⟩
                  have FV : Hid (∀ u, Below wr.heap.size wr u → u.cell? ⟨g, z * 20 + 16, none⟩ = some (.int .i64 t2) ∧ u.cell? ⟨g, z * 20 + 17, none⟩ = some (.int .u8 n2)) := fun u hu => by
                    have h3 := (HAT.out u (HZ.out.1.trans (hu.mono HZ.out.1.size))).cells hVK
                    rw [ht2, hn2]
                    exact ⟨h3.1, h3.2.1⟩
                  obtain ⟨c1, hc1⟩ : ∃ c, c = cmpS t2 n2 a1 b1 := ⟨_, rfl⟩
                  have CC : Hid (∀ u, Calls Try.prog 21 #[.agg #[.int .i64 t2, .int .u8 n2], .agg #[.int .i64 a1, .int .u8 b1]] u fun e w' => e = .returned (.int .i64 c1) ∧ Below u.heap.size u w') := fun u => by rw [hc1]; exact rcmp6_any t2 n2 a1 b1 u
                  have HST : Hid (sinceV (L.take (z + 1)) a1 b1 = sinceV (L.take z) a1 b1 + if 0 < c1 then 1 else 0) := by show _ = _; rw [hc1, ht2, hn2]; exact since_take hV1 a1 b1
                  subst hag
                  clear hV1 hVK ht2 hn2 hc1 HAT FL FC
                  by_cases hc : 0 < c1
                  · have dc : decide (0 < c1) = true := decide_eq_true hc
                    go_wp2
                    refine wp_region_noPanic ?_
                    refine wp_region_held_drew (S := fun u => Below wr.heap.size wr u) (by kernel_rfl) ?_ (fun hHeld => ?_)
                    · exact (Below.refl _ _).drew
                    refine wpAnyH_take (i := 0) (v := ?_) rfl (by kernel_rfl) (by kernel_rfl) (by kernel_rfl) (fun _ _ _ h => h) (Or.inl ⟨by rfl, ?_⟩) hHeld ?_
                    rotate_left
                    · intro u hSu
                      (go_simp) <;> (with_reducible rfl)
                    change wpAnyH _ _ _ _ _ _ _ (Act.put _ (some 101) _) _
                    simp only [Act.put, List.setIfInBounds_toArray, List.set_cons_zero, List.set_cons_succ]
                    refine wpAnyH_take (i := 1) (v := ?_) rfl (by kernel_rfl) (by kernel_rfl) (by kernel_rfl) (fun _ _ _ h => h) (Or.inl ⟨by rfl, ?_⟩) hHeld ?_
                    rotate_left
                    · intro u hSu
                      (go_simp) <;> (with_reducible rfl)
                    change wpAnyH _ _ _ _ _ _ _ (Act.put _ (some 102) _) _
                    simp only [Act.put, List.setIfInBounds_toArray, List.set_cons_zero, List.set_cons_succ]
                    refine wpAnyH_take (i := 2) (v := ?_) rfl (by kernel_rfl) (by kernel_rfl) (by kernel_rfl) (fun _ _ _ h => h) (Or.inl ⟨by rfl, ?_⟩) hHeld ?_
                    rotate_left
                    · intro u hSu
                      (go_simp) <;> (with_reducible rfl)
                    change wpAnyH _ _ _ _ _ _ _ (Act.put _ (some 103) _) _
                    simp only [Act.put, List.setIfInBounds_toArray, List.set_cons_zero, List.set_cons_succ]
                    refine wpAnyH_take (i := 3) (v := ?_) rfl (by kernel_rfl) (by kernel_rfl) (by kernel_rfl) (fun _ _ _ h => h) (Or.inl ⟨by rfl, ?_⟩) hHeld ?_
                    rotate_left
                    · intro u hSu
                      have y0 := FQ.out u hSu
                      (go_simp) <;> (with_reducible rfl)
                    change wpAnyH _ _ _ _ _ _ _ (Act.put _ (some 104) _) _
                    simp only [Act.put, List.setIfInBounds_toArray, List.set_cons_zero, List.set_cons_succ]
                    refine wpAnyH_take (i := 4) (v := ?_) rfl (by kernel_rfl) (by kernel_rfl) (by kernel_rfl) (fun _ _ _ h => h) (Or.inl ⟨by rfl, ?_⟩) hHeld ?_
                    rotate_left
                    · intro u hSu
                      (go_simp) <;> (with_reducible rfl)
                    change wpAnyH _ _ _ _ _ _ _ (Act.put _ (some 105) _) _
                    simp only [Act.put, List.setIfInBounds_toArray, List.set_cons_zero, List.set_cons_succ]
                    refine wpAnyH_take (i := 5) (v := ?_) rfl (by kernel_rfl) (by kernel_rfl) (by kernel_rfl) (fun _ _ _ h => h) (Or.inl ⟨by rfl, ?_⟩) hHeld ?_
                    rotate_left
                    · intro u hSu
                      (go_simp) <;> (with_reducible rfl)
                    change wpAnyH _ _ _ _ _ _ _ (Act.put _ (some 106) _) _
                    simp only [Act.put, List.setIfInBounds_toArray, List.set_cons_zero, List.set_cons_succ]
                    refine wpAnyH_take (i := 6) (v := ?_) rfl (by kernel_rfl) (by kernel_rfl) (by kernel_rfl) (fun _ _ _ h => h) (Or.inl ⟨by rfl, ?_⟩) hHeld ?_
                    rotate_left
                    · intro u hSu
                      (go_simp) <;> (with_reducible rfl)
                    change wpAnyH _ _ _ _ _ _ _ (Act.put _ (some 107) _) _
                    simp only [Act.put, List.setIfInBounds_toArray, List.set_cons_zero, List.set_cons_succ]
                    refine wpAnyH_take (i := 7) (v := ?_) rfl (by kernel_rfl) (by kernel_rfl) (by kernel_rfl) (fun _ _ _ h => h) (Or.inl ⟨by rfl, ?_⟩) hHeld ?_
                    rotate_left
                    · intro u hSu
                      obtain ⟨y0, y1⟩ := FV.out u hSu
                      (go_simp) <;> (with_reducible rfl)
                    change wpAnyH _ _ _ _ _ _ _ (Act.put _ (some 108) _) _
                    simp only [Act.put, List.setIfInBounds_toArray, List.set_cons_zero, List.set_cons_succ]
                    refine wpAnyH_take (i := 8) (v := ?_) rfl (by kernel_rfl) (by kernel_rfl) (by kernel_rfl) (fun _ _ _ h => h) (Or.inl ⟨by rfl, ?_⟩) hHeld ?_
                    rotate_left
                    · intro u hSu
                      obtain ⟨y0, y1⟩ := FT.out u hSu
                      (go_simp) <;> (with_reducible rfl)
                    change wpAnyH _ _ _ _ _ _ _ (Act.put _ (some 109) _) _
                    simp only [Act.put, List.setIfInBounds_toArray, List.set_cons_zero, List.set_cons_succ]
                    refine wpAnyH_ready (rs := [9]) (by kernel_rfl) (by simp) ?_
                    refine AllReadyH.cons rfl (fun K hK => ?_) AllReadyH.nil
                    go_simp
                    go_at_call 21
                    refine (CC.out _).mono ?_
                    rintro e x1 ⟨rfl, hbx1⟩
                    have Bx1 : Hid (Below wr.heap.size wr x1) := hHeld.trans (hbx1.mono hHeld.size)
                    clear hbx1
                    refine hK.out _ _ ?_ (fun hHeld2 => ?_)
                    · exact Bx1.out
                    clear hK K hHeld
                    have hHeld := hHeld2
                    clear hHeld2
                    refine wpAnyH_take (i := 10) (v := ?_) rfl (by kernel_rfl) (by kernel_rfl) (by kernel_rfl) (fun _ _ _ h => h) (Or.inl ⟨by rfl, ?_⟩) hHeld ?_
                    rotate_left
                    · intro u hSu
                      (go_simp) <;> (with_reducible rfl)
                    change wpAnyH _ _ _ _ _ _ _ (Act.put _ (some 111) _) _
                    simp only [Act.put, List.setIfInBounds_toArray, List.set_cons_zero, List.set_cons_succ]
                    refine wpAnyH_done (by kernel_rfl) ?_ _
                    refine NoPanic.normal ?_
                    go_wp2
                    go_roundw
                    case rel => exact ⟨z + 1, c + 1, by go_num, by go_num, by omega, by omega, HZ.out.1.trans (Bx1.out.mono HZ.out.1.size), by rw [HST.out, if_pos (by omega), HZ.out.2]⟩
                    case measure => simp [intOf]; omega
                  · have dc : decide (0 < c1) = false := decide_eq_false hc
                    go_wp2
                    refine wp_region_noPanic ?_
                    refine wp_region_held_drew (S := fun u => Below wr.heap.size wr u) (by kernel_rfl) ?_ (fun hHeld => ?_)
                    · exact (Below.refl _ _).drew
                    refine wpAnyH_take (i := 0) (v := ?_) rfl (by kernel_rfl) (by kernel_rfl) (by kernel_rfl) (fun _ _ _ h => h) (Or.inl ⟨by rfl, ?_⟩) hHeld ?_
                    rotate_left
                    · intro u hSu
                      (go_simp) <;> (with_reducible rfl)
                    change wpAnyH _ _ _ _ _ _ _ (Act.put _ (some 101) _) _
                    simp only [Act.put, List.setIfInBounds_toArray, List.set_cons_zero, List.set_cons_succ]
                    refine wpAnyH_take (i := 1) (v := ?_) rfl (by kernel_rfl) (by kernel_rfl) (by kernel_rfl) (fun _ _ _ h => h) (Or.inl ⟨by rfl, ?_⟩) hHeld ?_
                    rotate_left
                    · intro u hSu
                      (go_simp) <;> (with_reducible rfl)
                    change wpAnyH _ _ _ _ _ _ _ (Act.put _ (some 102) _) _
                    simp only [Act.put, List.setIfInBounds_toArray, List.set_cons_zero, List.set_cons_succ]
                    refine wpAnyH_take (i := 2) (v := ?_) rfl (by kernel_rfl) (by kernel_rfl) (by kernel_rfl) (fun _ _ _ h => h) (Or.inl ⟨by rfl, ?_⟩) hHeld ?_
                    rotate_left
                    · intro u hSu
                      (go_simp) <;> (with_reducible rfl)
                    change wpAnyH _ _ _ _ _ _ _ (Act.put _ (some 103) _) _
                    simp only [Act.put, List.setIfInBounds_toArray, List.set_cons_zero, List.set_cons_succ]
                    refine wpAnyH_take (i := 3) (v := ?_) rfl (by kernel_rfl) (by kernel_rfl) (by kernel_rfl) (fun _ _ _ h => h) (Or.inl ⟨by rfl, ?_⟩) hHeld ?_
                    rotate_left
                    · intro u hSu
                      have y0 := FQ.out u hSu
                      (go_simp) <;> (with_reducible rfl)
                    change wpAnyH _ _ _ _ _ _ _ (Act.put _ (some 104) _) _
                    simp only [Act.put, List.setIfInBounds_toArray, List.set_cons_zero, List.set_cons_succ]
                    refine wpAnyH_take (i := 4) (v := ?_) rfl (by kernel_rfl) (by kernel_rfl) (by kernel_rfl) (fun _ _ _ h => h) (Or.inl ⟨by rfl, ?_⟩) hHeld ?_
                    rotate_left
                    · intro u hSu
                      (go_simp) <;> (with_reducible rfl)
                    change wpAnyH _ _ _ _ _ _ _ (Act.put _ (some 105) _) _
                    simp only [Act.put, List.setIfInBounds_toArray, List.set_cons_zero, List.set_cons_succ]
                    refine wpAnyH_take (i := 5) (v := ?_) rfl (by kernel_rfl) (by kernel_rfl) (by kernel_rfl) (fun _ _ _ h => h) (Or.inl ⟨by rfl, ?_⟩) hHeld ?_
                    rotate_left
                    · intro u hSu
                      (go_simp) <;> (with_reducible rfl)
                    change wpAnyH _ _ _ _ _ _ _ (Act.put _ (some 106) _) _
                    simp only [Act.put, List.setIfInBounds_toArray, List.set_cons_zero, List.set_cons_succ]
                    refine wpAnyH_take (i := 6) (v := ?_) rfl (by kernel_rfl) (by kernel_rfl) (by kernel_rfl) (fun _ _ _ h => h) (Or.inl ⟨by rfl, ?_⟩) hHeld ?_
                    rotate_left
                    · intro u hSu
                      (go_simp) <;> (with_reducible rfl)
                    change wpAnyH _ _ _ _ _ _ _ (Act.put _ (some 107) _) _
                    simp only [Act.put, List.setIfInBounds_toArray, List.set_cons_zero, List.set_cons_succ]
                    refine wpAnyH_take (i := 7) (v := ?_) rfl (by kernel_rfl) (by kernel_rfl) (by kernel_rfl) (fun _ _ _ h => h) (Or.inl ⟨by rfl, ?_⟩) hHeld ?_
                    rotate_left
                    · intro u hSu
                      obtain ⟨y0, y1⟩ := FV.out u hSu
                      (go_simp) <;> (with_reducible rfl)
                    change wpAnyH _ _ _ _ _ _ _ (Act.put _ (some 108) _) _
                    simp only [Act.put, List.setIfInBounds_toArray, List.set_cons_zero, List.set_cons_succ]
                    refine wpAnyH_take (i := 8) (v := ?_) rfl (by kernel_rfl) (by kernel_rfl) (by kernel_rfl) (fun _ _ _ h => h) (Or.inl ⟨by rfl, ?_⟩) hHeld ?_
                    rotate_left
                    · intro u hSu
                      obtain ⟨y0, y1⟩ := FT.out u hSu
                      (go_simp) <;> (with_reducible rfl)
                    change wpAnyH _ _ _ _ _ _ _ (Act.put _ (some 109) _) _
                    simp only [Act.put, List.setIfInBounds_toArray, List.set_cons_zero, List.set_cons_succ]
                    refine wpAnyH_ready (rs := [9]) (by kernel_rfl) (by simp) ?_
                    refine AllReadyH.cons rfl (fun K hK => ?_) AllReadyH.nil
                    go_simp
                    go_at_call 21
                    refine (CC.out _).mono ?_
                    rintro e x1 ⟨rfl, hbx1⟩
                    have Bx1 : Hid (Below wr.heap.size wr x1) := hHeld.trans (hbx1.mono hHeld.size)
                    clear hbx1
                    refine hK.out _ _ ?_ (fun hHeld2 => ?_)
                    · exact Bx1.out
                    clear hK K hHeld
                    have hHeld := hHeld2
                    clear hHeld2
                    refine wpAnyH_take (i := 10) (v := ?_) rfl (by kernel_rfl) (by kernel_rfl) (by kernel_rfl) (fun _ _ _ h => h) (Or.inl ⟨by rfl, ?_⟩) hHeld ?_
                    rotate_left
                    · intro u hSu
                      (go_simp) <;> (with_reducible rfl)
                    change wpAnyH _ _ _ _ _ _ _ (Act.put _ (some 111) _) _
                    simp only [Act.put, List.setIfInBounds_toArray, List.set_cons_zero, List.set_cons_succ]
                    refine wpAnyH_done (by kernel_rfl) ?_ _
                    refine NoPanic.normal ?_
                    go_wp2
                    go_roundw
                    case rel => exact ⟨z + 1, c, by go_num, rfl, by omega, by omega, HZ.out.1.trans (Bx1.out.mono HZ.out.1.size), by rw [HST.out, if_neg (by omega), Nat.add_zero, HZ.out.2]⟩
                    case measure => simp [intOf]; omega
              · as_aux_lemma =>
                  obtain rfl : N = z := by omega
                  have hcs : sn = c := by rw [HSN.out, HZ.out.2, List.take_of_length_le (by rw [HNL.out]; exact Nat.le_refl _)]
                  subst hcs
                  have S10 : Hid (Seen W0 wr p q kb L ab vb nb mb A tx nx X1 gx ty ny Y1 gy) := S9.out.past HZ.out.1
                  have HMD : Hid (∀ u, Below wr.heap.size wr u → Mid W0 u p q kb L) := fun u hu => (S10.out.past hu).mid
                  have FQ : Hid (∀ u, Below wr.heap.size wr u → u.cell? ⟨q, 0, none⟩ = some (.slice a9 N c9)) := fun u hu => FC.out u (HZ.out.1.trans (hu.mono HZ.out.1.size))
                  have heq := HEQ.out
                  clear S9 FC FL HSN HZ
                  go_wp2
                  refine wp_region_noPanic ?_
                  refine wp_region_held_drew (S := fun u => Below wr.heap.size wr u) (by kernel_rfl) ?_ (fun hHeld => ?_)
                  · exact (Below.refl _ _).drew
                  refine wpAnyH_take (i := 0) (v := ?_) rfl (by kernel_rfl) (by kernel_rfl) (by kernel_rfl) (fun _ _ _ h => h) (Or.inl ⟨by rfl, ?_⟩) hHeld ?_
                  rotate_left
                  · intro u hSu
                    (go_simp) <;> (with_reducible rfl)
                  change wpAnyH _ _ _ _ _ _ _ (Act.put _ (some 114) _) _
                  simp only [Act.put, List.setIfInBounds_toArray, List.set_cons_zero, List.set_cons_succ]
                  refine wpAnyH_take (i := 1) (v := ?_) rfl (by kernel_rfl) (by kernel_rfl) (by kernel_rfl) (fun _ _ _ h => h) (Or.inl ⟨by rfl, ?_⟩) hHeld ?_
                  rotate_left
                  · intro u hSu
                    (go_simp) <;> (with_reducible rfl)
                  change wpAnyH _ _ _ _ _ _ _ (Act.put _ (some 115) _) _
                  simp only [Act.put, List.setIfInBounds_toArray, List.set_cons_zero, List.set_cons_succ]
                  refine wpAnyH_take (i := 2) (v := ?_) rfl (by kernel_rfl) (by kernel_rfl) (by kernel_rfl) (fun _ _ _ h => h) (Or.inl ⟨by rfl, ?_⟩) hHeld ?_
                  rotate_left
                  · intro u hSu
                    (go_simp) <;> (with_reducible rfl)
                  change wpAnyH _ _ _ _ _ _ _ (Act.put _ (some 116) _) _
                  simp only [Act.put, List.setIfInBounds_toArray, List.set_cons_zero, List.set_cons_succ]
                  refine wpAnyH_take (i := 3) (v := ?_) rfl (by kernel_rfl) (by kernel_rfl) (by kernel_rfl) (fun _ _ _ h => h) (Or.inl ⟨by rfl, ?_⟩) hHeld ?_
                  rotate_left
                  · intro u hSu
                    (go_simp) <;> (with_reducible rfl)
                  change wpAnyH _ _ _ _ _ _ _ (Act.put _ (some 117) _) _
                  simp only [Act.put, List.setIfInBounds_toArray, List.set_cons_zero, List.set_cons_succ]
                  refine wpAnyH_take (i := 4) (v := ?_) rfl (by kernel_rfl) (by kernel_rfl) (by kernel_rfl) (fun _ _ _ h => h) (Or.inl ⟨by rfl, ?_⟩) hHeld ?_
                  rotate_left
                  · intro u hSu
                    obtain ⟨y0, y1, y2, y3⟩ := S10.out.a.past hSu
                    (go_simp) <;> (with_reducible rfl)
                  change wpAnyH _ _ _ _ _ _ _ (Act.put _ (some 118) _) _
                  simp only [Act.put, List.setIfInBounds_toArray, List.set_cons_zero, List.set_cons_succ]
                  refine wpAnyH_take (i := 6) (v := vv A) rfl (by kernel_rfl) (by kernel_rfl) (by kernel_rfl) (fun _ _ _ h => h) (yieldsIf_load_mid (by rfl) _ _ rfl _ _ rfl (encV A) _ (fun u hu => (S10.out.v.past hu).range) Try.underlying47 rfl (by rw [info_ver, enc_len HKY.out])) hHeld ?_
                  change wpAnyH _ _ _ _ _ _ _ (Act.put _ (some 120) _) _
                  simp only [Act.put, List.setIfInBounds_toArray, List.set_cons_zero, List.set_cons_succ]
                  refine wpAnyH_ready (rs := [5]) (by kernel_rfl) (by simp) ?_
                  refine AllReadyH.cons rfl (fun K hK => ?_) AllReadyH.nil
                  go_simp
                  go_at_call 15
                  refine (CO.out _).mono ?_
                  rintro e x1 ⟨rfl, hbx1⟩
                  have Bx1 : Hid (Below wr.heap.size wr x1) := hHeld.trans (hbx1.mono hHeld.size)
                  clear hbx1
                  refine hK.out _ _ ?_ (fun hHeld2 => ?_)
                  · exact Bx1.out
                  clear hK K hHeld
                  have hHeld := hHeld2
                  clear hHeld2
                  refine wpAnyH_take (i := 7) (v := ?_) rfl (by kernel_rfl) (by kernel_rfl) (by kernel_rfl) (fun _ _ _ h => h) (Or.inl ⟨by rfl, ?_⟩) hHeld ?_
                  rotate_left
                  · intro u hSu
                    (go_simp) <;> (with_reducible rfl)
                  change wpAnyH _ _ _ _ _ _ _ (Act.put _ (some 121) _) _
                  simp only [Act.put, List.setIfInBounds_toArray, List.set_cons_zero, List.set_cons_succ]
                  refine wpAnyH_take (i := 8) (v := ?_) rfl (by kernel_rfl) (by kernel_rfl) (by kernel_rfl) (fun _ _ _ h => h) (Or.inl ⟨by rfl, ?_⟩) hHeld ?_
                  rotate_left
                  · intro u hSu
                    (go_simp) <;> (with_reducible rfl)
                  change wpAnyH _ _ _ _ _ _ _ (Act.put _ (some 122) _) _
                  simp only [Act.put, List.setIfInBounds_toArray, List.set_cons_zero, List.set_cons_succ]
                  refine wpAnyH_take (i := 9) (v := ?_) rfl (by kernel_rfl) (by kernel_rfl) (by kernel_rfl) (fun _ _ _ h => h) (Or.inl ⟨by rfl, ?_⟩) hHeld ?_
                  rotate_left
                  · intro u hSu
                    (go_simp) <;> (with_reducible rfl)
                  change wpAnyH _ _ _ _ _ _ _ (Act.put _ (some 123) _) _
                  simp only [Act.put, List.setIfInBounds_toArray, List.set_cons_zero, List.set_cons_succ]
                  refine wpAnyH_take (i := 10) (v := ?_) rfl (by kernel_rfl) (by kernel_rfl) (by kernel_rfl) (fun _ _ _ h => h) (Or.inl ⟨by rfl, ?_⟩) hHeld ?_
                  rotate_left
                  · intro u hSu
                    (go_simp) <;> (with_reducible rfl)
                  change wpAnyH _ _ _ _ _ _ _ (Act.put _ (some 124) _) _
                  simp only [Act.put, List.setIfInBounds_toArray, List.set_cons_zero, List.set_cons_succ]
                  refine wpAnyH_take (i := 11) (v := ?_) rfl (by kernel_rfl) (by kernel_rfl) (by kernel_rfl) (fun _ _ _ h => h) (Or.inl ⟨by rfl, ?_⟩) hHeld ?_
                  rotate_left
                  · intro u hSu
                    (go_simp) <;> (with_reducible rfl)
                  change wpAnyH _ _ _ _ _ _ _ (Act.put _ (some 125) _) _
                  simp only [Act.put, List.setIfInBounds_toArray, List.set_cons_zero, List.set_cons_succ]
                  refine wpAnyH_take (i := 12) (v := ?_) rfl (by kernel_rfl) (by kernel_rfl) (by kernel_rfl) (fun _ _ _ h => h) (Or.inl ⟨by rfl, ?_⟩) hHeld ?_
                  rotate_left
                  · intro u hSu
                    (go_simp) <;> (with_reducible rfl)
                  change wpAnyH _ _ _ _ _ _ _ (Act.put _ (some 126) _) _
                  simp only [Act.put, List.setIfInBounds_toArray, List.set_cons_zero, List.set_cons_succ]
                  refine wpAnyH_take (i := 13) (v := ?_) rfl (by kernel_rfl) (by kernel_rfl) (by kernel_rfl) (fun _ _ _ h => h) (Or.inl ⟨by rfl, ?_⟩) hHeld ?_
                  rotate_left
                  · intro u hSu
                    (go_simp) <;> (with_reducible rfl)
                  change wpAnyH _ _ _ _ _ _ _ (Act.put _ (some 127) _) _
                  simp only [Act.put, List.setIfInBounds_toArray, List.set_cons_zero, List.set_cons_succ]
                  refine wpAnyH_take (i := 14) (v := ?_) rfl (by kernel_rfl) (by kernel_rfl) (by kernel_rfl) (fun _ _ _ h => h) (Or.inl ⟨by rfl, ?_⟩) hHeld ?_
                  rotate_left
                  · intro u hSu
                    (go_simp) <;> (with_reducible rfl)
                  change wpAnyH _ _ _ _ _ _ _ (Act.put _ (some 128) _) _
                  simp only [Act.put, List.setIfInBounds_toArray, List.set_cons_zero, List.set_cons_succ]
                  refine wpAnyH_take (i := 15) (v := ?_) rfl (by kernel_rfl) (by kernel_rfl) (by kernel_rfl) (fun _ _ _ h => h) (Or.inl ⟨by rfl, ?_⟩) hHeld ?_
                  rotate_left
                  · intro u hSu
                    (go_simp) <;> (with_reducible rfl)
                  change wpAnyH _ _ _ _ _ _ _ (Act.put _ (some 129) _) _
                  simp only [Act.put, List.setIfInBounds_toArray, List.set_cons_zero, List.set_cons_succ]
                  refine wpAnyH_take (i := 16) (v := ?_) rfl (by kernel_rfl) (by kernel_rfl) (by kernel_rfl) (fun _ _ _ h => h) (Or.inl ⟨by rfl, ?_⟩) hHeld ?_
                  rotate_left
                  · intro u hSu
                    obtain ⟨y0, y1, y2, y3⟩ := S10.out.n.past hSu
                    (go_simp) <;> (with_reducible rfl)
                  change wpAnyH _ _ _ _ _ _ _ (Act.put _ (some 130) _) _
                  simp only [Act.put, List.setIfInBounds_toArray, List.set_cons_zero, List.set_cons_succ]
                  refine wpAnyH_take (i := 17) (v := ?_) rfl (by kernel_rfl) (by kernel_rfl) (by kernel_rfl) (fun _ _ _ h => h) (Or.inl ⟨by rfl, ?_⟩) hHeld ?_
                  rotate_left
                  · intro u hSu
                    have y0 := (S10.out.past hSu).m0; have y1 := (S10.out.past hSu).m1
                    (go_simp) <;> (with_reducible rfl)
                  change wpAnyH _ _ _ _ _ _ _ (Act.put _ (some 131) _) _
                  simp only [Act.put, List.setIfInBounds_toArray, List.set_cons_zero, List.set_cons_succ]
                  refine wpAnyH_take (i := 18) (v := ?_) rfl (by kernel_rfl) (by kernel_rfl) (by kernel_rfl) (fun _ _ _ h => h) (Or.inl ⟨by rfl, ?_⟩) hHeld ?_
                  rotate_left
                  · intro u hSu
                    (go_simp) <;> (with_reducible rfl)
                  change wpAnyH _ _ _ _ _ _ _ (Act.put _ (some 132) _) _
                  simp only [Act.put, List.setIfInBounds_toArray, List.set_cons_zero, List.set_cons_succ]
                  refine wpAnyH_take (i := 19) (v := ?_) rfl (by kernel_rfl) (by kernel_rfl) (by kernel_rfl) (fun _ _ _ h => h) (Or.inl ⟨by rfl, ?_⟩) hHeld ?_
                  rotate_left
                  · intro u hSu
                    (go_simp) <;> (with_reducible rfl)
                  change wpAnyH _ _ _ _ _ _ _ (Act.put _ (some 133) _) _
                  simp only [Act.put, List.setIfInBounds_toArray, List.set_cons_zero, List.set_cons_succ]
                  refine wpAnyH_take (i := 20) (v := ?_) rfl (by kernel_rfl) (by kernel_rfl) (by kernel_rfl) (fun _ _ _ h => h) (Or.inl ⟨by rfl, ?_⟩) hHeld ?_
                  rotate_left
                  · intro u hSu
                    (go_simp) <;> (with_reducible rfl)
                  change wpAnyH _ _ _ _ _ _ _ (Act.put _ (some 134) _) _
                  simp only [Act.put, List.setIfInBounds_toArray, List.set_cons_zero, List.set_cons_succ]
                  refine wpAnyH_take (i := 21) (v := ?_) rfl (by kernel_rfl) (by kernel_rfl) (by kernel_rfl) (fun _ _ _ h => h) (Or.inl ⟨by rfl, ?_⟩) hHeld ?_
                  rotate_left
                  · intro u hSu
                    (go_simp) <;> (with_reducible rfl)
                  change wpAnyH _ _ _ _ _ _ _ (Act.put _ (some 135) _) _
                  simp only [Act.put, List.setIfInBounds_toArray, List.set_cons_zero, List.set_cons_succ]
                  refine wpAnyH_take (i := 22) (v := ?_) rfl (by kernel_rfl) (by kernel_rfl) (by kernel_rfl) (fun _ _ _ h => h) (Or.inl ⟨by rfl, ?_⟩) hHeld ?_
                  rotate_left
                  · intro u hSu
                    obtain ⟨y0, y1⟩ := FT.out u hSu
                    (go_simp) <;> (with_reducible rfl)
                  change wpAnyH _ _ _ _ _ _ _ (Act.put _ (some 136) _) _
                  simp only [Act.put, List.setIfInBounds_toArray, List.set_cons_zero, List.set_cons_succ]
                  refine wpAnyH_take (i := 24) (v := ?_) rfl (by kernel_rfl) (by kernel_rfl) (by kernel_rfl) (fun _ _ _ h => h) (Or.inl ⟨by rfl, ?_⟩) hHeld ?_
                  rotate_left
                  · intro u hSu
                    (go_simp) <;> (with_reducible rfl)
                  change wpAnyH _ _ _ _ _ _ _ (Act.put _ (some 138) _) _
                  simp only [Act.put, List.setIfInBounds_toArray, List.set_cons_zero, List.set_cons_succ]
                  refine wpAnyH_ready (rs := [23]) (by kernel_rfl) (by simp) ?_
                  refine AllReadyH.cons rfl (fun K hK => ?_) AllReadyH.nil
                  go_simp
                  go_at_call 22
                  refine (CS.out _ (HMD.out _ hHeld)).mono ?_
                  rintro e x2 ⟨rfl, hbx2⟩
                  have Bx2 : Hid (Below wr.heap.size wr x2) := hHeld.trans (hbx2.mono hHeld.size)
                  clear hbx2
                  refine hK.out _ _ ?_ (fun hHeld2 => ?_)
                  · exact Bx2.out
                  clear hK K hHeld
                  have hHeld := hHeld2
                  clear hHeld2
                  refine wpAnyH_take (i := 25) (v := ?_) rfl (by kernel_rfl) (by kernel_rfl) (by kernel_rfl) (fun _ _ _ h => h) (Or.inl ⟨by rfl, ?_⟩) hHeld ?_
                  rotate_left
                  · intro u hSu
                    (go_simp) <;> (with_reducible rfl)
                  change wpAnyH _ _ _ _ _ _ _ (Act.put _ (some 139) _) _
                  simp only [Act.put, List.setIfInBounds_toArray, List.set_cons_zero, List.set_cons_succ]
                  refine wpAnyH_take (i := 26) (v := ?_) rfl (by kernel_rfl) (by kernel_rfl) (by kernel_rfl) (fun _ _ _ h => h) (Or.inl ⟨by rfl, ?_⟩) hHeld ?_
                  rotate_left
                  · intro u hSu
                    (go_simp) <;> (with_reducible rfl)
                  change wpAnyH _ _ _ _ _ _ _ (Act.put _ (some 140) _) _
                  simp only [Act.put, List.setIfInBounds_toArray, List.set_cons_zero, List.set_cons_succ]
                  refine wpAnyH_take (i := 27) (v := ?_) rfl (by kernel_rfl) (by kernel_rfl) (by kernel_rfl) (fun _ _ _ h => h) (Or.inl ⟨by rfl, ?_⟩) hHeld ?_
                  rotate_left
                  · intro u hSu
                    (go_simp) <;> (with_reducible rfl)
                  change wpAnyH _ _ _ _ _ _ _ (Act.put _ (some 141) _) _
                  simp only [Act.put, List.setIfInBounds_toArray, List.set_cons_zero, List.set_cons_succ]
                  refine wpAnyH_take (i := 28) (v := ?_) rfl (by kernel_rfl) (by kernel_rfl) (by kernel_rfl) (fun _ _ _ h => h) (Or.inl ⟨by rfl, ?_⟩) hHeld ?_
                  rotate_left
                  · intro u hSu
                    (go_simp) <;> (with_reducible rfl)
                  change wpAnyH _ _ _ _ _ _ _ (Act.put _ (some 142) _) _
                  simp only [Act.put, List.setIfInBounds_toArray, List.set_cons_zero, List.set_cons_succ]
                  refine wpAnyH_take (i := 30) (v := ?_) rfl (by kernel_rfl) (by kernel_rfl) (by kernel_rfl) (fun _ _ _ h => h) (Or.inl ⟨by rfl, ?_⟩) hHeld ?_
                  rotate_left
                  · intro u hSu
                    (go_simp) <;> (with_reducible rfl)
                  change wpAnyH _ _ _ _ _ _ _ (Act.put _ (some 144) _) _
                  simp only [Act.put, List.setIfInBounds_toArray, List.set_cons_zero, List.set_cons_succ]
                  refine wpAnyH_take (i := 31) (v := ?_) rfl (by kernel_rfl) (by kernel_rfl) (by kernel_rfl) (fun _ _ _ h => h) (Or.inl ⟨by rfl, ?_⟩) hHeld ?_
                  rotate_left
                  · intro u hSu
                    (go_simp) <;> (with_reducible rfl)
                  change wpAnyH _ _ _ _ _ _ _ (Act.put _ (some 145) _) _
                  simp only [Act.put, List.setIfInBounds_toArray, List.set_cons_zero, List.set_cons_succ]
                  refine wpAnyH_take (i := 32) (v := ?_) rfl (by kernel_rfl) (by kernel_rfl) (by kernel_rfl) (fun _ _ _ h => h) (Or.inl ⟨by rfl, ?_⟩) hHeld ?_
                  rotate_left
                  · intro u hSu
                    (go_simp) <;> (with_reducible rfl)
                  change wpAnyH _ _ _ _ _ _ _ (Act.put _ (some 146) _) _
                  simp only [Act.put, List.setIfInBounds_toArray, List.set_cons_zero, List.set_cons_succ]
                  refine wpAnyH_take (i := 33) (v := ?_) rfl (by kernel_rfl) (by kernel_rfl) (by kernel_rfl) (fun _ _ _ h => h) (Or.inl ⟨by rfl, ?_⟩) hHeld ?_
                  rotate_left
                  · intro u hSu
                    have y0 := FQ.out u hSu
                    (go_simp) <;> (with_reducible rfl)
                  change wpAnyH _ _ _ _ _ _ _ (Act.put _ (some 147) _) _
                  simp only [Act.put, List.setIfInBounds_toArray, List.set_cons_zero, List.set_cons_succ]
                  refine wpAnyH_take (i := 34) (v := ?_) rfl (by kernel_rfl) (by kernel_rfl) (by kernel_rfl) (fun _ _ _ h => h) (Or.inl ⟨by rfl, ?_⟩) hHeld ?_
                  rotate_left
                  · intro u hSu
                    (go_simp) <;> (with_reducible rfl)
                  change wpAnyH _ _ _ _ _ _ _ (Act.put _ (some 148) _) _
                  simp only [Act.put, List.setIfInBounds_toArray, List.set_cons_zero, List.set_cons_succ]
                  refine wpAnyH_ready (rs := [29]) (by kernel_rfl) (by simp) ?_
                  refine AllReadyH.cons rfl (fun K hK => ?_) AllReadyH.nil
                  go_simp
                  go_at_call 23
                  refine (CL.out _ (HMD.out _ hHeld)).mono ?_
                  rintro e x3 ⟨rfl, hbx3⟩
                  have Bx3 : Hid (Below wr.heap.size wr x3) := hHeld.trans (hbx3.mono hHeld.size)
                  clear hbx3
                  refine hK.out _ _ ?_ (fun hHeld2 => ?_)
                  · exact Bx3.out
                  clear hK K hHeld
                  have hHeld := hHeld2
                  clear hHeld2
                  refine wpAnyH_take (i := 35) (v := ?_) rfl (by kernel_rfl) (by kernel_rfl) (by kernel_rfl) (fun _ _ _ h => h) (Or.inl ⟨by rfl, ?_⟩) hHeld ?_
                  rotate_left
                  · intro u hSu
                    (go_simp) <;> (with_reducible rfl)
                  change wpAnyH _ _ _ _ _ _ _ (Act.put _ (some 149) _) _
                  simp only [Act.put, List.setIfInBounds_toArray, List.set_cons_zero, List.set_cons_succ]
                  refine wpAnyH_take (i := 36) (v := ?_) rfl (by kernel_rfl) (by kernel_rfl) (by kernel_rfl) (fun _ _ _ h => h) (Or.inl ⟨by rfl, ?_⟩) hHeld ?_
                  rotate_left
                  · intro u hSu
                    (go_simp) <;> (with_reducible rfl)
                  change wpAnyH _ _ _ _ _ _ _ (Act.put _ (some 150) _) _
                  simp only [Act.put, List.setIfInBounds_toArray, List.set_cons_zero, List.set_cons_succ]
                  refine wpAnyH_take (i := 37) (v := ?_) rfl (by kernel_rfl) (by kernel_rfl) (by kernel_rfl) (fun _ _ _ h => h) (Or.inl ⟨by rfl, ?_⟩) hHeld ?_
                  rotate_left
                  · intro u hSu
                    (go_simp) <;> (with_reducible rfl)
                  change wpAnyH _ _ _ _ _ _ _ (Act.put _ (some 151) _) _
                  simp only [Act.put, List.setIfInBounds_toArray, List.set_cons_zero, List.set_cons_succ]
                  refine wpAnyH_take (i := 38) (v := ?_) rfl (by kernel_rfl) (by kernel_rfl) (by kernel_rfl) (fun _ _ _ h => h) (Or.inl ⟨by rfl, ?_⟩) hHeld ?_
                  rotate_left
                  · intro u hSu
                    (go_simp) <;> (with_reducible rfl)
                  change wpAnyH _ _ _ _ _ _ _ (Act.put _ (some 152) _) _
                  simp only [Act.put, List.setIfInBounds_toArray, List.set_cons_zero, List.set_cons_succ]
                  refine wpAnyH_take (i := 43) (v := ?_) rfl (by kernel_rfl) (by kernel_rfl) (by kernel_rfl) (fun _ _ _ h => h) (Or.inl ⟨by rfl, ?_⟩) hHeld ?_
                  rotate_left
                  · intro u hSu
                    (go_simp) <;> (with_reducible rfl)
                  change wpAnyH _ _ _ _ _ _ _ (Act.put _ (some 157) _) _
                  simp only [Act.put, List.setIfInBounds_toArray, List.set_cons_zero, List.set_cons_succ]
                  refine wpAnyH_ready (rs := [39]) (by kernel_rfl) (by simp) ?_
                  refine AllReadyH.cons rfl (fun K hK => ?_) AllReadyH.nil
                  go_simp
                  go_at_call 13
                  refine (CAL.out _ (HMD.out _ hHeld)).mono ?_
                  rintro e x4 ⟨⟨al, cl, rfl, hv⟩, hbx4⟩
                  have Bx4 : Hid (Below wr.heap.size wr x4) := hHeld.trans (hbx4.mono hHeld.size)
                  clear hbx4
                  have HV4 : Hid (CVersOf x4 al cl L) := hv
                  clear hv
                  refine hK.out _ _ ?_ (fun hHeld2 => ?_)
                  · exact Bx4.out
                  clear hK K hHeld
                  have hHeld := hHeld2
                  clear hHeld2
                  refine wpAnyH_ready (rs := [40]) (by kernel_rfl) (by simp) ?_
                  refine AllReadyH.cons rfl (fun K hK => ?_) AllReadyH.nil
                  go_simp
                  go_at_call 25
                  refine (CV.out _ _ _ HV4.out).mono ?_
                  rintro e x5 ⟨⟨a5, c5, rfl, ho⟩, hbx5⟩
                  have Bx5 : Hid (Below wr.heap.size wr x5) := hHeld.trans (hbx5.mono hHeld.size)
                  clear hbx5
                  have HO5 : Hid (x5.ownsRow W0.heap.size 47 20 (.slice a5 N c5) N (L.flatMap encV)) := World.ownsRow.mono ho (HMD.out _ Bx4.out).1.below.size
                  clear ho HV4
                  refine hK.out _ _ ?_ (fun hHeld2 => ?_)
                  · exact Bx5.out
                  clear hK K hHeld
                  have hHeld := hHeld2
                  clear hHeld2
                  refine wpAnyH_take (i := 41) (v := ?_) rfl (by kernel_rfl) (by kernel_rfl) (by kernel_rfl) (fun _ _ _ h => h) (Or.inl ⟨by rfl, ?_⟩) hHeld ?_
                  rotate_left
                  · intro u hSu
                    (go_simp) <;> (with_reducible rfl)
                  change wpAnyH _ _ _ _ _ _ _ (Act.put _ (some 155) _) _
                  simp only [Act.put, List.setIfInBounds_toArray, List.set_cons_zero, List.set_cons_succ]
                  refine wpAnyH_ready (rs := [42]) (by kernel_rfl) (by simp) ?_
                  refine AllReadyH.cons rfl (fun K hK => ?_) AllReadyH.nil
                  go_simp
                  refine hK.out _ _ ?_ (fun hHeld2 => ?_)
                  · exact Bx5.out.alloc Bx5.out.size _
                  clear hK K hHeld
                  have hHeld := hHeld2
                  clear hHeld2
                  refine wpAnyH_ready (rs := [44]) (by kernel_rfl) (by simp) ?_
                  refine AllReadyH.cons rfl (fun K hK => ?_) AllReadyH.nil
                  go_simp
                  go_at_call 24
                  refine (CSM.out x5 a5 c5 (HMD.out _ Bx5.out) HO5.out).mono ?_
                  rintro e x6 ⟨rfl, hbx6⟩
                  have Bx6 : Hid (Below wr.heap.size wr x6) := hHeld.trans (hbx6.mono hHeld.size)
                  clear hbx6
                  refine hK.out _ _ ?_ (fun hHeld2 => ?_)
                  · exact Bx6.out
                  clear hK K hHeld
                  have hHeld := hHeld2
                  clear hHeld2
                  refine wpAnyH_take (i := 45) (v := ?_) rfl (by kernel_rfl) (by kernel_rfl) (by kernel_rfl) (fun _ _ _ h => h) (Or.inl ⟨by rfl, ?_⟩) hHeld ?_
                  rotate_left
                  · intro u hSu
                    (go_simp) <;> (with_reducible rfl)
                  change wpAnyH _ _ _ _ _ _ _ (Act.put _ (some 159) _) _
                  simp only [Act.put, List.setIfInBounds_toArray, List.set_cons_zero, List.set_cons_succ]
                  refine wpAnyH_take (i := 46) (v := ?_) rfl (by kernel_rfl) (by kernel_rfl) (by kernel_rfl) (fun _ _ _ h => h) (Or.inl ⟨by rfl, ?_⟩) hHeld ?_
                  rotate_left
                  · intro u hSu
                    (go_simp) <;> (with_reducible rfl)
                  change wpAnyH _ _ _ _ _ _ _ (Act.put _ (some 160) _) _
                  simp only [Act.put, List.setIfInBounds_toArray, List.set_cons_zero, List.set_cons_succ]
                  refine wpAnyH_done (by kernel_rfl) ?_ _
                  refine NoPanic.normal ?_
                  go_wp2
                  go_roundw
                  case rel => exact ⟨i + 1, by go_num, by omega, L, HMD.out _ Bx6.out⟩
                  case measure => simp [intOf]; omega
      · obtain rfl : i = len0 := by omega
        go_wp2
        go_ret
        exact ⟨rfl, HBW0.out _ (by obtain ⟨L, hM⟩ := HML.out; exact hM.1.below)⟩

set_option maxRecDepth 100000 in
theorem lifted (os : Os) (started : os.Started) (H : Type) (enc : TypeId × Value → H) :
    ReturnsInHanded {} Try.checked os 4 .any (Rows.chainPlaysSpec.pre6 enc Try.prog Try.f4 Rows.chainPlaysRow.domain false) (Rows.chainPlaysSpec.post enc Try.prog Try.f4 false true false false) := by
  refine returnsInHanded_of_change (C := Try.checked) own started (by kernel_rfl) Try.func4
    (ChangeSpec.witness6 (enc := enc) (C := Try.checked) false ⟨#[], #[.slice none 0 0, .agg #[.int .i64 0, .int .u8 0]], []⟩ 8 (by kernel_rfl) (by kernel_rfl) (by kernel_rfl) (by kernel_rfl)) ?_
  intro W base args ds gs before hval0 hW hcnd _
  have hval : ∀ (j : Nat) t v, Try.f4.params[j]? = some t → args[j]? = some v → Value.okWide Try.prog W .any base t v := hval0
  have hW' := hW
  obtain ⟨p, q, hA0, hV, rfl, hfz, hnd⟩ := hW
  have hA : DataW.TrodAll enc Try.prog W 0 (fun _ => true) true Try.f4.params.toList args.toList ds p := hA0
  rw [Try.params4] at hA hval
  obtain ⟨v0, vs0, d0, ds0, p0, q0, hargs, rfl, rfl, h0, r0⟩ := trodAll_cons hA
  obtain ⟨v1, vs1, d1, ds1, p1, q1, rfl, rfl, rfl, h1, r1⟩ := trodAll_cons r0
  obtain ⟨rfl, rfl, rfl⟩ := trodAll_nil r1
  obtain rfl : args = #[v0, v1] := by cases args; simp_all
  obtain ⟨rfl, rfl⟩ := trodVars_none hV
  obtain ⟨a0, len0, cap0, rfl⟩ := okWide_slice Try.underlying36 (hval 0 36 v0 rfl rfl)
  have k0 := h0
  have lt0 : ∀ x ∈ p0, x.block < W.heap.size := by obtain ⟨m, hm⟩ := k0; exact DataW.trod_lt m _ _ _ hm
  obtain ⟨z0, l0, w0⟩ : ∃ xs : List CAct, xs.length = len0 ∧ CActsOf W a0 cap0 xs := by
    obtain ⟨fuel, hf⟩ := h0
    exact cacts_open (e := 0) Try.underlying36 Try.underlying44 Try.underlying3 Try.underlying31 Try.underlying28 Try.underlying2 Try.underlying5 Try.underlying9 Try.underlying4 rfl rfl rfl rfl rfl rfl rfl (by kernel_rfl) (by kernel_rfl) (by kernel_rfl) (by kernel_rfl) (by kernel_rfl) (by kernel_rfl) (by kernel_rfl) (by kernel_rfl) hf
  have k1 := h1
  have lt1 : ∀ x ∈ p1, x.block < W.heap.size := by obtain ⟨m, hm⟩ := k1; exact DataW.trod_lt m _ _ _ hm
  obtain ⟨a1, b1, rfl, w1, x1⟩ := struct2_open Try.underlying28 Try.underlying2 Try.underlying5 rfl rfl (by kernel_rfl) (by kernel_rfl) (by kernel_rfl) (hval 1 28 v1 rfl rfl) h1
  clear hA0 hval0
  refine (walk a0 len0 cap0 z0 a1 b1 W l0 w0 w1 x1).mono fun e W' ⟨he, bel⟩ => ?_
  subst he
  exact ⟨_, rfl, _, _, _, [], _, [], hW', trodAll_mk1 (shut_bool Try.underlying4 _), (trodAll_cons_mk (Below.trod laidOut (by kernel_rfl) (of_decide_eq_true (by kernel_rfl)) k0 bel lt0) (trodAll_cons_mk (Below.trod laidOut (by kernel_rfl) (of_decide_eq_true (by kernel_rfl)) k1 bel lt1) trodAll_mk0)), rfl, bel.frame _, fun h => by cases h⟩

theorem over : Rows.chainPlaysRow.holds Try.pinned (OpenSpec.ofChange Rows.chainPlaysSpec) :=
  OpenClaim.holds_of_wide 4 Try.f4 rfl rfl rfl rfl rfl rfl rfl ⟨rfl, rfl, rfl, rfl, rfl⟩ rfl rfl rfl rfl rfl (by kernel_rfl) Try.func4 (by kernel_rfl)
    (of_decide_eq_true (by kernel_rfl)) (by unfold Func.isWrapper; first | (rw [if_pos (by decide +kernel)]; kernel_rfl) | (rw [if_neg (by decide +kernel)]; exact ⟨rfl, rfl⟩))
    (fun os started H enc _ => lifted os started H enc)
theorem proved : Rows.ChainPlaysSaid := over
#print axioms proved
end Go.Proofs.Ytimiciellbdphaa.chainPlays
namespace Go.Proofs.Ytimiciellbdphaa
/-- ChainPlays, as given. -/
theorem chainPlays_holds : Rows.ChainPlaysSaid := chainPlays.proved
end Go.Proofs.Ytimiciellbdphaa
