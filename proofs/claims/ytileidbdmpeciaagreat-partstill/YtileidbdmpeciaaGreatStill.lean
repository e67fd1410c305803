/-
  PartStill: what was once read at a time is read again at that time, whatever is prepared above it, committed, aborted (of lists of more than 15, 20 acts, of acts of more than 20 writes, of values of more than 250 bytes the statement asks nothing).
-/
import Derived.Test.YtileidbdmpeciaaGreatRows
import Derived.Test.YtileidbdmpeciaaGreatAu69
import Derived.Test.YtileidbdmpeciaaGreatAu59
import Derived.Test.YtileidbdmpeciaaGreatAu88
import Derived.WalkKit
import Derived.ProofKit
import Derived.OpenShut
import Derived.ShutString
import Derived.ChangeOld
import Derived.Below
import Derived.Carry
namespace Go.Proofs.YtileidbdmpeciaaGreat.partStill
open Go.ChangeShapes Go.WideShapes Go.ChangeAt Go.RowKit
open Go.ChangeMaps (open_string shut_string)
set_option linter.unusedVariables false

theorem own : ownKnob Tryz.prog.godebug = none := by kernel_rfl
theorem laidOut : laidOutB Tryz.prog = true := by kernel_rfl
/-- A slice of integers that came in: nil, or a row of 'cap' cells, of which the first 'len' are its elements. -/
def IsRow (k : IntKind) (w : World) (a : Option Addr) (len cap : Nat) (zs : List Int) : Prop :=
  (a = none ∧ len = 0 ∧ cap = 0 ∧ zs = []) ∨
  ∃ x, a = some x ∧ len ≤ cap ∧ cap ≤ maxLen ∧ zs.length = cap ∧ (∀ i, i < zs.length → w.cell? (x.add i) = some (.int k (zs.getD i 0))) ∧ ∀ n ∈ zs, (Lit.int k n).wf = true

set_option maxRecDepth 20000 in
set_option maxHeartbeats 16000000 in
theorem walk (a0 : Option Addr) (len0 cap0 : Nat) (z0 : List QAct) (z1 : List Int) (a2 b2 : Int) (a3 : Option Addr) (len3 cap3 : Nat) (z3 : List QAct) (w : World) (l0 : z0.length = len0) (w0 : QActsOf w a0 cap0 z0) (w1 : IsArr .u8 16 z1) (w2 : (Lit.int .i64 a2).wf = true) (x2 : (Lit.int .u8 b2).wf = true) (l3 : z3.length = len3) (w3 : QActsOf w a3 cap3 z3) :
    Calls Tryz.prog 6 #[.slice a0 len0 cap0, .agg (z1.map (Value.int .u8)).toArray, .agg #[.int .i64 a2, .int .u8 b2], .slice a3 len3 cap3] w fun e w' => e = .returned (.bool true) ∧ Below w.heap.size w w' := by
  have by2 := bounds_i64 w2
  have by2n := bounds_u8 x2
  have KY1 : Hid (Ky z1) := w1.ky
  have AW : Hid (∀ u, Calls Tryz.prog 8 #[] u fun e w' => e = .returned (.bool true) ∧ Below u.heap.size u w') := fun u => qawake_any u
  have HL : Hid (z0.length = len0) := l0
  have HA : Hid (QActsOf w a0 cap0 z0) := w0
  have hcap : len0 ≤ cap0 := by rw [← l0]; exact w0.room
  have HL3 : Hid (z3.length = len3) := l3
  have HA3 : Hid (QActsOf w a3 cap3 z3) := w3
  have hcap3 : len3 ≤ cap3 := by rw [← l3]; exact w3.room
  obtain ⟨W0, hW0⟩ : ∃ W0, W0 = (w.alloc (.cells (kcs z1) 38)).alloc (.cells #[.int .i64 a2, .int .u8 b2] 28) := ⟨_, rfl⟩
  have HW0 : Hid ((w.alloc (.cells (kcs z1) 38)).alloc (.cells #[.int .i64 a2, .int .u8 b2] 28) = W0) := hW0.symm
  have HB0 : Hid (Below w.heap.size w W0) := by rw [hW0]; exact ((Below.refl _ _).alloc (Nat.le_refl _) _).alloc (by simp) _
  have HKS : Hid (KsB w W0 z1 a2 b2) := by rw [hW0]; exact KsB.made w KY1.out a2 b2 38 28
  have TB : Hid (∀ u, Below W0.heap.size W0 u → KsB w u z1 a2 b2) := fun u hb => HKS.out.past hb
  have HBW0 : Hid (∀ u, Below W0.heap.size W0 u → Below w.heap.size w u) := fun u h => HB0.out.trans (h.mono HB0.out.size)
  have CN : Hid (∀ u, Below W0.heap.size W0 u → Calls Tryz.prog 9 #[] u fun e w' => ∃ p, e = .returned (.pointer (some ⟨p, 0, none⟩)) ∧ PaX W0 w' p ⟨[], [], []⟩ 0) := fun u hb => xanewp hb
  clear w0 w1 w2 x2 l0 l3 w3 hW0 HKS
  by_cases ha : 15 < len0
  · have ba : (15 : Int) < (len0 : Int) := by omega
    go_enter Tryz.func6, Tryz.ntmps6
    go_wp2_with ((go_at_call 8; refine (AW.out _).mono ?_; rintro e v1 ⟨rfl, hb1⟩; rw [HW0.out] at hb1; have B1 : Hid (Below W0.heap.size W0 v1) := hb1; clear hb1))
    go_ret
    exact ⟨rfl, HBW0.out _ B1.out⟩
  have ba : ¬ (15 : Int) < (len0 : Int) := by omega
  have h15 : len0 ≤ 15 := by omega
  by_cases hb : 20 < len3
  · have bb : (20 : Int) < (len3 : Int) := by omega
    go_enter Tryz.func6, Tryz.ntmps6
    go_wp2_with ((go_at_call 8; refine (AW.out _).mono ?_; rintro e v1 ⟨rfl, hb1⟩; rw [HW0.out] at hb1; have B1 : Hid (Below W0.heap.size W0 v1) := hb1; clear hb1))
    go_ret
    exact ⟨rfl, HBW0.out _ B1.out⟩
  · have bb : ¬ (20 : Int) < (len3 : Int) := by omega
    have h20 : len3 ≤ 20 := by omega
    clear ha hb
    go_enter Tryz.func6, Tryz.ntmps6
    go_wp2_with (first | (go_at_call 8; refine (AW.out _).mono ?_; rintro e v1 ⟨rfl, hb1⟩; rw [HW0.out] at hb1; have B1 : Hid (Below W0.heap.size W0 v1) := hb1; clear hb1) | (have hgo := B1.out; clear hgo; go_at_call 9; refine (CN.out _ B1.out).mono ?_; rintro e v2 ⟨p, rfl, h2⟩; have H2 : Hid (PaX W0 v2 p ⟨[], [], []⟩ 0) := h2; clear h2 B1))
    clear CN AW
    go_loopw [10] (fun iv wr => ∃ i : Nat, iv = .int .i64 i ∧ i ≤ len0 ∧ Hid (∃ P, PaX W0 wr p P i)) (fun iv _ => len0 - (intOf iv).toNat)
    case atStart => exact ⟨0, rfl, Nat.zero_le _, ⟨_, H2.out⟩⟩
    case round =>
      clear H2
      obtain ⟨i, rfl, hi, HP⟩ := hrel
      obtain ⟨P, hC⟩ := HP.out
      have HC : Hid (PaX W0 wr p P i) := hC
      clear hC HP
      have h0 : (0 : Int) ≤ (i : Int) := by omega
      have HBW : Hid (Below w.heap.size w wr) := HBW0.out _ HC.out.below
      by_cases hlt : i < len0
      · have h1 : (i : Int) < (len0 : Int) := by omega
        obtain ⟨y, hy⟩ : ∃ y, z0[i]? = some y := ⟨_, List.getElem?_eq_getElem (by rw [HL.out]; exact hlt)⟩
        obtain ⟨b, off, rfl, hay, hok⟩ := HA.out.act hy
        have HAY : Hid (∀ u, Below wr.heap.size wr u → QActAt u b (off + i * 18) y) := fun u hu => (hay.past HBW.out).past hu
        have HOK : Hid (QActOk w y) := hok
        obtain ⟨lg, hlg⟩ : ∃ g, g = longQ y.x.e.l := ⟨_, rfl⟩
        have HLG : Hid (lg = longQ y.x.e.l) := hlg
        obtain ⟨N, hN⟩ : ∃ N, N = y.x.e.l.length := ⟨_, rfl⟩
        obtain ⟨ya, hya⟩ : ∃ t, t = y.x.a := ⟨_, rfl⟩
        obtain ⟨yc, hyc⟩ : ∃ t, t = y.x.c := ⟨_, rfl⟩
        obtain ⟨op, hop⟩ : ∃ t, t = y.op := ⟨_, rfl⟩
        obtain ⟨id, hid⟩ : ∃ t, t = y.x.e.id := ⟨_, rfl⟩
        obtain ⟨t, ht⟩ : ∃ t, t = y.t := ⟨_, rfl⟩
        obtain ⟨n, hn⟩ : ∃ t, t = y.n := ⟨_, rfl⟩
        obtain ⟨et, het⟩ : ∃ t, t = y.x.e.t := ⟨_, rfl⟩
        obtain ⟨en, hen⟩ : ∃ t, t = y.x.e.n := ⟨_, rfl⟩
        have CLG : Hid (∀ u, Below wr.heap.size wr u → Calls Tryz.prog 22 #[.slice ya N yc] u fun e w' => e = .returned (.bool lg) ∧ w' = u) := fun u hb => by rw [hya, hN, hyc, hlg]; exact qlong_any y.x.a y.x.e.l.length y.x.c y.x.e.l u rfl hok.ent.wr.room hok.ent.wr.few (hok.ent.wr.at_.past (HBW.out.trans (hb.mono HBW.out.size)))
        have FQ : Hid (∀ u, Below wr.heap.size wr u → u.cell? ⟨b, off + i * 18, none⟩ = some (.int .i64 op) ∧ u.cell? ⟨b, off + i * 18 + 1, none⟩ = some (.int .i64 id) ∧ u.cell? ⟨b, off + i * 18 + 1 + 5, none⟩ = some (.slice ya N yc) ∧ u.cell? ⟨b, off + i * 18 + 6, none⟩ = some (.slice ya N yc) ∧ u.cell? ⟨b, off + i * 18 + 7, none⟩ = some (.int .i64 t) ∧ u.cell? ⟨b, off + i * 18 + 8, none⟩ = some (.int .u8 n)) := fun u hu => by
          have hm := HAY.out u hu
          have h1 := hm.ent.cells
          have h2 := hm.st
          rw [hop, hid, hya, hN, hyc, ht, hn]
          exact ⟨hm.op, h1.1, h1.2.2.2.2.2, by have := h1.2.2.2.2.2; rwa [show off + i * 18 + 1 + 5 = off + i * 18 + 6 by omega] at this, h2.1, h2.2⟩
        have CPR : Hid (lg = false → Calls Tryz.prog 10 #[.pointer (some ⟨p, 0, none⟩), ev y.x] wr fun e w' => (∃ z : Int, e = .returned (.int .i64 z)) ∧ Hid (∃ P', PaX W0 w' p P' (i + 1))) := fun hg => by
          refine (xaprep HC.out y.x (HOK.out.ent.w HBW.out (by rw [← HLG.out]; exact hg))).mono ?_
          rintro e w' ⟨rfl, h2⟩
          exact ⟨⟨_, rfl⟩, _, h2.up (Nat.le_succ _)⟩
        have CCO : Hid (∀ u, Below wr.heap.size wr u → Calls Tryz.prog 12 #[.pointer (some ⟨p, 0, none⟩), .int .i64 id, .agg #[.int .i64 t, .int .u8 n]] u fun e w' => (∃ z : Int, e = .returned (.int .i64 z)) ∧ Hid (∃ P', PaX W0 w' p P' (i + 1))) := fun u hb => by
          refine (xacommit (HC.out.past hb) id t n (by rw [hid]; exact HOK.out.ent.ok.id) (by rw [hn]; exact HOK.out.n) (by omega)).mono ?_
          rintro e w' ⟨rfl, h2⟩
          exact ⟨⟨_, rfl⟩, _, h2⟩
        clear hlg hN hya hyc hop hid ht hn het hen hay hok hy HOK HC
        obtain ⟨q0, q1, q5, q6, q7, q8⟩ := FQ.out wr (Below.refl _ _)
        have HEA : Hid (EntAt wr b (off + i * 18 + 1) y.x) := (HAY.out wr (Below.refl _ _)).ent
        cases lg with
        | true =>
          clear CPR CCO
          go_wp2_with (first | (go_at_call 22; refine (CLG.out _ (Below.refl _ _)).mono ?_; rintro e v3 ⟨rfl, hv3⟩; obtain rfl := hv3.symm))
          go_ret
          exact ⟨rfl, HBW.out⟩
        | false =>
          have CP3 : Hid (Calls Tryz.prog 10 #[.pointer (some ⟨p, 0, none⟩), ev y.x] wr fun e w' => (∃ z : Int, e = .returned (.int .i64 z)) ∧ Hid (∃ P', PaX W0 w' p P' (i + 1))) := CPR.out rfl
          clear CPR
          by_cases ho : op = 0
          · subst ho
            go_wp2_with (first | (go_at_call 22; refine (CLG.out _ (Below.refl _ _)).mono ?_; rintro e v3 ⟨rfl, hv3⟩; obtain rfl := hv3.symm) | ((with_reducible show wpList _ _ _ (Oper.mk (some 54) _ _ _ _ _ :: _) _ _); refine wpList_load_pent 54 (by rfl) (by rfl) _ (by rfl) b (off + i * 18 + 1) (by rfl) y.x HEA.out ?_) | (go_at_call 10; refine CP3.out.mono ?_; rintro e v4 ⟨⟨z, rfl⟩, H4⟩))
            go_roundw
            case rel => exact ⟨i + 1, by go_num, by omega, H4⟩
            case measure => simp [intOf]; omega
          · have bo : (op == 0) = false := by simpa using ho
            clear ho
            go_wp2_with (first | (go_at_call 22; refine (CLG.out _ (Below.refl _ _)).mono ?_; rintro e v3 ⟨rfl, hv3⟩; obtain rfl := hv3.symm))
            refine wp_region_noPanic ?_
            refine region_up 12 (fun u => Below wr.heap.size wr u) (by kernel_rfl) ?_ (fun hHeld => ?_)
            · exact (Below.refl _ _).drew
            refine up_take (i := 0) (v := ?_) (by kernel_rfl) (by kernel_rfl) (by kernel_rfl) rfl (by kernel_rfl) (by kernel_rfl) (by kernel_rfl) (fun _ _ _ h => h) (Or.inl ⟨by rfl, ?_⟩) hHeld ?_
            rotate_left
            · intro u hSu
              (go_simp) <;> (with_reducible rfl)
            change wpUp _ _ _ _ _ _ _ _ (Act.put _ (some 56) _) _
            simp only [Act.put, List.setIfInBounds_toArray, List.set_cons_zero, List.set_cons_succ]
            refine up_take (i := 1) (v := ?_) (by kernel_rfl) (by kernel_rfl) (by kernel_rfl) rfl (by kernel_rfl) (by kernel_rfl) (by kernel_rfl) (fun _ _ _ h => h) (Or.inl ⟨by rfl, ?_⟩) hHeld ?_
            rotate_left
            · intro u hSu
              (go_simp) <;> (with_reducible rfl)
            change wpUp _ _ _ _ _ _ _ _ (Act.put _ (some 57) _) _
            simp only [Act.put, List.setIfInBounds_toArray, List.set_cons_zero, List.set_cons_succ]
            refine up_take (i := 2) (v := ?_) (by kernel_rfl) (by kernel_rfl) (by kernel_rfl) rfl (by kernel_rfl) (by kernel_rfl) (by kernel_rfl) (fun _ _ _ h => h) (Or.inl ⟨by rfl, ?_⟩) hHeld ?_
            rotate_left
            · intro u hSu
              (go_simp) <;> (with_reducible rfl)
            change wpUp _ _ _ _ _ _ _ _ (Act.put _ (some 58) _) _
            simp only [Act.put, List.setIfInBounds_toArray, List.set_cons_zero, List.set_cons_succ]
            refine up_take (i := 3) (v := ?_) (by kernel_rfl) (by kernel_rfl) (by kernel_rfl) rfl (by kernel_rfl) (by kernel_rfl) (by kernel_rfl) (fun _ _ _ h => h) (Or.inl ⟨by rfl, ?_⟩) hHeld ?_
            rotate_left
            · intro u hSu
              (go_simp) <;> (with_reducible rfl)
            change wpUp _ _ _ _ _ _ _ _ (Act.put _ (some 59) _) _
            simp only [Act.put, List.setIfInBounds_toArray, List.set_cons_zero, List.set_cons_succ]
            refine up_take (i := 4) (v := ?_) (by kernel_rfl) (by kernel_rfl) (by kernel_rfl) rfl (by kernel_rfl) (by kernel_rfl) (by kernel_rfl) (fun _ _ _ h => h) (Or.inl ⟨by rfl, ?_⟩) hHeld ?_
            rotate_left
            · intro u hSu
              (go_simp) <;> (with_reducible rfl)
            change wpUp _ _ _ _ _ _ _ _ (Act.put _ (some 60) _) _
            simp only [Act.put, List.setIfInBounds_toArray, List.set_cons_zero, List.set_cons_succ]
            refine up_take (i := 5) (v := ?_) (by kernel_rfl) (by kernel_rfl) (by kernel_rfl) rfl (by kernel_rfl) (by kernel_rfl) (by kernel_rfl) (fun _ _ _ h => h) (Or.inl ⟨by rfl, ?_⟩) hHeld ?_
            rotate_left
            · intro u hSu
              (go_simp) <;> (with_reducible rfl)
            change wpUp _ _ _ _ _ _ _ _ (Act.put _ (some 61) _) _
            simp only [Act.put, List.setIfInBounds_toArray, List.set_cons_zero, List.set_cons_succ]
            refine up_take (i := 6) (v := ?_) (by kernel_rfl) (by kernel_rfl) (by kernel_rfl) rfl (by kernel_rfl) (by kernel_rfl) (by kernel_rfl) (fun _ _ _ h => h) (Or.inl ⟨by rfl, ?_⟩) hHeld ?_
            rotate_left
            · intro u hSu
              obtain ⟨q0, q1, q5, q6, q7, q8⟩ := FQ.out u hSu
              (go_simp) <;> (with_reducible rfl)
            change wpUp _ _ _ _ _ _ _ _ (Act.put _ (some 62) _) _
            simp only [Act.put, List.setIfInBounds_toArray, List.set_cons_zero, List.set_cons_succ]
            refine up_take (i := 7) (v := ?_) (by kernel_rfl) (by kernel_rfl) (by kernel_rfl) rfl (by kernel_rfl) (by kernel_rfl) (by kernel_rfl) (fun _ _ _ h => h) (Or.inl ⟨by rfl, ?_⟩) hHeld ?_
            rotate_left
            · intro u hSu
              (go_simp) <;> (with_reducible rfl)
            change wpUp _ _ _ _ _ _ _ _ (Act.put _ (some 63) _) _
            simp only [Act.put, List.setIfInBounds_toArray, List.set_cons_zero, List.set_cons_succ]
            refine up_take (i := 8) (v := ?_) (by kernel_rfl) (by kernel_rfl) (by kernel_rfl) rfl (by kernel_rfl) (by kernel_rfl) (by kernel_rfl) (fun _ _ _ h => h) (Or.inl ⟨by rfl, ?_⟩) hHeld ?_
            rotate_left
            · intro u hSu
              (go_simp) <;> (with_reducible rfl)
            change wpUp _ _ _ _ _ _ _ _ (Act.put _ (some 64) _) _
            simp only [Act.put, List.setIfInBounds_toArray, List.set_cons_zero, List.set_cons_succ]
            refine up_take (i := 9) (v := ?_) (by kernel_rfl) (by kernel_rfl) (by kernel_rfl) rfl (by kernel_rfl) (by kernel_rfl) (by kernel_rfl) (fun _ _ _ h => h) (Or.inl ⟨by rfl, ?_⟩) hHeld ?_
            rotate_left
            · intro u hSu
              (go_simp) <;> (with_reducible rfl)
            change wpUp _ _ _ _ _ _ _ _ (Act.put _ (some 65) _) _
            simp only [Act.put, List.setIfInBounds_toArray, List.set_cons_zero, List.set_cons_succ]
            refine up_take (i := 10) (v := ?_) (by kernel_rfl) (by kernel_rfl) (by kernel_rfl) rfl (by kernel_rfl) (by kernel_rfl) (by kernel_rfl) (fun _ _ _ h => h) (Or.inl ⟨by rfl, ?_⟩) hHeld ?_
            rotate_left
            · intro u hSu
              (go_simp) <;> (with_reducible rfl)
            change wpUp _ _ _ _ _ _ _ _ (Act.put _ (some 66) _) _
            simp only [Act.put, List.setIfInBounds_toArray, List.set_cons_zero, List.set_cons_succ]
            refine up_take (i := 11) (v := ?_) (by kernel_rfl) (by kernel_rfl) (by kernel_rfl) rfl (by kernel_rfl) (by kernel_rfl) (by kernel_rfl) (fun _ _ _ h => h) (Or.inl ⟨by rfl, ?_⟩) hHeld ?_
            rotate_left
            · intro u hSu
              obtain ⟨q0, q1, q5, q6, q7, q8⟩ := FQ.out u hSu
              (go_simp) <;> (with_reducible rfl)
            change wpUp _ _ _ _ _ _ _ _ (Act.put _ (some 67) _) _
            simp only [Act.put, List.setIfInBounds_toArray, List.set_cons_zero, List.set_cons_succ]
            refine up_ready (rs := [12]) (by kernel_rfl) (by simp) ?_
            refine AllUp.that rfl (fun K hK => ?_) AllUp.nil
            go_simp
            go_at_call 12
            refine (CCO.out _ hHeld).mono ?_
            rintro e v4 ⟨⟨z, rfl⟩, H4⟩
            clear CCO
            refine hK.out _ _ ?_
            clear hK K hHeld
            refine up_done (by kernel_rfl) ?_
            refine NoPanic.normal ?_
            go_wp2
            go_roundw
            case rel => exact ⟨i + 1, by go_num, by omega, H4⟩
            case measure => simp [intOf]; omega
      · obtain rfl : i = len0 := by omega
        obtain ⟨R, hR⟩ : ∃ R, R = readP P z1 a2 b2 1152921504606846976 := ⟨_, rfl⟩
        obtain ⟨RE, RG⟩ := R
        obtain ⟨sg, hsg⟩ : ∃ x, x = strOfNums (RG.getD []) := ⟨_, rfl⟩
        obtain ⟨og, hog⟩ : ∃ x, x = RG.isSome := ⟨_, rfl⟩
        have CRD : Hid (Calls Tryz.prog 14 #[.pointer (some ⟨p, 0, none⟩), kv z1, .agg #[.int .i64 a2, .int .u8 b2], .int .i64 1152921504606846976] wr fun e w' => e = .returned (.tuple #[.string sg, .bool og, .int .i64 RE]) ∧ Below wr.heap.size wr w') := by
          have h9 := xaread HC.out z1 KY1.out a2 b2 1152921504606846976
          rw [← hR] at h9
          rw [hsg, hog]
          exact h9
        obtain ⟨x0, x1⟩ := (TB.out _ HC.out.below).two
        have FK0 : Hid (KeyAt wr w.heap.size 0 z1) := (TB.out _ HC.out.below).key
        by_cases hRE : RE = 0
        · subst hRE
          obtain ⟨g1, g2, g3, g4, g5⟩ := read_zero (P := P) (k := z1) (t := a2) (n := b2) (now := 1152921504606846976) (by rw [← hR])
          have HSQ : Hid (StQ W0 wr p (i + 0) z1 a2 b2 RG) := ⟨P, HC.out, (free_iff HC.out.k.tab).1 g4, by rw [← g5, ← hR]⟩
          have CRS : Hid (∀ u c, StQ W0 u p c z1 a2 b2 RG → Calls Tryz.prog 14 #[.pointer (some ⟨p, 0, none⟩), kv z1, .agg #[.int .i64 a2, .int .u8 b2], .int .i64 1152921504606846976] u fun e w' => e = .returned (.tuple #[.string sg, .bool og, .int .i64 0]) ∧ Below u.heap.size u w') := fun u c h => by rw [hsg, hog]; exact stq_read h KY1.out g1 g2 g3
          clear hR hsg hog g1 g2 g3 g4 g5
          go_wp2_with (first | ((with_reducible show wpList _ _ _ (Oper.mk (some 71) _ _ _ _ _ :: _) _ _); refine wpList_load_keyD 71 (by rfl) (by rfl) _ (by rfl) w.heap.size 0 (by rfl) z1 KY1.out FK0.out ?_) | (go_at_call 14; refine CRD.out.mono ?_; rintro e v5 ⟨rfl, hb5⟩; have B5 : Hid (Below wr.heap.size wr v5) := hb5; clear hb5 CRD))
          have HS5 : Hid (StQ W0 v5 p (i + 0) z1 a2 b2 RG) := HSQ.out.past B5.out
          clear HSQ HC HBW B5 FK0 x0 x1
          obtain ⟨LEN, hLEN⟩ : ∃ n, n = i := ⟨_, rfl⟩
          subst hLEN
          go_loopw [14] (fun iv wr => ∃ j : Nat, iv = .int .i64 j ∧ j ≤ len3 ∧ Hid (StQ W0 wr p (LEN + j) z1 a2 b2 RG)) (fun iv _ => len3 - (intOf iv).toNat)
          case atStart => exact ⟨0, rfl, Nat.zero_le _, HS5⟩
          case round =>
            clear HS5
            obtain ⟨i, rfl, hi, HSQ⟩ := hrel
            have h0 : (0 : Int) ≤ (i : Int) := by omega
            have HBW : Hid (Below w.heap.size w wr) := HBW0.out _ HSQ.out.below
            by_cases hlt : i < len3
            · have h1 : (i : Int) < (len3 : Int) := by omega
              obtain ⟨y, hy⟩ : ∃ y, z3[i]? = some y := ⟨_, List.getElem?_eq_getElem (by rw [HL3.out]; exact hlt)⟩
              obtain ⟨b, off, rfl, hay, hok⟩ := HA3.out.act hy
              have HAY : Hid (∀ u, Below wr.heap.size wr u → QActAt u b (off + i * 18) y) := fun u hu => (hay.past HBW.out).past hu
              have HOK : Hid (QActOk w y) := hok
              obtain ⟨lg, hlg⟩ : ∃ g, g = longQ y.x.e.l := ⟨_, rfl⟩
              have HLG : Hid (lg = longQ y.x.e.l) := hlg
              obtain ⟨N, hN⟩ : ∃ N, N = y.x.e.l.length := ⟨_, rfl⟩
              obtain ⟨ya, hya⟩ : ∃ t, t = y.x.a := ⟨_, rfl⟩
              obtain ⟨yc, hyc⟩ : ∃ t, t = y.x.c := ⟨_, rfl⟩
              obtain ⟨op, hop⟩ : ∃ t, t = y.op := ⟨_, rfl⟩
              obtain ⟨id, hid⟩ : ∃ t, t = y.x.e.id := ⟨_, rfl⟩
              obtain ⟨t, ht⟩ : ∃ t, t = y.t := ⟨_, rfl⟩
              obtain ⟨n, hn⟩ : ∃ t, t = y.n := ⟨_, rfl⟩
              obtain ⟨et, het⟩ : ∃ t, t = y.x.e.t := ⟨_, rfl⟩
              obtain ⟨en, hen⟩ : ∃ t, t = y.x.e.n := ⟨_, rfl⟩
              have CLG : Hid (∀ u, Below wr.heap.size wr u → Calls Tryz.prog 22 #[.slice ya N yc] u fun e w' => e = .returned (.bool lg) ∧ w' = u) := fun u hb => by rw [hya, hN, hyc, hlg]; exact qlong_any y.x.a y.x.e.l.length y.x.c y.x.e.l u rfl hok.ent.wr.room hok.ent.wr.few (hok.ent.wr.at_.past (HBW.out.trans (hb.mono HBW.out.size)))
              have FQ : Hid (∀ u c, QMine u c y → u.cell? ⟨c, 0, none⟩ = some (.int .i64 op) ∧ u.cell? ⟨c, 1, none⟩ = some (.int .i64 id) ∧ u.cell? ⟨c, 4, none⟩ = some (.int .i64 et) ∧ u.cell? ⟨c, 5, none⟩ = some (.int .u8 en) ∧ u.cell? ⟨c, 6, none⟩ = some (.slice ya N yc) ∧ u.cell? ⟨c, 7, none⟩ = some (.int .i64 t) ∧ u.cell? ⟨c, 8, none⟩ = some (.int .u8 n)) := fun u c hm => by
                have h1 := hm.at_.ent.cells
                have h2 := hm.at_.st
                rw [Nat.zero_add] at h1 h2
                rw [hop, hid, hya, hN, hyc, ht, hn, het, hen]
                exact ⟨hm.at_.op, h1.1, h1.2.2.2.1, h1.2.2.2.2.1, h1.2.2.2.2.2, h2.1, h2.2⟩
              have FB : Hid (∀ u, Below wr.heap.size wr u → KsB w u z1 a2 b2) := fun u hu => (TB.out _ HSQ.out.below).past hu
              obtain ⟨cc, hcc⟩ : ∃ c, c = cmpS et en a2 b2 := ⟨_, rfl⟩
              have CCM : Hid (∀ u, Calls Tryz.prog 39 #[.agg #[.int .i64 et, .int .u8 en], .agg #[.int .i64 a2, .int .u8 b2]] u fun e w' => e = .returned (.int .i64 cc) ∧ Below u.heap.size u w') := fun u => by rw [hcc]; exact rcmp6_any et en a2 b2 u
              have CPR : Hid (lg = false → 0 < cc → ∀ u, Below wr.heap.size wr u → Calls Tryz.prog 10 #[.pointer (some ⟨p, 0, none⟩), ev y.x] u fun e w' => (∃ z : Int, e = .returned (.int .i64 z)) ∧ Hid (StQ W0 w' p (LEN + (i + 1)) z1 a2 b2 RG)) := fun hg hc u hb => by
                refine (stq_prep (HSQ.out.past hb) y.x (HOK.out.ent.w (HBW.out.trans (hb.mono HBW.out.size)) (by rw [← HLG.out]; exact hg)) (by rw [← het, ← hen, ← hcc]; exact hc)).mono ?_
                rintro e w' ⟨h1, h2⟩
                exact ⟨h1, h2.up (by omega)⟩
              have CCO : Hid (∀ u, Below wr.heap.size wr u → Calls Tryz.prog 12 #[.pointer (some ⟨p, 0, none⟩), .int .i64 id, .agg #[.int .i64 t, .int .u8 n]] u fun e w' => (∃ z : Int, e = .returned (.int .i64 z)) ∧ Hid (StQ W0 w' p (LEN + (i + 1)) z1 a2 b2 RG)) := fun u hb => by
                refine (stq_commit (HSQ.out.past hb) id t n (by rw [hid]; exact HOK.out.ent.ok.id) (by rw [hn]; exact HOK.out.n) (by omega)).mono ?_
                rintro e w' ⟨h1, h2⟩
                exact ⟨h1, h2.up (by omega)⟩
              have CAB : Hid (∀ u, Below wr.heap.size wr u → Calls Tryz.prog 17 #[.pointer (some ⟨p, 0, none⟩), .int .i64 id] u fun e w' => (∃ z : Int, e = .returned (.int .i64 z)) ∧ Hid (StQ W0 w' p (LEN + (i + 1)) z1 a2 b2 RG)) := fun u hb => by
                refine (stq_abort (HSQ.out.past hb) id (by rw [hid]; exact HOK.out.ent.ok.id) (by omega)).mono ?_
                rintro e w' ⟨h1, h2⟩
                exact ⟨h1, h2.up (by omega)⟩
              have hmi := QMine.made wr 55 zeroQ
              rw [zeroQ_cells] at hmi
              have HMI : Hid _ := hmi
              clear hmi hcc hlg hN hya hyc hop hid ht hn het hen hay hok hy HOK
              cases lg with
              | true =>
                clear CPR CCO CAB
                go_wp2_with (first | ((with_reducible show wpList _ _ _ (Oper.mk (some 94) _ _ _ _ _ :: _) _ _); refine wpList_load_qact 94 (by rfl) (by rfl) _ (by rfl) b (off + i * 18) (by rfl) y (HAY.out _ (Below.refl _ _)) ?_) | (have hgo := HMI.out; clear hgo; refine wpList_store_qact (.tmp 15) (by rfl) _ (by rfl) wr.heap.size zeroQ y (by rfl) (by rfl) HMI.out ?_; intro u2 hu; have HQ2 : Hid (QMine u2 wr.heap.size y) := hu ▸ HMI.out.store; have HB2 : Hid (Below wr.heap.size wr u2) := hu ▸ below_cells (Nat.le_refl _) ((Below.refl _ _).alloc (Nat.le_refl _) _); obtain ⟨x0, x1, x4, x5, x6, x7, x8⟩ := FQ.out u2 wr.heap.size HQ2.out; obtain ⟨c0, c1⟩ := (FB.out u2 HB2.out).two; have FK2 : Hid (KeyAt u2 w.heap.size 0 z1) := (FB.out u2 HB2.out).key; have HS2 : Hid (StQ W0 u2 p (LEN + i) z1 a2 b2 RG) := HSQ.out.past HB2.out; clear hu HMI HSQ) | (go_at_call 22; refine (CLG.out _ HB2.out).mono ?_; rintro e v3 ⟨rfl, hv3⟩; obtain rfl := hv3.symm))
                go_ret
                exact ⟨rfl, HBW.out.trans (HB2.out.mono HBW.out.size)⟩
              | false =>
                have CP2 := CPR.out rfl
                have CP3 : Hid _ := CP2
                clear CP2 CPR
                have h5 : (op = 0 ∧ 0 < cc) ∨ (op = 0 ∧ ¬ 0 < cc) ∨ op = 1 ∨ op = 2 ∨ (op ≠ 0 ∧ op ≠ 1 ∧ op ≠ 2) := by omega
                rcases h5 with ho | ho | ho | ho | ho
                · obtain ⟨rfl, hcp⟩ := ho
                  have CP4 := CP3.out hcp
                  have CP5 : Hid _ := CP4
                  clear CP4 CP3
                  go_wp2_with (first | ((with_reducible show wpList _ _ _ (Oper.mk (some 94) _ _ _ _ _ :: _) _ _); refine wpList_load_qact 94 (by rfl) (by rfl) _ (by rfl) b (off + i * 18) (by rfl) y (HAY.out _ (Below.refl _ _)) ?_) | (have hgo := HMI.out; clear hgo; refine wpList_store_qact (.tmp 15) (by rfl) _ (by rfl) wr.heap.size zeroQ y (by rfl) (by rfl) HMI.out ?_; intro u2 hu; have HQ2 : Hid (QMine u2 wr.heap.size y) := hu ▸ HMI.out.store; have HB2 : Hid (Below wr.heap.size wr u2) := hu ▸ below_cells (Nat.le_refl _) ((Below.refl _ _).alloc (Nat.le_refl _) _); obtain ⟨x0, x1, x4, x5, x6, x7, x8⟩ := FQ.out u2 wr.heap.size HQ2.out; obtain ⟨c0, c1⟩ := (FB.out u2 HB2.out).two; have FK2 : Hid (KeyAt u2 w.heap.size 0 z1) := (FB.out u2 HB2.out).key; have HS2 : Hid (StQ W0 u2 p (LEN + i) z1 a2 b2 RG) := HSQ.out.past HB2.out; clear hu HMI HSQ) | (go_at_call 22; refine (CLG.out _ HB2.out).mono ?_; rintro e v3 ⟨rfl, hv3⟩; obtain rfl := hv3.symm) | (go_at_call 39; refine (CCM.out _).mono ?_; rintro e v7 ⟨rfl, hb7⟩; have HQ7 : Hid (QMine v7 wr.heap.size y) := HQ2.out.past hb7; have HB7 : Hid (Below wr.heap.size wr v7) := HB2.out.trans (hb7.mono HB2.out.size); clear c0 c1 x0 x1 x4 x5 x6 x7 x8; obtain ⟨x0, x1, x4, x5, x6, x7, x8⟩ := FQ.out v7 wr.heap.size HQ7.out; obtain ⟨c0, c1⟩ := (FB.out v7 HB7.out).two; have HS7 : Hid (StQ W0 v7 p (LEN + i) z1 a2 b2 RG) := HS2.out.past hb7; clear hb7 HS2) | ((with_reducible show wpList _ _ _ (Oper.mk (some 113) _ _ _ _ _ :: _) _ _); refine wpList_load_pent 113 (by rfl) (by rfl) _ (by rfl) wr.heap.size 1 (by rfl) y.x HQ7.out.at_.ent ?_) | (go_at_call 10; refine (CP5.out _ HB7.out).mono ?_; rintro e v4 ⟨⟨z, rfl⟩, H4⟩; clear c0 c1 x0 x1 x4 x5 x6 x7 x8; obtain ⟨c0, c1⟩ := (TB.out _ H4.out.below).two) | ((with_reducible show wpList _ _ _ (Oper.mk (some 137) _ _ _ _ _ :: _) _ _); refine wpList_load_keyD 137 (by rfl) (by rfl) _ (by rfl) w.heap.size 0 (by rfl) z1 KY1.out (TB.out _ H4.out.below).key ?_) | (have hgo := H4.out; clear hgo; go_at_call 14; refine (CRS.out _ _ H4.out).mono ?_; rintro e v6 ⟨rfl, hb6⟩; have H6 : Hid (StQ W0 v6 p (LEN + (i + 1)) z1 a2 b2 RG) := (H4.out.past hb6); clear hb6))
                  go_roundw
                  case rel => exact ⟨i + 1, by go_num, by omega, H6⟩
                  case measure => simp [intOf]; omega
                · obtain ⟨rfl, hcp⟩ := ho
                  clear CP3
                  go_wp2_with (first | ((with_reducible show wpList _ _ _ (Oper.mk (some 94) _ _ _ _ _ :: _) _ _); refine wpList_load_qact 94 (by rfl) (by rfl) _ (by rfl) b (off + i * 18) (by rfl) y (HAY.out _ (Below.refl _ _)) ?_) | (have hgo := HMI.out; clear hgo; refine wpList_store_qact (.tmp 15) (by rfl) _ (by rfl) wr.heap.size zeroQ y (by rfl) (by rfl) HMI.out ?_; intro u2 hu; have HQ2 : Hid (QMine u2 wr.heap.size y) := hu ▸ HMI.out.store; have HB2 : Hid (Below wr.heap.size wr u2) := hu ▸ below_cells (Nat.le_refl _) ((Below.refl _ _).alloc (Nat.le_refl _) _); obtain ⟨x0, x1, x4, x5, x6, x7, x8⟩ := FQ.out u2 wr.heap.size HQ2.out; obtain ⟨c0, c1⟩ := (FB.out u2 HB2.out).two; have FK2 : Hid (KeyAt u2 w.heap.size 0 z1) := (FB.out u2 HB2.out).key; have HS2 : Hid (StQ W0 u2 p (LEN + i) z1 a2 b2 RG) := HSQ.out.past HB2.out; clear hu HMI HSQ) | (go_at_call 22; refine (CLG.out _ HB2.out).mono ?_; rintro e v3 ⟨rfl, hv3⟩; obtain rfl := hv3.symm) | (go_at_call 39; refine (CCM.out _).mono ?_; rintro e v7 ⟨rfl, hb7⟩; have HQ7 : Hid (QMine v7 wr.heap.size y) := HQ2.out.past hb7; have HB7 : Hid (Below wr.heap.size wr v7) := HB2.out.trans (hb7.mono HB2.out.size); clear c0 c1 x0 x1 x4 x5 x6 x7 x8; obtain ⟨x0, x1, x4, x5, x6, x7, x8⟩ := FQ.out v7 wr.heap.size HQ7.out; obtain ⟨c0, c1⟩ := (FB.out v7 HB7.out).two; have HS7 : Hid (StQ W0 v7 p (LEN + i) z1 a2 b2 RG) := HS2.out.past hb7; clear hb7 HS2) | ((with_reducible show wpList _ _ _ (Oper.mk (some 137) _ _ _ _ _ :: _) _ _); refine wpList_load_keyD 137 (by rfl) (by rfl) _ (by rfl) w.heap.size 0 (by rfl) z1 KY1.out (TB.out _ HS7.out.below).key ?_) | (have hgo := HS7.out; clear hgo; go_at_call 14; refine (CRS.out _ _ HS7.out).mono ?_; rintro e v6 ⟨rfl, hb6⟩; have H6 : Hid (StQ W0 v6 p (LEN + (i + 1)) z1 a2 b2 RG) := (HS7.out.past hb6).up (by omega); clear hb6))
                  go_roundw
                  case rel => exact ⟨i + 1, by go_num, by omega, H6⟩
                  case measure => simp [intOf]; omega
                · subst ho
                  clear CP3
                  go_wp2_with (first | ((with_reducible show wpList _ _ _ (Oper.mk (some 94) _ _ _ _ _ :: _) _ _); refine wpList_load_qact 94 (by rfl) (by rfl) _ (by rfl) b (off + i * 18) (by rfl) y (HAY.out _ (Below.refl _ _)) ?_) | (have hgo := HMI.out; clear hgo; refine wpList_store_qact (.tmp 15) (by rfl) _ (by rfl) wr.heap.size zeroQ y (by rfl) (by rfl) HMI.out ?_; intro u2 hu; have HQ2 : Hid (QMine u2 wr.heap.size y) := hu ▸ HMI.out.store; have HB2 : Hid (Below wr.heap.size wr u2) := hu ▸ below_cells (Nat.le_refl _) ((Below.refl _ _).alloc (Nat.le_refl _) _); obtain ⟨x0, x1, x4, x5, x6, x7, x8⟩ := FQ.out u2 wr.heap.size HQ2.out; obtain ⟨c0, c1⟩ := (FB.out u2 HB2.out).two; have FK2 : Hid (KeyAt u2 w.heap.size 0 z1) := (FB.out u2 HB2.out).key; have HS2 : Hid (StQ W0 u2 p (LEN + i) z1 a2 b2 RG) := HSQ.out.past HB2.out; clear hu HMI HSQ) | (go_at_call 22; refine (CLG.out _ HB2.out).mono ?_; rintro e v3 ⟨rfl, hv3⟩; obtain rfl := hv3.symm) | (go_at_call 12; refine (CCO.out _ HB2.out).mono ?_; rintro e v4 ⟨⟨z, rfl⟩, H4⟩; clear c0 c1 x0 x1 x4 x5 x6 x7 x8; obtain ⟨c0, c1⟩ := (TB.out _ H4.out.below).two) | ((with_reducible show wpList _ _ _ (Oper.mk (some 137) _ _ _ _ _ :: _) _ _); refine wpList_load_keyD 137 (by rfl) (by rfl) _ (by rfl) w.heap.size 0 (by rfl) z1 KY1.out (TB.out _ H4.out.below).key ?_) | (have hgo := H4.out; clear hgo; go_at_call 14; refine (CRS.out _ _ H4.out).mono ?_; rintro e v6 ⟨rfl, hb6⟩; have H6 : Hid (StQ W0 v6 p (LEN + (i + 1)) z1 a2 b2 RG) := (H4.out.past hb6); clear hb6))
                  go_roundw
                  case rel => exact ⟨i + 1, by go_num, by omega, H6⟩
                  case measure => simp [intOf]; omega
                · subst ho
                  clear CP3
                  go_wp2_with (first | ((with_reducible show wpList _ _ _ (Oper.mk (some 94) _ _ _ _ _ :: _) _ _); refine wpList_load_qact 94 (by rfl) (by rfl) _ (by rfl) b (off + i * 18) (by rfl) y (HAY.out _ (Below.refl _ _)) ?_) | (have hgo := HMI.out; clear hgo; refine wpList_store_qact (.tmp 15) (by rfl) _ (by rfl) wr.heap.size zeroQ y (by rfl) (by rfl) HMI.out ?_; intro u2 hu; have HQ2 : Hid (QMine u2 wr.heap.size y) := hu ▸ HMI.out.store; have HB2 : Hid (Below wr.heap.size wr u2) := hu ▸ below_cells (Nat.le_refl _) ((Below.refl _ _).alloc (Nat.le_refl _) _); obtain ⟨x0, x1, x4, x5, x6, x7, x8⟩ := FQ.out u2 wr.heap.size HQ2.out; obtain ⟨c0, c1⟩ := (FB.out u2 HB2.out).two; have FK2 : Hid (KeyAt u2 w.heap.size 0 z1) := (FB.out u2 HB2.out).key; have HS2 : Hid (StQ W0 u2 p (LEN + i) z1 a2 b2 RG) := HSQ.out.past HB2.out; clear hu HMI HSQ) | (go_at_call 22; refine (CLG.out _ HB2.out).mono ?_; rintro e v3 ⟨rfl, hv3⟩; obtain rfl := hv3.symm) | (go_at_call 17; refine (CAB.out _ HB2.out).mono ?_; rintro e v4 ⟨⟨z, rfl⟩, H4⟩; clear c0 c1 x0 x1 x4 x5 x6 x7 x8; obtain ⟨c0, c1⟩ := (TB.out _ H4.out.below).two) | ((with_reducible show wpList _ _ _ (Oper.mk (some 137) _ _ _ _ _ :: _) _ _); refine wpList_load_keyD 137 (by rfl) (by rfl) _ (by rfl) w.heap.size 0 (by rfl) z1 KY1.out (TB.out _ H4.out.below).key ?_) | (have hgo := H4.out; clear hgo; go_at_call 14; refine (CRS.out _ _ H4.out).mono ?_; rintro e v6 ⟨rfl, hb6⟩; have H6 : Hid (StQ W0 v6 p (LEN + (i + 1)) z1 a2 b2 RG) := (H4.out.past hb6); clear hb6))
                  go_roundw
                  case rel => exact ⟨i + 1, by go_num, by omega, H6⟩
                  case measure => simp [intOf]; omega
                · have bo0 : (op == 0) = false := by simpa using ho.1
                  have bo1 : (op == 1) = false := by simpa using ho.2.1
                  have bo2 : (op == 2) = false := by simpa using ho.2.2
                  clear ho CP3
                  go_wp2_with (first | ((with_reducible show wpList _ _ _ (Oper.mk (some 94) _ _ _ _ _ :: _) _ _); refine wpList_load_qact 94 (by rfl) (by rfl) _ (by rfl) b (off + i * 18) (by rfl) y (HAY.out _ (Below.refl _ _)) ?_) | (have hgo := HMI.out; clear hgo; refine wpList_store_qact (.tmp 15) (by rfl) _ (by rfl) wr.heap.size zeroQ y (by rfl) (by rfl) HMI.out ?_; intro u2 hu; have HQ2 : Hid (QMine u2 wr.heap.size y) := hu ▸ HMI.out.store; have HB2 : Hid (Below wr.heap.size wr u2) := hu ▸ below_cells (Nat.le_refl _) ((Below.refl _ _).alloc (Nat.le_refl _) _); obtain ⟨x0, x1, x4, x5, x6, x7, x8⟩ := FQ.out u2 wr.heap.size HQ2.out; obtain ⟨c0, c1⟩ := (FB.out u2 HB2.out).two; have FK2 : Hid (KeyAt u2 w.heap.size 0 z1) := (FB.out u2 HB2.out).key; have HS2 : Hid (StQ W0 u2 p (LEN + i) z1 a2 b2 RG) := HSQ.out.past HB2.out; clear hu HMI HSQ) | (go_at_call 22; refine (CLG.out _ HB2.out).mono ?_; rintro e v3 ⟨rfl, hv3⟩; obtain rfl := hv3.symm) | ((with_reducible show wpList _ _ _ (Oper.mk (some 137) _ _ _ _ _ :: _) _ _); refine wpList_load_keyD 137 (by rfl) (by rfl) _ (by rfl) w.heap.size 0 (by rfl) z1 KY1.out (TB.out _ HS2.out.below).key ?_) | (have hgo := HS2.out; clear hgo; go_at_call 14; refine (CRS.out _ _ HS2.out).mono ?_; rintro e v6 ⟨rfl, hb6⟩; have H6 : Hid (StQ W0 v6 p (LEN + (i + 1)) z1 a2 b2 RG) := (HS2.out.past hb6).up (by omega); clear hb6))
                  go_roundw
                  case rel => exact ⟨i + 1, by go_num, by omega, H6⟩
                  case measure => simp [intOf]; omega
            · obtain rfl : i = len3 := by omega
              go_wp2
              go_ret
              exact ⟨rfl, HBW.out⟩
        · have hb := read_bad (P := P) (k := z1) (t := a2) (n := b2) (now := 1152921504606846976) (by rw [← hR]; exact hRE)
          rw [← hR] at hb
          have hb2 : RG = none := hb
          subst hb2
          have e1 : sg = ⟨#[]⟩ := by rw [hsg]; rfl
          have e2 : og = false := by rw [hog]; rfl
          subst e1
          subst e2
          have bRE : (RE == 0) = false := by simpa using hRE
          clear hR hsg hog hb hRE
          go_wp2_with (first | ((with_reducible show wpList _ _ _ (Oper.mk (some 71) _ _ _ _ _ :: _) _ _); refine wpList_load_keyD 71 (by rfl) (by rfl) _ (by rfl) w.heap.size 0 (by rfl) z1 KY1.out FK0.out ?_) | (go_at_call 14; refine CRD.out.mono ?_; rintro e v5 ⟨rfl, hb5⟩; have B5 : Hid (Below wr.heap.size wr v5) := hb5; clear hb5 CRD))
          go_ret
          exact ⟨by rfl, HBW.out.trans (B5.out.mono HBW.out.size)⟩

set_option maxRecDepth 100000 in
theorem lifted (os : Os) (started : os.Started) (H : Type) (enc : TypeId × Value → H) :
    ReturnsInHanded {} Tryz.checked os 6 .any (Rows.partStillSpec.pre6 enc Tryz.prog Tryz.f6 Rows.partStillRow.domain false) (Rows.partStillSpec.post enc Tryz.prog Tryz.f6 false true false false) := by
  refine returnsInHanded_of_change (C := Tryz.checked) own started (by kernel_rfl) Tryz.func6
    (ChangeSpec.witness6 (enc := enc) (C := Tryz.checked) false ⟨#[], #[.slice none 0 0, .agg #[.int .u8 0, .int .u8 0, .int .u8 0, .int .u8 0, .int .u8 0, .int .u8 0, .int .u8 0, .int .u8 0, .int .u8 0, .int .u8 0, .int .u8 0, .int .u8 0, .int .u8 0, .int .u8 0, .int .u8 0, .int .u8 0], .agg #[.int .i64 0, .int .u8 0], .slice none 0 0], []⟩ 8 (by kernel_rfl) (by kernel_rfl) (by kernel_rfl) (by kernel_rfl)) ?_
  intro W base args ds gs before hval0 hW hcnd _
  have hval : ∀ (j : Nat) t v, Tryz.f6.params[j]? = some t → args[j]? = some v → Value.okWide Tryz.prog W .any base t v := hval0
  have hW' := hW
  obtain ⟨p, q, hA0, hV, rfl, hfz, hnd⟩ := hW
  have hA : DataW.TrodAll enc Tryz.prog W 0 (fun _ => true) true Tryz.f6.params.toList args.toList ds p := hA0
  rw [Tryz.params6] at hA hval
  obtain ⟨v0, vs0, d0, ds0, p0, q0, hargs, rfl, rfl, h0, r0⟩ := trodAll_cons hA
  obtain ⟨v1, vs1, d1, ds1, p1, q1, rfl, rfl, rfl, h1, r1⟩ := trodAll_cons r0
  obtain ⟨v2, vs2, d2, ds2, p2, q2, rfl, rfl, rfl, h2, r2⟩ := trodAll_cons r1
  obtain ⟨v3, vs3, d3, ds3, p3, q3, rfl, rfl, rfl, h3, r3⟩ := trodAll_cons r2
  obtain ⟨rfl, rfl, rfl⟩ := trodAll_nil r3
  obtain rfl : args = #[v0, v1, v2, v3] := by cases args; simp_all
  obtain ⟨rfl, rfl⟩ := trodVars_none hV
  obtain ⟨a0, len0, cap0, rfl⟩ := okWide_slice Tryz.underlying51 (hval 0 51 v0 rfl rfl)
  have k0 := h0
  have lt0 : ∀ x ∈ p0, x.block < W.heap.size := by obtain ⟨m, hm⟩ := k0; exact DataW.trod_lt m _ _ _ hm
  obtain ⟨z0, l0, w0⟩ : ∃ xs : List QAct, xs.length = len0 ∧ QActsOf W a0 cap0 xs := by
    obtain ⟨fuel, hf⟩ := h0
    exact qacts_open Tryz.underlying51 Tryz.underlying55 Tryz.underlying3 rfl rfl rfl Tryz.underlying31 Tryz.underlying2 Tryz.underlying28 Tryz.underlying28 Tryz.underlying2 Tryz.underlying5 Tryz.underlying29 Tryz.underlying80 Tryz.underlying38 Tryz.underlying5 Tryz.underlying9 Tryz.underlying4 rfl rfl rfl rfl rfl rfl rfl rfl rfl (by kernel_rfl) (by kernel_rfl) (by kernel_rfl) (by kernel_rfl) (by kernel_rfl) (by kernel_rfl) (by kernel_rfl) (by kernel_rfl) (by kernel_rfl) (by kernel_rfl) (by kernel_rfl) Tryz.underlying28 Tryz.underlying47 Tryz.underlying3 Tryz.underlying2 Tryz.underlying28 Tryz.underlying28 Tryz.underlying29 Tryz.underlying4 Tryz.underlying45 Tryz.underlying3 rfl rfl rfl rfl rfl rfl rfl (by kernel_rfl) (by kernel_rfl) (by kernel_rfl) (by kernel_rfl) (by kernel_rfl) (by kernel_rfl) (by kernel_rfl) (by kernel_rfl) rfl rfl rfl rfl (by kernel_rfl) (by kernel_rfl) (by kernel_rfl) (by kernel_rfl) (by kernel_rfl) hf
  have k1 := h1
  have lt1 : ∀ x ∈ p1, x.block < W.heap.size := by obtain ⟨m, hm⟩ := k1; exact DataW.trod_lt m _ _ _ hm
  obtain ⟨z1, rfl, w1⟩ := arr_open Tryz.underlying38 Tryz.underlying5 (by kernel_rfl) (by kernel_rfl) (hval 1 38 v1 rfl rfl) h1
  have k2 := h2
  have lt2 : ∀ x ∈ p2, x.block < W.heap.size := by obtain ⟨m, hm⟩ := k2; exact DataW.trod_lt m _ _ _ hm
  obtain ⟨a2, b2, rfl, w2, x2⟩ := struct2_open Tryz.underlying28 Tryz.underlying2 Tryz.underlying5 rfl rfl (by kernel_rfl) (by kernel_rfl) (by kernel_rfl) (hval 2 28 v2 rfl rfl) h2
  obtain ⟨a3, len3, cap3, rfl⟩ := okWide_slice Tryz.underlying51 (hval 3 51 v3 rfl rfl)
  have k3 := h3
  have lt3 : ∀ x ∈ p3, x.block < W.heap.size := by obtain ⟨m, hm⟩ := k3; exact DataW.trod_lt m _ _ _ hm
  obtain ⟨z3, l3, w3⟩ : ∃ xs : List QAct, xs.length = len3 ∧ QActsOf W a3 cap3 xs := by
    obtain ⟨fuel, hf⟩ := h3
    exact qacts_open Tryz.underlying51 Tryz.underlying55 Tryz.underlying3 rfl rfl rfl Tryz.underlying31 Tryz.underlying2 Tryz.underlying28 Tryz.underlying28 Tryz.underlying2 Tryz.underlying5 Tryz.underlying29 Tryz.underlying80 Tryz.underlying38 Tryz.underlying5 Tryz.underlying9 Tryz.underlying4 rfl rfl rfl rfl rfl rfl rfl rfl rfl (by kernel_rfl) (by kernel_rfl) (by kernel_rfl) (by kernel_rfl) (by kernel_rfl) (by kernel_rfl) (by kernel_rfl) (by kernel_rfl) (by kernel_rfl) (by kernel_rfl) (by kernel_rfl) Tryz.underlying28 Tryz.underlying47 Tryz.underlying3 Tryz.underlying2 Tryz.underlying28 Tryz.underlying28 Tryz.underlying29 Tryz.underlying4 Tryz.underlying45 Tryz.underlying3 rfl rfl rfl rfl rfl rfl rfl (by kernel_rfl) (by kernel_rfl) (by kernel_rfl) (by kernel_rfl) (by kernel_rfl) (by kernel_rfl) (by kernel_rfl) (by kernel_rfl) rfl rfl rfl rfl (by kernel_rfl) (by kernel_rfl) (by kernel_rfl) (by kernel_rfl) (by kernel_rfl) hf
  clear hA0 hval0
  refine (walk a0 len0 cap0 z0 z1 a2 b2 a3 len3 cap3 z3 W l0 w0 w1 w2 x2 l3 w3).mono fun e W' ⟨he, bel⟩ => ?_
  subst he
  exact ⟨_, rfl, _, _, _, [], _, [], hW', trodAll_mk1 (shut_bool Tryz.underlying4 _), (trodAll_cons_mk (Below.trod laidOut (by kernel_rfl) (of_decide_eq_true (by kernel_rfl)) k0 bel lt0) (trodAll_cons_mk (Below.trod laidOut (by kernel_rfl) (of_decide_eq_true (by kernel_rfl)) k1 bel lt1) (trodAll_cons_mk (Below.trod laidOut (by kernel_rfl) (of_decide_eq_true (by kernel_rfl)) k2 bel lt2) (trodAll_cons_mk (Below.trod laidOut (by kernel_rfl) (of_decide_eq_true (by kernel_rfl)) k3 bel lt3) trodAll_mk0)))), rfl, bel.frame _, fun h => by cases h⟩

theorem over : Rows.partStillRow.holds Tryz.pinned (OpenSpec.ofChange Rows.partStillSpec) :=
  OpenClaim.holds_of_wide 6 Tryz.f6 rfl rfl rfl rfl rfl rfl rfl ⟨rfl, rfl, rfl, rfl, rfl⟩ rfl rfl rfl rfl rfl (by kernel_rfl) Tryz.func6 (by kernel_rfl)
    (of_decide_eq_true (by kernel_rfl)) (by unfold Func.isWrapper; first | (rw [if_pos (by decide +kernel)]; kernel_rfl) | (rw [if_neg (by decide +kernel)]; exact ⟨rfl, rfl⟩))
    (fun os started H enc _ => lifted os started H enc)
theorem proved : Rows.PartStillSaid := over
#print axioms proved
end Go.Proofs.YtileidbdmpeciaaGreat.partStill
namespace Go.Proofs.YtileidbdmpeciaaGreat
/-- PartStill, as given. -/
theorem partStill_holds : Rows.PartStillSaid := partStill.proved
end Go.Proofs.YtileidbdmpeciaaGreat
