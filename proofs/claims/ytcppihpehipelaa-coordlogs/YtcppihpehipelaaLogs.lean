/-
  CoordLogs: a decision that is logged and played is the same decision, and owes all its parts (of more than 8 parts, of more than 40 acts the statement asks nothing).
-/
import Derived.Test.YtcppihpehipelaaRows
import Derived.Test.YtcppihpehipelaaAu20
import Derived.Test.YtcppihpehipelaaCdActs
import Derived.WalkKit
import Derived.ProofKit
import Derived.OpenShut
import Derived.ShutString
import Derived.ChangeOld
import Derived.Below
import Derived.Carry
namespace Go.Proofs.Ytcppihpehipelaa.coordLogs
open Go.ChangeShapes Go.WideShapes Go.ChangeAt Go.RowKit
open Go.ChangeMaps (open_string shut_string)
set_option linter.unusedVariables false

theorem own : ownKnob Try.prog.godebug = none := by kernel_rfl
theorem laidOut : laidOutB Try.prog = true := by kernel_rfl
/-- A slice of integers that came in: nil, or a row of 'cap' cells, of which the first 'len' are its elements. -/
def IsRow (k : IntKind) (w : World) (a : Option Addr) (len cap : Nat) (zs : List Int) : Prop :=
  (a = none ∧ len = 0 ∧ cap = 0 ∧ zs = []) ∨
  ∃ x, a = some x ∧ len ≤ cap ∧ cap ≤ maxLen ∧ zs.length = cap ∧ (∀ i, i < zs.length → w.cell? (x.add i) = some (.int k (zs.getD i 0))) ∧ ∀ n ∈ zs, (Lit.int k n).wf = true

set_option maxRecDepth 20000 in
set_option maxHeartbeats 16000000 in
theorem walk (a0 b0 : Int) (a1 : Option Addr) (len1 cap1 : Nat) (z1 : List Int) (a2 : Option Addr) (len2 cap2 : Nat) (z2 : List DAct) (w : World) (w0 : (Lit.int .i64 a0).wf = true) (x0 : (Lit.int .u8 b0).wf = true) (l1 : z1.length = len1) (w1 : IntsAt w a1 z1) (r1 : len1 ≤ cap1) (l2 : z2.length = len2) (w2 : DActsOf w a2 cap2 z2) :
    Calls Try.prog 6 #[.agg #[.int .i64 a0, .int .u8 b0], .slice a1 len1 cap1, .slice a2 len2 cap2] w fun e w' => e = .returned (.bool true) ∧ Below w.heap.size w w' := by
  have hw0 := bounds_i64 w0
  have hx0 := bounds_u8 x0
  have HL : Hid (z2.length = len2) := l2
  have HA : Hid (DActsOf w a2 cap2 z2) := w2
  have hcap : len2 ≤ cap2 := by rw [← l2]; exact w2.room
  have HP : Hid (IntsAt w a1 z1) := w1
  have HPL : Hid (z1.length = len1) := l1
  have HPC : Hid (len1 ≤ cap1) := r1
  have I5 : Hid (I64 5) := i64_small (by decide) (by decide)
  obtain ⟨W0, hW0⟩ : ∃ W0, W0 = w.alloc (.cells #[.int .i64 a0, .int .u8 b0] 28) := ⟨_, rfl⟩
  have HW0 : Hid (w.alloc (.cells #[.int .i64 a0, .int .u8 b0] 28) = W0) := hW0.symm
  have HB0 : Hid (Below w.heap.size w W0) := by rw [hW0]; exact alloc_belowC _ _
  have FST : Hid (∀ u, Below W0.heap.size W0 u → u.cell? ⟨w.heap.size, 0, none⟩ = some (.int .i64 a0) ∧ u.cell? ⟨w.heap.size, 1, none⟩ = some (.int .u8 b0)) := fun u hu => by
    have e0 : W0.cell? ⟨w.heap.size, 0, none⟩ = some (.int .i64 a0) := by rw [hW0, World.cell?_alloc_new]; rfl
    have e1 : W0.cell? ⟨w.heap.size, 1, none⟩ = some (.int .u8 b0) := by rw [hW0, World.cell?_alloc_new]; rfl
    exact ⟨(hu.cell (p := ⟨w.heap.size, 0, none⟩) (cell_lt e0)).trans e0, (hu.cell (p := ⟨w.heap.size, 1, none⟩) (cell_lt e1)).trans e1⟩
  have AW : Hid (∀ u, Calls Try.prog 7 #[] u fun e w' => e = .returned (.bool true) ∧ Below u.heap.size u w') := fun u => cdawake_any u
  clear w0 x0 w1 r1 l2 w2 hW0 l1
  by_cases h8 : 8 < len1
  · have h8' : (8 : Int) < (len1 : Int) := by omega
    go_enter Try.func6, Try.ntmps6
    go_wp2_with (first | (go_at_call 7; rw [HW0.out]; refine (AW.out _).mono ?_; rintro e wA ⟨rfl, hbA⟩; have HBA : Hid (Below W0.heap.size W0 wA) := hbA; clear hbA))
    go_ret
    exact ⟨rfl, HB0.out.trans (HBA.out.mono HB0.out.size)⟩
  by_cases h40 : 40 < len2
  · have h40' : (40 : Int) < (len2 : Int) := by omega
    go_enter Try.func6, Try.ntmps6
    go_wp2_with (first | (go_at_call 7; rw [HW0.out]; refine (AW.out _).mono ?_; rintro e wA ⟨rfl, hbA⟩; have HBA : Hid (Below W0.heap.size W0 wA) := hbA; clear hbA))
    go_ret
    exact ⟨rfl, HB0.out.trans (HBA.out.mono HB0.out.size)⟩
  have h8' : ¬ (8 : Int) < (len1 : Int) := by omega
  have h40' : ¬ (40 : Int) < (len2 : Int) := by omega
  rcases begin_one a0 b0 z1 with hbeg | ⟨hbeg, hpb⟩
  · have HBEG : Hid (beginC [] 5 a0 b0 z1 = (1, [])) := hbeg
    clear hbeg
    go_enter Try.func6, Try.ntmps6
    go_wp2_with (first
      | (go_at_call 7; rw [HW0.out]; refine (AW.out _).mono ?_; rintro e wA ⟨rfl, hbA⟩; have HBA : Hid (Below W0.heap.size W0 wA) := hbA; clear hbA)
      | (go_at_call 8; refine (cdf_new _).mono ?_; rintro e wN ⟨b, rfl, kN, -⟩; have KN : Hid (CdF wA wN b [] noFoot) := kN; have HBN : Hid (Below W0.heap.size W0 wN) := HBA.out.trans (kN.below.mono HBA.out.size); obtain ⟨s0, s1⟩ := FST.out wN HBN.out; clear kN)
      | (go_at_call 9; refine (KN.out.begin HBEG.out I5.out HPL.out (by omega) HPC.out (HP.out.past (HB0.out.trans (HBN.out.mono HB0.out.size))) (by decide)).mono ?_; rintro e wB ⟨rfl, kB, -, -⟩; have KB : Hid (CdF wA wB b [] noFoot) := kB; clear kB))
    go_ret
    exact ⟨rfl, (HB0.out.trans (HBA.out.mono HB0.out.size)).trans (KB.out.below.mono (HB0.out.trans (HBA.out.mono HB0.out.size)).size)⟩
  · have HBEG : Hid (beginC [] 5 a0 b0 z1 = (0, [newC 5 a0 b0 z1])) := hbeg
    clear hbeg
    have HPB : Hid (partsB z1 = true) := hpb
    clear hpb
    have HPAR : Hid ((newC 5 a0 b0 z1).parts = z1) := rfl
    go_enter Try.func6, Try.ntmps6
    go_wp2_with (first
      | (go_at_call 7; rw [HW0.out]; refine (AW.out _).mono ?_; rintro e wA ⟨rfl, hbA⟩; have HBA : Hid (Below W0.heap.size W0 wA) := hbA; clear hbA)
      | (go_at_call 8; refine (cdf_new _).mono ?_; rintro e wN ⟨b, rfl, kN, -⟩; have KN : Hid (CdF wA wN b [] noFoot) := kN; have HBN : Hid (Below W0.heap.size W0 wN) := HBA.out.trans (kN.below.mono HBA.out.size); obtain ⟨s0, s1⟩ := FST.out wN HBN.out; clear kN)
      | (go_at_call 9; refine (KN.out.begin HBEG.out I5.out HPL.out (by omega) HPC.out (HP.out.past (HB0.out.trans (HBN.out.mono HB0.out.size))) (by decide)).mono ?_; rintro e wB ⟨rfl, kB, -, -⟩; have KB : Hid (CdF wA wB b [newC 5 a0 b0 z1] noFoot) := kB; clear kB KN HBN s0 s1))
    have HBA2 : Hid (Below w.heap.size w wA) := HB0.out.trans (HBA.out.mono HB0.out.size)
    clear FST HBA HB0 HW0 AW HBEG
    go_loopw [8] (fun iv wr => ∃ i : Nat, iv = .int .i64 i ∧ i ≤ len2 ∧ Hid (∃ d : DecC, CdF wA wr b [d] noFoot ∧ d.id = 5 ∧ d.parts = z1)) (fun iv _ => len2 - (intOf iv).toNat)
    case atStart => exact ⟨0, rfl, Nat.zero_le _, ⟨_, KB.out, rfl, rfl⟩⟩
    case round =>
      obtain ⟨i, rfl, hi, HI⟩ := hrel
      obtain ⟨d, kd, hid, hpar⟩ := HI.out
      have KD : Hid (CdF wA wr b [d] noFoot) := kd
      have HID : Hid (d.id = 5) := hid
      have HPR : Hid (d.parts = z1) := hpar
      have HBR : Hid (Below w.heap.size w wr) := HBA2.out.trans (kd.below.mono HBA2.out.size)
      have h0 : (0 : Int) ≤ (i : Int) := by omega
      clear HI KB kd hid hpar HPAR
      by_cases hlt : i < len2
      · have hi1 : (i : Int) < (len2 : Int) := by omega
        have hicap : (i : Int) < (cap2 : Int) := by omega
        obtain ⟨y, bb, off, hy, rfl, hok, hat⟩ := HA.out.look (i := i) (by rw [HL.out]; exact hlt)
        have hn8 := hok.n
        have FA : Hid (∀ u, Below wr.heap.size wr u → u.cell? ⟨bb, off + i * 16, none⟩ = some (.int .i64 y.op) ∧ u.cell? ⟨bb, off + i * 16 + 2, none⟩ = some (.int .i64 y.t) ∧ u.cell? ⟨bb, off + i * 16 + 3, none⟩ = some (.int .u8 y.n) ∧ u.cell? ⟨bb, off + i * 16 + 5, none⟩ = some (.int .i64 y.part) ∧ u.cell? ⟨bb, off + i * 16 + 6, none⟩ = some (.bool y.y)) := fun u hu => by
          obtain ⟨c0, c1, c2, c3, c4, c5, c6⟩ := (hat u (HBR.out.trans (hu.mono HBR.out.size))).cells
          exact ⟨c0, c2, c3, c5, c6⟩
        have CV : Hid (∀ u, Below wr.heap.size wr u → Calls Try.prog 11 #[.pointer (some ⟨b, 0, none⟩), .int .i64 5, .int .i64 y.part, .bool y.y, .agg #[.int .i64 y.t, .int .u8 y.n]] u fun e w' => e = .returned (.int .i64 (voteD d y.part y.y y.t y.n).1) ∧ CdF wA w' b [(voteD d y.part y.y y.t y.n).2] noFoot) := fun u hu => ((KD.out.past hu).vote (vote_one HID.out y.part y.y y.t y.n) I5.out hn8).mono fun e w' ⟨k1, k2, _, _⟩ => ⟨k1, k2⟩
        have CK : Hid (∀ u, Below wr.heap.size wr u → Calls Try.prog 12 #[.pointer (some ⟨b, 0, none⟩), .int .i64 5, .int .i64 y.part] u fun e w' => e = .returned (.int .i64 (ackD d y.part).1) ∧ CdF wA w' b [(ackD d y.part).2] noFoot) := fun u hu => ((KD.out.past hu).ack (ack_one HID.out y.part) I5.out).mono fun e w' ⟨k1, k2, _, _⟩ => ⟨k1, k2⟩
        have HV2 : Hid ((voteD d y.part y.y y.t y.n).2.id = 5 ∧ (voteD d y.part y.y y.t y.n).2.parts = z1) := ⟨(voteD_parts d _ _ _ _).2.trans HID.out, (voteD_parts d _ _ _ _).1.trans HPR.out⟩
        have HK2 : Hid ((ackD d y.part).2.id = 5 ∧ (ackD d y.part).2.parts = z1) := ⟨(ackD_id d _).trans HID.out, (ackD_parts d _).trans HPR.out⟩
        generalize (voteD d y.part y.y y.t y.n).2 = d1 at *
        generalize (voteD d y.part y.y y.t y.n).1 = r1 at *
        generalize (ackD d y.part).2 = d2 at *
        generalize (ackD d y.part).1 = r2 at *
        generalize y.op = op at *
        generalize y.part = part at *
        generalize y.y = yy at *
        generalize y.t = yt at *
        generalize y.n = yn at *
        obtain ⟨f0, f2, f3, f5, f6⟩ := FA.out wr (Below.refl _ _)
        clear hy hok hat hn8
        by_cases o1 : op = 1
        · have ob : (op == 1) = true := by simpa using o1
          clear o1 CK HK2
          go_wp2
          clear f0 f2 f3 f5 f6
          refine wp_region_noPanic ?_
          refine region_up 16 (fun u => Below wr.heap.size wr u) (by kernel_rfl) ?_ (fun hHeld => ?_)
          · exact (Below.refl _ _).drew
          refine up_take (i := 0) (v := ?_) (by kernel_rfl) (by kernel_rfl) (by kernel_rfl) rfl (by kernel_rfl) (by kernel_rfl) (by kernel_rfl) (fun _ _ _ h => h) (Or.inl ⟨by rfl, ?_⟩) hHeld ?_
          rotate_left
          · intro u hSu
            (go_simp) <;> (with_reducible rfl)
          change wpUp _ _ _ _ _ _ _ _ (Act.put _ (some 47) _) _
          simp only [Act.put, List.setIfInBounds_toArray, List.set_cons_zero, List.set_cons_succ]
          refine up_take (i := 1) (v := ?_) (by kernel_rfl) (by kernel_rfl) (by kernel_rfl) rfl (by kernel_rfl) (by kernel_rfl) (by kernel_rfl) (fun _ _ _ h => h) (Or.inl ⟨by rfl, ?_⟩) hHeld ?_
          rotate_left
          · intro u hSu
            (go_simp) <;> (with_reducible rfl)
          change wpUp _ _ _ _ _ _ _ _ (Act.put _ (some 48) _) _
          simp only [Act.put, List.setIfInBounds_toArray, List.set_cons_zero, List.set_cons_succ]
          refine up_take (i := 2) (v := ?_) (by kernel_rfl) (by kernel_rfl) (by kernel_rfl) rfl (by kernel_rfl) (by kernel_rfl) (by kernel_rfl) (fun _ _ _ h => h) (Or.inl ⟨by rfl, ?_⟩) hHeld ?_
          rotate_left
          · intro u hSu
            (go_simp) <;> (with_reducible rfl)
          change wpUp _ _ _ _ _ _ _ _ (Act.put _ (some 49) _) _
          simp only [Act.put, List.setIfInBounds_toArray, List.set_cons_zero, List.set_cons_succ]
          refine up_take (i := 3) (v := ?_) (by kernel_rfl) (by kernel_rfl) (by kernel_rfl) rfl (by kernel_rfl) (by kernel_rfl) (by kernel_rfl) (fun _ _ _ h => h) (Or.inl ⟨by rfl, ?_⟩) hHeld ?_
          rotate_left
          · intro u hSu
            (go_simp) <;> (with_reducible rfl)
          change wpUp _ _ _ _ _ _ _ _ (Act.put _ (some 50) _) _
          simp only [Act.put, List.setIfInBounds_toArray, List.set_cons_zero, List.set_cons_succ]
          refine up_take (i := 4) (v := ?_) (by kernel_rfl) (by kernel_rfl) (by kernel_rfl) rfl (by kernel_rfl) (by kernel_rfl) (by kernel_rfl) (fun _ _ _ h => h) (Or.inl ⟨by rfl, ?_⟩) hHeld ?_
          rotate_left
          · intro u hSu
            (go_simp) <;> (with_reducible rfl)
          change wpUp _ _ _ _ _ _ _ _ (Act.put _ (some 51) _) _
          simp only [Act.put, List.setIfInBounds_toArray, List.set_cons_zero, List.set_cons_succ]
          refine up_take (i := 5) (v := ?_) (by kernel_rfl) (by kernel_rfl) (by kernel_rfl) rfl (by kernel_rfl) (by kernel_rfl) (by kernel_rfl) (fun _ _ _ h => h) (Or.inl ⟨by rfl, ?_⟩) hHeld ?_
          rotate_left
          · intro u hSu
            obtain ⟨f0, f2, f3, f5, f6⟩ := FA.out u hSu
            (go_simp) <;> (with_reducible rfl)
          change wpUp _ _ _ _ _ _ _ _ (Act.put _ (some 52) _) _
          simp only [Act.put, List.setIfInBounds_toArray, List.set_cons_zero, List.set_cons_succ]
          refine up_take (i := 6) (v := ?_) (by kernel_rfl) (by kernel_rfl) (by kernel_rfl) rfl (by kernel_rfl) (by kernel_rfl) (by kernel_rfl) (fun _ _ _ h => h) (Or.inl ⟨by rfl, ?_⟩) hHeld ?_
          rotate_left
          · intro u hSu
            (go_simp) <;> (with_reducible rfl)
          change wpUp _ _ _ _ _ _ _ _ (Act.put _ (some 53) _) _
          simp only [Act.put, List.setIfInBounds_toArray, List.set_cons_zero, List.set_cons_succ]
          refine up_take (i := 7) (v := ?_) (by kernel_rfl) (by kernel_rfl) (by kernel_rfl) rfl (by kernel_rfl) (by kernel_rfl) (by kernel_rfl) (fun _ _ _ h => h) (Or.inl ⟨by rfl, ?_⟩) hHeld ?_
          rotate_left
          · intro u hSu
            (go_simp) <;> (with_reducible rfl)
          change wpUp _ _ _ _ _ _ _ _ (Act.put _ (some 54) _) _
          simp only [Act.put, List.setIfInBounds_toArray, List.set_cons_zero, List.set_cons_succ]
          refine up_take (i := 8) (v := ?_) (by kernel_rfl) (by kernel_rfl) (by kernel_rfl) rfl (by kernel_rfl) (by kernel_rfl) (by kernel_rfl) (fun _ _ _ h => h) (Or.inl ⟨by rfl, ?_⟩) hHeld ?_
          rotate_left
          · intro u hSu
            (go_simp) <;> (with_reducible rfl)
          change wpUp _ _ _ _ _ _ _ _ (Act.put _ (some 55) _) _
          simp only [Act.put, List.setIfInBounds_toArray, List.set_cons_zero, List.set_cons_succ]
          refine up_take (i := 9) (v := ?_) (by kernel_rfl) (by kernel_rfl) (by kernel_rfl) rfl (by kernel_rfl) (by kernel_rfl) (by kernel_rfl) (fun _ _ _ h => h) (Or.inl ⟨by rfl, ?_⟩) hHeld ?_
          rotate_left
          · intro u hSu
            (go_simp) <;> (with_reducible rfl)
          change wpUp _ _ _ _ _ _ _ _ (Act.put _ (some 56) _) _
          simp only [Act.put, List.setIfInBounds_toArray, List.set_cons_zero, List.set_cons_succ]
          refine up_take (i := 10) (v := ?_) (by kernel_rfl) (by kernel_rfl) (by kernel_rfl) rfl (by kernel_rfl) (by kernel_rfl) (by kernel_rfl) (fun _ _ _ h => h) (Or.inl ⟨by rfl, ?_⟩) hHeld ?_
          rotate_left
          · intro u hSu
            obtain ⟨f0, f2, f3, f5, f6⟩ := FA.out u hSu
            (go_simp) <;> (with_reducible rfl)
          change wpUp _ _ _ _ _ _ _ _ (Act.put _ (some 57) _) _
          simp only [Act.put, List.setIfInBounds_toArray, List.set_cons_zero, List.set_cons_succ]
          refine up_take (i := 11) (v := ?_) (by kernel_rfl) (by kernel_rfl) (by kernel_rfl) rfl (by kernel_rfl) (by kernel_rfl) (by kernel_rfl) (fun _ _ _ h => h) (Or.inl ⟨by rfl, ?_⟩) hHeld ?_
          rotate_left
          · intro u hSu
            (go_simp) <;> (with_reducible rfl)
          change wpUp _ _ _ _ _ _ _ _ (Act.put _ (some 58) _) _
          simp only [Act.put, List.setIfInBounds_toArray, List.set_cons_zero, List.set_cons_succ]
          refine up_take (i := 12) (v := ?_) (by kernel_rfl) (by kernel_rfl) (by kernel_rfl) rfl (by kernel_rfl) (by kernel_rfl) (by kernel_rfl) (fun _ _ _ h => h) (Or.inl ⟨by rfl, ?_⟩) hHeld ?_
          rotate_left
          · intro u hSu
            (go_simp) <;> (with_reducible rfl)
          change wpUp _ _ _ _ _ _ _ _ (Act.put _ (some 59) _) _
          simp only [Act.put, List.setIfInBounds_toArray, List.set_cons_zero, List.set_cons_succ]
          refine up_take (i := 13) (v := ?_) (by kernel_rfl) (by kernel_rfl) (by kernel_rfl) rfl (by kernel_rfl) (by kernel_rfl) (by kernel_rfl) (fun _ _ _ h => h) (Or.inl ⟨by rfl, ?_⟩) hHeld ?_
          rotate_left
          · intro u hSu
            (go_simp) <;> (with_reducible rfl)
          change wpUp _ _ _ _ _ _ _ _ (Act.put _ (some 60) _) _
          simp only [Act.put, List.setIfInBounds_toArray, List.set_cons_zero, List.set_cons_succ]
          refine up_take (i := 14) (v := ?_) (by kernel_rfl) (by kernel_rfl) (by kernel_rfl) rfl (by kernel_rfl) (by kernel_rfl) (by kernel_rfl) (fun _ _ _ h => h) (Or.inl ⟨by rfl, ?_⟩) hHeld ?_
          rotate_left
          · intro u hSu
            (go_simp) <;> (with_reducible rfl)
          change wpUp _ _ _ _ _ _ _ _ (Act.put _ (some 61) _) _
          simp only [Act.put, List.setIfInBounds_toArray, List.set_cons_zero, List.set_cons_succ]
          refine up_take (i := 15) (v := ?_) (by kernel_rfl) (by kernel_rfl) (by kernel_rfl) rfl (by kernel_rfl) (by kernel_rfl) (by kernel_rfl) (fun _ _ _ h => h) (Or.inl ⟨by rfl, ?_⟩) hHeld ?_
          rotate_left
          · intro u hSu
            obtain ⟨f0, f2, f3, f5, f6⟩ := FA.out u hSu
            (go_simp) <;> (with_reducible rfl)
          change wpUp _ _ _ _ _ _ _ _ (Act.put _ (some 62) _) _
          simp only [Act.put, List.setIfInBounds_toArray, List.set_cons_zero, List.set_cons_succ]
          refine up_ready (rs := [16]) (by kernel_rfl) (by simp) ?_
          refine AllUp.that rfl (fun K hK => ?_) AllUp.nil
          go_simp
          go_at_call 11
          refine (CV.out _ hHeld).mono ?_
          rintro e w5 ⟨rfl, k5⟩
          have K5 : Hid (CdF wA w5 b [d1] noFoot) := k5; clear k5
          refine hK.out _ _ ?_
          clear hK K hHeld
          refine up_done (by kernel_rfl) ?_
          refine NoPanic.normal ?_
          go_wp2
          go_roundw
          case rel => exact ⟨i + 1, by go_num, by omega, ⟨d1, K5.out, HV2.out.1, HV2.out.2⟩⟩
          case measure => simp [intOf]; omega
        · have ob : (op == 1) = false := by simpa using o1
          by_cases o2 : op = 2
          · have ob2 : (op == 2) = true := by simpa using o2
            clear o1 o2 CV HV2
            go_wp2_with (first | (go_at_call 12; refine (CK.out _ (Below.refl _ _)).mono ?_; rintro e w5 ⟨rfl, k5⟩; have K5 : Hid (CdF wA w5 b [d2] noFoot) := k5; clear k5))
            go_roundw
            case rel => exact ⟨i + 1, by go_num, by omega, ⟨d2, K5.out, HK2.out.1, HK2.out.2⟩⟩
            case measure => simp [intOf]; omega
          · have ob2 : (op == 2) = false := by simpa using o2
            clear o1 o2 CV HV2 CK HK2
            go_wp2
            go_roundw
            case rel => exact ⟨i + 1, by go_num, by omega, ⟨d, KD.out, HID.out, HPR.out⟩⟩
            case measure => simp [intOf]; omega
      · obtain rfl : i = len2 := by omega
        have hni : ¬ (i : Int) < (i : Int) := by omega
        have HDL : Hid (DecL d) := KD.out.tbl.each d (by simp)
        by_cases hw : d.how = 0
        · have HREC : Hid (recC [d] 5 = none) := by show _ = _; unfold recC; rw [← HID.out, getC_one]; exact if_pos hw
          have HDEC : Hid (decC [d] 5 = (false, false, 0, 0)) := by show _ = _; unfold decC; rw [← HID.out, getC_one]; exact if_pos hw
          clear hw
          go_wp2_with (first
            | (have hgo := HREC.out; clear hgo; go_at_call 14; refine (KD.out.record HREC.out I5.out).mono ?_; rintro e w6 ⟨⟨⟨kd6, id6, s6, m6, t6, n6, l6, y6, ps6⟩, xa6, xc6, xpa6, xpc6⟩, rfl, -, -, hb6⟩; have K6 : Hid (CdF wA w6 b [d] noFoot) := KD.out.past hb6; unfold rcv encR; simp only [List.toArray]; clear hb6 HREC KD)
            | (have hgo := K6.out; clear hgo; go_at_call 13; refine ((K6.out.past (alloc_belowC _ _)).decision HDEC.out I5.out).mono ?_; rintro e w7 ⟨rfl, hb7⟩; have K7 : Hid (CdF wA w7 b [d] noFoot) := (K6.out.past (alloc_belowC _ _)).past hb7; clear hb7 K6))
          go_ret
          exact ⟨rfl, HBA2.out.trans ((K7.out.past (alloc_belowC _ _)).below.mono HBA2.out.size)⟩
        · have hdl := HDL.out
          obtain ⟨q1, q2, q3⟩ := play_log hdl.k hw
          have HREC : Hid (recC [d] 5 = some (logD d)) := by show _ = _; rw [← HID.out]; exact rec_log hw
          have hdec : decC [d] 5 = (true, decide (d.how = 1), d.at_, d.an) := by unfold decC; rw [← HID.out, getC_one]; exact if_neg hw
          have HPLY : Hid (playC [] (logD d) = (0, [saidC (logD d)])) := q1
          have HDEC2 : Hid (decC [saidC (logD d)] 5 = (true, decide (d.how = 1), d.at_, d.an)) := by show _ = _; rw [← hdec, ← HID.out]; exact q2
          have HOWE : Hid (owesC [saidC (logD d)] 5 = z1) := by show _ = _; rw [← HPR.out, ← q3, HID.out]
          have HDEC : Hid (decC [d] 5 = (true, decide (d.how = 1), d.at_, d.an)) := hdec
          obtain ⟨D2, hD2⟩ : ∃ D, D = saidC (logD d) := ⟨_, rfl⟩
          rw [← hD2] at HPLY HDEC2 HOWE
          generalize decide (d.how = 1) = yb at *
          generalize d.at_ = dt at *
          generalize d.an = dn at *
          have T1 : Hid True := trivial
          clear hw q1 q2 q3 hdl hdec hD2 HDL
          go_wp2_with (first
            | (have hgo := T1.out; clear hgo; go_at_call 14; refine (KD.out.record HREC.out I5.out).mono ?_; rintro e w6 ⟨⟨⟨kd6, id6, s6, m6, t6, n6, l6, y6, ps6⟩, xa6, xc6, xpa6, xpc6⟩, rfl, hx6, hw6, hb6⟩; have K6 : Hid (CdF wA w6 b [d] noFoot) := KD.out.past hb6
               have HX6 : Hid ((⟨kd6, id6, s6, m6, t6, n6, l6, y6, ps6⟩ : Rcd) = logD d) := hx6
               have HW6 : Hid (RcW w6 ⟨⟨kd6, id6, s6, m6, t6, n6, l6, y6, ps6⟩, xa6, xc6, xpa6, xpc6⟩) := hw6
               generalize hl6 : l6.length = L6 at *
               generalize hp6 : ps6.length = P6 at *
               have HL6 : Hid (l6.length = L6 ∧ ps6.length = P6) := ⟨hl6, hp6⟩
               have BX : Hid (RBox (w6.alloc (.cells #[.int .i64 kd6, .int .i64 id6, .int .i64 s6, .int .u8 m6, .int .i64 t6, .int .u8 n6, .slice xa6 L6 xc6, .bool y6, .slice xpa6 P6 xpc6] 37)) w6.heap.size kd6 id6 s6 m6 t6 n6 xa6 L6 xc6 y6 xpa6 P6 xpc6) := RBox.made _ _ _ _ _ _ _ _ _ _ _ _ _ _ _
               unfold rcv encR; simp only [List.toArray, hl6, hp6]; clear hb6 hx6 hw6 hl6 hp6 HREC KD T1; have T2 : Hid True := trivial)
            | (have hgo := T2.out; clear hgo; go_at_call 13; refine ((K6.out.past (alloc_belowC _ _)).decision HDEC.out I5.out).mono ?_; rintro e w7 ⟨rfl, hb7⟩
               have K7 : Hid (CdF wA w7 b [d] noFoot) := (K6.out.past (alloc_belowC _ _)).past hb7
               have BX7 : Hid (RBox w7 w6.heap.size kd6 id6 s6 m6 t6 n6 xa6 L6 xc6 y6 xpa6 P6 xpc6) := BX.out.past hb7
               have HW7 : Hid (RcW w7 ⟨⟨kd6, id6, s6, m6, t6, n6, l6, y6, ps6⟩, xa6, xc6, xpa6, xpc6⟩) := (HW6.out.past (alloc_belowC _ _)).past hb7
               have HB7 : Hid (Below w.heap.size w w7) := HBA2.out.trans (K7.out.below.mono HBA2.out.size)
               clear hb7 K6 T2 BX HW6; have T3 : Hid True := trivial)
            | (have hgo := T3.out; clear hgo; go_at_call 8
               obtain ⟨w8, hw8⟩ : ∃ u, u = w7.alloc (.cells #[.int .i64 dt, .int .u8 dn] 28) := ⟨_, rfl⟩
               rw [← hw8]
               refine (cdf_new _).mono ?_; rintro e w9 ⟨b2, rfl, k9, -⟩
               have K9 : Hid (CdF w8 w9 b2 [] noFoot) := k9
               have hb8 : Below w7.heap.size w7 w8 := (by rw [hw8]; exact alloc_belowC _ _)
               have HB8 : Hid (Below w.heap.size w w8) := HB7.out.trans (hb8.mono HB7.out.size)
               have HW9 : Hid (RcW w9 ⟨⟨kd6, id6, s6, m6, t6, n6, l6, y6, ps6⟩, xa6, xc6, xpa6, xpc6⟩) := (HW7.out.past hb8).past k9.below
               obtain ⟨y0, y1, y2, y3, y4, y5, y6', y7, y8⟩ := (BX7.out.past hb8).past k9.below
               have SB : Hid (∀ u, Below w8.heap.size w8 u → u.cell? ⟨w7.heap.size, 0, none⟩ = some (.int .i64 dt) ∧ u.cell? ⟨w7.heap.size, 1, none⟩ = some (.int .u8 dn)) := fun u hu => by
                 have e0 : w8.cell? ⟨w7.heap.size, 0, none⟩ = some (.int .i64 dt) := by rw [hw8, World.cell?_alloc_new]; rfl
                 have e1 : w8.cell? ⟨w7.heap.size, 1, none⟩ = some (.int .u8 dn) := by rw [hw8, World.cell?_alloc_new]; rfl
                 exact ⟨(hu.cell (p := ⟨w7.heap.size, 0, none⟩) (cell_lt e0)).trans e0, (hu.cell (p := ⟨w7.heap.size, 1, none⟩) (cell_lt e1)).trans e1⟩
               clear hw8 k9 T3 hb8 HW7 K7; have T4 : Hid True := trivial)
            | (have hgo := T4.out; clear hgo; go_at_call 15
               have CP := K9.out.play (x := ⟨⟨kd6, id6, s6, m6, t6, n6, l6, y6, ps6⟩, xa6, xc6, xpa6, xpc6⟩) (C' := [D2]) (r := 0) (by rw [HX6.out]; exact HPLY.out) HW9.out (by decide)
               unfold rcv encR at CP
               simp only [List.toArray, HL6.out.1, HL6.out.2] at CP
               refine CP.mono ?_
               clear CP; rintro e w10 ⟨rfl, k10, -, -⟩; have K10 : Hid (CdF w8 w10 b2 [D2] noFoot) := k10; clear k10 K9 T4 y0 y1 y2 y3 y4 y5 y6' y7 y8; have T5 : Hid True := trivial)
            | (have hgo := T5.out; clear hgo; go_at_call 13; refine (K10.out.decision HDEC2.out I5.out).mono ?_; rintro e w11 ⟨rfl, hb11⟩
               have K11 : Hid (CdF w8 w11 b2 [D2] noFoot) := K10.out.past hb11
               obtain ⟨s0, s1⟩ := SB.out _ (K11.out.past (alloc_belowC w11 (.cells #[.int .i64 dt, .int .u8 dn] 28))).below
               clear hb11 K10 T5; have T6 : Hid True := trivial)
            | (have hgo := T6.out; clear hgo; go_at_call 30; refine ((K11.out.past (alloc_belowC _ _)).owes HOWE.out I5.out).mono ?_; rintro e w12 ⟨a12, n12, c12, rfl, hl12, hc12, hr12, hb12⟩
               obtain rfl : n12 = len1 := hl12.symm.trans HPL.out
               have K12 : Hid (CdF w8 w12 b2 [D2] noFoot) := (K11.out.past (alloc_belowC _ _)).past hb12
               have R12 : Hid (n12 ≤ c12 ∧ RowI w12 a12 z1) := ⟨hc12, hr12⟩
               have HB12 : Hid (Below w.heap.size w w12) := HB8.out.trans (K12.out.below.mono HB8.out.size)
               clear hl12 hc12 hr12 hb12 K11 T6; have T7 : Hid True := trivial)
            | (have hgo := T7.out; clear hgo; go_at_call 29; refine (cdsame_any a12 a1 _ c12 cap1 z1 _ HPL.out R12.out.1 HPC.out (by omega) R12.out.2 (HP.out.past HB12.out).rowI).mono ?_; rintro e w13 ⟨rfl, hb13⟩; have HB13 : Hid (Below w.heap.size w w13) := HB12.out.trans (hb13.mono HB12.out.size); clear hb13 T7))
          go_ret
          exact ⟨rfl, HB13.out⟩

set_option maxRecDepth 100000 in
theorem lifted (os : Os) (started : os.Started) (H : Type) (enc : TypeId × Value → H) :
    ReturnsInHanded {} Try.checked os 6 .any (Rows.coordLogsSpec.pre6 enc Try.prog Try.f6 Rows.coordLogsRow.domain false) (Rows.coordLogsSpec.post enc Try.prog Try.f6 false true false false) := by
  refine returnsInHanded_of_change (C := Try.checked) own started (by kernel_rfl) Try.func6
    (ChangeSpec.witness6 (enc := enc) (C := Try.checked) false ⟨#[], #[.agg #[.int .i64 0, .int .u8 0], .slice none 0 0, .slice none 0 0], []⟩ 8 (by kernel_rfl) (by kernel_rfl) (by kernel_rfl) (by kernel_rfl)) ?_
  intro W base args ds gs before hval0 hW hcnd _
  have hval : ∀ (j : Nat) t v, Try.f6.params[j]? = some t → args[j]? = some v → Value.okWide Try.prog W .any base t v := hval0
  have hW' := hW
  obtain ⟨p, q, hA0, hV, rfl, hfz, hnd⟩ := hW
  have hA : DataW.TrodAll enc Try.prog W 0 (fun _ => true) true Try.f6.params.toList args.toList ds p := hA0
  rw [Try.params6] at hA hval
  obtain ⟨v0, vs0, d0, ds0, p0, q0, hargs, rfl, rfl, h0, r0⟩ := trodAll_cons hA
  obtain ⟨v1, vs1, d1, ds1, p1, q1, rfl, rfl, rfl, h1, r1⟩ := trodAll_cons r0
  obtain ⟨v2, vs2, d2, ds2, p2, q2, rfl, rfl, rfl, h2, r2⟩ := trodAll_cons r1
  obtain ⟨rfl, rfl, rfl⟩ := trodAll_nil r2
  obtain rfl : args = #[v0, v1, v2] := by cases args; simp_all
  obtain ⟨rfl, rfl⟩ := trodVars_none hV
  have k0 := h0
  have lt0 : ∀ x ∈ p0, x.block < W.heap.size := by obtain ⟨m, hm⟩ := k0; exact DataW.trod_lt m _ _ _ hm
  obtain ⟨a0, b0, rfl, w0, x0⟩ := struct2_open Try.underlying28 Try.underlying2 Try.underlying5 rfl rfl (by kernel_rfl) (by kernel_rfl) (by kernel_rfl) (hval 0 28 v0 rfl rfl) h0
  obtain ⟨a1, len1, cap1, rfl⟩ := okWide_slice Try.underlying35 (hval 1 35 v1 rfl rfl)
  have k1 := h1
  have lt1 : ∀ x ∈ p1, x.block < W.heap.size := by obtain ⟨m, hm⟩ := k1; exact DataW.trod_lt m _ _ _ hm
  obtain ⟨z1, l1, rm1, _, w1⟩ : ∃ zs : List Int, zs.length = len1 ∧ len1 ≤ cap1 ∧ len1 ≤ maxLen ∧ IntsAt W a1 zs := by
    obtain ⟨fuel, hf⟩ := h1
    exact ints_openC Try.underlying35 Try.underlying3 (by kernel_rfl) hf
  obtain ⟨a2, len2, cap2, rfl⟩ := okWide_slice Try.underlying47 (hval 2 47 v2 rfl rfl)
  have k2 := h2
  have lt2 : ∀ x ∈ p2, x.block < W.heap.size := by obtain ⟨m, hm⟩ := k2; exact DataW.trod_lt m _ _ _ hm
  obtain ⟨z2, l2, w2⟩ : ∃ xs : List DAct, xs.length = len2 ∧ DActsOf W a2 cap2 xs := by
    obtain ⟨fuel, hf⟩ := h2
    exact dacts_open Try.underlying47 Try.underlying53 Try.underlying3 Try.underlying2 Try.underlying35 Try.underlying3 Try.underlying4 rfl rfl Try.underlying2 Try.underlying5 Try.underlying86 Try.underlying84 Try.underlying5 Try.underlying9 Try.underlying4 Try.underlying28 Try.underlying37 Try.underlying3 Try.underlying2 Try.underlying28 Try.underlying28 Try.underlying34 Try.underlying4 Try.underlying35 Try.underlying3 rfl rfl rfl rfl rfl rfl rfl rfl rfl rfl rfl rfl rfl rfl rfl rfl rfl rfl rfl (by kernel_rfl) (by kernel_rfl) (by kernel_rfl) (by kernel_rfl) (by kernel_rfl) (by kernel_rfl) (by kernel_rfl) (by kernel_rfl) (by kernel_rfl) (by kernel_rfl) (by kernel_rfl) (by kernel_rfl) (by kernel_rfl) (by kernel_rfl) (by kernel_rfl) (by kernel_rfl) (by kernel_rfl) (by kernel_rfl) (by kernel_rfl) (by kernel_rfl) (by kernel_rfl) (by kernel_rfl) (by kernel_rfl) hf
  clear hA0 hval0
  refine (walk a0 b0 a1 len1 cap1 z1 a2 len2 cap2 z2 W w0 x0 l1 w1 rm1 l2 w2).mono fun e W' ⟨he, bel⟩ => ?_
  subst he
  exact ⟨_, rfl, _, _, _, [], _, [], hW', trodAll_mk1 (shut_bool Try.underlying4 _), (trodAll_cons_mk (Below.trod laidOut (by kernel_rfl) (of_decide_eq_true (by kernel_rfl)) k0 bel lt0) (trodAll_cons_mk (Below.trod laidOut (by kernel_rfl) (of_decide_eq_true (by kernel_rfl)) k1 bel lt1) (trodAll_cons_mk (Below.trod laidOut (by kernel_rfl) (of_decide_eq_true (by kernel_rfl)) k2 bel lt2) trodAll_mk0))), rfl, bel.frame _, fun h => by cases h⟩

theorem over : Rows.coordLogsRow.holds Try.pinned (OpenSpec.ofChange Rows.coordLogsSpec) :=
  OpenClaim.holds_of_wide 6 Try.f6 rfl rfl rfl rfl rfl rfl rfl ⟨rfl, rfl, rfl, rfl, rfl⟩ rfl rfl rfl rfl rfl (by kernel_rfl) Try.func6 (by kernel_rfl)
    (of_decide_eq_true (by kernel_rfl)) (by unfold Func.isWrapper; first | (rw [if_pos (by decide +kernel)]; kernel_rfl) | (rw [if_neg (by decide +kernel)]; exact ⟨rfl, rfl⟩))
    (fun os started H enc _ => lifted os started H enc)
theorem proved : Rows.CoordLogsSaid := over
#print axioms proved
end Go.Proofs.Ytcppihpehipelaa.coordLogs
namespace Go.Proofs.Ytcppihpehipelaa
/-- CoordLogs, as given. -/
theorem coordLogs_holds : Rows.CoordLogsSaid := coordLogs.proved
end Go.Proofs.Ytcppihpehipelaa
