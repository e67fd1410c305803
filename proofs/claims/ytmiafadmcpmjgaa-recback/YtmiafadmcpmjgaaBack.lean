/-
  RecBack: a record that may be is read back; unlike ones have unlike bytes; cut off, or with more behind, it is none (of records of more than 20 writes, of values of more than 250 bytes, of more than 12 parts the statement asks nothing).
-/
import Derived.Test.YtmiafadmcpmjgaaRows
import Derived.Test.YtmiafadmcpmjgaaLa
import Derived.Test.YtmiafadmcpmjgaaOp
import Derived.WalkKit
import Derived.ProofKit
import Derived.OpenShut
import Derived.ShutString
import Derived.ChangeOld
import Derived.Below
import Derived.Carry
namespace Go.Proofs.Ytmiafadmcpmjgaa.recBack
open Go.ChangeShapes Go.WideShapes Go.ChangeAt Go.RowKit
open Go.ChangeMaps (open_string shut_string)
set_option linter.unusedVariables false

theorem own : ownKnob Try.prog.godebug = none := by kernel_rfl
theorem laidOut : laidOutB Try.prog = true := by kernel_rfl
/-- A slice of integers that came in: nil, or a row of 'cap' cells, of which the first 'len' are its elements. -/
def IsRow (k : IntKind) (w : World) (a : Option Addr) (len cap : Nat) (zs : List Int) : Prop :=
  (a = none ∧ len = 0 ∧ cap = 0 ∧ zs = []) ∨
  ∃ x, a = some x ∧ len ≤ cap ∧ cap ≤ maxLen ∧ zs.length = cap ∧ (∀ i, i < zs.length → w.cell? (x.add i) = some (.int k (zs.getD i 0))) ∧ ∀ n ∈ zs, (Lit.int k n).wf = true

open Classical in
set_option maxRecDepth 20000 in
set_option maxHeartbeats 16000000 in
theorem walk (x0 : RcM) (x1 : RcM) (a2 : Int) (a3 : Int) (w : World) (w0 : RcIn w x0) (w1 : RcIn w x1) (w2 : (Lit.int .i64 a2).wf = true) (w3 : (Lit.int .u8 a3).wf = true) :
    Calls Try.prog 6 #[rcv x0, rcv x1, .int .i64 a2, .int .u8 a3] w fun e w' => e = .returned (.bool true) ∧ Below w.heap.size w w' := by
  have AW : Hid (∀ u, Calls Try.prog 7 #[] u fun e w' => e = .returned (.bool true) ∧ Below u.heap.size u w') := fun u => awake_any u
  obtain ⟨⟨kd, id, s, m, t, n, l, y, ps⟩, a, c, pa, pc⟩ := x0
  obtain ⟨⟨kd2, id2, s2, m2, t2, n2, l2, y2, ps2⟩, b, c2, pb, pc2⟩ := x1
  obtain ⟨U, hU⟩ : ∃ U, U = (w.alloc (.cells #[.int .i64 kd, .int .i64 id, .int .i64 s, .int .u8 m, .int .i64 t, .int .u8 n, .slice a l.length c, .bool y, .slice pa ps.length pc] 28)).alloc (.cells #[.int .i64 kd2, .int .i64 id2, .int .i64 s2, .int .u8 m2, .int .i64 t2, .int .u8 n2, .slice b l2.length c2, .bool y2, .slice pb ps2.length pc2] 28) := ⟨_, rfl⟩
  have HU : Hid ((w.alloc (.cells #[.int .i64 kd, .int .i64 id, .int .i64 s, .int .u8 m, .int .i64 t, .int .u8 n, .slice a l.length c, .bool y, .slice pa ps.length pc] 28)).alloc (.cells #[.int .i64 kd2, .int .i64 id2, .int .i64 s2, .int .u8 m2, .int .i64 t2, .int .u8 n2, .slice b l2.length c2, .bool y2, .slice pb ps2.length pc2] 28) = U) := hU.symm
  have HB : Hid (Below w.heap.size w U) := by rw [hU]; exact ((Below.refl _ _).alloc (Nat.le_refl _) _).alloc (by simp) _
  have hbx : RBox U w.heap.size kd id s m t n a l.length c y pa ps.length pc := by rw [hU]; exact (RBox.made w 28 kd id s m t n a l.length c y pa ps.length pc).past ((Below.refl _ _).alloc (Nat.le_refl _) _)
  have hbx2 : RBox U (w.heap.size + 1) kd2 id2 s2 m2 t2 n2 b l2.length c2 y2 pb ps2.length pc2 := by
    rw [hU]
    have := RBox.made (w.alloc (.cells #[.int .i64 kd, .int .i64 id, .int .i64 s, .int .u8 m, .int .i64 t, .int .u8 n, .slice a l.length c, .bool y, .slice pa ps.length pc] 28)) 28 kd2 id2 s2 m2 t2 n2 b l2.length c2 y2 pb ps2.length pc2
    rw [World.size_alloc] at this
    exact this
  have FB : Hid (∀ u, Below U.heap.size U u → RBox u w.heap.size kd id s m t n a l.length c y pa ps.length pc ∧ RBox u (w.heap.size + 1) kd2 id2 s2 m2 t2 n2 b l2.length c2 y2 pb ps2.length pc2) := fun u hb => ⟨hbx.past hb, hbx2.past hb⟩
  have in0 : ∀ u, Below U.heap.size U u → RcIn u ⟨⟨kd, id, s, m, t, n, l, y, ps⟩, a, c, pa, pc⟩ := fun u hb => ⟨⟨(w0.wr.at_.past HB.out).past hb, w0.wr.room, w0.wr.few⟩, (w0.ps.past HB.out).past hb, w0.proom, w0.pfew, w0.kd, w0.ok⟩
  have in1 : ∀ u, Below U.heap.size U u → RcIn u ⟨⟨kd2, id2, s2, m2, t2, n2, l2, y2, ps2⟩, b, c2, pb, pc2⟩ := fun u hb => ⟨⟨(w1.wr.at_.past HB.out).past hb, w1.wr.room, w1.wr.few⟩, (w1.ps.past HB.out).past hb, w1.proom, w1.pfew, w1.kd, w1.ok⟩
  have CR0 : Hid (∀ u, Below U.heap.size U u → Calls Try.prog 14 #[.agg #[.int .i64 kd, .int .i64 id, .int .i64 s, .int .u8 m, .int .i64 t, .int .u8 n, .slice a l.length c, .bool y, .slice pa ps.length pc]] u fun e w' => e = .returned (.bool (greatB ⟨kd, id, s, m, t, n, l, y, ps⟩)) ∧ Below u.heap.size u w') := fun u hb => great_any ⟨⟨kd, id, s, m, t, n, l, y, ps⟩, a, c, pa, pc⟩ u (in0 u hb)
  have CR1 : Hid (∀ u, Below U.heap.size U u → Calls Try.prog 14 #[.agg #[.int .i64 kd2, .int .i64 id2, .int .i64 s2, .int .u8 m2, .int .i64 t2, .int .u8 n2, .slice b l2.length c2, .bool y2, .slice pb ps2.length pc2]] u fun e w' => e = .returned (.bool (greatB ⟨kd2, id2, s2, m2, t2, n2, l2, y2, ps2⟩)) ∧ Below u.heap.size u w') := fun u hb => great_any ⟨⟨kd2, id2, s2, m2, t2, n2, l2, y2, ps2⟩, b, c2, pb, pc2⟩ u (in1 u hb)
  obtain ⟨g0, hg0⟩ : ∃ g, g = greatB ⟨kd, id, s, m, t, n, l, y, ps⟩ := ⟨_, rfl⟩
  obtain ⟨g1, hg1⟩ : ∃ g, g = greatB ⟨kd2, id2, s2, m2, t2, n2, l2, y2, ps2⟩ := ⟨_, rfl⟩
  rw [← hg0] at CR0
  rw [← hg1] at CR1
  show Calls Try.prog 6 #[.agg #[.int .i64 kd, .int .i64 id, .int .i64 s, .int .u8 m, .int .i64 t, .int .u8 n, .slice a l.length c, .bool y, .slice pa ps.length pc], .agg #[.int .i64 kd2, .int .i64 id2, .int .i64 s2, .int .u8 m2, .int .i64 t2, .int .u8 n2, .slice b l2.length c2, .bool y2, .slice pb ps2.length pc2], .int .i64 a2, .int .u8 a3] w fun e w' => e = .returned (.bool true) ∧ Below w.heap.size w w'
  have ok0 := w0.ok
  have ok1 := w1.ok
  obtain ⟨p0, p1, p2, p3, p4, p5, p6, p7, p8⟩ := hbx
  obtain ⟨r0, r1, r2, r3, r4, r5, r6, r7, r8⟩ := hbx2
  cases g0 with
  | true =>
    clear hU w0 w1 in0 in1 hg0 hg1 ok0 ok1
    go_enter Try.func6, Try.ntmps6
    go_wp2_with (first | (have hgo := B1.out; clear hgo; go_at_call 14; refine (CR0.out _ B1.out).mono ?_; rintro e v2 ⟨rfl, hb⟩; have B2 : Hid (Below U.heap.size U v2) := B1.out.trans (hb.mono B1.out.size); obtain ⟨⟨p0, p1, p2, p3, p4, p5, p6, p7, p8⟩, ⟨r0, r1, r2, r3, r4, r5, r6, r7, r8⟩⟩ := FB.out v2 B2.out; clear hb CR0) | (go_at_call 7; rw [HU.out]; refine (AW.out _).mono ?_; rintro e v1 ⟨rfl, hb⟩; have B1 : Hid (Below U.heap.size U v1) := hb; obtain ⟨⟨p0, p1, p2, p3, p4, p5, p6, p7, p8⟩, ⟨r0, r1, r2, r3, r4, r5, r6, r7, r8⟩⟩ := FB.out v1 hb; clear hb AW))
    go_ret
    exact ⟨rfl, HB.out.trans (B2.out.mono HB.out.size)⟩
  | false =>
    cases g1 with
    | true =>
      clear hU w0 w1 in0 in1 hg0 hg1 ok0 ok1
      go_enter Try.func6, Try.ntmps6
      go_wp2_with (first | (have hgo := B2.out; clear hgo; go_at_call 14; refine (CR1.out _ B2.out).mono ?_; rintro e v3 ⟨rfl, hb⟩; have B3 : Hid (Below U.heap.size U v3) := B2.out.trans (hb.mono B2.out.size); obtain ⟨⟨p0, p1, p2, p3, p4, p5, p6, p7, p8⟩, ⟨r0, r1, r2, r3, r4, r5, r6, r7, r8⟩⟩ := FB.out v3 B3.out; clear hb CR1) | (have hgo := B1.out; clear hgo; go_at_call 14; refine (CR0.out _ B1.out).mono ?_; rintro e v2 ⟨rfl, hb⟩; have B2 : Hid (Below U.heap.size U v2) := B1.out.trans (hb.mono B1.out.size); obtain ⟨⟨p0, p1, p2, p3, p4, p5, p6, p7, p8⟩, ⟨r0, r1, r2, r3, r4, r5, r6, r7, r8⟩⟩ := FB.out v2 B2.out; clear hb CR0) | (go_at_call 7; rw [HU.out]; refine (AW.out _).mono ?_; rintro e v1 ⟨rfl, hb⟩; have B1 : Hid (Below U.heap.size U v1) := hb; obtain ⟨⟨p0, p1, p2, p3, p4, p5, p6, p7, p8⟩, ⟨r0, r1, r2, r3, r4, r5, r6, r7, r8⟩⟩ := FB.out v1 hb; clear hb AW))
      go_ret
      exact ⟨rfl, HB.out.trans (B3.out.mono HB.out.size)⟩
    | false =>
      have n0 := greatB_no hg0.symm
      have n1 := greatB_no hg1.symm
      simp only at n0 n1
      have rc0 : ∀ u, Below U.heap.size U u → RcW u ⟨⟨kd, id, s, m, t, n, l, y, ps⟩, a, c, pa, pc⟩ := fun u hb => (in0 u hb).rc (by show l.length ≤ 1000; omega) (by show ps.length ≤ 1000; omega)
      have rc1 : ∀ u, Below U.heap.size U u → RcW u ⟨⟨kd2, id2, s2, m2, t2, n2, l2, y2, ps2⟩, b, c2, pb, pc2⟩ := fun u hb => (in1 u hb).rc (by show l2.length ≤ 1000; omega) (by show ps2.length ≤ 1000; omega)
      have CD0 : Hid (∀ u, Below U.heap.size U u → Calls Try.prog 11 #[.agg #[.int .i64 kd, .int .i64 id, .int .i64 s, .int .u8 m, .int .i64 t, .int .u8 n, .slice a l.length c, .bool y, .slice pa ps.length pc]] u fun e w' => e = .returned (.bool (goodR ⟨kd, id, s, m, t, n, l, y, ps⟩)) ∧ Below u.heap.size u w') := fun u hb => lgood_any ⟨⟨kd, id, s, m, t, n, l, y, ps⟩, a, c, pa, pc⟩ u (rc0 u hb)
      have CD1 : Hid (∀ u, Below U.heap.size U u → Calls Try.prog 11 #[.agg #[.int .i64 kd2, .int .i64 id2, .int .i64 s2, .int .u8 m2, .int .i64 t2, .int .u8 n2, .slice b l2.length c2, .bool y2, .slice pb ps2.length pc2]] u fun e w' => e = .returned (.bool (goodR ⟨kd2, id2, s2, m2, t2, n2, l2, y2, ps2⟩)) ∧ Below u.heap.size u w') := fun u hb => lgood_any ⟨⟨kd2, id2, s2, m2, t2, n2, l2, y2, ps2⟩, b, c2, pb, pc2⟩ u (rc1 u hb)
      obtain ⟨d0, hd0⟩ : ∃ g, g = goodR ⟨kd, id, s, m, t, n, l, y, ps⟩ := ⟨_, rfl⟩
      obtain ⟨d1, hd1⟩ : ∃ g, g = goodR ⟨kd2, id2, s2, m2, t2, n2, l2, y2, ps2⟩ := ⟨_, rfl⟩
      rw [← hd0] at CD0
      rw [← hd1] at CD1
      cases d0 with
      | false =>
        clear hU w0 w1 in0 in1 hg0 hg1 n0 n1 rc0 rc1 hd0 hd1 ok0 ok1
        go_enter Try.func6, Try.ntmps6
        go_wp2_with (first | (have hgo := B3.out; clear hgo; go_at_call 11; refine (CD0.out _ B3.out).mono ?_; rintro e v4 ⟨rfl, hb⟩; have B4 : Hid (Below U.heap.size U v4) := B3.out.trans (hb.mono B3.out.size); obtain ⟨⟨p0, p1, p2, p3, p4, p5, p6, p7, p8⟩, ⟨r0, r1, r2, r3, r4, r5, r6, r7, r8⟩⟩ := FB.out v4 B4.out; clear hb CD0) | (have hgo := B2.out; clear hgo; go_at_call 14; refine (CR1.out _ B2.out).mono ?_; rintro e v3 ⟨rfl, hb⟩; have B3 : Hid (Below U.heap.size U v3) := B2.out.trans (hb.mono B2.out.size); obtain ⟨⟨p0, p1, p2, p3, p4, p5, p6, p7, p8⟩, ⟨r0, r1, r2, r3, r4, r5, r6, r7, r8⟩⟩ := FB.out v3 B3.out; clear hb CR1) | (have hgo := B1.out; clear hgo; go_at_call 14; refine (CR0.out _ B1.out).mono ?_; rintro e v2 ⟨rfl, hb⟩; have B2 : Hid (Below U.heap.size U v2) := B1.out.trans (hb.mono B1.out.size); obtain ⟨⟨p0, p1, p2, p3, p4, p5, p6, p7, p8⟩, ⟨r0, r1, r2, r3, r4, r5, r6, r7, r8⟩⟩ := FB.out v2 B2.out; clear hb CR0) | (go_at_call 7; rw [HU.out]; refine (AW.out _).mono ?_; rintro e v1 ⟨rfl, hb⟩; have B1 : Hid (Below U.heap.size U v1) := hb; obtain ⟨⟨p0, p1, p2, p3, p4, p5, p6, p7, p8⟩, ⟨r0, r1, r2, r3, r4, r5, r6, r7, r8⟩⟩ := FB.out v1 hb; clear hb AW))
        go_ret
        exact ⟨rfl, HB.out.trans (B4.out.mono HB.out.size)⟩
      | true =>
        obtain ⟨ZS, hZS⟩ : ∃ Z, Z = recB ⟨kd, id, s, m, t, n, l, y, ps⟩ := ⟨_, rfl⟩
        obtain ⟨Z1, hZ1⟩ : ∃ Z, Z = recB ⟨kd2, id2, s2, m2, t2, n2, l2, y2, ps2⟩ := ⟨_, rfl⟩
        obtain ⟨LN, hLN⟩ : ∃ L, L = ZS.length := ⟨_, rfl⟩
        obtain ⟨L1, hL1⟩ : ∃ L, L = Z1.length := ⟨_, rfl⟩
        have HLN : Hid (ZS.length = LN) := hLN.symm
        have HL1 : Hid (Z1.length = L1) := hL1.symm
        have CP0 : Hid (∀ u, Below U.heap.size U u → Calls Try.prog 12 #[.agg #[.int .i64 kd, .int .i64 id, .int .i64 s, .int .u8 m, .int .i64 t, .int .u8 n, .slice a l.length c, .bool y, .slice pa ps.length pc]] u fun e w' => ∃ a c, e = .returned (.slice a LN c) ∧ Bt u w' ZS a LN c) := fun u hb => by
          have h := lput_rec ⟨⟨kd, id, s, m, t, n, l, y, ps⟩, a, c, pa, pc⟩ u (rc0 u hb) (by show l.length ≤ 100; omega) (by show ps.length ≤ 100; omega) (fun W hW => by have := n0.1.2 W hW; omega)
          refine h.mono ?_
          rintro e w' ⟨a', c', rfl, h1, h2⟩
          rw [← hZS, ← hLN] at h1 ⊢
          exact ⟨a', c', rfl, ⟨h1, hLN.symm, by rw [hZS]; exact recB_bytes ⟨kd, id, s, m, t, n, l, y, ps⟩ ok0 n0.1.1 n0.1.2 n0.2, h2⟩⟩
        have CP1 : Hid (∀ u, Below U.heap.size U u → Calls Try.prog 12 #[.agg #[.int .i64 kd2, .int .i64 id2, .int .i64 s2, .int .u8 m2, .int .i64 t2, .int .u8 n2, .slice b l2.length c2, .bool y2, .slice pb ps2.length pc2]] u fun e w' => ∃ a c, e = .returned (.slice a L1 c) ∧ Bt u w' Z1 a L1 c) := fun u hb => by
          have h := lput_rec ⟨⟨kd2, id2, s2, m2, t2, n2, l2, y2, ps2⟩, b, c2, pb, pc2⟩ u (rc1 u hb) (by show l2.length ≤ 100; omega) (by show ps2.length ≤ 100; omega) (fun W hW => by have := n1.1.2 W hW; omega)
          refine h.mono ?_
          rintro e w' ⟨a', c', rfl, h1, h2⟩
          rw [← hZ1, ← hL1] at h1 ⊢
          exact ⟨a', c', rfl, ⟨h1, hL1.symm, by rw [hZ1]; exact recB_bytes ⟨kd2, id2, s2, m2, t2, n2, l2, y2, ps2⟩ ok1 n1.1.1 n1.1.2 n1.2, h2⟩⟩
        have hbz : Bys ZS := by rw [hZS]; exact recB_bytes ⟨kd, id, s, m, t, n, l, y, ps⟩ ok0 n0.1.1 n0.1.2 n0.2
        have hmx : LN ≤ 100000 := by rw [hLN, hZS]; exact recB_len ⟨kd, id, s, m, t, n, l, y, ps⟩ ok0 n0.1.1 n0.1.2 n0.2
        have hgl : getL ZS = some ⟨kd, id, s, m, t, n, l, y, ps⟩ := by rw [getL_eq hbz, hZS]; exact getR_back _ hd0.symm ok0
        have hmore : getL (ZS ++ [a3]) = none := by
          have hb3 : 0 ≤ a3 ∧ a3 ≤ 255 := bounds_u8 w3
          rw [getL_eq (hbz.app (fun z hz => by simp at hz; rw [hz]; exact hb3)), hZS]
          exact getR_more _ a3 hd0.symm ok0
        have hcut : ∀ k : Nat, k < LN → getL (ZS.take k) = none := fun k hk => by
          rw [getL_eq (fun z hz => hbz z (List.mem_of_mem_take hz)), hZS]
          exact getR_cut _ k hd0.symm ok0 (by rw [← hZS, ← hLN]; exact hk)
        have HCG : Hid (∀ u a1 c1, Bt U u ZS a1 LN c1 → Calls Try.prog 8 #[.slice a1 LN c1] u fun e w' => ∃ aa ca qa qc, e = .returned (.tuple #[.agg #[.int .i64 kd, .int .i64 id, .int .i64 s, .int .u8 m, .int .i64 t, .int .u8 n, .slice aa l.length ca, .bool y, .slice qa ps.length qc], .int .i64 0]) ∧ RcW w' ⟨⟨kd, id, s, m, t, n, l, y, ps⟩, aa, ca, qa, qc⟩ ∧ Below u.heap.size u w') := fun u a1 c1 h => lGet_ok a1 c1 LN ZS u h.row h.len h.room (by omega) kd id s m t n l y ps hgl
        have HSAME : Hid (∀ u aa ca qa qc, Below U.heap.size U u → RcW u ⟨⟨kd, id, s, m, t, n, l, y, ps⟩, aa, ca, qa, qc⟩ → Calls Try.prog 19 #[.agg #[.int .i64 kd, .int .i64 id, .int .i64 s, .int .u8 m, .int .i64 t, .int .u8 n, .slice aa l.length ca, .bool y, .slice qa ps.length qc], .agg #[.int .i64 kd, .int .i64 id, .int .i64 s, .int .u8 m, .int .i64 t, .int .u8 n, .slice a l.length c, .bool y, .slice pa ps.length pc]] u fun e w' => e = .returned (.bool true) ∧ Below u.heap.size u w') := fun u aa ca qa qc hb h => by
          have h2 := lsame_any ⟨⟨kd, id, s, m, t, n, l, y, ps⟩, aa, ca, qa, qc⟩ ⟨⟨kd, id, s, m, t, n, l, y, ps⟩, a, c, pa, pc⟩ u h (rc0 u hb)
          rw [decide_eq_true rfl] at h2
          exact h2
        obtain ⟨eq, heq⟩ : ∃ e, e = decide ((⟨kd, id, s, m, t, n, l, y, ps⟩ : Rcd) = ⟨kd2, id2, s2, m2, t2, n2, l2, y2, ps2⟩) := ⟨_, rfl⟩
        have HS2 : Hid (∀ u, Below U.heap.size U u → Calls Try.prog 19 #[.agg #[.int .i64 kd, .int .i64 id, .int .i64 s, .int .u8 m, .int .i64 t, .int .u8 n, .slice a l.length c, .bool y, .slice pa ps.length pc], .agg #[.int .i64 kd2, .int .i64 id2, .int .i64 s2, .int .u8 m2, .int .i64 t2, .int .u8 n2, .slice b l2.length c2, .bool y2, .slice pb ps2.length pc2]] u fun e w' => e = .returned (.bool eq) ∧ Below u.heap.size u w') := fun u hb => by rw [heq]; exact lsame_any ⟨⟨kd, id, s, m, t, n, l, y, ps⟩, a, c, pa, pc⟩ ⟨⟨kd2, id2, s2, m2, t2, n2, l2, y2, ps2⟩, b, c2, pb, pc2⟩ u (rc0 u hb) (rc1 u hb)
        have HEQ : Hid (d1 = true → ((strOfNums ZS).toList == (strOfNums Z1).toList) = eq) := fun hd => by
          rw [str_eq hbz (by rw [hZ1]; exact recB_bytes ⟨kd2, id2, s2, m2, t2, n2, l2, y2, ps2⟩ ok1 n1.1.1 n1.1.2 n1.2), heq]
          have hiff : ZS = Z1 ↔ (⟨kd, id, s, m, t, n, l, y, ps⟩ : Rcd) = ⟨kd2, id2, s2, m2, t2, n2, l2, y2, ps2⟩ := by
            rw [hZS, hZ1]
            exact ⟨fun e => recB_inj hd0.symm (by rw [← hd1]; exact hd) ok0 ok1 e, fun e => by rw [e]⟩
          by_cases h : ZS = Z1
          · rw [decide_eq_true h, decide_eq_true (hiff.1 h)]
          · rw [decide_eq_false h, decide_eq_false (fun e => h (hiff.2 e))]
        have HBZ : Hid (Bys ZS) := hbz
        have HMORE : Hid (∀ B u a1 c1, Bt B u (ZS ++ [a3]) a1 (LN + 1) c1 → Calls Try.prog 8 #[.slice a1 (LN + 1) c1] u fun e w' => e = .returned (.tuple #[.agg #[.int .i64 0, .int .i64 0, .int .i64 0, .int .u8 0, .int .i64 0, .int .u8 0, .slice none 0 0, .bool false, .slice none 0 0], .int .i64 3]) ∧ Below u.heap.size u w') := fun B u a1 c1 h => lGet_no a1 c1 (LN + 1) (ZS ++ [a3]) u h.row h.len h.room (by omega) hmore
        have HCUT : Hid (∀ u a1 c1 (k : Nat), Bt U u ZS a1 LN c1 → k < LN → Calls Try.prog 8 #[.slice a1 k c1] u fun e w' => e = .returned (.tuple #[.agg #[.int .i64 0, .int .i64 0, .int .i64 0, .int .u8 0, .int .i64 0, .int .u8 0, .slice none 0 0, .bool false, .slice none 0 0], .int .i64 3]) ∧ Below u.heap.size u w') := fun u a1 c1 k h hk => lGet_no a1 c1 k (ZS.take k) u (h.row.upto k) (by rw [List.length_take, h.len]; omega) (by have := h.room; omega) (by omega) (hcut k hk)
        have hb3 : 0 ≤ a3 ∧ a3 ≤ 255 := bounds_u8 w3
        have HB3 : Hid (0 ≤ a3 ∧ a3 ≤ 255) := hb3
        have hb2 : -9223372036854775808 ≤ a2 ∧ a2 ≤ 9223372036854775807 := bounds_i64 w2
        clear hZS hZ1 hL1 hLN hbz hgl hmore hcut heq hd0 hd1 n0 n1 rc0 rc1 hg0 hg1 ok0 ok1 w2 w3 hb3
        cases d1 with
        | true =>
          have heq := HEQ.out rfl
          clear HEQ hU w0 w1 in0 in1
          go_enter Try.func6, Try.ntmps6
          go_wp2_with (first
        | (have hgo := S5.out; clear hgo; go_at_call 8; refine (HCG.out v5 a1 c1 S5.out).mono ?_; rintro e v6 ⟨aa, ca, qa, qc, rfl, hrc, hb⟩; have S6 : Hid (Bt U v6 ZS a1 LN c1 ∧ RcW v6 ⟨⟨kd, id, s, m, t, n, l, y, ps⟩, aa, ca, qa, qc⟩) := ⟨S5.out.past hb, hrc⟩; clear hrc hb HCG)
        | (have hgo := B4.out; clear hgo; go_at_call 12; refine (CP0.out _ B4.out).mono ?_; rintro e v5 ⟨a1, c1, rfl, hbt⟩; have S5 : Hid (Bt U v5 ZS a1 LN c1) := hbt.base B4.out; clear hbt CP0)
        | (have hgo := B3.out; clear hgo; go_at_call 11; refine (CD0.out _ B3.out).mono ?_; rintro e v4 ⟨rfl, hb⟩; have B4 : Hid (Below U.heap.size U v4) := B3.out.trans (hb.mono B3.out.size); obtain ⟨⟨p0, p1, p2, p3, p4, p5, p6, p7, p8⟩, ⟨r0, r1, r2, r3, r4, r5, r6, r7, r8⟩⟩ := FB.out v4 B4.out; clear hb CD0)
        | (have hgo := B2.out; clear hgo; go_at_call 14; refine (CR1.out _ B2.out).mono ?_; rintro e v3 ⟨rfl, hb⟩; have B3 : Hid (Below U.heap.size U v3) := B2.out.trans (hb.mono B2.out.size); obtain ⟨⟨p0, p1, p2, p3, p4, p5, p6, p7, p8⟩, ⟨r0, r1, r2, r3, r4, r5, r6, r7, r8⟩⟩ := FB.out v3 B3.out; clear hb CR1)
        | (have hgo := B1.out; clear hgo; go_at_call 14; refine (CR0.out _ B1.out).mono ?_; rintro e v2 ⟨rfl, hb⟩; have B2 : Hid (Below U.heap.size U v2) := B1.out.trans (hb.mono B1.out.size); obtain ⟨⟨p0, p1, p2, p3, p4, p5, p6, p7, p8⟩, ⟨r0, r1, r2, r3, r4, r5, r6, r7, r8⟩⟩ := FB.out v2 B2.out; clear hb CR0)
        | (go_at_call 7; rw [HU.out]; refine (AW.out _).mono ?_; rintro e v1 ⟨rfl, hb⟩; have B1 : Hid (Below U.heap.size U v1) := hb; obtain ⟨⟨p0, p1, p2, p3, p4, p5, p6, p7, p8⟩, ⟨r0, r1, r2, r3, r4, r5, r6, r7, r8⟩⟩ := FB.out v1 hb; clear hb AW))
          obtain ⟨V, hV⟩ : ∃ V, V = v6.alloc (.cells #[.int .i64 kd, .int .i64 id, .int .i64 s, .int .u8 m, .int .i64 t, .int .u8 n, .slice aa l.length ca, .bool y, .slice qa ps.length qc] 28) := ⟨_, rfl⟩
          rw [← hV]
          have hbv : Below v6.heap.size v6 V := by rw [hV]; exact (Below.refl _ _).alloc (Nat.le_refl _) _
          have hbq : RBox V v6.heap.size kd id s m t n aa l.length ca y qa ps.length qc := by rw [hV]; exact RBox.made v6 28 kd id s m t n aa l.length ca y qa ps.length qc
          have S7 : Hid (Bt U V ZS a1 LN c1 ∧ RcW V ⟨⟨kd, id, s, m, t, n, l, y, ps⟩, aa, ca, qa, qc⟩) := ⟨S6.out.1.past hbv, S6.out.2.past hbv⟩
          have HVU : Hid (∀ u, Below V.heap.size V u → Below U.heap.size U u) := fun u hu => S7.out.1.below.trans (hu.mono S7.out.1.below.size)
          have FV : Hid (∀ u, Below V.heap.size V u → (RBox u w.heap.size kd id s m t n a l.length c y pa ps.length pc ∧ RBox u (w.heap.size + 1) kd2 id2 s2 m2 t2 n2 b l2.length c2 y2 pb ps2.length pc2) ∧ RBox u v6.heap.size kd id s m t n aa l.length ca y qa ps.length qc) := fun u hu => ⟨FB.out u (HVU.out u hu), hbq.past hu⟩
          clear hV hbv hbq p0 p1 p2 p3 p4 p5 p6 p7 p8 r0 r1 r2 r3 r4 r5 r6 r7 r8
          refine wp_region_noPanic ?_
          refine wp_region_held_drew (S := fun u => Below V.heap.size V u) (by kernel_rfl) ?_ (fun hHeld => ?_)
          · exact (Below.refl _ _).drew
          refine wpAnyH_take (i := 0) (v := ?_) rfl (by kernel_rfl) (by kernel_rfl) (by kernel_rfl) (fun _ _ _ h => h) (Or.inl ⟨by rfl, ?_⟩) hHeld ?_
          rotate_left
          · intro u hSu
            (go_simp) <;> (with_reducible rfl)
          change wpAnyH _ _ _ _ _ _ _ (Act.put _ (some 36) _) _
          simp only [Act.put, List.setIfInBounds_toArray, List.set_cons_zero, List.set_cons_succ]
          refine wpAnyH_take (i := 1) (v := ?_) rfl (by kernel_rfl) (by kernel_rfl) (by kernel_rfl) (fun _ _ _ h => h) (Or.inl ⟨by rfl, ?_⟩) hHeld ?_
          rotate_left
          · intro u hSu
            (go_simp) <;> (with_reducible rfl)
          change wpAnyH _ _ _ _ _ _ _ (Act.put _ (some 37) _) _
          simp only [Act.put, List.setIfInBounds_toArray, List.set_cons_zero, List.set_cons_succ]
          refine wpAnyH_take (i := 2) (v := ?_) rfl (by kernel_rfl) (by kernel_rfl) (by kernel_rfl) (fun _ _ _ h => h) (Or.inl ⟨by rfl, ?_⟩) hHeld ?_
          rotate_left
          · intro u hSu
            (go_simp) <;> (with_reducible rfl)
          change wpAnyH _ _ _ _ _ _ _ (Act.put _ (some 38) _) _
          simp only [Act.put, List.setIfInBounds_toArray, List.set_cons_zero, List.set_cons_succ]
          refine wpAnyH_take (i := 3) (v := ?_) rfl (by kernel_rfl) (by kernel_rfl) (by kernel_rfl) (fun _ _ _ h => h) (Or.inl ⟨by rfl, ?_⟩) hHeld ?_
          rotate_left
          · intro u hSu
            obtain ⟨⟨⟨p0, p1, p2, p3, p4, p5, p6, p7, p8⟩, ⟨r0, r1, r2, r3, r4, r5, r6, r7, r8⟩⟩, ⟨q0, q1, q2, q3, q4, q5, q6, q7, q8⟩⟩ := FV.out u hSu
            (go_simp) <;> (with_reducible rfl)
          change wpAnyH _ _ _ _ _ _ _ (Act.put _ (some 39) _) _
          simp only [Act.put, List.setIfInBounds_toArray, List.set_cons_zero, List.set_cons_succ]
          refine wpAnyH_take (i := 4) (v := ?_) rfl (by kernel_rfl) (by kernel_rfl) (by kernel_rfl) (fun _ _ _ h => h) (Or.inl ⟨by rfl, ?_⟩) hHeld ?_
          rotate_left
          · intro u hSu
            obtain ⟨⟨⟨p0, p1, p2, p3, p4, p5, p6, p7, p8⟩, ⟨r0, r1, r2, r3, r4, r5, r6, r7, r8⟩⟩, ⟨q0, q1, q2, q3, q4, q5, q6, q7, q8⟩⟩ := FV.out u hSu
            (go_simp) <;> (with_reducible rfl)
          change wpAnyH _ _ _ _ _ _ _ (Act.put _ (some 40) _) _
          simp only [Act.put, List.setIfInBounds_toArray, List.set_cons_zero, List.set_cons_succ]
          refine wpAnyH_ready (rs := [5]) (by kernel_rfl) (by simp) ?_
          refine AllReadyH.cons rfl (fun K hK => ?_) AllReadyH.nil
          go_simp
          go_at_call 19
          refine (HSAME.out _ aa ca qa qc (HVU.out _ hHeld) (S7.out.2.past hHeld)).mono ?_
          rintro e v7 ⟨rfl, hb7⟩
          have B7 : Hid (Below V.heap.size V v7) := hHeld.trans (hb7.mono hHeld.size); clear hb7
          refine hK.out _ _ ?_ (fun hHeld2 => ?_)
          · exact B7.out
          clear hK K hHeld
          have hHeld := hHeld2
          clear hHeld2
          refine wpAnyH_take (i := 6) (v := ?_) rfl (by kernel_rfl) (by kernel_rfl) (by kernel_rfl) (fun _ _ _ h => h) (Or.inl ⟨by rfl, ?_⟩) hHeld ?_
          rotate_left
          · intro u hSu
            (go_simp) <;> (with_reducible rfl)
          change wpAnyH _ _ _ _ _ _ _ (Act.put _ (some 42) _) _
          simp only [Act.put, List.setIfInBounds_toArray, List.set_cons_zero, List.set_cons_succ]
          refine wpAnyH_take (i := 7) (v := ?_) rfl (by kernel_rfl) (by kernel_rfl) (by kernel_rfl) (fun _ _ _ h => h) (Or.inl ⟨by rfl, ?_⟩) hHeld ?_
          rotate_left
          · intro u hSu
            (go_simp) <;> (with_reducible rfl)
          change wpAnyH _ _ _ _ _ _ _ (Act.put _ (some 43) _) _
          simp only [Act.put, List.setIfInBounds_toArray, List.set_cons_zero, List.set_cons_succ]
          refine wpAnyH_take (i := 8) (v := ?_) rfl (by kernel_rfl) (by kernel_rfl) (by kernel_rfl) (fun _ _ _ h => h) (Or.inl ⟨by rfl, ?_⟩) hHeld ?_
          rotate_left
          · intro u hSu
            (go_simp) <;> (with_reducible rfl)
          change wpAnyH _ _ _ _ _ _ _ (Act.put _ (some 44) _) _
          simp only [Act.put, List.setIfInBounds_toArray, List.set_cons_zero, List.set_cons_succ]
          refine wpAnyH_take (i := 9) (v := ?_) rfl (by kernel_rfl) (by kernel_rfl) (by kernel_rfl) (fun _ _ _ h => h) (Or.inl ⟨by rfl, ?_⟩) hHeld ?_
          rotate_left
          · intro u hSu
            obtain ⟨⟨⟨p0, p1, p2, p3, p4, p5, p6, p7, p8⟩, ⟨r0, r1, r2, r3, r4, r5, r6, r7, r8⟩⟩, ⟨q0, q1, q2, q3, q4, q5, q6, q7, q8⟩⟩ := FV.out u hSu
            (go_simp) <;> (with_reducible rfl)
          change wpAnyH _ _ _ _ _ _ _ (Act.put _ (some 45) _) _
          simp only [Act.put, List.setIfInBounds_toArray, List.set_cons_zero, List.set_cons_succ]
          refine wpAnyH_ready (rs := [10]) (by kernel_rfl) (by simp) ?_
          refine AllReadyH.cons rfl (fun K hK => ?_) AllReadyH.nil
          go_simp
          go_at_call 11
          refine (CD1.out _ (HVU.out _ hHeld)).mono ?_
          rintro e v8 ⟨rfl, hb8⟩
          have B8 : Hid (Below V.heap.size V v8) := hHeld.trans (hb8.mono hHeld.size); clear hb8
          refine hK.out _ _ ?_ (fun hHeld2 => ?_)
          · exact B8.out
          clear hK K hHeld
          have hHeld := hHeld2
          clear hHeld2
          refine wpAnyH_take (i := 11) (v := ?_) rfl (by kernel_rfl) (by kernel_rfl) (by kernel_rfl) (fun _ _ _ h => h) (Or.inl ⟨by rfl, ?_⟩) hHeld ?_
          rotate_left
          · intro u hSu
            (go_simp) <;> (with_reducible rfl)
          change wpAnyH _ _ _ _ _ _ _ (Act.put _ (some 47) _) _
          simp only [Act.put, List.setIfInBounds_toArray, List.set_cons_zero, List.set_cons_succ]
          refine wpAnyH_take (i := 12) (v := ?_) rfl (by kernel_rfl) (by kernel_rfl) (by kernel_rfl) (fun _ _ _ h => h) (Or.inl ⟨by rfl, ?_⟩) hHeld ?_
          rotate_left
          · intro u hSu
            (go_simp) <;> (with_reducible rfl)
          change wpAnyH _ _ _ _ _ _ _ (Act.put _ (some 48) _) _
          simp only [Act.put, List.setIfInBounds_toArray, List.set_cons_zero, List.set_cons_succ]
          refine wpAnyH_take (i := 13) (v := ?_) rfl (by kernel_rfl) (by kernel_rfl) (by kernel_rfl) (fun _ _ _ h => h) (Or.inl ⟨by rfl, ?_⟩) hHeld ?_
          rotate_left
          · intro u hSu
            have hcv := str_at HLN.out (S7.out.1.past hSu).row c1
            (go_simp) <;> (with_reducible rfl)
          change wpAnyH _ _ _ _ _ _ _ (Act.put _ (some 49) _) _
          simp only [Act.put, List.setIfInBounds_toArray, List.set_cons_zero, List.set_cons_succ]
          refine wpAnyH_take (i := 14) (v := ?_) rfl (by kernel_rfl) (by kernel_rfl) (by kernel_rfl) (fun _ _ _ h => h) (Or.inl ⟨by rfl, ?_⟩) hHeld ?_
          rotate_left
          · intro u hSu
            obtain ⟨⟨⟨p0, p1, p2, p3, p4, p5, p6, p7, p8⟩, ⟨r0, r1, r2, r3, r4, r5, r6, r7, r8⟩⟩, ⟨q0, q1, q2, q3, q4, q5, q6, q7, q8⟩⟩ := FV.out u hSu
            (go_simp) <;> (with_reducible rfl)
          change wpAnyH _ _ _ _ _ _ _ (Act.put _ (some 50) _) _
          simp only [Act.put, List.setIfInBounds_toArray, List.set_cons_zero, List.set_cons_succ]
          refine wpAnyH_take (i := 18) (v := ?_) rfl (by kernel_rfl) (by kernel_rfl) (by kernel_rfl) (fun _ _ _ h => h) (Or.inl ⟨by rfl, ?_⟩) hHeld ?_
          rotate_left
          · intro u hSu
            obtain ⟨⟨⟨p0, p1, p2, p3, p4, p5, p6, p7, p8⟩, ⟨r0, r1, r2, r3, r4, r5, r6, r7, r8⟩⟩, ⟨q0, q1, q2, q3, q4, q5, q6, q7, q8⟩⟩ := FV.out u hSu
            (go_simp) <;> (with_reducible rfl)
          change wpAnyH _ _ _ _ _ _ _ (Act.put _ (some 54) _) _
          simp only [Act.put, List.setIfInBounds_toArray, List.set_cons_zero, List.set_cons_succ]
          refine wpAnyH_take (i := 19) (v := ?_) rfl (by kernel_rfl) (by kernel_rfl) (by kernel_rfl) (fun _ _ _ h => h) (Or.inl ⟨by rfl, ?_⟩) hHeld ?_
          rotate_left
          · intro u hSu
            obtain ⟨⟨⟨p0, p1, p2, p3, p4, p5, p6, p7, p8⟩, ⟨r0, r1, r2, r3, r4, r5, r6, r7, r8⟩⟩, ⟨q0, q1, q2, q3, q4, q5, q6, q7, q8⟩⟩ := FV.out u hSu
            (go_simp) <;> (with_reducible rfl)
          change wpAnyH _ _ _ _ _ _ _ (Act.put _ (some 55) _) _
          simp only [Act.put, List.setIfInBounds_toArray, List.set_cons_zero, List.set_cons_succ]
          refine wpAnyH_ready (rs := [15]) (by kernel_rfl) (by simp) ?_
          refine AllReadyH.cons rfl (fun K hK => ?_) AllReadyH.nil
          go_simp
          go_at_call 12
          refine (CP1.out _ (HVU.out _ hHeld)).mono ?_
          rintro e v9 ⟨a9, c9, rfl, hbt9⟩
          have B9 : Hid (Below V.heap.size V v9) := hHeld.trans (hbt9.below.mono hHeld.size); have HT9 : Hid (∀ u, Below v9.heap.size v9 u → Row u a9 Z1) := (fun u hu => (hbt9.past hu).row); clear hbt9
          refine hK.out _ _ ?_ (fun hHeld2 => ?_)
          · exact B9.out
          clear hK K hHeld
          have hHeld := hHeld2
          clear hHeld2
          refine wpAnyH_ready (rs := [16, 20]) (by kernel_rfl) (by simp) ?_
          refine AllReadyH.cons rfl (fun K hK => ?_) ?_
          · have hcv9 := str_at HL1.out (HT9.out v9 (Below.refl _ _)) c9
            go_simp
            refine hK.out _ _ ?_ (fun hHeld2 => ?_)
            · exact B9.out
            clear hK K hHeld
            have hHeld := hHeld2
            clear hHeld2
            refine wpAnyH_take (i := 17) (v := ?_) rfl (by kernel_rfl) (by kernel_rfl) (by kernel_rfl) (fun _ _ _ h => h) (Or.inl ⟨by rfl, ?_⟩) hHeld ?_
            rotate_left
            · intro u hSu
              (go_simp) <;> (with_reducible rfl)
            change wpAnyH _ _ _ _ _ _ _ (Act.put _ (some 53) _) _
            simp only [Act.put, List.setIfInBounds_toArray, List.set_cons_zero, List.set_cons_succ]
            refine wpAnyH_ready (rs := [20]) (by kernel_rfl) (by simp) ?_
            refine AllReadyH.cons rfl (fun K hK => ?_) AllReadyH.nil
            go_simp
            go_at_call 19
            refine (HS2.out _ (HVU.out _ hHeld)).mono ?_
            rintro e v10 ⟨rfl, hb10⟩
            have B10 : Hid (Below V.heap.size V v10) := hHeld.trans (hb10.mono hHeld.size); clear hb10
            refine hK.out _ _ ?_ (fun hHeld2 => ?_)
            · exact B10.out
            clear hK K hHeld
            have hHeld := hHeld2
            clear hHeld2
            refine wpAnyH_take (i := 21) (v := ?_) rfl (by kernel_rfl) (by kernel_rfl) (by kernel_rfl) (fun _ _ _ h => h) (Or.inl ⟨by rfl, ?_⟩) hHeld ?_
            rotate_left
            · intro u hSu
              (go_simp) <;> (with_reducible rfl)
            change wpAnyH _ _ _ _ _ _ _ (Act.put _ (some 57) _) _
            simp only [Act.put, List.setIfInBounds_toArray, List.set_cons_zero, List.set_cons_succ]
            refine wpAnyH_take (i := 22) (v := ?_) rfl (by kernel_rfl) (by kernel_rfl) (by kernel_rfl) (fun _ _ _ h => h) (Or.inl ⟨by rfl, ?_⟩) hHeld ?_
            rotate_left
            · intro u hSu
              (go_simp) <;> (with_reducible rfl)
            change wpAnyH _ _ _ _ _ _ _ (Act.put _ (some 58) _) _
            simp only [Act.put, List.setIfInBounds_toArray, List.set_cons_zero, List.set_cons_succ]
            refine wpAnyH_take (i := 23) (v := ?_) rfl (by kernel_rfl) (by kernel_rfl) (by kernel_rfl) (fun _ _ _ h => h) (Or.inl ⟨by rfl, ?_⟩) hHeld ?_
            rotate_left
            · intro u hSu
              (go_simp) <;> (with_reducible rfl)
            change wpAnyH _ _ _ _ _ _ _ (Act.put _ (some 59) _) _
            simp only [Act.put, List.setIfInBounds_toArray, List.set_cons_zero, List.set_cons_succ]
            refine wpAnyH_done (by kernel_rfl) ?_ _
            refine NoPanic.normal ?_
            have S8 : Hid (Bt U v10 ZS a1 LN c1) := S7.out.1.past B10.out
            clear HSAME CD1 FV HVU S7 S6 S5
            by_cases hc1 : a2 < 0
            · go_wp2_with (first
          | (have hgo := S12.out; clear hgo; go_at_call 8; refine (HMORE.out _ _ a12 c12 S12.out.1).mono ?_; rintro e v13 ⟨rfl, hb⟩; have S13 : Hid (Bt U v13 ZS a1 LN c1) := S12.out.2.past (S12.out.1.below.trans (hb.mono S12.out.1.below.size)); clear hb S12)
          | (have hgo := S11.out; clear hgo; at_builtin; refine wpList_append_on rfl (.tmp 63) (.tmp 65) rfl v10.heap.size v10 (S11.out.1.below.alloc S11.out.1.below.size _) (S11.out.1.below.alloc S11.out.1.below.size _).size _ LN ZS [a3] rfl (own_below S11.out.1.own ((Below.refl _ _).alloc (Nat.le_refl _) _) (Nat.le_refl _)) _ _ _ rfl (row_made w11 a3 HB3.out.1 HB3.out.2 _ rfl) rfl (fun h => by cases h) HBZ.out (by omega) ?_; intro a12 c12 w12 o12 b12; have S12 : Hid (Bt v10 w12 (ZS ++ [a3]) a12 (LN + 1) c12 ∧ Bt U v10 ZS a1 LN c1) := ⟨⟨o12, (by rw [List.length_append, HLN.out]; rfl), HBZ.out.app (fun z hz => by simp at hz; rw [hz]; exact HB3.out), b12⟩, S11.out.2⟩; clear o12 b12 S11)
          | (have hgo := S8.out; clear hgo; at_builtin; refine wpList_append_new rfl (.tmp 61) (.tmp 62) rfl rfl ZS _ _ _ rfl S8.out.row HLN.out S8.out.nil (by omega) ?_; intro a11 c11 w11 o11 b11; have S11 : Hid (Bt v10 w11 ZS a11 LN c11 ∧ Bt U v10 ZS a1 LN c1) := ⟨⟨o11, HLN.out, HBZ.out, b11⟩, S8.out⟩; clear o11 b11 S8))
              go_ret
              exact ⟨rfl, HB.out.trans ((S13.out.past ((Below.refl _ _).alloc (Nat.le_refl _) _)).below.mono HB.out.size)⟩
            · have hc1' : ¬ a2 < 0 := hc1
              by_cases hc2 : (LN : Int) ≤ a2
              · go_wp2_with (first
          | (have hgo := S12.out; clear hgo; go_at_call 8; refine (HMORE.out _ _ a12 c12 S12.out.1).mono ?_; rintro e v13 ⟨rfl, hb⟩; have S13 : Hid (Bt U v13 ZS a1 LN c1) := S12.out.2.past (S12.out.1.below.trans (hb.mono S12.out.1.below.size)); clear hb S12)
          | (have hgo := S11.out; clear hgo; at_builtin; refine wpList_append_on rfl (.tmp 63) (.tmp 65) rfl v10.heap.size v10 (S11.out.1.below.alloc S11.out.1.below.size _) (S11.out.1.below.alloc S11.out.1.below.size _).size _ LN ZS [a3] rfl (own_below S11.out.1.own ((Below.refl _ _).alloc (Nat.le_refl _) _) (Nat.le_refl _)) _ _ _ rfl (row_made w11 a3 HB3.out.1 HB3.out.2 _ rfl) rfl (fun h => by cases h) HBZ.out (by omega) ?_; intro a12 c12 w12 o12 b12; have S12 : Hid (Bt v10 w12 (ZS ++ [a3]) a12 (LN + 1) c12 ∧ Bt U v10 ZS a1 LN c1) := ⟨⟨o12, (by rw [List.length_append, HLN.out]; rfl), HBZ.out.app (fun z hz => by simp at hz; rw [hz]; exact HB3.out), b12⟩, S11.out.2⟩; clear o12 b12 S11)
          | (have hgo := S8.out; clear hgo; at_builtin; refine wpList_append_new rfl (.tmp 61) (.tmp 62) rfl rfl ZS _ _ _ rfl S8.out.row HLN.out S8.out.nil (by omega) ?_; intro a11 c11 w11 o11 b11; have S11 : Hid (Bt v10 w11 ZS a11 LN c11 ∧ Bt U v10 ZS a1 LN c1) := ⟨⟨o11, HLN.out, HBZ.out, b11⟩, S8.out⟩; clear o11 b11 S8))
                go_ret
                exact ⟨rfl, HB.out.trans ((S13.out.past ((Below.refl _ _).alloc (Nat.le_refl _) _)).below.mono HB.out.size)⟩
              · obtain ⟨k, rfl⟩ : ∃ k : Nat, a2 = k := ⟨a2.toNat, by omega⟩
                have hk : k < LN := by omega
                have hsl := fun w' => slice_upto w' a1 LN c1 k k rfl (by have := S8.out.room; omega)
                go_wp2_with (first
          | (have hgo := S13.out; clear hgo; go_at_call 8; have ba : Below v13.heap.size v13 (v13.alloc (.cells #[.int .i64 0, .int .i64 0, .int .i64 0, .int .u8 0, .int .i64 0, .int .u8 0, .slice none 0 0, .bool false, .slice none 0 0] 28)) := ((Below.refl _ _).alloc (Nat.le_refl _) _); refine (HCUT.out _ a1 c1 k (S13.out.past ba) hk).mono ?_; rintro e v14 ⟨rfl, hb⟩; have B14 : Hid (Below U.heap.size U v14) := (S13.out.past ba).below.trans (hb.mono (S13.out.past ba).below.size); clear hb ba)
          | (have hgo := S12.out; clear hgo; go_at_call 8; refine (HMORE.out _ _ a12 c12 S12.out.1).mono ?_; rintro e v13 ⟨rfl, hb⟩; have S13 : Hid (Bt U v13 ZS a1 LN c1) := S12.out.2.past (S12.out.1.below.trans (hb.mono S12.out.1.below.size)); clear hb S12)
          | (have hgo := S11.out; clear hgo; at_builtin; refine wpList_append_on rfl (.tmp 63) (.tmp 65) rfl v10.heap.size v10 (S11.out.1.below.alloc S11.out.1.below.size _) (S11.out.1.below.alloc S11.out.1.below.size _).size _ LN ZS [a3] rfl (own_below S11.out.1.own ((Below.refl _ _).alloc (Nat.le_refl _) _) (Nat.le_refl _)) _ _ _ rfl (row_made w11 a3 HB3.out.1 HB3.out.2 _ rfl) rfl (fun h => by cases h) HBZ.out (by omega) ?_; intro a12 c12 w12 o12 b12; have S12 : Hid (Bt v10 w12 (ZS ++ [a3]) a12 (LN + 1) c12 ∧ Bt U v10 ZS a1 LN c1) := ⟨⟨o12, (by rw [List.length_append, HLN.out]; rfl), HBZ.out.app (fun z hz => by simp at hz; rw [hz]; exact HB3.out), b12⟩, S11.out.2⟩; clear o12 b12 S11)
          | (have hgo := S8.out; clear hgo; at_builtin; refine wpList_append_new rfl (.tmp 61) (.tmp 62) rfl rfl ZS _ _ _ rfl S8.out.row HLN.out S8.out.nil (by omega) ?_; intro a11 c11 w11 o11 b11; have S11 : Hid (Bt v10 w11 ZS a11 LN c11 ∧ Bt U v10 ZS a1 LN c1) := ⟨⟨o11, HLN.out, HBZ.out, b11⟩, S8.out⟩; clear o11 b11 S8))
                go_ret
                exact ⟨rfl, HB.out.trans ((B14.out.alloc B14.out.size _).mono HB.out.size)⟩
          refine AllReadyH.cons rfl (fun K hK => ?_) AllReadyH.nil
          go_simp
          go_at_call 19
          refine (HS2.out _ (HVU.out _ hHeld)).mono ?_
          rintro e v10 ⟨rfl, hb10⟩
          have B10 : Hid (Below V.heap.size V v10) := hHeld.trans (hb10.mono hHeld.size)
          have hcv9 := str_at HL1.out (HT9.out v10 hb10) c9
          clear hb10
          refine hK.out _ _ ?_ (fun hHeld2 => ?_)
          · exact B10.out
          clear hK K hHeld
          have hHeld := hHeld2
          clear hHeld2
          refine wpAnyH_ready (rs := [16]) (by kernel_rfl) (by simp) ?_
          refine AllReadyH.cons rfl (fun K hK => ?_) AllReadyH.nil
          go_simp
          refine hK.out _ _ ?_ (fun hHeld2 => ?_)
          · exact B10.out
          clear hK K hHeld
          have hHeld := hHeld2
          clear hHeld2
          refine wpAnyH_take (i := 17) (v := ?_) rfl (by kernel_rfl) (by kernel_rfl) (by kernel_rfl) (fun _ _ _ h => h) (Or.inl ⟨by rfl, ?_⟩) hHeld ?_
          rotate_left
          · intro u hSu
            (go_simp) <;> (with_reducible rfl)
          change wpAnyH _ _ _ _ _ _ _ (Act.put _ (some 53) _) _
          simp only [Act.put, List.setIfInBounds_toArray, List.set_cons_zero, List.set_cons_succ]
          refine wpAnyH_take (i := 21) (v := ?_) rfl (by kernel_rfl) (by kernel_rfl) (by kernel_rfl) (fun _ _ _ h => h) (Or.inl ⟨by rfl, ?_⟩) hHeld ?_
          rotate_left
          · intro u hSu
            (go_simp) <;> (with_reducible rfl)
          change wpAnyH _ _ _ _ _ _ _ (Act.put _ (some 57) _) _
          simp only [Act.put, List.setIfInBounds_toArray, List.set_cons_zero, List.set_cons_succ]
          refine wpAnyH_take (i := 22) (v := ?_) rfl (by kernel_rfl) (by kernel_rfl) (by kernel_rfl) (fun _ _ _ h => h) (Or.inl ⟨by rfl, ?_⟩) hHeld ?_
          rotate_left
          · intro u hSu
            (go_simp) <;> (with_reducible rfl)
          change wpAnyH _ _ _ _ _ _ _ (Act.put _ (some 58) _) _
          simp only [Act.put, List.setIfInBounds_toArray, List.set_cons_zero, List.set_cons_succ]
          refine wpAnyH_take (i := 23) (v := ?_) rfl (by kernel_rfl) (by kernel_rfl) (by kernel_rfl) (fun _ _ _ h => h) (Or.inl ⟨by rfl, ?_⟩) hHeld ?_
          rotate_left
          · intro u hSu
            (go_simp) <;> (with_reducible rfl)
          change wpAnyH _ _ _ _ _ _ _ (Act.put _ (some 59) _) _
          simp only [Act.put, List.setIfInBounds_toArray, List.set_cons_zero, List.set_cons_succ]
          refine wpAnyH_done (by kernel_rfl) ?_ _
          refine NoPanic.normal ?_
          have S8 : Hid (Bt U v10 ZS a1 LN c1) := S7.out.1.past B10.out
          clear HSAME CD1 FV HVU S7 S6 S5
          by_cases hc1 : a2 < 0
          · go_wp2_with (first
          | (have hgo := S12.out; clear hgo; go_at_call 8; refine (HMORE.out _ _ a12 c12 S12.out.1).mono ?_; rintro e v13 ⟨rfl, hb⟩; have S13 : Hid (Bt U v13 ZS a1 LN c1) := S12.out.2.past (S12.out.1.below.trans (hb.mono S12.out.1.below.size)); clear hb S12)
          | (have hgo := S11.out; clear hgo; at_builtin; refine wpList_append_on rfl (.tmp 63) (.tmp 65) rfl v10.heap.size v10 (S11.out.1.below.alloc S11.out.1.below.size _) (S11.out.1.below.alloc S11.out.1.below.size _).size _ LN ZS [a3] rfl (own_below S11.out.1.own ((Below.refl _ _).alloc (Nat.le_refl _) _) (Nat.le_refl _)) _ _ _ rfl (row_made w11 a3 HB3.out.1 HB3.out.2 _ rfl) rfl (fun h => by cases h) HBZ.out (by omega) ?_; intro a12 c12 w12 o12 b12; have S12 : Hid (Bt v10 w12 (ZS ++ [a3]) a12 (LN + 1) c12 ∧ Bt U v10 ZS a1 LN c1) := ⟨⟨o12, (by rw [List.length_append, HLN.out]; rfl), HBZ.out.app (fun z hz => by simp at hz; rw [hz]; exact HB3.out), b12⟩, S11.out.2⟩; clear o12 b12 S11)
          | (have hgo := S8.out; clear hgo; at_builtin; refine wpList_append_new rfl (.tmp 61) (.tmp 62) rfl rfl ZS _ _ _ rfl S8.out.row HLN.out S8.out.nil (by omega) ?_; intro a11 c11 w11 o11 b11; have S11 : Hid (Bt v10 w11 ZS a11 LN c11 ∧ Bt U v10 ZS a1 LN c1) := ⟨⟨o11, HLN.out, HBZ.out, b11⟩, S8.out⟩; clear o11 b11 S8))
            go_ret
            exact ⟨rfl, HB.out.trans ((S13.out.past ((Below.refl _ _).alloc (Nat.le_refl _) _)).below.mono HB.out.size)⟩
          · have hc1' : ¬ a2 < 0 := hc1
            by_cases hc2 : (LN : Int) ≤ a2
            · go_wp2_with (first
          | (have hgo := S12.out; clear hgo; go_at_call 8; refine (HMORE.out _ _ a12 c12 S12.out.1).mono ?_; rintro e v13 ⟨rfl, hb⟩; have S13 : Hid (Bt U v13 ZS a1 LN c1) := S12.out.2.past (S12.out.1.below.trans (hb.mono S12.out.1.below.size)); clear hb S12)
          | (have hgo := S11.out; clear hgo; at_builtin; refine wpList_append_on rfl (.tmp 63) (.tmp 65) rfl v10.heap.size v10 (S11.out.1.below.alloc S11.out.1.below.size _) (S11.out.1.below.alloc S11.out.1.below.size _).size _ LN ZS [a3] rfl (own_below S11.out.1.own ((Below.refl _ _).alloc (Nat.le_refl _) _) (Nat.le_refl _)) _ _ _ rfl (row_made w11 a3 HB3.out.1 HB3.out.2 _ rfl) rfl (fun h => by cases h) HBZ.out (by omega) ?_; intro a12 c12 w12 o12 b12; have S12 : Hid (Bt v10 w12 (ZS ++ [a3]) a12 (LN + 1) c12 ∧ Bt U v10 ZS a1 LN c1) := ⟨⟨o12, (by rw [List.length_append, HLN.out]; rfl), HBZ.out.app (fun z hz => by simp at hz; rw [hz]; exact HB3.out), b12⟩, S11.out.2⟩; clear o12 b12 S11)
          | (have hgo := S8.out; clear hgo; at_builtin; refine wpList_append_new rfl (.tmp 61) (.tmp 62) rfl rfl ZS _ _ _ rfl S8.out.row HLN.out S8.out.nil (by omega) ?_; intro a11 c11 w11 o11 b11; have S11 : Hid (Bt v10 w11 ZS a11 LN c11 ∧ Bt U v10 ZS a1 LN c1) := ⟨⟨o11, HLN.out, HBZ.out, b11⟩, S8.out⟩; clear o11 b11 S8))
              go_ret
              exact ⟨rfl, HB.out.trans ((S13.out.past ((Below.refl _ _).alloc (Nat.le_refl _) _)).below.mono HB.out.size)⟩
            · obtain ⟨k, rfl⟩ : ∃ k : Nat, a2 = k := ⟨a2.toNat, by omega⟩
              have hk : k < LN := by omega
              have hsl := fun w' => slice_upto w' a1 LN c1 k k rfl (by have := S8.out.room; omega)
              go_wp2_with (first
          | (have hgo := S13.out; clear hgo; go_at_call 8; have ba : Below v13.heap.size v13 (v13.alloc (.cells #[.int .i64 0, .int .i64 0, .int .i64 0, .int .u8 0, .int .i64 0, .int .u8 0, .slice none 0 0, .bool false, .slice none 0 0] 28)) := ((Below.refl _ _).alloc (Nat.le_refl _) _); refine (HCUT.out _ a1 c1 k (S13.out.past ba) hk).mono ?_; rintro e v14 ⟨rfl, hb⟩; have B14 : Hid (Below U.heap.size U v14) := (S13.out.past ba).below.trans (hb.mono (S13.out.past ba).below.size); clear hb ba)
          | (have hgo := S12.out; clear hgo; go_at_call 8; refine (HMORE.out _ _ a12 c12 S12.out.1).mono ?_; rintro e v13 ⟨rfl, hb⟩; have S13 : Hid (Bt U v13 ZS a1 LN c1) := S12.out.2.past (S12.out.1.below.trans (hb.mono S12.out.1.below.size)); clear hb S12)
          | (have hgo := S11.out; clear hgo; at_builtin; refine wpList_append_on rfl (.tmp 63) (.tmp 65) rfl v10.heap.size v10 (S11.out.1.below.alloc S11.out.1.below.size _) (S11.out.1.below.alloc S11.out.1.below.size _).size _ LN ZS [a3] rfl (own_below S11.out.1.own ((Below.refl _ _).alloc (Nat.le_refl _) _) (Nat.le_refl _)) _ _ _ rfl (row_made w11 a3 HB3.out.1 HB3.out.2 _ rfl) rfl (fun h => by cases h) HBZ.out (by omega) ?_; intro a12 c12 w12 o12 b12; have S12 : Hid (Bt v10 w12 (ZS ++ [a3]) a12 (LN + 1) c12 ∧ Bt U v10 ZS a1 LN c1) := ⟨⟨o12, (by rw [List.length_append, HLN.out]; rfl), HBZ.out.app (fun z hz => by simp at hz; rw [hz]; exact HB3.out), b12⟩, S11.out.2⟩; clear o12 b12 S11)
          | (have hgo := S8.out; clear hgo; at_builtin; refine wpList_append_new rfl (.tmp 61) (.tmp 62) rfl rfl ZS _ _ _ rfl S8.out.row HLN.out S8.out.nil (by omega) ?_; intro a11 c11 w11 o11 b11; have S11 : Hid (Bt v10 w11 ZS a11 LN c11 ∧ Bt U v10 ZS a1 LN c1) := ⟨⟨o11, HLN.out, HBZ.out, b11⟩, S8.out⟩; clear o11 b11 S8))
              go_ret
              exact ⟨rfl, HB.out.trans ((B14.out.alloc B14.out.size _).mono HB.out.size)⟩
        | false =>
          clear HEQ HS2 CP1 hU w0 w1 in0 in1
          go_enter Try.func6, Try.ntmps6
          go_wp2_with (first
        | (have hgo := S5.out; clear hgo; go_at_call 8; refine (HCG.out v5 a1 c1 S5.out).mono ?_; rintro e v6 ⟨aa, ca, qa, qc, rfl, hrc, hb⟩; have S6 : Hid (Bt U v6 ZS a1 LN c1 ∧ RcW v6 ⟨⟨kd, id, s, m, t, n, l, y, ps⟩, aa, ca, qa, qc⟩) := ⟨S5.out.past hb, hrc⟩; clear hrc hb HCG)
        | (have hgo := B4.out; clear hgo; go_at_call 12; refine (CP0.out _ B4.out).mono ?_; rintro e v5 ⟨a1, c1, rfl, hbt⟩; have S5 : Hid (Bt U v5 ZS a1 LN c1) := hbt.base B4.out; clear hbt CP0)
        | (have hgo := B3.out; clear hgo; go_at_call 11; refine (CD0.out _ B3.out).mono ?_; rintro e v4 ⟨rfl, hb⟩; have B4 : Hid (Below U.heap.size U v4) := B3.out.trans (hb.mono B3.out.size); obtain ⟨⟨p0, p1, p2, p3, p4, p5, p6, p7, p8⟩, ⟨r0, r1, r2, r3, r4, r5, r6, r7, r8⟩⟩ := FB.out v4 B4.out; clear hb CD0)
        | (have hgo := B2.out; clear hgo; go_at_call 14; refine (CR1.out _ B2.out).mono ?_; rintro e v3 ⟨rfl, hb⟩; have B3 : Hid (Below U.heap.size U v3) := B2.out.trans (hb.mono B2.out.size); obtain ⟨⟨p0, p1, p2, p3, p4, p5, p6, p7, p8⟩, ⟨r0, r1, r2, r3, r4, r5, r6, r7, r8⟩⟩ := FB.out v3 B3.out; clear hb CR1)
        | (have hgo := B1.out; clear hgo; go_at_call 14; refine (CR0.out _ B1.out).mono ?_; rintro e v2 ⟨rfl, hb⟩; have B2 : Hid (Below U.heap.size U v2) := B1.out.trans (hb.mono B1.out.size); obtain ⟨⟨p0, p1, p2, p3, p4, p5, p6, p7, p8⟩, ⟨r0, r1, r2, r3, r4, r5, r6, r7, r8⟩⟩ := FB.out v2 B2.out; clear hb CR0)
        | (go_at_call 7; rw [HU.out]; refine (AW.out _).mono ?_; rintro e v1 ⟨rfl, hb⟩; have B1 : Hid (Below U.heap.size U v1) := hb; obtain ⟨⟨p0, p1, p2, p3, p4, p5, p6, p7, p8⟩, ⟨r0, r1, r2, r3, r4, r5, r6, r7, r8⟩⟩ := FB.out v1 hb; clear hb AW))
          obtain ⟨V, hV⟩ : ∃ V, V = v6.alloc (.cells #[.int .i64 kd, .int .i64 id, .int .i64 s, .int .u8 m, .int .i64 t, .int .u8 n, .slice aa l.length ca, .bool y, .slice qa ps.length qc] 28) := ⟨_, rfl⟩
          rw [← hV]
          have hbv : Below v6.heap.size v6 V := by rw [hV]; exact (Below.refl _ _).alloc (Nat.le_refl _) _
          have hbq : RBox V v6.heap.size kd id s m t n aa l.length ca y qa ps.length qc := by rw [hV]; exact RBox.made v6 28 kd id s m t n aa l.length ca y qa ps.length qc
          have S7 : Hid (Bt U V ZS a1 LN c1 ∧ RcW V ⟨⟨kd, id, s, m, t, n, l, y, ps⟩, aa, ca, qa, qc⟩) := ⟨S6.out.1.past hbv, S6.out.2.past hbv⟩
          have HVU : Hid (∀ u, Below V.heap.size V u → Below U.heap.size U u) := fun u hu => S7.out.1.below.trans (hu.mono S7.out.1.below.size)
          have FV : Hid (∀ u, Below V.heap.size V u → (RBox u w.heap.size kd id s m t n a l.length c y pa ps.length pc ∧ RBox u (w.heap.size + 1) kd2 id2 s2 m2 t2 n2 b l2.length c2 y2 pb ps2.length pc2) ∧ RBox u v6.heap.size kd id s m t n aa l.length ca y qa ps.length qc) := fun u hu => ⟨FB.out u (HVU.out u hu), hbq.past hu⟩
          clear hV hbv hbq p0 p1 p2 p3 p4 p5 p6 p7 p8 r0 r1 r2 r3 r4 r5 r6 r7 r8
          refine wp_region_noPanic ?_
          refine wp_region_held_drew (S := fun u => Below V.heap.size V u) (by kernel_rfl) ?_ (fun hHeld => ?_)
          · exact (Below.refl _ _).drew
          refine wpAnyH_take (i := 0) (v := ?_) rfl (by kernel_rfl) (by kernel_rfl) (by kernel_rfl) (fun _ _ _ h => h) (Or.inl ⟨by rfl, ?_⟩) hHeld ?_
          rotate_left
          · intro u hSu
            (go_simp) <;> (with_reducible rfl)
          change wpAnyH _ _ _ _ _ _ _ (Act.put _ (some 36) _) _
          simp only [Act.put, List.setIfInBounds_toArray, List.set_cons_zero, List.set_cons_succ]
          refine wpAnyH_take (i := 1) (v := ?_) rfl (by kernel_rfl) (by kernel_rfl) (by kernel_rfl) (fun _ _ _ h => h) (Or.inl ⟨by rfl, ?_⟩) hHeld ?_
          rotate_left
          · intro u hSu
            (go_simp) <;> (with_reducible rfl)
          change wpAnyH _ _ _ _ _ _ _ (Act.put _ (some 37) _) _
          simp only [Act.put, List.setIfInBounds_toArray, List.set_cons_zero, List.set_cons_succ]
          refine wpAnyH_take (i := 2) (v := ?_) rfl (by kernel_rfl) (by kernel_rfl) (by kernel_rfl) (fun _ _ _ h => h) (Or.inl ⟨by rfl, ?_⟩) hHeld ?_
          rotate_left
          · intro u hSu
            (go_simp) <;> (with_reducible rfl)
          change wpAnyH _ _ _ _ _ _ _ (Act.put _ (some 38) _) _
          simp only [Act.put, List.setIfInBounds_toArray, List.set_cons_zero, List.set_cons_succ]
          refine wpAnyH_take (i := 3) (v := ?_) rfl (by kernel_rfl) (by kernel_rfl) (by kernel_rfl) (fun _ _ _ h => h) (Or.inl ⟨by rfl, ?_⟩) hHeld ?_
          rotate_left
          · intro u hSu
            obtain ⟨⟨⟨p0, p1, p2, p3, p4, p5, p6, p7, p8⟩, ⟨r0, r1, r2, r3, r4, r5, r6, r7, r8⟩⟩, ⟨q0, q1, q2, q3, q4, q5, q6, q7, q8⟩⟩ := FV.out u hSu
            (go_simp) <;> (with_reducible rfl)
          change wpAnyH _ _ _ _ _ _ _ (Act.put _ (some 39) _) _
          simp only [Act.put, List.setIfInBounds_toArray, List.set_cons_zero, List.set_cons_succ]
          refine wpAnyH_take (i := 4) (v := ?_) rfl (by kernel_rfl) (by kernel_rfl) (by kernel_rfl) (fun _ _ _ h => h) (Or.inl ⟨by rfl, ?_⟩) hHeld ?_
          rotate_left
          · intro u hSu
            obtain ⟨⟨⟨p0, p1, p2, p3, p4, p5, p6, p7, p8⟩, ⟨r0, r1, r2, r3, r4, r5, r6, r7, r8⟩⟩, ⟨q0, q1, q2, q3, q4, q5, q6, q7, q8⟩⟩ := FV.out u hSu
            (go_simp) <;> (with_reducible rfl)
          change wpAnyH _ _ _ _ _ _ _ (Act.put _ (some 40) _) _
          simp only [Act.put, List.setIfInBounds_toArray, List.set_cons_zero, List.set_cons_succ]
          refine wpAnyH_ready (rs := [5]) (by kernel_rfl) (by simp) ?_
          refine AllReadyH.cons rfl (fun K hK => ?_) AllReadyH.nil
          go_simp
          go_at_call 19
          refine (HSAME.out _ aa ca qa qc (HVU.out _ hHeld) (S7.out.2.past hHeld)).mono ?_
          rintro e v7 ⟨rfl, hb7⟩
          have B7 : Hid (Below V.heap.size V v7) := hHeld.trans (hb7.mono hHeld.size); clear hb7
          refine hK.out _ _ ?_ (fun hHeld2 => ?_)
          · exact B7.out
          clear hK K hHeld
          have hHeld := hHeld2
          clear hHeld2
          refine wpAnyH_take (i := 6) (v := ?_) rfl (by kernel_rfl) (by kernel_rfl) (by kernel_rfl) (fun _ _ _ h => h) (Or.inl ⟨by rfl, ?_⟩) hHeld ?_
          rotate_left
          · intro u hSu
            (go_simp) <;> (with_reducible rfl)
          change wpAnyH _ _ _ _ _ _ _ (Act.put _ (some 42) _) _
          simp only [Act.put, List.setIfInBounds_toArray, List.set_cons_zero, List.set_cons_succ]
          refine wpAnyH_take (i := 7) (v := ?_) rfl (by kernel_rfl) (by kernel_rfl) (by kernel_rfl) (fun _ _ _ h => h) (Or.inl ⟨by rfl, ?_⟩) hHeld ?_
          rotate_left
          · intro u hSu
            (go_simp) <;> (with_reducible rfl)
          change wpAnyH _ _ _ _ _ _ _ (Act.put _ (some 43) _) _
          simp only [Act.put, List.setIfInBounds_toArray, List.set_cons_zero, List.set_cons_succ]
          refine wpAnyH_take (i := 8) (v := ?_) rfl (by kernel_rfl) (by kernel_rfl) (by kernel_rfl) (fun _ _ _ h => h) (Or.inl ⟨by rfl, ?_⟩) hHeld ?_
          rotate_left
          · intro u hSu
            (go_simp) <;> (with_reducible rfl)
          change wpAnyH _ _ _ _ _ _ _ (Act.put _ (some 44) _) _
          simp only [Act.put, List.setIfInBounds_toArray, List.set_cons_zero, List.set_cons_succ]
          refine wpAnyH_take (i := 9) (v := ?_) rfl (by kernel_rfl) (by kernel_rfl) (by kernel_rfl) (fun _ _ _ h => h) (Or.inl ⟨by rfl, ?_⟩) hHeld ?_
          rotate_left
          · intro u hSu
            obtain ⟨⟨⟨p0, p1, p2, p3, p4, p5, p6, p7, p8⟩, ⟨r0, r1, r2, r3, r4, r5, r6, r7, r8⟩⟩, ⟨q0, q1, q2, q3, q4, q5, q6, q7, q8⟩⟩ := FV.out u hSu
            (go_simp) <;> (with_reducible rfl)
          change wpAnyH _ _ _ _ _ _ _ (Act.put _ (some 45) _) _
          simp only [Act.put, List.setIfInBounds_toArray, List.set_cons_zero, List.set_cons_succ]
          refine wpAnyH_ready (rs := [10]) (by kernel_rfl) (by simp) ?_
          refine AllReadyH.cons rfl (fun K hK => ?_) AllReadyH.nil
          go_simp
          go_at_call 11
          refine (CD1.out _ (HVU.out _ hHeld)).mono ?_
          rintro e v8 ⟨rfl, hb8⟩
          have B8 : Hid (Below V.heap.size V v8) := hHeld.trans (hb8.mono hHeld.size); clear hb8
          refine hK.out _ _ ?_ (fun hHeld2 => ?_)
          · exact B8.out
          clear hK K hHeld
          have hHeld := hHeld2
          clear hHeld2
          refine wpAnyH_take (i := 11) (v := ?_) rfl (by kernel_rfl) (by kernel_rfl) (by kernel_rfl) (fun _ _ _ h => h) (Or.inl ⟨by rfl, ?_⟩) hHeld ?_
          rotate_left
          · intro u hSu
            (go_simp) <;> (with_reducible rfl)
          change wpAnyH _ _ _ _ _ _ _ (Act.put _ (some 47) _) _
          simp only [Act.put, List.setIfInBounds_toArray, List.set_cons_zero, List.set_cons_succ]
          refine wpAnyH_take (i := 12) (v := undef) rfl (by kernel_rfl) (by kernel_rfl) (by kernel_rfl) (fun _ _ _ h => h) (Or.inr ⟨by rfl, rfl⟩) hHeld ?_
          change wpAnyH _ _ _ _ _ _ _ (Act.put _ (some 48) _) _
          simp only [Act.put, List.setIfInBounds_toArray, List.set_cons_zero, List.set_cons_succ]
          refine wpAnyH_take (i := 13) (v := undef) rfl (by kernel_rfl) (by kernel_rfl) (by kernel_rfl) (fun _ _ _ h => h) (Or.inr ⟨by rfl, rfl⟩) hHeld ?_
          change wpAnyH _ _ _ _ _ _ _ (Act.put _ (some 49) _) _
          simp only [Act.put, List.setIfInBounds_toArray, List.set_cons_zero, List.set_cons_succ]
          refine wpAnyH_take (i := 14) (v := undef) rfl (by kernel_rfl) (by kernel_rfl) (by kernel_rfl) (fun _ _ _ h => h) (Or.inr ⟨by rfl, rfl⟩) hHeld ?_
          change wpAnyH _ _ _ _ _ _ _ (Act.put _ (some 50) _) _
          simp only [Act.put, List.setIfInBounds_toArray, List.set_cons_zero, List.set_cons_succ]
          refine wpAnyH_take (i := 15) (v := undef) rfl (by kernel_rfl) (by kernel_rfl) (by kernel_rfl) (fun _ _ _ h => h) (Or.inr ⟨by rfl, rfl⟩) hHeld ?_
          change wpAnyH _ _ _ _ _ _ _ (Act.put _ (some 51) _) _
          simp only [Act.put, List.setIfInBounds_toArray, List.set_cons_zero, List.set_cons_succ]
          refine wpAnyH_take (i := 16) (v := undef) rfl (by kernel_rfl) (by kernel_rfl) (by kernel_rfl) (fun _ _ _ h => h) (Or.inr ⟨by rfl, rfl⟩) hHeld ?_
          change wpAnyH _ _ _ _ _ _ _ (Act.put _ (some 52) _) _
          simp only [Act.put, List.setIfInBounds_toArray, List.set_cons_zero, List.set_cons_succ]
          refine wpAnyH_take (i := 17) (v := undef) rfl (by kernel_rfl) (by kernel_rfl) (by kernel_rfl) (fun _ _ _ h => h) (Or.inr ⟨by rfl, rfl⟩) hHeld ?_
          change wpAnyH _ _ _ _ _ _ _ (Act.put _ (some 53) _) _
          simp only [Act.put, List.setIfInBounds_toArray, List.set_cons_zero, List.set_cons_succ]
          refine wpAnyH_take (i := 18) (v := undef) rfl (by kernel_rfl) (by kernel_rfl) (by kernel_rfl) (fun _ _ _ h => h) (Or.inr ⟨by rfl, rfl⟩) hHeld ?_
          change wpAnyH _ _ _ _ _ _ _ (Act.put _ (some 54) _) _
          simp only [Act.put, List.setIfInBounds_toArray, List.set_cons_zero, List.set_cons_succ]
          refine wpAnyH_take (i := 19) (v := undef) rfl (by kernel_rfl) (by kernel_rfl) (by kernel_rfl) (fun _ _ _ h => h) (Or.inr ⟨by rfl, rfl⟩) hHeld ?_
          change wpAnyH _ _ _ _ _ _ _ (Act.put _ (some 55) _) _
          simp only [Act.put, List.setIfInBounds_toArray, List.set_cons_zero, List.set_cons_succ]
          refine wpAnyH_take (i := 20) (v := undef) rfl (by kernel_rfl) (by kernel_rfl) (by kernel_rfl) (fun _ _ _ h => h) (Or.inr ⟨by rfl, rfl⟩) hHeld ?_
          change wpAnyH _ _ _ _ _ _ _ (Act.put _ (some 56) _) _
          simp only [Act.put, List.setIfInBounds_toArray, List.set_cons_zero, List.set_cons_succ]
          refine wpAnyH_take (i := 21) (v := undef) rfl (by kernel_rfl) (by kernel_rfl) (by kernel_rfl) (fun _ _ _ h => h) (Or.inr ⟨by rfl, rfl⟩) hHeld ?_
          change wpAnyH _ _ _ _ _ _ _ (Act.put _ (some 57) _) _
          simp only [Act.put, List.setIfInBounds_toArray, List.set_cons_zero, List.set_cons_succ]
          refine wpAnyH_take (i := 22) (v := ?_) rfl (by kernel_rfl) (by kernel_rfl) (by kernel_rfl) (fun _ _ _ h => h) (Or.inl ⟨by rfl, ?_⟩) hHeld ?_
          rotate_left
          · intro u hSu
            (go_simp) <;> (with_reducible rfl)
          change wpAnyH _ _ _ _ _ _ _ (Act.put _ (some 58) _) _
          simp only [Act.put, List.setIfInBounds_toArray, List.set_cons_zero, List.set_cons_succ]
          refine wpAnyH_take (i := 23) (v := ?_) rfl (by kernel_rfl) (by kernel_rfl) (by kernel_rfl) (fun _ _ _ h => h) (Or.inl ⟨by rfl, ?_⟩) hHeld ?_
          rotate_left
          · intro u hSu
            (go_simp) <;> (with_reducible rfl)
          change wpAnyH _ _ _ _ _ _ _ (Act.put _ (some 59) _) _
          simp only [Act.put, List.setIfInBounds_toArray, List.set_cons_zero, List.set_cons_succ]
          refine wpAnyH_done (by kernel_rfl) ?_ _
          refine NoPanic.normal ?_
          have S8 : Hid (Bt U v8 ZS a1 LN c1) := S7.out.1.past B8.out
          clear HSAME CD1 FV HVU S7 S6 S5
          by_cases hc1 : a2 < 0
          · go_wp2_with (first
          | (have hgo := S12.out; clear hgo; go_at_call 8; refine (HMORE.out _ _ a12 c12 S12.out.1).mono ?_; rintro e v13 ⟨rfl, hb⟩; have S13 : Hid (Bt U v13 ZS a1 LN c1) := S12.out.2.past (S12.out.1.below.trans (hb.mono S12.out.1.below.size)); clear hb S12)
          | (have hgo := S11.out; clear hgo; at_builtin; refine wpList_append_on rfl (.tmp 63) (.tmp 65) rfl v8.heap.size v8 (S11.out.1.below.alloc S11.out.1.below.size _) (S11.out.1.below.alloc S11.out.1.below.size _).size _ LN ZS [a3] rfl (own_below S11.out.1.own ((Below.refl _ _).alloc (Nat.le_refl _) _) (Nat.le_refl _)) _ _ _ rfl (row_made w11 a3 HB3.out.1 HB3.out.2 _ rfl) rfl (fun h => by cases h) HBZ.out (by omega) ?_; intro a12 c12 w12 o12 b12; have S12 : Hid (Bt v8 w12 (ZS ++ [a3]) a12 (LN + 1) c12 ∧ Bt U v8 ZS a1 LN c1) := ⟨⟨o12, (by rw [List.length_append, HLN.out]; rfl), HBZ.out.app (fun z hz => by simp at hz; rw [hz]; exact HB3.out), b12⟩, S11.out.2⟩; clear o12 b12 S11)
          | (have hgo := S8.out; clear hgo; at_builtin; refine wpList_append_new rfl (.tmp 61) (.tmp 62) rfl rfl ZS _ _ _ rfl S8.out.row HLN.out S8.out.nil (by omega) ?_; intro a11 c11 w11 o11 b11; have S11 : Hid (Bt v8 w11 ZS a11 LN c11 ∧ Bt U v8 ZS a1 LN c1) := ⟨⟨o11, HLN.out, HBZ.out, b11⟩, S8.out⟩; clear o11 b11 S8))
            go_ret
            exact ⟨rfl, HB.out.trans ((S13.out.past ((Below.refl _ _).alloc (Nat.le_refl _) _)).below.mono HB.out.size)⟩
          · have hc1' : ¬ a2 < 0 := hc1
            by_cases hc2 : (LN : Int) ≤ a2
            · go_wp2_with (first
          | (have hgo := S12.out; clear hgo; go_at_call 8; refine (HMORE.out _ _ a12 c12 S12.out.1).mono ?_; rintro e v13 ⟨rfl, hb⟩; have S13 : Hid (Bt U v13 ZS a1 LN c1) := S12.out.2.past (S12.out.1.below.trans (hb.mono S12.out.1.below.size)); clear hb S12)
          | (have hgo := S11.out; clear hgo; at_builtin; refine wpList_append_on rfl (.tmp 63) (.tmp 65) rfl v8.heap.size v8 (S11.out.1.below.alloc S11.out.1.below.size _) (S11.out.1.below.alloc S11.out.1.below.size _).size _ LN ZS [a3] rfl (own_below S11.out.1.own ((Below.refl _ _).alloc (Nat.le_refl _) _) (Nat.le_refl _)) _ _ _ rfl (row_made w11 a3 HB3.out.1 HB3.out.2 _ rfl) rfl (fun h => by cases h) HBZ.out (by omega) ?_; intro a12 c12 w12 o12 b12; have S12 : Hid (Bt v8 w12 (ZS ++ [a3]) a12 (LN + 1) c12 ∧ Bt U v8 ZS a1 LN c1) := ⟨⟨o12, (by rw [List.length_append, HLN.out]; rfl), HBZ.out.app (fun z hz => by simp at hz; rw [hz]; exact HB3.out), b12⟩, S11.out.2⟩; clear o12 b12 S11)
          | (have hgo := S8.out; clear hgo; at_builtin; refine wpList_append_new rfl (.tmp 61) (.tmp 62) rfl rfl ZS _ _ _ rfl S8.out.row HLN.out S8.out.nil (by omega) ?_; intro a11 c11 w11 o11 b11; have S11 : Hid (Bt v8 w11 ZS a11 LN c11 ∧ Bt U v8 ZS a1 LN c1) := ⟨⟨o11, HLN.out, HBZ.out, b11⟩, S8.out⟩; clear o11 b11 S8))
              go_ret
              exact ⟨rfl, HB.out.trans ((S13.out.past ((Below.refl _ _).alloc (Nat.le_refl _) _)).below.mono HB.out.size)⟩
            · obtain ⟨k, rfl⟩ : ∃ k : Nat, a2 = k := ⟨a2.toNat, by omega⟩
              have hk : k < LN := by omega
              have hsl := fun w' => slice_upto w' a1 LN c1 k k rfl (by have := S8.out.room; omega)
              go_wp2_with (first
          | (have hgo := S13.out; clear hgo; go_at_call 8; have ba : Below v13.heap.size v13 (v13.alloc (.cells #[.int .i64 0, .int .i64 0, .int .i64 0, .int .u8 0, .int .i64 0, .int .u8 0, .slice none 0 0, .bool false, .slice none 0 0] 28)) := ((Below.refl _ _).alloc (Nat.le_refl _) _); refine (HCUT.out _ a1 c1 k (S13.out.past ba) hk).mono ?_; rintro e v14 ⟨rfl, hb⟩; have B14 : Hid (Below U.heap.size U v14) := (S13.out.past ba).below.trans (hb.mono (S13.out.past ba).below.size); clear hb ba)
          | (have hgo := S12.out; clear hgo; go_at_call 8; refine (HMORE.out _ _ a12 c12 S12.out.1).mono ?_; rintro e v13 ⟨rfl, hb⟩; have S13 : Hid (Bt U v13 ZS a1 LN c1) := S12.out.2.past (S12.out.1.below.trans (hb.mono S12.out.1.below.size)); clear hb S12)
          | (have hgo := S11.out; clear hgo; at_builtin; refine wpList_append_on rfl (.tmp 63) (.tmp 65) rfl v8.heap.size v8 (S11.out.1.below.alloc S11.out.1.below.size _) (S11.out.1.below.alloc S11.out.1.below.size _).size _ LN ZS [a3] rfl (own_below S11.out.1.own ((Below.refl _ _).alloc (Nat.le_refl _) _) (Nat.le_refl _)) _ _ _ rfl (row_made w11 a3 HB3.out.1 HB3.out.2 _ rfl) rfl (fun h => by cases h) HBZ.out (by omega) ?_; intro a12 c12 w12 o12 b12; have S12 : Hid (Bt v8 w12 (ZS ++ [a3]) a12 (LN + 1) c12 ∧ Bt U v8 ZS a1 LN c1) := ⟨⟨o12, (by rw [List.length_append, HLN.out]; rfl), HBZ.out.app (fun z hz => by simp at hz; rw [hz]; exact HB3.out), b12⟩, S11.out.2⟩; clear o12 b12 S11)
          | (have hgo := S8.out; clear hgo; at_builtin; refine wpList_append_new rfl (.tmp 61) (.tmp 62) rfl rfl ZS _ _ _ rfl S8.out.row HLN.out S8.out.nil (by omega) ?_; intro a11 c11 w11 o11 b11; have S11 : Hid (Bt v8 w11 ZS a11 LN c11 ∧ Bt U v8 ZS a1 LN c1) := ⟨⟨o11, HLN.out, HBZ.out, b11⟩, S8.out⟩; clear o11 b11 S8))
              go_ret
              exact ⟨rfl, HB.out.trans ((B14.out.alloc B14.out.size _).mono HB.out.size)⟩

set_option maxRecDepth 100000 in
theorem lifted (os : Os) (started : os.Started) (H : Type) (enc : TypeId × Value → H) :
    ReturnsInHanded {} Try.checked os 6 .any (Rows.recBackSpec.pre6 enc Try.prog Try.f6 Rows.recBackRow.domain false) (Rows.recBackSpec.post enc Try.prog Try.f6 false true false false) := by
  refine returnsInHanded_of_change (C := Try.checked) own started (by kernel_rfl) Try.func6
    (ChangeSpec.witness6 (enc := enc) (C := Try.checked) false ⟨#[], #[.agg #[.int .i64 0, .int .i64 0, .int .i64 0, .int .u8 0, .int .i64 0, .int .u8 0, .slice none 0 0, .bool false, .slice none 0 0], .agg #[.int .i64 0, .int .i64 0, .int .i64 0, .int .u8 0, .int .i64 0, .int .u8 0, .slice none 0 0, .bool false, .slice none 0 0], .int .i64 0, .int .u8 0], []⟩ 8 (by kernel_rfl) (by kernel_rfl) (by kernel_rfl) (by kernel_rfl)) ?_
  intro W base args ds gs before hval0 hW hcnd _
  have hval : ∀ (j : Nat) t v, Try.f6.params[j]? = some t → args[j]? = some v → Value.okWide Try.prog W .any base t v := hval0
  have hW' := hW
  obtain ⟨p, q, hA0, hV, rfl, hfz, hnd⟩ := hW
  have hA : DataW.TrodAll enc Try.prog W 0 (fun _ => true) true Try.f6.params.toList args.toList ds p := hA0
  rw [Try.params6] at hA hval
  obtain ⟨v0, vs0, d0, ds0, p0, q0, hargs, rfl, rfl, h0, r0⟩ := trodAll_cons hA
  obtain ⟨v1, vs1, d1, ds1, p1, q1, rfl, rfl, rfl, h1, r1⟩ := trodAll_cons r0
  obtain ⟨v2, vs2, d2, ds2, p2, q2, rfl, rfl, rfl, h2, r2⟩ := trodAll_cons r1
  obtain ⟨v3, vs3, d3, ds3, p3, q3, rfl, rfl, rfl, h3, r3⟩ := trodAll_cons r2
  obtain ⟨rfl, rfl, rfl⟩ := trodAll_nil r3
  obtain rfl : args = #[v0, v1, v2, v3] := by cases args; simp_all
  obtain ⟨rfl, rfl⟩ := trodVars_none hV
  have k0 := h0
  have lt0 : ∀ x ∈ p0, x.block < W.heap.size := by obtain ⟨m, hm⟩ := k0; exact DataW.trod_lt m _ _ _ hm
  obtain ⟨x0, rfl, w0⟩ := rcd_open Try.underlying28 Try.underlying3 Try.underlying2 Try.underlying24 Try.underlying24 Try.underlying2 Try.underlying5 Try.underlying25 Try.underlying36 Try.underlying34 Try.underlying5 Try.underlying9 Try.underlying4 Try.underlying4 Try.underlying26 Try.underlying3 rfl rfl rfl rfl rfl rfl rfl rfl rfl rfl rfl rfl (by kernel_rfl) (by kernel_rfl) (by kernel_rfl) (by kernel_rfl) (by kernel_rfl) (by kernel_rfl) (by kernel_rfl) (by kernel_rfl) (by kernel_rfl) (by kernel_rfl) (by kernel_rfl) (by kernel_rfl) (by kernel_rfl) (by kernel_rfl) (by kernel_rfl) (by kernel_rfl) (hval 0 28 v0 rfl rfl) h0
  have k1 := h1
  have lt1 : ∀ x ∈ p1, x.block < W.heap.size := by obtain ⟨m, hm⟩ := k1; exact DataW.trod_lt m _ _ _ hm
  obtain ⟨x1, rfl, w1⟩ := rcd_open Try.underlying28 Try.underlying3 Try.underlying2 Try.underlying24 Try.underlying24 Try.underlying2 Try.underlying5 Try.underlying25 Try.underlying36 Try.underlying34 Try.underlying5 Try.underlying9 Try.underlying4 Try.underlying4 Try.underlying26 Try.underlying3 rfl rfl rfl rfl rfl rfl rfl rfl rfl rfl rfl rfl (by kernel_rfl) (by kernel_rfl) (by kernel_rfl) (by kernel_rfl) (by kernel_rfl) (by kernel_rfl) (by kernel_rfl) (by kernel_rfl) (by kernel_rfl) (by kernel_rfl) (by kernel_rfl) (by kernel_rfl) (by kernel_rfl) (by kernel_rfl) (by kernel_rfl) (by kernel_rfl) (hval 1 28 v1 rfl rfl) h1
  have k2 := h2
  have lt2 : ∀ x ∈ p2, x.block < W.heap.size := by obtain ⟨m, hm⟩ := k2; exact DataW.trod_lt m _ _ _ hm
  obtain ⟨a2, rfl, rfl, rfl, w2⟩ := open_int Try.underlying3 (hval 2 3 v2 rfl rfl) h2
  have k3 := h3
  have lt3 : ∀ x ∈ p3, x.block < W.heap.size := by obtain ⟨m, hm⟩ := k3; exact DataW.trod_lt m _ _ _ hm
  obtain ⟨a3, rfl, rfl, rfl, w3⟩ := open_int Try.underlying5 (hval 3 5 v3 rfl rfl) h3
  clear hA0 hval0
  refine (walk x0 x1 a2 a3 W w0 w1 w2 w3).mono fun e W' ⟨he, bel⟩ => ?_
  subst he
  exact ⟨_, rfl, _, _, _, [], _, [], hW', trodAll_mk1 (shut_bool Try.underlying4 _), (trodAll_cons_mk (Below.trod laidOut (by kernel_rfl) (of_decide_eq_true (by kernel_rfl)) k0 bel lt0) (trodAll_cons_mk (Below.trod laidOut (by kernel_rfl) (of_decide_eq_true (by kernel_rfl)) k1 bel lt1) (trodAll_cons_mk (Below.trod laidOut (by kernel_rfl) (of_decide_eq_true (by kernel_rfl)) k2 bel lt2) (trodAll_cons_mk (Below.trod laidOut (by kernel_rfl) (of_decide_eq_true (by kernel_rfl)) k3 bel lt3) trodAll_mk0)))), rfl, bel.frame _, fun h => by cases h⟩

theorem over : Rows.recBackRow.holds Try.pinned (OpenSpec.ofChange Rows.recBackSpec) :=
  OpenClaim.holds_of_wide 6 Try.f6 rfl rfl rfl rfl rfl rfl rfl ⟨rfl, rfl, rfl, rfl, rfl⟩ rfl rfl rfl rfl rfl (by kernel_rfl) Try.func6 (by kernel_rfl)
    (of_decide_eq_true (by kernel_rfl)) (by unfold Func.isWrapper; first | (rw [if_pos (by decide +kernel)]; kernel_rfl) | (rw [if_neg (by decide +kernel)]; exact ⟨rfl, rfl⟩))
    (fun os started H enc _ => lifted os started H enc)
theorem proved : Rows.RecBackSaid := over
#print axioms proved
end Go.Proofs.Ytmiafadmcpmjgaa.recBack
namespace Go.Proofs.Ytmiafadmcpmjgaa
/-- RecBack, as given. -/
theorem recBack_holds : Rows.RecBackSaid := recBack.proved
end Go.Proofs.Ytmiafadmcpmjgaa
