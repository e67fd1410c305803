/-
  CoordOnce: what was decided stays so; to be committed just if all have said yes ahead of any no, at the greatest of their stamps, which is above the snapshot (of more than 8 parts, of more than 60 acts the statement asks nothing).
-/
import Derived.Test.YtcppihpehipelaaRows
import Derived.Test.YtcppihpehipelaaAu52
import Derived.Test.YtcppihpehipelaaAu45
import Derived.Test.YtcppihpehipelaaCdActs
import Derived.WalkKit
import Derived.ProofKit
import Derived.OpenShut
import Derived.ShutString
import Derived.ChangeOld
import Derived.Below
import Derived.Carry
namespace Go.Proofs.Ytcppihpehipelaa.coordOnce
open Go.ChangeShapes Go.WideShapes Go.ChangeAt Go.RowKit
open Go.ChangeMaps (open_string shut_string)
set_option linter.unusedVariables false

theorem own : ownKnob Try.prog.godebug = none := by kernel_rfl
theorem laidOut : laidOutB Try.prog = true := by kernel_rfl
/-- A slice of integers that came in: nil, or a row of 'cap' cells, of which the first 'len' are its elements. -/
def IsRow (k : IntKind) (w : World) (a : Option Addr) (len cap : Nat) (zs : List Int) : Prop :=
  (a = none ∧ len = 0 ∧ cap = 0 ∧ zs = []) ∨
  ∃ x, a = some x ∧ len ≤ cap ∧ cap ≤ maxLen ∧ zs.length = cap ∧ (∀ i, i < zs.length → w.cell? (x.add i) = some (.int k (zs.getD i 0))) ∧ ∀ n ∈ zs, (Lit.int k n).wf = true

set_option linter.unusedSimpArgs false in
set_option maxRecDepth 20000 in
set_option maxHeartbeats 16000000 in
theorem walk (a0 b0 : Int) (a1 : Option Addr) (len1 cap1 : Nat) (z1 : List Int) (a2 : Option Addr) (len2 cap2 : Nat) (z2 : List DAct) (w : World) (w0 : (Lit.int .i64 a0).wf = true) (x0 : (Lit.int .u8 b0).wf = true) (l1 : z1.length = len1) (w1 : IntsAt w a1 z1) (r1 : len1 ≤ cap1) (l2 : z2.length = len2) (w2 : DActsOf w a2 cap2 z2) :
    Calls Try.prog 5 #[.agg #[.int .i64 a0, .int .u8 b0], .slice a1 len1 cap1, .slice a2 len2 cap2] w fun e w' => e = .returned (.bool true) ∧ Below w.heap.size w w' := by
  have hw0 := bounds_i64 w0
  have hx0 := bounds_u8 x0
  have HL : Hid (z2.length = len2) := l2
  have HA : Hid (DActsOf w a2 cap2 z2) := w2
  have hcap : len2 ≤ cap2 := by rw [← l2]; exact w2.room
  have HP : Hid (IntsAt w a1 z1) := w1
  have HPL : Hid (z1.length = len1) := l1
  have HPC : Hid (len1 ≤ cap1) := r1
  have I5 : Hid (I64 5) := i64_small (by decide) (by decide)
  obtain ⟨W0, hW0⟩ : ∃ W0, W0 = w.alloc (.cells #[.int .i64 a0, .int .u8 b0] 28) := ⟨_, rfl⟩
  have HW0 : Hid (w.alloc (.cells #[.int .i64 a0, .int .u8 b0] 28) = W0) := hW0.symm
  have HB0 : Hid (Below w.heap.size w W0) := by rw [hW0]; exact alloc_belowC _ _
  have FST : Hid (∀ u, Below W0.heap.size W0 u → u.cell? ⟨w.heap.size, 0, none⟩ = some (.int .i64 a0) ∧ u.cell? ⟨w.heap.size, 1, none⟩ = some (.int .u8 b0)) := fun u hu => by
    have e0 : W0.cell? ⟨w.heap.size, 0, none⟩ = some (.int .i64 a0) := by rw [hW0, World.cell?_alloc_new]; rfl
    have e1 : W0.cell? ⟨w.heap.size, 1, none⟩ = some (.int .u8 b0) := by rw [hW0, World.cell?_alloc_new]; rfl
    exact ⟨(hu.cell (p := ⟨w.heap.size, 0, none⟩) (cell_lt e0)).trans e0, (hu.cell (p := ⟨w.heap.size, 1, none⟩) (cell_lt e1)).trans e1⟩
  have AW : Hid (∀ u, Calls Try.prog 7 #[] u fun e w' => e = .returned (.bool true) ∧ Below u.heap.size u w') := fun u => cdawake_any u
  clear w0 x0 w1 r1 l2 w2 hW0 l1
  by_cases h8 : 8 < len1
  · have h8' : (8 : Int) < (len1 : Int) := by omega
    go_enter Try.func5, Try.ntmps5
    go_wp2_with (first | (go_at_call 7; rw [HW0.out]; refine (AW.out _).mono ?_; rintro e wA ⟨rfl, hbA⟩; have HBA : Hid (Below W0.heap.size W0 wA) := hbA; clear hbA))
    go_ret
    exact ⟨rfl, HB0.out.trans (HBA.out.mono HB0.out.size)⟩
  by_cases h60 : 60 < len2
  · have h60' : (60 : Int) < (len2 : Int) := by omega
    go_enter Try.func5, Try.ntmps5
    go_wp2_with (first | (go_at_call 7; rw [HW0.out]; refine (AW.out _).mono ?_; rintro e wA ⟨rfl, hbA⟩; have HBA : Hid (Below W0.heap.size W0 wA) := hbA; clear hbA))
    go_ret
    exact ⟨rfl, HB0.out.trans (HBA.out.mono HB0.out.size)⟩
  have h8' : ¬ (8 : Int) < (len1 : Int) := by omega
  have h60' : ¬ (60 : Int) < (len2 : Int) := by omega
  rcases begin_one a0 b0 z1 with hbeg | ⟨hbeg, hpb⟩
  · have HBEG : Hid (beginC [] 5 a0 b0 z1 = (1, [])) := hbeg
    clear hbeg
    go_enter Try.func5, Try.ntmps5
    go_wp2_with (first
      | (go_at_call 7; rw [HW0.out]; refine (AW.out _).mono ?_; rintro e wA ⟨rfl, hbA⟩; have HBA : Hid (Below W0.heap.size W0 wA) := hbA; clear hbA)
      | (go_at_call 8; refine (cdf_new _).mono ?_; rintro e wN ⟨b, rfl, kN, -⟩; have KN : Hid (CdF wA wN b [] noFoot) := kN; have HBN : Hid (Below W0.heap.size W0 wN) := HBA.out.trans (kN.below.mono HBA.out.size); obtain ⟨s0, s1⟩ := FST.out wN HBN.out; clear kN)
      | (go_at_call 9; refine (KN.out.begin HBEG.out I5.out HPL.out (by omega) HPC.out (HP.out.past (HB0.out.trans (HBN.out.mono HB0.out.size))) (by decide)).mono ?_; rintro e wB ⟨rfl, kB, -, -⟩; have KB : Hid (CdF wA wB b [] noFoot) := kB; clear kB))
    go_ret
    exact ⟨rfl, (HB0.out.trans (HBA.out.mono HB0.out.size)).trans (KB.out.below.mono (HB0.out.trans (HBA.out.mono HB0.out.size)).size)⟩
  · have HBEG : Hid (beginC [] 5 a0 b0 z1 = (0, [newC 5 a0 b0 z1])) := hbeg
    clear hbeg
    have HPB : Hid (partsB z1 = true) := hpb
    clear hpb
    have hmk := fun u => run_make_boolsC len1 (by omega) u
    have HPB1 : Hid (0 < len1) := by have := (parts_nodup HPB.out).2; rw [HPL.out] at this; exact this
    go_enter Try.func5, Try.ntmps5
    go_wp2_with (first
      | (go_at_call 7; rw [HW0.out]; refine (AW.out _).mono ?_; rintro e wA ⟨rfl, hbA⟩; have HBA : Hid (Below W0.heap.size W0 wA) := hbA; clear hbA)
      | (go_at_call 8; refine (cdf_new _).mono ?_; rintro e wN ⟨b, rfl, kN, -⟩; have KN : Hid (CdF wA wN b [] noFoot) := kN; have HBN : Hid (Below W0.heap.size W0 wN) := HBA.out.trans (kN.below.mono HBA.out.size); obtain ⟨s0, s1⟩ := FST.out wN HBN.out; clear kN)
      | (go_at_call 9; refine (KN.out.begin HBEG.out I5.out HPL.out (by omega) HPC.out (HP.out.past (HB0.out.trans (HBN.out.mono HB0.out.size))) (by decide)).mono ?_; rintro e wB ⟨rfl, kB, -, -⟩; have KB : Hid (CdF wA wB b [newC 5 a0 b0 z1] noFoot) := kB; clear kB KN HBN s0 s1))
    have HSNP : Hid (∀ u, Below wA.heap.size wA u → u.cell? ⟨w.heap.size, 0, none⟩ = some (.int .i64 a0) ∧ u.cell? ⟨w.heap.size, 1, none⟩ = some (.int .u8 b0)) := fun u hu => FST.out u (HBA.out.trans (hu.mono HBA.out.size))
    have HBA2 : Hid (Below w.heap.size w wA) := HB0.out.trans (HBA.out.mono HB0.out.size)
    clear FST HBA HB0 HW0 AW HBEG
    obtain ⟨wS, hwS⟩ : ∃ u, u = ((wB.alloc (.cells (madeCells #[Value.bool false] len1) 4)).alloc (.cells #[.int .i64 0, .int .u8 0] 28)).alloc (.cells #[.int .i64 0, .int .u8 0] 28) := ⟨_, rfl⟩
    have hst := OnceM.start KB.out hwS
    rw [← hwS]
    obtain ⟨YB, hYB⟩ : ∃ k, k = wB.heap.size := ⟨_, rfl⟩
    obtain ⟨MB, hMB⟩ : ∃ k, k = wB.heap.size + 1 := ⟨_, rfl⟩
    obtain ⟨HB, hHB⟩ : ∃ k, k = wB.heap.size + 1 + 1 := ⟨_, rfl⟩
    rw [← hHB, ← hMB, ← hYB]
    replace hst : OnceM wA wS b (newC 5 a0 b0 z1) YB MB HB HB (List.replicate len1 false) 0 0 0 0 := by rw [hYB, hMB, hHB]; exact hst
    have HST : Hid (OnceM wA wS b (newC 5 a0 b0 z1) YB MB HB HB (List.replicate len1 false) 0 0 0 0) := hst
    have HST2 : Hid (OnceC (newC 5 a0 b0 z1) a0 b0 (List.replicate len1 false) false false 0 0 0 0) := by have := OnceC.begun 5 a0 b0 z1 (by rw [HPL.out]; exact HPB1.out); rwa [HPL.out] at this
    have HND : Hid (z1.Nodup) := (parts_nodup HPB.out).1
    clear hst hwS hYB hMB hHB hmk KB
    go_loopw [9, 10, 13] (fun kv cv iv wr => ∃ (i : Nat) (kn co : Bool), kv = .bool kn ∧ cv = .bool co ∧ iv = .int .i64 i ∧ i ≤ len2 ∧ Hid (∃ (d : DecC) (ys : List Bool) (mt mn wt wn : Int), OnceM wA wr b d YB MB HB HB ys mt mn wt wn ∧ OnceC d a0 b0 ys kn co mt mn wt wn ∧ d.id = 5 ∧ d.parts = z1)) (fun _ _ iv _ => len2 - (intOf iv).toNat)
    case atStart => exact ⟨0, false, false, rfl, rfl, rfl, Nat.zero_le _, ⟨_, _, _, _, _, _, HST.out, HST2.out, rfl, rfl⟩⟩
    case round =>
      obtain ⟨i, kn, co, rfl, rfl, rfl, hi, HI⟩ := hrel
      obtain ⟨d, ys, mt, mn, wt, wn, hm, ho, hid, hpar⟩ := HI.out
      have HM : Hid (OnceM wA wr b d YB MB HB HB ys mt mn wt wn) := hm
      have HO : Hid (OnceC d a0 b0 ys kn co mt mn wt wn) := ho
      have HID : Hid (d.id = 5) := hid
      have HPR : Hid (d.parts = z1) := hpar
      have HBR : Hid (Below w.heap.size w wr) := HBA2.out.trans (hm.kd.below.mono HBA2.out.size)
      have h0 : (0 : Int) ≤ (i : Int) := by omega
      have HYL : Hid (ys.length = len1) := by show _ = _; rw [ho.ys, (hm.kd.tbl.each d (by simp)).k.votes, hpar]; exact HPL.out
      clear HI HST HST2 hm ho hid hpar
      by_cases hlt : i < len2
      · have hi1 : (i : Int) < (len2 : Int) := by omega
        have HI1 : Hid (i < len2) := hlt
        have hicap : (i : Int) < (cap2 : Int) := by omega
        obtain ⟨v0, hv0⟩ : ∃ v : World, v = wr := ⟨wr, rfl⟩
        subst hv0
        obtain ⟨y, bb, off, hy, rfl, hok, hat⟩ := HA.out.look (i := i) (by rw [HL.out]; exact hlt)
        have hn8 := hok.n
        obtain ⟨cs, hcs⟩ : ∃ cs, cs = encDA y := ⟨_, rfl⟩
        have hcl : cs.length = 16 := by rw [hcs]; rfl
        have HLD : Hid (v0.rangeAt bb (off + i * 16) cs) := by rw [hcs]; exact (hat v0 HBR.out).lies.range
        have HIN : Hid ((Try.prog.info? 53).map (·.size) = some cs.length) := by show _ = _; rw [hcl]; kernel_rfl
        have HONE : Hid (∀ u ∈ cs, u.oneCell' = true) := by rw [hcs]; exact encDA_one y
        obtain ⟨BX, hBX⟩ : ∃ k, k = v0.heap.size := ⟨_, rfl⟩
        have HBX : Hid (BX = v0.heap.size) := hBX
        have FX : Hid (∀ u : World, u.rangeAt BX 0 cs → ∀ u' : World, u'.heap[BX]? = u.heap[BX]? → u'.cell? ⟨BX, 0, none⟩ = some (.int .i64 y.op) ∧ u'.cell? ⟨BX, 2, none⟩ = some (.int .i64 y.t) ∧ u'.cell? ⟨BX, 3, none⟩ = some (.int .u8 y.n) ∧ u'.cell? ⟨BX, 5, none⟩ = some (.int .i64 y.part) ∧ u'.cell? ⟨BX, 6, none⟩ = some (.bool y.y)) := fun u hr u' hk => by
          rw [hcs] at hr
          have c : ∀ j v, (encDA y)[j]? = some v → u'.cell? ⟨BX, j, none⟩ = some v := fun j v hj => by rw [cell_kept hk]; have := hr j v hj; rwa [Nat.zero_add] at this
          exact ⟨c 0 _ rfl, c 2 _ rfl, c 3 _ rfl, c 5 _ rfl, c 6 _ rfl⟩
        have HTH : Hid ((v0.alloc (.cells #[.int .i64 0, .int .i64 0, .int .i64 0, .int .u8 0, .slice none 0 0, .int .i64 0, .bool false, .int .i64 0, .int .i64 0, .int .i64 0, .int .u8 0, .int .i64 0, .int .u8 0, .slice none 0 0, .bool false, .slice none 0 0] 53)).there v0.heap.size 0 cs.length) := by rw [hcl]; exact there16C v0 53
        have CV : Hid (∀ u, OnceM wA u b d YB MB HB BX ys mt mn wt wn → Calls Try.prog 11 #[.pointer (some ⟨b, 0, none⟩), .int .i64 5, .int .i64 y.part, .bool y.y, .agg #[.int .i64 y.t, .int .u8 y.n]] u fun e w' => e = .returned (.int .i64 (voteD d y.part y.y y.t y.n).1) ∧ CdS wA u w' b [(voteD d y.part y.y y.t y.n).2] (fun k => k = YB ∨ k = MB ∨ k = HB ∨ k = BX)) := fun u hu => hu.kd.vote (vote_one HID.out y.part y.y y.t y.n) I5.out hn8
        have CK : Hid (∀ u, OnceM wA u b d YB MB HB BX ys mt mn wt wn → Calls Try.prog 12 #[.pointer (some ⟨b, 0, none⟩), .int .i64 5, .int .i64 y.part] u fun e w' => e = .returned (.int .i64 (ackD d y.part).1) ∧ CdS wA u w' b [(ackD d y.part).2] (fun k => k = YB ∨ k = MB ∨ k = HB ∨ k = BX)) := fun u hu => hu.kd.ack (ack_one HID.out y.part) I5.out
        have CGV : Hid (∀ u, OnceM wA u b d YB MB HB BX ys mt mn wt wn → Calls Try.prog 16 #[.pointer (some ⟨b, 0, none⟩), .int .i64 5] u fun e w' => e = .returned (.tuple #[.bool (decide ((giveD d).how = 1)), .int .i64 0]) ∧ CdS wA u w' b [giveD d] (fun k => k = YB ∨ k = MB ∨ k = HB ∨ k = BX)) := fun u hu => hu.kd.give (give_one HID.out) I5.out
        have HVD : Hid (voteD d y.part y.y y.t y.n = if hasP z1 y.part = false then (4, d) else if y.y = true ∧ (¬ okS y.t ∨ cmpS y.t y.n a0 b0 ≤ 0) then (1, d) else if d.how ≠ 0 ∨ d.votes.getD (spotC z1 y.part) false = true then (0, d) else if y.y = false then (0, noD d) else (0, yesD d (spotC z1 y.part) y.t y.n)) := by show _ = _; unfold voteD; rw [HPR.out, HO.out.snap.1, HO.out.snap.2]
        have HVP : Hid ((voteD d y.part y.y y.t y.n).2.id = 5 ∧ (voteD d y.part y.y y.t y.n).2.parts = z1) := ⟨(voteD_parts d _ _ _ _).2.trans HID.out, (voteD_parts d _ _ _ _).1.trans HPR.out⟩
        have HKP : Hid ((ackD d y.part).2.id = 5 ∧ (ackD d y.part).2.parts = z1 ∧ OnceC (ackD d y.part).2 a0 b0 ys kn co mt mn wt wn) := ⟨(ackD_id d _).trans HID.out, (ackD_parts d _).trans HPR.out, HO.out.acked _⟩
        have HGP : Hid ((giveD d).id = 5 ∧ (giveD d).parts = z1 ∧ OnceC (giveD d) a0 b0 ys true co mt mn wt wn) := ⟨(giveD_parts d).2.trans HID.out, (giveD_parts d).1.trans HPR.out, HO.out.given⟩
        generalize y.op = op at *
        generalize y.part = part at *
        generalize y.y = yy at *
        generalize y.t = yt at *
        generalize y.n = yn at *
        generalize (ackD d part).2 = dk at *
        generalize (ackD d part).1 = rk at *
        generalize giveD d = dg at *
        generalize decide (dg.how = 1) = gb at *
        clear hy hok hat hcs hn8 hcl hlt
        go_wp2_with (first
          | ((with_reducible show wpList _ _ _ (Oper.mk (some 53) _ _ _ _ _ :: _) _ _); refine wpList_load_mid (by rfl) 53 _ (by rfl) bb (off + i * 16) (by rfl) cs _ HLD.out Try.underlying53 rfl HIN.out ?_)
          | ((with_reducible show wpList _ _ _ (Oper.mk none (Op.store _ _ _) _ _ _ _ :: _) _ _); refine wpList_store_rowU (by rfl) _ _ (by rfl) v0.heap.size cs (by rfl) (by rfl) HIN.out HONE.out HTH.out ?_; intro u2 hr2 hc2; have HC2 : Hid (u2.rangeAt BX 0 cs ∧ Below v0.heap.size v0 u2 ∧ BX < u2.heap.size) := (by rw [HBX.out]; exact ⟨hr2, (alloc_belowC v0 _).trans ((hc2.below (B := v0.heap.size) (by rw [World.size_alloc]; omega) (fun k e => by omega))), Nat.lt_of_lt_of_le (by rw [World.size_alloc]; omega) hc2.size⟩); clear hr2 hc2))
        rw [← hBX]
        have HM2 : Hid (OnceM wA u2 b d YB MB HB BX ys mt mn wt wn) := HM.out.box HC2.out.2.1 (by rw [HBX.out]; exact Nat.le_refl _) HC2.out.2.2
        have HBU : Hid (Below w.heap.size w u2) := HBR.out.trans (HC2.out.2.1.mono HBR.out.size)
        have HM0 : Hid (OnceM wA v0 b d YB MB HB HB ys mt mn wt wn) := HM.out
        clear hBX HLD HIN HONE HTH HM
        go_loopw [15, 16] (fun pv kv wr => ∃ k : Nat, pv = .int .i64 (plcC z1 part k) ∧ kv = .int .i64 k ∧ k ≤ len1 ∧ Hid (Below u2.heap.size u2 wr)) (fun _ kv _ => len1 - (intOf kv).toNat)
        case atStart => exact ⟨0, by rw [plcC_zero], rfl, Nat.zero_le _, Below.refl _ _⟩
        case round =>
          obtain ⟨k, rfl, rfl, hk, HW⟩ := hrel
          have hk0 : (0 : Int) ≤ (k : Int) := by omega
          by_cases hklt : k < len1
          · have hk1 : (k : Int) < (len1 : Int) := by omega
            have hkc : (k : Int) < (cap1 : Int) := by have := HPC.out; omega
            obtain ⟨pb, po, x, rfl, -, hx⟩ := HP.out.at (i := k) (by rw [HPL.out]; exact hklt)
            have FP : Hid (∀ u, Below wr.heap.size wr u → u.cell? ⟨pb, po + k, none⟩ = some (.int .i64 x) ∧ u.cell? ⟨BX, 5, none⟩ = some (.int .i64 part)) := fun u hu => by
              have hb2 := HW.out.trans (hu.mono HW.out.size)
              obtain ⟨b2, o2, x2, e, hc, hx2⟩ := (HP.out.past (HBU.out.trans (hb2.mono HBU.out.size))).at (i := k) (by rw [HPL.out]; exact hklt)
              rw [hx] at hx2
              injection hx2 with hx2
              injection e with e
              injection e with e1 e2
              subst hx2; subst e1; subst e2
              exact ⟨hc, (FX.out u2 HC2.out.1 u (hb2.block BX HC2.out.2.2)).2.2.2.1⟩
            by_cases hxp : x = part
            · have hb : (x == part) = true := by simpa using hxp
              have HPN : Hid (plcC z1 part (k + 1) = (k : Int)) := plcC_hit HND.out (by rw [← hxp]; exact hx)
              clear hxp hx
              go_wp2
              refine wp_region_noPanic ?_
              refine wp_region_held_drew (S := fun u => Below wr.heap.size wr u) (by kernel_rfl) ?_ (fun hHeld => ?_)
              · exact (Below.refl _ _).drew
              refine wpAnyH_take (i := 0) (v := ?_) rfl (by kernel_rfl) (by kernel_rfl) (by kernel_rfl) (fun _ _ _ h => h) (Or.inl ⟨by rfl, ?_⟩) hHeld ?_
              rotate_left
              · intro u hSu
                (go_simp) <;> (with_reducible rfl)
              change wpAnyH _ _ _ _ _ _ _ (Act.put _ (some 60) _) _
              simp only [Act.put, List.setIfInBounds_toArray, List.set_cons_zero, List.set_cons_succ]
              refine wpAnyH_take (i := 1) (v := ?_) rfl (by kernel_rfl) (by kernel_rfl) (by kernel_rfl) (fun _ _ _ h => h) (Or.inl ⟨by rfl, ?_⟩) hHeld ?_
              rotate_left
              · intro u hSu
                (go_simp) <;> (with_reducible rfl)
              change wpAnyH _ _ _ _ _ _ _ (Act.put _ (some 61) _) _
              simp only [Act.put, List.setIfInBounds_toArray, List.set_cons_zero, List.set_cons_succ]
              refine wpAnyH_take (i := 2) (v := ?_) rfl (by kernel_rfl) (by kernel_rfl) (by kernel_rfl) (fun _ _ _ h => h) (Or.inl ⟨by rfl, ?_⟩) hHeld ?_
              rotate_left
              · intro u hSu
                (go_simp) <;> (with_reducible rfl)
              change wpAnyH _ _ _ _ _ _ _ (Act.put _ (some 62) _) _
              simp only [Act.put, List.setIfInBounds_toArray, List.set_cons_zero, List.set_cons_succ]
              refine wpAnyH_take (i := 3) (v := ?_) rfl (by kernel_rfl) (by kernel_rfl) (by kernel_rfl) (fun _ _ _ h => h) (Or.inl ⟨by rfl, ?_⟩) hHeld ?_
              rotate_left
              · intro u hSu
                obtain ⟨f1, f2⟩ := FP.out u hSu
                (go_simp) <;> (with_reducible rfl)
              change wpAnyH _ _ _ _ _ _ _ (Act.put _ (some 63) _) _
              simp only [Act.put, List.setIfInBounds_toArray, List.set_cons_zero, List.set_cons_succ]
              refine wpAnyH_take (i := 4) (v := ?_) rfl (by kernel_rfl) (by kernel_rfl) (by kernel_rfl) (fun _ _ _ h => h) (Or.inl ⟨by rfl, ?_⟩) hHeld ?_
              rotate_left
              · intro u hSu
                (go_simp) <;> (with_reducible rfl)
              change wpAnyH _ _ _ _ _ _ _ (Act.put _ (some 64) _) _
              simp only [Act.put, List.setIfInBounds_toArray, List.set_cons_zero, List.set_cons_succ]
              refine wpAnyH_take (i := 5) (v := ?_) rfl (by kernel_rfl) (by kernel_rfl) (by kernel_rfl) (fun _ _ _ h => h) (Or.inl ⟨by rfl, ?_⟩) hHeld ?_
              rotate_left
              · intro u hSu
                obtain ⟨f1, f2⟩ := FP.out u hSu
                (go_simp) <;> (with_reducible rfl)
              change wpAnyH _ _ _ _ _ _ _ (Act.put _ (some 65) _) _
              simp only [Act.put, List.setIfInBounds_toArray, List.set_cons_zero, List.set_cons_succ]
              refine wpAnyH_take (i := 6) (v := ?_) rfl (by kernel_rfl) (by kernel_rfl) (by kernel_rfl) (fun _ _ _ h => h) (Or.inl ⟨by rfl, ?_⟩) hHeld ?_
              rotate_left
              · intro u hSu
                (go_simp) <;> (with_reducible rfl)
              change wpAnyH _ _ _ _ _ _ _ (Act.put _ (some 66) _) _
              simp only [Act.put, List.setIfInBounds_toArray, List.set_cons_zero, List.set_cons_succ]
              refine wpAnyH_done (by kernel_rfl) ?_ _
              refine NoPanic.normal ?_
              go_wp2
              go_roundw
              case rel => exact ⟨k + 1, by rw [HPN.out], by go_num, by omega, HW.out.drew⟩
              case measure => simp [intOf]; omega
            · have hb : (x == part) = false := by simpa using hxp
              have HPN : Hid (plcC z1 part (k + 1) = plcC z1 part k) := plcC_miss hx hxp
              clear hxp hx
              go_wp2
              refine wp_region_noPanic ?_
              refine wp_region_held_drew (S := fun u => Below wr.heap.size wr u) (by kernel_rfl) ?_ (fun hHeld => ?_)
              · exact (Below.refl _ _).drew
              refine wpAnyH_take (i := 0) (v := ?_) rfl (by kernel_rfl) (by kernel_rfl) (by kernel_rfl) (fun _ _ _ h => h) (Or.inl ⟨by rfl, ?_⟩) hHeld ?_
              rotate_left
              · intro u hSu
                (go_simp) <;> (with_reducible rfl)
              change wpAnyH _ _ _ _ _ _ _ (Act.put _ (some 60) _) _
              simp only [Act.put, List.setIfInBounds_toArray, List.set_cons_zero, List.set_cons_succ]
              refine wpAnyH_take (i := 1) (v := ?_) rfl (by kernel_rfl) (by kernel_rfl) (by kernel_rfl) (fun _ _ _ h => h) (Or.inl ⟨by rfl, ?_⟩) hHeld ?_
              rotate_left
              · intro u hSu
                (go_simp) <;> (with_reducible rfl)
              change wpAnyH _ _ _ _ _ _ _ (Act.put _ (some 61) _) _
              simp only [Act.put, List.setIfInBounds_toArray, List.set_cons_zero, List.set_cons_succ]
              refine wpAnyH_take (i := 2) (v := ?_) rfl (by kernel_rfl) (by kernel_rfl) (by kernel_rfl) (fun _ _ _ h => h) (Or.inl ⟨by rfl, ?_⟩) hHeld ?_
              rotate_left
              · intro u hSu
                (go_simp) <;> (with_reducible rfl)
              change wpAnyH _ _ _ _ _ _ _ (Act.put _ (some 62) _) _
              simp only [Act.put, List.setIfInBounds_toArray, List.set_cons_zero, List.set_cons_succ]
              refine wpAnyH_take (i := 3) (v := ?_) rfl (by kernel_rfl) (by kernel_rfl) (by kernel_rfl) (fun _ _ _ h => h) (Or.inl ⟨by rfl, ?_⟩) hHeld ?_
              rotate_left
              · intro u hSu
                obtain ⟨f1, f2⟩ := FP.out u hSu
                (go_simp) <;> (with_reducible rfl)
              change wpAnyH _ _ _ _ _ _ _ (Act.put _ (some 63) _) _
              simp only [Act.put, List.setIfInBounds_toArray, List.set_cons_zero, List.set_cons_succ]
              refine wpAnyH_take (i := 4) (v := ?_) rfl (by kernel_rfl) (by kernel_rfl) (by kernel_rfl) (fun _ _ _ h => h) (Or.inl ⟨by rfl, ?_⟩) hHeld ?_
              rotate_left
              · intro u hSu
                (go_simp) <;> (with_reducible rfl)
              change wpAnyH _ _ _ _ _ _ _ (Act.put _ (some 64) _) _
              simp only [Act.put, List.setIfInBounds_toArray, List.set_cons_zero, List.set_cons_succ]
              refine wpAnyH_take (i := 5) (v := ?_) rfl (by kernel_rfl) (by kernel_rfl) (by kernel_rfl) (fun _ _ _ h => h) (Or.inl ⟨by rfl, ?_⟩) hHeld ?_
              rotate_left
              · intro u hSu
                obtain ⟨f1, f2⟩ := FP.out u hSu
                (go_simp) <;> (with_reducible rfl)
              change wpAnyH _ _ _ _ _ _ _ (Act.put _ (some 65) _) _
              simp only [Act.put, List.setIfInBounds_toArray, List.set_cons_zero, List.set_cons_succ]
              refine wpAnyH_take (i := 6) (v := ?_) rfl (by kernel_rfl) (by kernel_rfl) (by kernel_rfl) (fun _ _ _ h => h) (Or.inl ⟨by rfl, ?_⟩) hHeld ?_
              rotate_left
              · intro u hSu
                (go_simp) <;> (with_reducible rfl)
              change wpAnyH _ _ _ _ _ _ _ (Act.put _ (some 66) _) _
              simp only [Act.put, List.setIfInBounds_toArray, List.set_cons_zero, List.set_cons_succ]
              refine wpAnyH_done (by kernel_rfl) ?_ _
              refine NoPanic.normal ?_
              go_wp2
              go_roundw
              case rel => exact ⟨k + 1, by rw [HPN.out], by go_num, by omega, HW.out.drew⟩
              case measure => simp [intOf]; omega
          · obtain rfl : k = len1 := by omega
            have hkni : ¬ (k : Int) < (k : Int) := by omega
            obtain ⟨v3, hv3⟩ : ∃ v : World, v = wr := ⟨wr, rfl⟩
            subst hv3
            have HM3 : Hid (OnceM wA v3 b d YB MB HB BX ys mt mn wt wn) := HM2.out.past HW.out
            have FX3 : Hid (∀ u' : World, u'.heap[BX]? = v3.heap[BX]? → u'.cell? ⟨BX, 0, none⟩ = some (.int .i64 op) ∧ u'.cell? ⟨BX, 2, none⟩ = some (.int .i64 yt) ∧ u'.cell? ⟨BX, 3, none⟩ = some (.int .u8 yn) ∧ u'.cell? ⟨BX, 5, none⟩ = some (.int .i64 part) ∧ u'.cell? ⟨BX, 6, none⟩ = some (.bool yy)) := fun u' hk => FX.out u2 HC2.out.1 u' (hk.trans (HW.out.block BX HC2.out.2.2))
            have HSP : Hid (∀ u, Below wA.heap.size wA u → u.cell? ⟨w.heap.size, 0, none⟩ = some (.int .i64 a0) ∧ u.cell? ⟨w.heap.size, 1, none⟩ = some (.int .u8 b0)) := HSNP.out
            have HK : Hid (k = z1.length) := HPL.out.symm
            obtain ⟨x0, x2, x3, x5, x6⟩ := FX3.out v3 rfl
            obtain ⟨pl, hpl⟩ : ∃ p, p = plcC z1 part k := ⟨_, rfl⟩
            have HPL2 : Hid (pl = plcC z1 part k) := hpl
            rw [← hpl]
            clear FX HC2 HW HM2 hpl hi1
            have HYBX : Hid (YB < BX) := by show _ < _; rw [HBX.out]; exact HM0.out.y.lt
            cases kn with
            | true =>
              cases co with
              | true =>
                as_aux_lemma =>
                  have T1 : Hid True := trivial
                  have HHOW : Hid (d.how ≠ 0) := by show _ ≠ _; have := HO.out.kn; simpa using this.symm
                  have HIP : Hid (d.id = 5 ∧ d.parts = z1) := ⟨HID.out, HPR.out⟩
                  by_cases o1 : op = 1
                  · have ob : (op == 1) = true := by simpa using o1
                    clear o1 CK CGV HKP HGP
                    by_cases hp : hasP z1 part = false
                    · have hneg : pl = -1 := by rw [HPL2.out, HK.out]; exact plcC_no hp
                      subst hneg
                      have hvd : voteD d part yy yt yn = (4, d) := by rw [HVD.out]; exact if_pos hp
                      have CV : Hid (∀ u, OnceM wA u b d YB MB HB BX ys mt mn wt wn → Calls Try.prog 11 #[.pointer (some ⟨b, 0, none⟩), .int .i64 5, .int .i64 part, .bool yy, .agg #[.int .i64 yt, .int .u8 yn]] u fun e w' => e = .returned (.int .i64 4) ∧ CdS wA u w' b [d] (fun k => k = YB ∨ k = MB ∨ k = HB ∨ k = BX)) := fun u hu => by have := CV.out u hu; rwa [hvd] at this
                      clear hvd HVD HVP
                      clear hp
                      go_wp2_with (first
                        | (have hgo := T1.out; clear hgo; go_at_call 11; refine (CV.out v3 HM3.out).mono ?_; rintro e w5 ⟨rfl, k5⟩; obtain ⟨m5, hbx5, hb5⟩ := HM3.out.call k5; have M5 : Hid (OnceM wA w5 b d YB MB HB BX ys mt mn wt wn) := m5; obtain ⟨x0, x2, x3, x5, x6⟩ := FX3.out w5 hbx5; clear m5 hbx5 hb5 k5 T1))
                      have HYL2 : Hid ((ys).length = k) := HYL.out
                      go_loopw [18, 19] (fun av qv wr => ∃ q : Nat, av = .bool (((ys).take q).all _root_.id) ∧ qv = .int .i64 q ∧ q ≤ k ∧ Hid (Below w5.heap.size w5 wr)) (fun _ qv _ => k - (intOf qv).toNat)
                      case atStart => exact ⟨0, rfl, rfl, Nat.zero_le _, Below.refl _ _⟩
                      case round =>
                        obtain ⟨q, rfl, rfl, hq, HW3⟩ := hrel
                        have hq0 : (0 : Int) ≤ (q : Int) := by omega
                        by_cases hqlt : q < k
                        · have hq1 : (q : Int) < (k : Int) := by omega
                          obtain ⟨z, hz⟩ : ∃ z, (ys)[q]? = some z := ⟨_, List.getElem?_eq_getElem (by rw [HYL2.out]; exact hqlt)⟩
                          have yq := (M5.out.past HW3.out).y.at_ hz
                          have HTK : Hid (((ys).take (q + 1)).all _root_.id = (((ys).take q).all _root_.id && z)) := by show _ = _; rw [List.take_add_one, hz, List.all_append]; simp
                          obtain ⟨ab, hab⟩ : ∃ a, a = ((ys).take q).all _root_.id := ⟨_, rfl⟩
                          rw [← hab] at HTK ⊢
                          clear hz hab
                          cases ab with
                          | true =>
                            go_wp2
                            go_roundw
                            case rel => exact ⟨q + 1, by rw [HTK.out]; simp, by go_num, by omega, HW3⟩
                            case measure => simp [intOf]; omega
                          | false =>
                            go_wp2
                            go_roundw
                            case rel => exact ⟨q + 1, by rw [HTK.out]; rfl, by go_num, by omega, HW3⟩
                            case measure => simp [intOf]; omega
                        · obtain rfl : q = k := by omega
                          have hqni : ¬ (q : Int) < (q : Int) := by omega
                          obtain ⟨v7, hv7⟩ : ∃ v : World, v = wr := ⟨wr, rfl⟩
                          subst hv7
                          have M7 : Hid (OnceM wA v7 b d YB MB HB BX (ys) mt mn wt wn) := M5.out.past HW3.out
                          have HTE0 : Hid ((ys).take q = ys) := List.take_of_length_le (by rw [HYL2.out]; exact Nat.le_refl _)
                          rw [HTE0.out]
                          obtain ⟨al, hal⟩ : ∃ a, a = (ys).all _root_.id := ⟨_, rfl⟩
                          rw [← hal]
                          clear hal
                          cases al with
                          | false =>
                            have hte := HO.out.tells
                            rw [HIP.out.1] at hte
                            have HTE : Hid (decC [d] 5 = (true, true, wt, wn)) := hte.1
                            obtain ⟨xq, hxq⟩ : ∃ x, x = cmpS wt wn a0 b0 := ⟨_, rfl⟩
                            have CQ : Hid (∀ u, Calls Try.prog 34 #[.agg #[.int .i64 wt, .int .u8 wn], .agg #[.int .i64 a0, .int .u8 b0]] u fun e w' => e = .returned (.int .i64 xq) ∧ Below u.heap.size u w') := fun u => by rw [hxq]; exact rcmp6_any wt wn a0 b0 u
                            have dxq : decide (xq ≤ 0) = false := decide_eq_false (by rw [hxq]; exact hte.2 rfl)
                            clear hxq
                            clear hte
                            go_wp2_with (first
                              | (have hgo := HTE.out; clear hgo; go_at_call 13; refine (M7.out.kd.decision HTE.out I5.out).mono ?_; rintro e w8 ⟨rfl, hb8⟩; have M8 : Hid (OnceM wA (w8.alloc (.cells #[.int .i64 wt, .int .u8 wn] 28)) b d YB MB HB BX (ys) mt mn wt wn) := (M7.out.past hb8).past (alloc_belowC _ _); have g0 := M8.out.h.c0; have g1 := M8.out.h.c1; obtain ⟨n0, n1⟩ := HSP.out _ M8.out.kd.below; clear hb8 HTE)
                              | (go_at_call 34; refine (CQ.out _).mono ?_; rintro e w9 ⟨rfl, hb9⟩; have M9 : Hid (OnceM wA w9 b d YB MB HB BX (ys) mt mn wt wn) := M8.out.past hb9; clear hb9))
                            go_roundw
                            case rel => exact ⟨i + 1, true, true, rfl, rfl, by go_num, HI1.out, ⟨d, (ys), mt, mn, wt, wn, M9.out.back, HO.out, HIP.out.1, HIP.out.2⟩⟩
                            case measure => have := HI1.out; simp [intOf]; omega
                          | true =>
                            have hte := HO.out.tells
                            rw [HIP.out.1] at hte
                            have HTE : Hid (decC [d] 5 = (true, true, wt, wn)) := hte.1
                            obtain ⟨xq, hxq⟩ : ∃ x, x = cmpS wt wn a0 b0 := ⟨_, rfl⟩
                            have CQ : Hid (∀ u, Calls Try.prog 34 #[.agg #[.int .i64 wt, .int .u8 wn], .agg #[.int .i64 a0, .int .u8 b0]] u fun e w' => e = .returned (.int .i64 xq) ∧ Below u.heap.size u w') := fun u => by rw [hxq]; exact rcmp6_any wt wn a0 b0 u
                            have dxq : decide (xq ≤ 0) = false := decide_eq_false (by rw [hxq]; exact hte.2 rfl)
                            clear hxq
                            clear hte
                            go_wp2_with (first
                              | (have hgo := HTE.out; clear hgo; go_at_call 13; refine (M7.out.kd.decision HTE.out I5.out).mono ?_; rintro e w8 ⟨rfl, hb8⟩; have M8 : Hid (OnceM wA (w8.alloc (.cells #[.int .i64 wt, .int .u8 wn] 28)) b d YB MB HB BX (ys) mt mn wt wn) := (M7.out.past hb8).past (alloc_belowC _ _); have g0 := M8.out.h.c0; have g1 := M8.out.h.c1; obtain ⟨n0, n1⟩ := HSP.out _ M8.out.kd.below; clear hb8 HTE)
                              | (go_at_call 34; refine (CQ.out _).mono ?_; rintro e w9 ⟨rfl, hb9⟩; have M9 : Hid (OnceM wA w9 b d YB MB HB BX (ys) mt mn wt wn) := M8.out.past hb9; clear hb9))
                            go_roundw
                            case rel => exact ⟨i + 1, true, true, rfl, rfl, by go_num, HI1.out, ⟨d, (ys), mt, mn, wt, wn, M9.out.back, HO.out, HIP.out.1, HIP.out.2⟩⟩
                            case measure => have := HI1.out; simp [intOf]; omega
                    have hp : hasP z1 part = true := by cases e : hasP z1 part; exact absurd e hp; rfl
                    obtain ⟨s, hs⟩ : ∃ s, s = spotC z1 part := ⟨_, rfl⟩
                    have hpls : pl = (s : Int) ∧ s < k := by rw [HPL2.out, HK.out, hs]; exact plcC_yes hp
                    obtain ⟨rfl, hsk⟩ := hpls
                    have hs0 : (0 : Int) ≤ (s : Int) := by omega
                    have hs1 : (s : Int) < (k : Int) := by omega
                    by_cases hbad : yy = true ∧ (¬ okS yt ∨ cmpS yt yn a0 b0 ≤ 0)
                    · clear HPL2 hs
                      have hvd : voteD d part yy yt yn = (1, d) := by rw [HVD.out]; rw [if_neg (by rw [hp]; simp), if_pos hbad]
                      have CV : Hid (∀ u, OnceM wA u b d YB MB HB BX ys mt mn wt wn → Calls Try.prog 11 #[.pointer (some ⟨b, 0, none⟩), .int .i64 5, .int .i64 part, .bool yy, .agg #[.int .i64 yt, .int .u8 yn]] u fun e w' => e = .returned (.int .i64 1) ∧ CdS wA u w' b [d] (fun k => k = YB ∨ k = MB ∨ k = HB ∨ k = BX)) := fun u hu => by have := CV.out u hu; rwa [hvd] at this
                      clear hvd HVD HVP
                      clear hbad hp
                      go_wp2_with (first
                        | (have hgo := T1.out; clear hgo; go_at_call 11; refine (CV.out v3 HM3.out).mono ?_; rintro e w5 ⟨rfl, k5⟩; obtain ⟨m5, hbx5, hb5⟩ := HM3.out.call k5; have M5 : Hid (OnceM wA w5 b d YB MB HB BX ys mt mn wt wn) := m5; obtain ⟨x0, x2, x3, x5, x6⟩ := FX3.out w5 hbx5; clear m5 hbx5 hb5 k5 T1))
                      have HYL2 : Hid ((ys).length = k) := HYL.out
                      go_loopw [18, 19] (fun av qv wr => ∃ q : Nat, av = .bool (((ys).take q).all _root_.id) ∧ qv = .int .i64 q ∧ q ≤ k ∧ Hid (Below w5.heap.size w5 wr)) (fun _ qv _ => k - (intOf qv).toNat)
                      case atStart => exact ⟨0, rfl, rfl, Nat.zero_le _, Below.refl _ _⟩
                      case round =>
                        obtain ⟨q, rfl, rfl, hq, HW3⟩ := hrel
                        have hq0 : (0 : Int) ≤ (q : Int) := by omega
                        by_cases hqlt : q < k
                        · have hq1 : (q : Int) < (k : Int) := by omega
                          obtain ⟨z, hz⟩ : ∃ z, (ys)[q]? = some z := ⟨_, List.getElem?_eq_getElem (by rw [HYL2.out]; exact hqlt)⟩
                          have yq := (M5.out.past HW3.out).y.at_ hz
                          have HTK : Hid (((ys).take (q + 1)).all _root_.id = (((ys).take q).all _root_.id && z)) := by show _ = _; rw [List.take_add_one, hz, List.all_append]; simp
                          obtain ⟨ab, hab⟩ : ∃ a, a = ((ys).take q).all _root_.id := ⟨_, rfl⟩
                          rw [← hab] at HTK ⊢
                          clear hz hab
                          cases ab with
                          | true =>
                            go_wp2
                            go_roundw
                            case rel => exact ⟨q + 1, by rw [HTK.out]; simp, by go_num, by omega, HW3⟩
                            case measure => simp [intOf]; omega
                          | false =>
                            go_wp2
                            go_roundw
                            case rel => exact ⟨q + 1, by rw [HTK.out]; rfl, by go_num, by omega, HW3⟩
                            case measure => simp [intOf]; omega
                        · obtain rfl : q = k := by omega
                          have hqni : ¬ (q : Int) < (q : Int) := by omega
                          obtain ⟨v7, hv7⟩ : ∃ v : World, v = wr := ⟨wr, rfl⟩
                          subst hv7
                          have M7 : Hid (OnceM wA v7 b d YB MB HB BX (ys) mt mn wt wn) := M5.out.past HW3.out
                          have HTE0 : Hid ((ys).take q = ys) := List.take_of_length_le (by rw [HYL2.out]; exact Nat.le_refl _)
                          rw [HTE0.out]
                          obtain ⟨al, hal⟩ : ∃ a, a = (ys).all _root_.id := ⟨_, rfl⟩
                          rw [← hal]
                          clear hal
                          cases al with
                          | false =>
                            have hte := HO.out.tells
                            rw [HIP.out.1] at hte
                            have HTE : Hid (decC [d] 5 = (true, true, wt, wn)) := hte.1
                            obtain ⟨xq, hxq⟩ : ∃ x, x = cmpS wt wn a0 b0 := ⟨_, rfl⟩
                            have CQ : Hid (∀ u, Calls Try.prog 34 #[.agg #[.int .i64 wt, .int .u8 wn], .agg #[.int .i64 a0, .int .u8 b0]] u fun e w' => e = .returned (.int .i64 xq) ∧ Below u.heap.size u w') := fun u => by rw [hxq]; exact rcmp6_any wt wn a0 b0 u
                            have dxq : decide (xq ≤ 0) = false := decide_eq_false (by rw [hxq]; exact hte.2 rfl)
                            clear hxq
                            clear hte
                            go_wp2_with (first
                              | (have hgo := HTE.out; clear hgo; go_at_call 13; refine (M7.out.kd.decision HTE.out I5.out).mono ?_; rintro e w8 ⟨rfl, hb8⟩; have M8 : Hid (OnceM wA (w8.alloc (.cells #[.int .i64 wt, .int .u8 wn] 28)) b d YB MB HB BX (ys) mt mn wt wn) := (M7.out.past hb8).past (alloc_belowC _ _); have g0 := M8.out.h.c0; have g1 := M8.out.h.c1; obtain ⟨n0, n1⟩ := HSP.out _ M8.out.kd.below; clear hb8 HTE)
                              | (go_at_call 34; refine (CQ.out _).mono ?_; rintro e w9 ⟨rfl, hb9⟩; have M9 : Hid (OnceM wA w9 b d YB MB HB BX (ys) mt mn wt wn) := M8.out.past hb9; clear hb9))
                            go_roundw
                            case rel => exact ⟨i + 1, true, true, rfl, rfl, by go_num, HI1.out, ⟨d, (ys), mt, mn, wt, wn, M9.out.back, HO.out, HIP.out.1, HIP.out.2⟩⟩
                            case measure => have := HI1.out; simp [intOf]; omega
                          | true =>
                            have hte := HO.out.tells
                            rw [HIP.out.1] at hte
                            have HTE : Hid (decC [d] 5 = (true, true, wt, wn)) := hte.1
                            obtain ⟨xq, hxq⟩ : ∃ x, x = cmpS wt wn a0 b0 := ⟨_, rfl⟩
                            have CQ : Hid (∀ u, Calls Try.prog 34 #[.agg #[.int .i64 wt, .int .u8 wn], .agg #[.int .i64 a0, .int .u8 b0]] u fun e w' => e = .returned (.int .i64 xq) ∧ Below u.heap.size u w') := fun u => by rw [hxq]; exact rcmp6_any wt wn a0 b0 u
                            have dxq : decide (xq ≤ 0) = false := decide_eq_false (by rw [hxq]; exact hte.2 rfl)
                            clear hxq
                            clear hte
                            go_wp2_with (first
                              | (have hgo := HTE.out; clear hgo; go_at_call 13; refine (M7.out.kd.decision HTE.out I5.out).mono ?_; rintro e w8 ⟨rfl, hb8⟩; have M8 : Hid (OnceM wA (w8.alloc (.cells #[.int .i64 wt, .int .u8 wn] 28)) b d YB MB HB BX (ys) mt mn wt wn) := (M7.out.past hb8).past (alloc_belowC _ _); have g0 := M8.out.h.c0; have g1 := M8.out.h.c1; obtain ⟨n0, n1⟩ := HSP.out _ M8.out.kd.below; clear hb8 HTE)
                              | (go_at_call 34; refine (CQ.out _).mono ?_; rintro e w9 ⟨rfl, hb9⟩; have M9 : Hid (OnceM wA w9 b d YB MB HB BX (ys) mt mn wt wn) := M8.out.past hb9; clear hb9))
                            go_roundw
                            case rel => exact ⟨i + 1, true, true, rfl, rfl, by go_num, HI1.out, ⟨d, (ys), mt, mn, wt, wn, M9.out.back, HO.out, HIP.out.1, HIP.out.2⟩⟩
                            case measure => have := HI1.out; simp [intOf]; omega
                    clear HPL2
                    have hvd : voteD d part yy yt yn = (0, d) := by rw [HVD.out]; rw [if_neg (by rw [hp]; simp), if_neg hbad, if_pos (.inl HHOW.out)]
                    have CV : Hid (∀ u, OnceM wA u b d YB MB HB BX ys mt mn wt wn → Calls Try.prog 11 #[.pointer (some ⟨b, 0, none⟩), .int .i64 5, .int .i64 part, .bool yy, .agg #[.int .i64 yt, .int .u8 yn]] u fun e w' => e = .returned (.int .i64 0) ∧ CdS wA u w' b [d] (fun k => k = YB ∨ k = MB ∨ k = HB ∨ k = BX)) := fun u hu => by have := CV.out u hu; rwa [hvd] at this
                    clear hvd HVD HVP
                    clear hbad hp hs
                    go_wp2_with (first
                      | (have hgo := T1.out; clear hgo; go_at_call 11; refine (CV.out v3 HM3.out).mono ?_; rintro e w5 ⟨rfl, k5⟩; obtain ⟨m5, hbx5, hb5⟩ := HM3.out.call k5; have M5 : Hid (OnceM wA w5 b d YB MB HB BX ys mt mn wt wn) := m5; obtain ⟨x0, x2, x3, x5, x6⟩ := FX3.out w5 hbx5; clear m5 hbx5 hb5 k5 T1))
                    have HYL2 : Hid ((ys).length = k) := HYL.out
                    go_loopw [18, 19] (fun av qv wr => ∃ q : Nat, av = .bool (((ys).take q).all _root_.id) ∧ qv = .int .i64 q ∧ q ≤ k ∧ Hid (Below w5.heap.size w5 wr)) (fun _ qv _ => k - (intOf qv).toNat)
                    case atStart => exact ⟨0, rfl, rfl, Nat.zero_le _, Below.refl _ _⟩
                    case round =>
                      obtain ⟨q, rfl, rfl, hq, HW3⟩ := hrel
                      have hq0 : (0 : Int) ≤ (q : Int) := by omega
                      by_cases hqlt : q < k
                      · have hq1 : (q : Int) < (k : Int) := by omega
                        obtain ⟨z, hz⟩ : ∃ z, (ys)[q]? = some z := ⟨_, List.getElem?_eq_getElem (by rw [HYL2.out]; exact hqlt)⟩
                        have yq := (M5.out.past HW3.out).y.at_ hz
                        have HTK : Hid (((ys).take (q + 1)).all _root_.id = (((ys).take q).all _root_.id && z)) := by show _ = _; rw [List.take_add_one, hz, List.all_append]; simp
                        obtain ⟨ab, hab⟩ : ∃ a, a = ((ys).take q).all _root_.id := ⟨_, rfl⟩
                        rw [← hab] at HTK ⊢
                        clear hz hab
                        cases ab with
                        | true =>
                          go_wp2
                          go_roundw
                          case rel => exact ⟨q + 1, by rw [HTK.out]; simp, by go_num, by omega, HW3⟩
                          case measure => simp [intOf]; omega
                        | false =>
                          go_wp2
                          go_roundw
                          case rel => exact ⟨q + 1, by rw [HTK.out]; rfl, by go_num, by omega, HW3⟩
                          case measure => simp [intOf]; omega
                      · obtain rfl : q = k := by omega
                        have hqni : ¬ (q : Int) < (q : Int) := by omega
                        obtain ⟨v7, hv7⟩ : ∃ v : World, v = wr := ⟨wr, rfl⟩
                        subst hv7
                        have M7 : Hid (OnceM wA v7 b d YB MB HB BX (ys) mt mn wt wn) := M5.out.past HW3.out
                        have HTE0 : Hid ((ys).take q = ys) := List.take_of_length_le (by rw [HYL2.out]; exact Nat.le_refl _)
                        rw [HTE0.out]
                        obtain ⟨al, hal⟩ : ∃ a, a = (ys).all _root_.id := ⟨_, rfl⟩
                        rw [← hal]
                        clear hal
                        cases al with
                        | false =>
                          have hte := HO.out.tells
                          rw [HIP.out.1] at hte
                          have HTE : Hid (decC [d] 5 = (true, true, wt, wn)) := hte.1
                          obtain ⟨xq, hxq⟩ : ∃ x, x = cmpS wt wn a0 b0 := ⟨_, rfl⟩
                          have CQ : Hid (∀ u, Calls Try.prog 34 #[.agg #[.int .i64 wt, .int .u8 wn], .agg #[.int .i64 a0, .int .u8 b0]] u fun e w' => e = .returned (.int .i64 xq) ∧ Below u.heap.size u w') := fun u => by rw [hxq]; exact rcmp6_any wt wn a0 b0 u
                          have dxq : decide (xq ≤ 0) = false := decide_eq_false (by rw [hxq]; exact hte.2 rfl)
                          clear hxq
                          clear hte
                          go_wp2_with (first
                            | (have hgo := HTE.out; clear hgo; go_at_call 13; refine (M7.out.kd.decision HTE.out I5.out).mono ?_; rintro e w8 ⟨rfl, hb8⟩; have M8 : Hid (OnceM wA (w8.alloc (.cells #[.int .i64 wt, .int .u8 wn] 28)) b d YB MB HB BX (ys) mt mn wt wn) := (M7.out.past hb8).past (alloc_belowC _ _); have g0 := M8.out.h.c0; have g1 := M8.out.h.c1; obtain ⟨n0, n1⟩ := HSP.out _ M8.out.kd.below; clear hb8 HTE)
                            | (go_at_call 34; refine (CQ.out _).mono ?_; rintro e w9 ⟨rfl, hb9⟩; have M9 : Hid (OnceM wA w9 b d YB MB HB BX (ys) mt mn wt wn) := M8.out.past hb9; clear hb9))
                          go_roundw
                          case rel => exact ⟨i + 1, true, true, rfl, rfl, by go_num, HI1.out, ⟨d, (ys), mt, mn, wt, wn, M9.out.back, HO.out, HIP.out.1, HIP.out.2⟩⟩
                          case measure => have := HI1.out; simp [intOf]; omega
                        | true =>
                          have hte := HO.out.tells
                          rw [HIP.out.1] at hte
                          have HTE : Hid (decC [d] 5 = (true, true, wt, wn)) := hte.1
                          obtain ⟨xq, hxq⟩ : ∃ x, x = cmpS wt wn a0 b0 := ⟨_, rfl⟩
                          have CQ : Hid (∀ u, Calls Try.prog 34 #[.agg #[.int .i64 wt, .int .u8 wn], .agg #[.int .i64 a0, .int .u8 b0]] u fun e w' => e = .returned (.int .i64 xq) ∧ Below u.heap.size u w') := fun u => by rw [hxq]; exact rcmp6_any wt wn a0 b0 u
                          have dxq : decide (xq ≤ 0) = false := decide_eq_false (by rw [hxq]; exact hte.2 rfl)
                          clear hxq
                          clear hte
                          go_wp2_with (first
                            | (have hgo := HTE.out; clear hgo; go_at_call 13; refine (M7.out.kd.decision HTE.out I5.out).mono ?_; rintro e w8 ⟨rfl, hb8⟩; have M8 : Hid (OnceM wA (w8.alloc (.cells #[.int .i64 wt, .int .u8 wn] 28)) b d YB MB HB BX (ys) mt mn wt wn) := (M7.out.past hb8).past (alloc_belowC _ _); have g0 := M8.out.h.c0; have g1 := M8.out.h.c1; obtain ⟨n0, n1⟩ := HSP.out _ M8.out.kd.below; clear hb8 HTE)
                            | (go_at_call 34; refine (CQ.out _).mono ?_; rintro e w9 ⟨rfl, hb9⟩; have M9 : Hid (OnceM wA w9 b d YB MB HB BX (ys) mt mn wt wn) := M8.out.past hb9; clear hb9))
                          go_roundw
                          case rel => exact ⟨i + 1, true, true, rfl, rfl, by go_num, HI1.out, ⟨d, (ys), mt, mn, wt, wn, M9.out.back, HO.out, HIP.out.1, HIP.out.2⟩⟩
                          case measure => have := HI1.out; simp [intOf]; omega
                  have ob : (op == 1) = false := by simpa using o1
                  by_cases o2 : op = 2
                  · have ob2 : (op == 2) = true := by simpa using o2
                    clear o1 o2 CV CGV HVD HVP HGP
                    have HIN : Hid (dk.id = 5 ∧ dk.parts = z1) := ⟨HKP.out.1, HKP.out.2.1⟩
                    have HON : Hid (OnceC dk a0 b0 ys true true mt mn wt wn) := HKP.out.2.2
                    clear HKP
                    go_wp2_with (first
                      | (have hgo := T1.out; clear hgo; go_at_call 12; refine (CK.out v3 HM3.out).mono ?_; rintro e w5 ⟨rfl, k5⟩; obtain ⟨m5, hbx5, hb5⟩ := HM3.out.call k5; have M5 : Hid (OnceM wA w5 b dk YB MB HB BX ys mt mn wt wn) := m5; clear m5 hbx5 hb5 k5 T1))
                    have HYL2 : Hid ((ys).length = k) := HYL.out
                    go_loopw [18, 19] (fun av qv wr => ∃ q : Nat, av = .bool (((ys).take q).all _root_.id) ∧ qv = .int .i64 q ∧ q ≤ k ∧ Hid (Below w5.heap.size w5 wr)) (fun _ qv _ => k - (intOf qv).toNat)
                    case atStart => exact ⟨0, rfl, rfl, Nat.zero_le _, Below.refl _ _⟩
                    case round =>
                      obtain ⟨q, rfl, rfl, hq, HW3⟩ := hrel
                      have hq0 : (0 : Int) ≤ (q : Int) := by omega
                      by_cases hqlt : q < k
                      · have hq1 : (q : Int) < (k : Int) := by omega
                        obtain ⟨z, hz⟩ : ∃ z, (ys)[q]? = some z := ⟨_, List.getElem?_eq_getElem (by rw [HYL2.out]; exact hqlt)⟩
                        have yq := (M5.out.past HW3.out).y.at_ hz
                        have HTK : Hid (((ys).take (q + 1)).all _root_.id = (((ys).take q).all _root_.id && z)) := by show _ = _; rw [List.take_add_one, hz, List.all_append]; simp
                        obtain ⟨ab, hab⟩ : ∃ a, a = ((ys).take q).all _root_.id := ⟨_, rfl⟩
                        rw [← hab] at HTK ⊢
                        clear hz hab
                        cases ab with
                        | true =>
                          go_wp2
                          go_roundw
                          case rel => exact ⟨q + 1, by rw [HTK.out]; simp, by go_num, by omega, HW3⟩
                          case measure => simp [intOf]; omega
                        | false =>
                          go_wp2
                          go_roundw
                          case rel => exact ⟨q + 1, by rw [HTK.out]; rfl, by go_num, by omega, HW3⟩
                          case measure => simp [intOf]; omega
                      · obtain rfl : q = k := by omega
                        have hqni : ¬ (q : Int) < (q : Int) := by omega
                        obtain ⟨v7, hv7⟩ : ∃ v : World, v = wr := ⟨wr, rfl⟩
                        subst hv7
                        have M7 : Hid (OnceM wA v7 b dk YB MB HB BX (ys) mt mn wt wn) := M5.out.past HW3.out
                        have HTE0 : Hid ((ys).take q = ys) := List.take_of_length_le (by rw [HYL2.out]; exact Nat.le_refl _)
                        rw [HTE0.out]
                        obtain ⟨al, hal⟩ : ∃ a, a = (ys).all _root_.id := ⟨_, rfl⟩
                        rw [← hal]
                        clear hal
                        cases al with
                        | false =>
                          have hte := HON.out.tells
                          rw [HIN.out.1] at hte
                          have HTE : Hid (decC [dk] 5 = (true, true, wt, wn)) := hte.1
                          obtain ⟨xq, hxq⟩ : ∃ x, x = cmpS wt wn a0 b0 := ⟨_, rfl⟩
                          have CQ : Hid (∀ u, Calls Try.prog 34 #[.agg #[.int .i64 wt, .int .u8 wn], .agg #[.int .i64 a0, .int .u8 b0]] u fun e w' => e = .returned (.int .i64 xq) ∧ Below u.heap.size u w') := fun u => by rw [hxq]; exact rcmp6_any wt wn a0 b0 u
                          have dxq : decide (xq ≤ 0) = false := decide_eq_false (by rw [hxq]; exact hte.2 rfl)
                          clear hxq
                          clear hte
                          go_wp2_with (first
                            | (have hgo := HTE.out; clear hgo; go_at_call 13; refine (M7.out.kd.decision HTE.out I5.out).mono ?_; rintro e w8 ⟨rfl, hb8⟩; have M8 : Hid (OnceM wA (w8.alloc (.cells #[.int .i64 wt, .int .u8 wn] 28)) b dk YB MB HB BX (ys) mt mn wt wn) := (M7.out.past hb8).past (alloc_belowC _ _); have g0 := M8.out.h.c0; have g1 := M8.out.h.c1; obtain ⟨n0, n1⟩ := HSP.out _ M8.out.kd.below; clear hb8 HTE)
                            | (go_at_call 34; refine (CQ.out _).mono ?_; rintro e w9 ⟨rfl, hb9⟩; have M9 : Hid (OnceM wA w9 b dk YB MB HB BX (ys) mt mn wt wn) := M8.out.past hb9; clear hb9))
                          go_roundw
                          case rel => exact ⟨i + 1, true, true, rfl, rfl, by go_num, HI1.out, ⟨dk, (ys), mt, mn, wt, wn, M9.out.back, HON.out, HIN.out.1, HIN.out.2⟩⟩
                          case measure => have := HI1.out; simp [intOf]; omega
                        | true =>
                          have hte := HON.out.tells
                          rw [HIN.out.1] at hte
                          have HTE : Hid (decC [dk] 5 = (true, true, wt, wn)) := hte.1
                          obtain ⟨xq, hxq⟩ : ∃ x, x = cmpS wt wn a0 b0 := ⟨_, rfl⟩
                          have CQ : Hid (∀ u, Calls Try.prog 34 #[.agg #[.int .i64 wt, .int .u8 wn], .agg #[.int .i64 a0, .int .u8 b0]] u fun e w' => e = .returned (.int .i64 xq) ∧ Below u.heap.size u w') := fun u => by rw [hxq]; exact rcmp6_any wt wn a0 b0 u
                          have dxq : decide (xq ≤ 0) = false := decide_eq_false (by rw [hxq]; exact hte.2 rfl)
                          clear hxq
                          clear hte
                          go_wp2_with (first
                            | (have hgo := HTE.out; clear hgo; go_at_call 13; refine (M7.out.kd.decision HTE.out I5.out).mono ?_; rintro e w8 ⟨rfl, hb8⟩; have M8 : Hid (OnceM wA (w8.alloc (.cells #[.int .i64 wt, .int .u8 wn] 28)) b dk YB MB HB BX (ys) mt mn wt wn) := (M7.out.past hb8).past (alloc_belowC _ _); have g0 := M8.out.h.c0; have g1 := M8.out.h.c1; obtain ⟨n0, n1⟩ := HSP.out _ M8.out.kd.below; clear hb8 HTE)
                            | (go_at_call 34; refine (CQ.out _).mono ?_; rintro e w9 ⟨rfl, hb9⟩; have M9 : Hid (OnceM wA w9 b dk YB MB HB BX (ys) mt mn wt wn) := M8.out.past hb9; clear hb9))
                          go_roundw
                          case rel => exact ⟨i + 1, true, true, rfl, rfl, by go_num, HI1.out, ⟨dk, (ys), mt, mn, wt, wn, M9.out.back, HON.out, HIN.out.1, HIN.out.2⟩⟩
                          case measure => have := HI1.out; simp [intOf]; omega
                  have ob2 : (op == 2) = false := by simpa using o2
                  by_cases o3 : op = 3
                  · have ob3 : (op == 3) = true := by simpa using o3
                    clear o1 o2 o3 CV CK HVD HVP HKP
                    have HIN : Hid (dg.id = 5 ∧ dg.parts = z1) := ⟨HGP.out.1, HGP.out.2.1⟩
                    have HON : Hid (OnceC dg a0 b0 ys true true mt mn wt wn) := HGP.out.2.2
                    clear HGP
                    go_wp2_with (first
                      | (have hgo := T1.out; clear hgo; go_at_call 16; refine (CGV.out v3 HM3.out).mono ?_; rintro e w5 ⟨rfl, k5⟩; obtain ⟨m5, hbx5, hb5⟩ := HM3.out.call k5; have M5 : Hid (OnceM wA w5 b dg YB MB HB BX ys mt mn wt wn) := m5; clear m5 hbx5 hb5 k5 T1))
                    have HYL2 : Hid ((ys).length = k) := HYL.out
                    go_loopw [18, 19] (fun av qv wr => ∃ q : Nat, av = .bool (((ys).take q).all _root_.id) ∧ qv = .int .i64 q ∧ q ≤ k ∧ Hid (Below w5.heap.size w5 wr)) (fun _ qv _ => k - (intOf qv).toNat)
                    case atStart => exact ⟨0, rfl, rfl, Nat.zero_le _, Below.refl _ _⟩
                    case round =>
                      obtain ⟨q, rfl, rfl, hq, HW3⟩ := hrel
                      have hq0 : (0 : Int) ≤ (q : Int) := by omega
                      by_cases hqlt : q < k
                      · have hq1 : (q : Int) < (k : Int) := by omega
                        obtain ⟨z, hz⟩ : ∃ z, (ys)[q]? = some z := ⟨_, List.getElem?_eq_getElem (by rw [HYL2.out]; exact hqlt)⟩
                        have yq := (M5.out.past HW3.out).y.at_ hz
                        have HTK : Hid (((ys).take (q + 1)).all _root_.id = (((ys).take q).all _root_.id && z)) := by show _ = _; rw [List.take_add_one, hz, List.all_append]; simp
                        obtain ⟨ab, hab⟩ : ∃ a, a = ((ys).take q).all _root_.id := ⟨_, rfl⟩
                        rw [← hab] at HTK ⊢
                        clear hz hab
                        cases ab with
                        | true =>
                          go_wp2
                          go_roundw
                          case rel => exact ⟨q + 1, by rw [HTK.out]; simp, by go_num, by omega, HW3⟩
                          case measure => simp [intOf]; omega
                        | false =>
                          go_wp2
                          go_roundw
                          case rel => exact ⟨q + 1, by rw [HTK.out]; rfl, by go_num, by omega, HW3⟩
                          case measure => simp [intOf]; omega
                      · obtain rfl : q = k := by omega
                        have hqni : ¬ (q : Int) < (q : Int) := by omega
                        obtain ⟨v7, hv7⟩ : ∃ v : World, v = wr := ⟨wr, rfl⟩
                        subst hv7
                        have M7 : Hid (OnceM wA v7 b dg YB MB HB BX (ys) mt mn wt wn) := M5.out.past HW3.out
                        have HTE0 : Hid ((ys).take q = ys) := List.take_of_length_le (by rw [HYL2.out]; exact Nat.le_refl _)
                        rw [HTE0.out]
                        obtain ⟨al, hal⟩ : ∃ a, a = (ys).all _root_.id := ⟨_, rfl⟩
                        rw [← hal]
                        clear hal
                        cases al with
                        | false =>
                          have hte := HON.out.tells
                          rw [HIN.out.1] at hte
                          have HTE : Hid (decC [dg] 5 = (true, true, wt, wn)) := hte.1
                          obtain ⟨xq, hxq⟩ : ∃ x, x = cmpS wt wn a0 b0 := ⟨_, rfl⟩
                          have CQ : Hid (∀ u, Calls Try.prog 34 #[.agg #[.int .i64 wt, .int .u8 wn], .agg #[.int .i64 a0, .int .u8 b0]] u fun e w' => e = .returned (.int .i64 xq) ∧ Below u.heap.size u w') := fun u => by rw [hxq]; exact rcmp6_any wt wn a0 b0 u
                          have dxq : decide (xq ≤ 0) = false := decide_eq_false (by rw [hxq]; exact hte.2 rfl)
                          clear hxq
                          clear hte
                          go_wp2_with (first
                            | (have hgo := HTE.out; clear hgo; go_at_call 13; refine (M7.out.kd.decision HTE.out I5.out).mono ?_; rintro e w8 ⟨rfl, hb8⟩; have M8 : Hid (OnceM wA (w8.alloc (.cells #[.int .i64 wt, .int .u8 wn] 28)) b dg YB MB HB BX (ys) mt mn wt wn) := (M7.out.past hb8).past (alloc_belowC _ _); have g0 := M8.out.h.c0; have g1 := M8.out.h.c1; obtain ⟨n0, n1⟩ := HSP.out _ M8.out.kd.below; clear hb8 HTE)
                            | (go_at_call 34; refine (CQ.out _).mono ?_; rintro e w9 ⟨rfl, hb9⟩; have M9 : Hid (OnceM wA w9 b dg YB MB HB BX (ys) mt mn wt wn) := M8.out.past hb9; clear hb9))
                          go_roundw
                          case rel => exact ⟨i + 1, true, true, rfl, rfl, by go_num, HI1.out, ⟨dg, (ys), mt, mn, wt, wn, M9.out.back, HON.out, HIN.out.1, HIN.out.2⟩⟩
                          case measure => have := HI1.out; simp [intOf]; omega
                        | true =>
                          have hte := HON.out.tells
                          rw [HIN.out.1] at hte
                          have HTE : Hid (decC [dg] 5 = (true, true, wt, wn)) := hte.1
                          obtain ⟨xq, hxq⟩ : ∃ x, x = cmpS wt wn a0 b0 := ⟨_, rfl⟩
                          have CQ : Hid (∀ u, Calls Try.prog 34 #[.agg #[.int .i64 wt, .int .u8 wn], .agg #[.int .i64 a0, .int .u8 b0]] u fun e w' => e = .returned (.int .i64 xq) ∧ Below u.heap.size u w') := fun u => by rw [hxq]; exact rcmp6_any wt wn a0 b0 u
                          have dxq : decide (xq ≤ 0) = false := decide_eq_false (by rw [hxq]; exact hte.2 rfl)
                          clear hxq
                          clear hte
                          go_wp2_with (first
                            | (have hgo := HTE.out; clear hgo; go_at_call 13; refine (M7.out.kd.decision HTE.out I5.out).mono ?_; rintro e w8 ⟨rfl, hb8⟩; have M8 : Hid (OnceM wA (w8.alloc (.cells #[.int .i64 wt, .int .u8 wn] 28)) b dg YB MB HB BX (ys) mt mn wt wn) := (M7.out.past hb8).past (alloc_belowC _ _); have g0 := M8.out.h.c0; have g1 := M8.out.h.c1; obtain ⟨n0, n1⟩ := HSP.out _ M8.out.kd.below; clear hb8 HTE)
                            | (go_at_call 34; refine (CQ.out _).mono ?_; rintro e w9 ⟨rfl, hb9⟩; have M9 : Hid (OnceM wA w9 b dg YB MB HB BX (ys) mt mn wt wn) := M8.out.past hb9; clear hb9))
                          go_roundw
                          case rel => exact ⟨i + 1, true, true, rfl, rfl, by go_num, HI1.out, ⟨dg, (ys), mt, mn, wt, wn, M9.out.back, HON.out, HIN.out.1, HIN.out.2⟩⟩
                          case measure => have := HI1.out; simp [intOf]; omega
                  have ob3 : (op == 3) = false := by simpa using o3
                  clear o1 o2 o3 CV CK CGV HVD HVP HKP HGP T1
                  go_wp2
                  have HYL2 : Hid ((ys).length = k) := HYL.out
                  go_loopw [18, 19] (fun av qv wr => ∃ q : Nat, av = .bool (((ys).take q).all _root_.id) ∧ qv = .int .i64 q ∧ q ≤ k ∧ Hid (Below v3.heap.size v3 wr)) (fun _ qv _ => k - (intOf qv).toNat)
                  case atStart => exact ⟨0, rfl, rfl, Nat.zero_le _, Below.refl _ _⟩
                  case round =>
                    obtain ⟨q, rfl, rfl, hq, HW3⟩ := hrel
                    have hq0 : (0 : Int) ≤ (q : Int) := by omega
                    by_cases hqlt : q < k
                    · have hq1 : (q : Int) < (k : Int) := by omega
                      obtain ⟨z, hz⟩ : ∃ z, (ys)[q]? = some z := ⟨_, List.getElem?_eq_getElem (by rw [HYL2.out]; exact hqlt)⟩
                      have yq := (HM3.out.past HW3.out).y.at_ hz
                      have HTK : Hid (((ys).take (q + 1)).all _root_.id = (((ys).take q).all _root_.id && z)) := by show _ = _; rw [List.take_add_one, hz, List.all_append]; simp
                      obtain ⟨ab, hab⟩ : ∃ a, a = ((ys).take q).all _root_.id := ⟨_, rfl⟩
                      rw [← hab] at HTK ⊢
                      clear hz hab
                      cases ab with
                      | true =>
                        go_wp2
                        go_roundw
                        case rel => exact ⟨q + 1, by rw [HTK.out]; simp, by go_num, by omega, HW3⟩
                        case measure => simp [intOf]; omega
                      | false =>
                        go_wp2
                        go_roundw
                        case rel => exact ⟨q + 1, by rw [HTK.out]; rfl, by go_num, by omega, HW3⟩
                        case measure => simp [intOf]; omega
                    · obtain rfl : q = k := by omega
                      have hqni : ¬ (q : Int) < (q : Int) := by omega
                      obtain ⟨v7, hv7⟩ : ∃ v : World, v = wr := ⟨wr, rfl⟩
                      subst hv7
                      have M7 : Hid (OnceM wA v7 b d YB MB HB BX (ys) mt mn wt wn) := HM3.out.past HW3.out
                      have HTE0 : Hid ((ys).take q = ys) := List.take_of_length_le (by rw [HYL2.out]; exact Nat.le_refl _)
                      rw [HTE0.out]
                      obtain ⟨al, hal⟩ : ∃ a, a = (ys).all _root_.id := ⟨_, rfl⟩
                      rw [← hal]
                      clear hal
                      cases al with
                      | false =>
                        have hte := HO.out.tells
                        rw [HIP.out.1] at hte
                        have HTE : Hid (decC [d] 5 = (true, true, wt, wn)) := hte.1
                        obtain ⟨xq, hxq⟩ : ∃ x, x = cmpS wt wn a0 b0 := ⟨_, rfl⟩
                        have CQ : Hid (∀ u, Calls Try.prog 34 #[.agg #[.int .i64 wt, .int .u8 wn], .agg #[.int .i64 a0, .int .u8 b0]] u fun e w' => e = .returned (.int .i64 xq) ∧ Below u.heap.size u w') := fun u => by rw [hxq]; exact rcmp6_any wt wn a0 b0 u
                        have dxq : decide (xq ≤ 0) = false := decide_eq_false (by rw [hxq]; exact hte.2 rfl)
                        clear hxq
                        clear hte
                        go_wp2_with (first
                          | (have hgo := HTE.out; clear hgo; go_at_call 13; refine (M7.out.kd.decision HTE.out I5.out).mono ?_; rintro e w8 ⟨rfl, hb8⟩; have M8 : Hid (OnceM wA (w8.alloc (.cells #[.int .i64 wt, .int .u8 wn] 28)) b d YB MB HB BX (ys) mt mn wt wn) := (M7.out.past hb8).past (alloc_belowC _ _); have g0 := M8.out.h.c0; have g1 := M8.out.h.c1; obtain ⟨n0, n1⟩ := HSP.out _ M8.out.kd.below; clear hb8 HTE)
                          | (go_at_call 34; refine (CQ.out _).mono ?_; rintro e w9 ⟨rfl, hb9⟩; have M9 : Hid (OnceM wA w9 b d YB MB HB BX (ys) mt mn wt wn) := M8.out.past hb9; clear hb9))
                        go_roundw
                        case rel => exact ⟨i + 1, true, true, rfl, rfl, by go_num, HI1.out, ⟨d, (ys), mt, mn, wt, wn, M9.out.back, HO.out, HIP.out.1, HIP.out.2⟩⟩
                        case measure => have := HI1.out; simp [intOf]; omega
                      | true =>
                        have hte := HO.out.tells
                        rw [HIP.out.1] at hte
                        have HTE : Hid (decC [d] 5 = (true, true, wt, wn)) := hte.1
                        obtain ⟨xq, hxq⟩ : ∃ x, x = cmpS wt wn a0 b0 := ⟨_, rfl⟩
                        have CQ : Hid (∀ u, Calls Try.prog 34 #[.agg #[.int .i64 wt, .int .u8 wn], .agg #[.int .i64 a0, .int .u8 b0]] u fun e w' => e = .returned (.int .i64 xq) ∧ Below u.heap.size u w') := fun u => by rw [hxq]; exact rcmp6_any wt wn a0 b0 u
                        have dxq : decide (xq ≤ 0) = false := decide_eq_false (by rw [hxq]; exact hte.2 rfl)
                        clear hxq
                        clear hte
                        go_wp2_with (first
                          | (have hgo := HTE.out; clear hgo; go_at_call 13; refine (M7.out.kd.decision HTE.out I5.out).mono ?_; rintro e w8 ⟨rfl, hb8⟩; have M8 : Hid (OnceM wA (w8.alloc (.cells #[.int .i64 wt, .int .u8 wn] 28)) b d YB MB HB BX (ys) mt mn wt wn) := (M7.out.past hb8).past (alloc_belowC _ _); have g0 := M8.out.h.c0; have g1 := M8.out.h.c1; obtain ⟨n0, n1⟩ := HSP.out _ M8.out.kd.below; clear hb8 HTE)
                          | (go_at_call 34; refine (CQ.out _).mono ?_; rintro e w9 ⟨rfl, hb9⟩; have M9 : Hid (OnceM wA w9 b d YB MB HB BX (ys) mt mn wt wn) := M8.out.past hb9; clear hb9))
                        go_roundw
                        case rel => exact ⟨i + 1, true, true, rfl, rfl, by go_num, HI1.out, ⟨d, (ys), mt, mn, wt, wn, M9.out.back, HO.out, HIP.out.1, HIP.out.2⟩⟩
                        case measure => have := HI1.out; simp [intOf]; omega
              | false =>
                as_aux_lemma =>
                  have T1 : Hid True := trivial
                  have HHOW : Hid (d.how ≠ 0) := by show _ ≠ _; have := HO.out.kn; simpa using this.symm
                  have HIP : Hid (d.id = 5 ∧ d.parts = z1) := ⟨HID.out, HPR.out⟩
                  by_cases o1 : op = 1
                  · have ob : (op == 1) = true := by simpa using o1
                    clear o1 CK CGV HKP HGP
                    by_cases hp : hasP z1 part = false
                    · have hneg : pl = -1 := by rw [HPL2.out, HK.out]; exact plcC_no hp
                      subst hneg
                      have hvd : voteD d part yy yt yn = (4, d) := by rw [HVD.out]; exact if_pos hp
                      have CV : Hid (∀ u, OnceM wA u b d YB MB HB BX ys mt mn wt wn → Calls Try.prog 11 #[.pointer (some ⟨b, 0, none⟩), .int .i64 5, .int .i64 part, .bool yy, .agg #[.int .i64 yt, .int .u8 yn]] u fun e w' => e = .returned (.int .i64 4) ∧ CdS wA u w' b [d] (fun k => k = YB ∨ k = MB ∨ k = HB ∨ k = BX)) := fun u hu => by have := CV.out u hu; rwa [hvd] at this
                      clear hvd HVD HVP
                      clear hp
                      go_wp2_with (first
                        | (have hgo := T1.out; clear hgo; go_at_call 11; refine (CV.out v3 HM3.out).mono ?_; rintro e w5 ⟨rfl, k5⟩; obtain ⟨m5, hbx5, hb5⟩ := HM3.out.call k5; have M5 : Hid (OnceM wA w5 b d YB MB HB BX ys mt mn wt wn) := m5; obtain ⟨x0, x2, x3, x5, x6⟩ := FX3.out w5 hbx5; clear m5 hbx5 hb5 k5 T1))
                      have HYL2 : Hid ((ys).length = k) := HYL.out
                      go_loopw [18, 19] (fun av qv wr => ∃ q : Nat, av = .bool (((ys).take q).all _root_.id) ∧ qv = .int .i64 q ∧ q ≤ k ∧ Hid (Below w5.heap.size w5 wr)) (fun _ qv _ => k - (intOf qv).toNat)
                      case atStart => exact ⟨0, rfl, rfl, Nat.zero_le _, Below.refl _ _⟩
                      case round =>
                        obtain ⟨q, rfl, rfl, hq, HW3⟩ := hrel
                        have hq0 : (0 : Int) ≤ (q : Int) := by omega
                        by_cases hqlt : q < k
                        · have hq1 : (q : Int) < (k : Int) := by omega
                          obtain ⟨z, hz⟩ : ∃ z, (ys)[q]? = some z := ⟨_, List.getElem?_eq_getElem (by rw [HYL2.out]; exact hqlt)⟩
                          have yq := (M5.out.past HW3.out).y.at_ hz
                          have HTK : Hid (((ys).take (q + 1)).all _root_.id = (((ys).take q).all _root_.id && z)) := by show _ = _; rw [List.take_add_one, hz, List.all_append]; simp
                          obtain ⟨ab, hab⟩ : ∃ a, a = ((ys).take q).all _root_.id := ⟨_, rfl⟩
                          rw [← hab] at HTK ⊢
                          clear hz hab
                          cases ab with
                          | true =>
                            go_wp2
                            go_roundw
                            case rel => exact ⟨q + 1, by rw [HTK.out]; simp, by go_num, by omega, HW3⟩
                            case measure => simp [intOf]; omega
                          | false =>
                            go_wp2
                            go_roundw
                            case rel => exact ⟨q + 1, by rw [HTK.out]; rfl, by go_num, by omega, HW3⟩
                            case measure => simp [intOf]; omega
                        · obtain rfl : q = k := by omega
                          have hqni : ¬ (q : Int) < (q : Int) := by omega
                          obtain ⟨v7, hv7⟩ : ∃ v : World, v = wr := ⟨wr, rfl⟩
                          subst hv7
                          have M7 : Hid (OnceM wA v7 b d YB MB HB BX (ys) mt mn wt wn) := M5.out.past HW3.out
                          have HTE0 : Hid ((ys).take q = ys) := List.take_of_length_le (by rw [HYL2.out]; exact Nat.le_refl _)
                          rw [HTE0.out]
                          obtain ⟨al, hal⟩ : ∃ a, a = (ys).all _root_.id := ⟨_, rfl⟩
                          rw [← hal]
                          clear hal
                          cases al with
                          | false =>
                            have hte := HO.out.tells
                            rw [HIP.out.1] at hte
                            have HTE : Hid (decC [d] 5 = (true, false, wt, wn)) := hte.1
                            clear hte
                            go_wp2_with (first
                              | (have hgo := HTE.out; clear hgo; go_at_call 13; refine (M7.out.kd.decision HTE.out I5.out).mono ?_; rintro e w8 ⟨rfl, hb8⟩; have M8 : Hid (OnceM wA (w8.alloc (.cells #[.int .i64 wt, .int .u8 wn] 28)) b d YB MB HB BX (ys) mt mn wt wn) := (M7.out.past hb8).past (alloc_belowC _ _); have g0 := M8.out.h.c0; have g1 := M8.out.h.c1; obtain ⟨n0, n1⟩ := HSP.out _ M8.out.kd.below; clear hb8 HTE))
                            go_roundw
                            case rel => exact ⟨i + 1, true, false, rfl, rfl, by go_num, HI1.out, ⟨d, (ys), mt, mn, wt, wn, M8.out.back, HO.out, HIP.out.1, HIP.out.2⟩⟩
                            case measure => have := HI1.out; simp [intOf]; omega
                          | true =>
                            have hte := HO.out.tells
                            rw [HIP.out.1] at hte
                            have HTE : Hid (decC [d] 5 = (true, false, wt, wn)) := hte.1
                            clear hte
                            go_wp2_with (first
                              | (have hgo := HTE.out; clear hgo; go_at_call 13; refine (M7.out.kd.decision HTE.out I5.out).mono ?_; rintro e w8 ⟨rfl, hb8⟩; have M8 : Hid (OnceM wA (w8.alloc (.cells #[.int .i64 wt, .int .u8 wn] 28)) b d YB MB HB BX (ys) mt mn wt wn) := (M7.out.past hb8).past (alloc_belowC _ _); have g0 := M8.out.h.c0; have g1 := M8.out.h.c1; obtain ⟨n0, n1⟩ := HSP.out _ M8.out.kd.below; clear hb8 HTE))
                            go_roundw
                            case rel => exact ⟨i + 1, true, false, rfl, rfl, by go_num, HI1.out, ⟨d, (ys), mt, mn, wt, wn, M8.out.back, HO.out, HIP.out.1, HIP.out.2⟩⟩
                            case measure => have := HI1.out; simp [intOf]; omega
                    have hp : hasP z1 part = true := by cases e : hasP z1 part; exact absurd e hp; rfl
                    obtain ⟨s, hs⟩ : ∃ s, s = spotC z1 part := ⟨_, rfl⟩
                    have hpls : pl = (s : Int) ∧ s < k := by rw [HPL2.out, HK.out, hs]; exact plcC_yes hp
                    obtain ⟨rfl, hsk⟩ := hpls
                    have hs0 : (0 : Int) ≤ (s : Int) := by omega
                    have hs1 : (s : Int) < (k : Int) := by omega
                    by_cases hbad : yy = true ∧ (¬ okS yt ∨ cmpS yt yn a0 b0 ≤ 0)
                    · clear HPL2 hs
                      have hvd : voteD d part yy yt yn = (1, d) := by rw [HVD.out]; rw [if_neg (by rw [hp]; simp), if_pos hbad]
                      have CV : Hid (∀ u, OnceM wA u b d YB MB HB BX ys mt mn wt wn → Calls Try.prog 11 #[.pointer (some ⟨b, 0, none⟩), .int .i64 5, .int .i64 part, .bool yy, .agg #[.int .i64 yt, .int .u8 yn]] u fun e w' => e = .returned (.int .i64 1) ∧ CdS wA u w' b [d] (fun k => k = YB ∨ k = MB ∨ k = HB ∨ k = BX)) := fun u hu => by have := CV.out u hu; rwa [hvd] at this
                      clear hvd HVD HVP
                      clear hbad hp
                      go_wp2_with (first
                        | (have hgo := T1.out; clear hgo; go_at_call 11; refine (CV.out v3 HM3.out).mono ?_; rintro e w5 ⟨rfl, k5⟩; obtain ⟨m5, hbx5, hb5⟩ := HM3.out.call k5; have M5 : Hid (OnceM wA w5 b d YB MB HB BX ys mt mn wt wn) := m5; obtain ⟨x0, x2, x3, x5, x6⟩ := FX3.out w5 hbx5; clear m5 hbx5 hb5 k5 T1))
                      have HYL2 : Hid ((ys).length = k) := HYL.out
                      go_loopw [18, 19] (fun av qv wr => ∃ q : Nat, av = .bool (((ys).take q).all _root_.id) ∧ qv = .int .i64 q ∧ q ≤ k ∧ Hid (Below w5.heap.size w5 wr)) (fun _ qv _ => k - (intOf qv).toNat)
                      case atStart => exact ⟨0, rfl, rfl, Nat.zero_le _, Below.refl _ _⟩
                      case round =>
                        obtain ⟨q, rfl, rfl, hq, HW3⟩ := hrel
                        have hq0 : (0 : Int) ≤ (q : Int) := by omega
                        by_cases hqlt : q < k
                        · have hq1 : (q : Int) < (k : Int) := by omega
                          obtain ⟨z, hz⟩ : ∃ z, (ys)[q]? = some z := ⟨_, List.getElem?_eq_getElem (by rw [HYL2.out]; exact hqlt)⟩
                          have yq := (M5.out.past HW3.out).y.at_ hz
                          have HTK : Hid (((ys).take (q + 1)).all _root_.id = (((ys).take q).all _root_.id && z)) := by show _ = _; rw [List.take_add_one, hz, List.all_append]; simp
                          obtain ⟨ab, hab⟩ : ∃ a, a = ((ys).take q).all _root_.id := ⟨_, rfl⟩
                          rw [← hab] at HTK ⊢
                          clear hz hab
                          cases ab with
                          | true =>
                            go_wp2
                            go_roundw
                            case rel => exact ⟨q + 1, by rw [HTK.out]; simp, by go_num, by omega, HW3⟩
                            case measure => simp [intOf]; omega
                          | false =>
                            go_wp2
                            go_roundw
                            case rel => exact ⟨q + 1, by rw [HTK.out]; rfl, by go_num, by omega, HW3⟩
                            case measure => simp [intOf]; omega
                        · obtain rfl : q = k := by omega
                          have hqni : ¬ (q : Int) < (q : Int) := by omega
                          obtain ⟨v7, hv7⟩ : ∃ v : World, v = wr := ⟨wr, rfl⟩
                          subst hv7
                          have M7 : Hid (OnceM wA v7 b d YB MB HB BX (ys) mt mn wt wn) := M5.out.past HW3.out
                          have HTE0 : Hid ((ys).take q = ys) := List.take_of_length_le (by rw [HYL2.out]; exact Nat.le_refl _)
                          rw [HTE0.out]
                          obtain ⟨al, hal⟩ : ∃ a, a = (ys).all _root_.id := ⟨_, rfl⟩
                          rw [← hal]
                          clear hal
                          cases al with
                          | false =>
                            have hte := HO.out.tells
                            rw [HIP.out.1] at hte
                            have HTE : Hid (decC [d] 5 = (true, false, wt, wn)) := hte.1
                            clear hte
                            go_wp2_with (first
                              | (have hgo := HTE.out; clear hgo; go_at_call 13; refine (M7.out.kd.decision HTE.out I5.out).mono ?_; rintro e w8 ⟨rfl, hb8⟩; have M8 : Hid (OnceM wA (w8.alloc (.cells #[.int .i64 wt, .int .u8 wn] 28)) b d YB MB HB BX (ys) mt mn wt wn) := (M7.out.past hb8).past (alloc_belowC _ _); have g0 := M8.out.h.c0; have g1 := M8.out.h.c1; obtain ⟨n0, n1⟩ := HSP.out _ M8.out.kd.below; clear hb8 HTE))
                            go_roundw
                            case rel => exact ⟨i + 1, true, false, rfl, rfl, by go_num, HI1.out, ⟨d, (ys), mt, mn, wt, wn, M8.out.back, HO.out, HIP.out.1, HIP.out.2⟩⟩
                            case measure => have := HI1.out; simp [intOf]; omega
                          | true =>
                            have hte := HO.out.tells
                            rw [HIP.out.1] at hte
                            have HTE : Hid (decC [d] 5 = (true, false, wt, wn)) := hte.1
                            clear hte
                            go_wp2_with (first
                              | (have hgo := HTE.out; clear hgo; go_at_call 13; refine (M7.out.kd.decision HTE.out I5.out).mono ?_; rintro e w8 ⟨rfl, hb8⟩; have M8 : Hid (OnceM wA (w8.alloc (.cells #[.int .i64 wt, .int .u8 wn] 28)) b d YB MB HB BX (ys) mt mn wt wn) := (M7.out.past hb8).past (alloc_belowC _ _); have g0 := M8.out.h.c0; have g1 := M8.out.h.c1; obtain ⟨n0, n1⟩ := HSP.out _ M8.out.kd.below; clear hb8 HTE))
                            go_roundw
                            case rel => exact ⟨i + 1, true, false, rfl, rfl, by go_num, HI1.out, ⟨d, (ys), mt, mn, wt, wn, M8.out.back, HO.out, HIP.out.1, HIP.out.2⟩⟩
                            case measure => have := HI1.out; simp [intOf]; omega
                    clear HPL2
                    have hvd : voteD d part yy yt yn = (0, d) := by rw [HVD.out]; rw [if_neg (by rw [hp]; simp), if_neg hbad, if_pos (.inl HHOW.out)]
                    have CV : Hid (∀ u, OnceM wA u b d YB MB HB BX ys mt mn wt wn → Calls Try.prog 11 #[.pointer (some ⟨b, 0, none⟩), .int .i64 5, .int .i64 part, .bool yy, .agg #[.int .i64 yt, .int .u8 yn]] u fun e w' => e = .returned (.int .i64 0) ∧ CdS wA u w' b [d] (fun k => k = YB ∨ k = MB ∨ k = HB ∨ k = BX)) := fun u hu => by have := CV.out u hu; rwa [hvd] at this
                    clear hvd HVD HVP
                    clear hbad hp hs
                    go_wp2_with (first
                      | (have hgo := T1.out; clear hgo; go_at_call 11; refine (CV.out v3 HM3.out).mono ?_; rintro e w5 ⟨rfl, k5⟩; obtain ⟨m5, hbx5, hb5⟩ := HM3.out.call k5; have M5 : Hid (OnceM wA w5 b d YB MB HB BX ys mt mn wt wn) := m5; obtain ⟨x0, x2, x3, x5, x6⟩ := FX3.out w5 hbx5; clear m5 hbx5 hb5 k5 T1))
                    have HYL2 : Hid ((ys).length = k) := HYL.out
                    go_loopw [18, 19] (fun av qv wr => ∃ q : Nat, av = .bool (((ys).take q).all _root_.id) ∧ qv = .int .i64 q ∧ q ≤ k ∧ Hid (Below w5.heap.size w5 wr)) (fun _ qv _ => k - (intOf qv).toNat)
                    case atStart => exact ⟨0, rfl, rfl, Nat.zero_le _, Below.refl _ _⟩
                    case round =>
                      obtain ⟨q, rfl, rfl, hq, HW3⟩ := hrel
                      have hq0 : (0 : Int) ≤ (q : Int) := by omega
                      by_cases hqlt : q < k
                      · have hq1 : (q : Int) < (k : Int) := by omega
                        obtain ⟨z, hz⟩ : ∃ z, (ys)[q]? = some z := ⟨_, List.getElem?_eq_getElem (by rw [HYL2.out]; exact hqlt)⟩
                        have yq := (M5.out.past HW3.out).y.at_ hz
                        have HTK : Hid (((ys).take (q + 1)).all _root_.id = (((ys).take q).all _root_.id && z)) := by show _ = _; rw [List.take_add_one, hz, List.all_append]; simp
                        obtain ⟨ab, hab⟩ : ∃ a, a = ((ys).take q).all _root_.id := ⟨_, rfl⟩
                        rw [← hab] at HTK ⊢
                        clear hz hab
                        cases ab with
                        | true =>
                          go_wp2
                          go_roundw
                          case rel => exact ⟨q + 1, by rw [HTK.out]; simp, by go_num, by omega, HW3⟩
                          case measure => simp [intOf]; omega
                        | false =>
                          go_wp2
                          go_roundw
                          case rel => exact ⟨q + 1, by rw [HTK.out]; rfl, by go_num, by omega, HW3⟩
                          case measure => simp [intOf]; omega
                      · obtain rfl : q = k := by omega
                        have hqni : ¬ (q : Int) < (q : Int) := by omega
                        obtain ⟨v7, hv7⟩ : ∃ v : World, v = wr := ⟨wr, rfl⟩
                        subst hv7
                        have M7 : Hid (OnceM wA v7 b d YB MB HB BX (ys) mt mn wt wn) := M5.out.past HW3.out
                        have HTE0 : Hid ((ys).take q = ys) := List.take_of_length_le (by rw [HYL2.out]; exact Nat.le_refl _)
                        rw [HTE0.out]
                        obtain ⟨al, hal⟩ : ∃ a, a = (ys).all _root_.id := ⟨_, rfl⟩
                        rw [← hal]
                        clear hal
                        cases al with
                        | false =>
                          have hte := HO.out.tells
                          rw [HIP.out.1] at hte
                          have HTE : Hid (decC [d] 5 = (true, false, wt, wn)) := hte.1
                          clear hte
                          go_wp2_with (first
                            | (have hgo := HTE.out; clear hgo; go_at_call 13; refine (M7.out.kd.decision HTE.out I5.out).mono ?_; rintro e w8 ⟨rfl, hb8⟩; have M8 : Hid (OnceM wA (w8.alloc (.cells #[.int .i64 wt, .int .u8 wn] 28)) b d YB MB HB BX (ys) mt mn wt wn) := (M7.out.past hb8).past (alloc_belowC _ _); have g0 := M8.out.h.c0; have g1 := M8.out.h.c1; obtain ⟨n0, n1⟩ := HSP.out _ M8.out.kd.below; clear hb8 HTE))
                          go_roundw
                          case rel => exact ⟨i + 1, true, false, rfl, rfl, by go_num, HI1.out, ⟨d, (ys), mt, mn, wt, wn, M8.out.back, HO.out, HIP.out.1, HIP.out.2⟩⟩
                          case measure => have := HI1.out; simp [intOf]; omega
                        | true =>
                          have hte := HO.out.tells
                          rw [HIP.out.1] at hte
                          have HTE : Hid (decC [d] 5 = (true, false, wt, wn)) := hte.1
                          clear hte
                          go_wp2_with (first
                            | (have hgo := HTE.out; clear hgo; go_at_call 13; refine (M7.out.kd.decision HTE.out I5.out).mono ?_; rintro e w8 ⟨rfl, hb8⟩; have M8 : Hid (OnceM wA (w8.alloc (.cells #[.int .i64 wt, .int .u8 wn] 28)) b d YB MB HB BX (ys) mt mn wt wn) := (M7.out.past hb8).past (alloc_belowC _ _); have g0 := M8.out.h.c0; have g1 := M8.out.h.c1; obtain ⟨n0, n1⟩ := HSP.out _ M8.out.kd.below; clear hb8 HTE))
                          go_roundw
                          case rel => exact ⟨i + 1, true, false, rfl, rfl, by go_num, HI1.out, ⟨d, (ys), mt, mn, wt, wn, M8.out.back, HO.out, HIP.out.1, HIP.out.2⟩⟩
                          case measure => have := HI1.out; simp [intOf]; omega
                  have ob : (op == 1) = false := by simpa using o1
                  by_cases o2 : op = 2
                  · have ob2 : (op == 2) = true := by simpa using o2
                    clear o1 o2 CV CGV HVD HVP HGP
                    have HIN : Hid (dk.id = 5 ∧ dk.parts = z1) := ⟨HKP.out.1, HKP.out.2.1⟩
                    have HON : Hid (OnceC dk a0 b0 ys true false mt mn wt wn) := HKP.out.2.2
                    clear HKP
                    go_wp2_with (first
                      | (have hgo := T1.out; clear hgo; go_at_call 12; refine (CK.out v3 HM3.out).mono ?_; rintro e w5 ⟨rfl, k5⟩; obtain ⟨m5, hbx5, hb5⟩ := HM3.out.call k5; have M5 : Hid (OnceM wA w5 b dk YB MB HB BX ys mt mn wt wn) := m5; clear m5 hbx5 hb5 k5 T1))
                    have HYL2 : Hid ((ys).length = k) := HYL.out
                    go_loopw [18, 19] (fun av qv wr => ∃ q : Nat, av = .bool (((ys).take q).all _root_.id) ∧ qv = .int .i64 q ∧ q ≤ k ∧ Hid (Below w5.heap.size w5 wr)) (fun _ qv _ => k - (intOf qv).toNat)
                    case atStart => exact ⟨0, rfl, rfl, Nat.zero_le _, Below.refl _ _⟩
                    case round =>
                      obtain ⟨q, rfl, rfl, hq, HW3⟩ := hrel
                      have hq0 : (0 : Int) ≤ (q : Int) := by omega
                      by_cases hqlt : q < k
                      · have hq1 : (q : Int) < (k : Int) := by omega
                        obtain ⟨z, hz⟩ : ∃ z, (ys)[q]? = some z := ⟨_, List.getElem?_eq_getElem (by rw [HYL2.out]; exact hqlt)⟩
                        have yq := (M5.out.past HW3.out).y.at_ hz
                        have HTK : Hid (((ys).take (q + 1)).all _root_.id = (((ys).take q).all _root_.id && z)) := by show _ = _; rw [List.take_add_one, hz, List.all_append]; simp
                        obtain ⟨ab, hab⟩ : ∃ a, a = ((ys).take q).all _root_.id := ⟨_, rfl⟩
                        rw [← hab] at HTK ⊢
                        clear hz hab
                        cases ab with
                        | true =>
                          go_wp2
                          go_roundw
                          case rel => exact ⟨q + 1, by rw [HTK.out]; simp, by go_num, by omega, HW3⟩
                          case measure => simp [intOf]; omega
                        | false =>
                          go_wp2
                          go_roundw
                          case rel => exact ⟨q + 1, by rw [HTK.out]; rfl, by go_num, by omega, HW3⟩
                          case measure => simp [intOf]; omega
                      · obtain rfl : q = k := by omega
                        have hqni : ¬ (q : Int) < (q : Int) := by omega
                        obtain ⟨v7, hv7⟩ : ∃ v : World, v = wr := ⟨wr, rfl⟩
                        subst hv7
                        have M7 : Hid (OnceM wA v7 b dk YB MB HB BX (ys) mt mn wt wn) := M5.out.past HW3.out
                        have HTE0 : Hid ((ys).take q = ys) := List.take_of_length_le (by rw [HYL2.out]; exact Nat.le_refl _)
                        rw [HTE0.out]
                        obtain ⟨al, hal⟩ : ∃ a, a = (ys).all _root_.id := ⟨_, rfl⟩
                        rw [← hal]
                        clear hal
                        cases al with
                        | false =>
                          have hte := HON.out.tells
                          rw [HIN.out.1] at hte
                          have HTE : Hid (decC [dk] 5 = (true, false, wt, wn)) := hte.1
                          clear hte
                          go_wp2_with (first
                            | (have hgo := HTE.out; clear hgo; go_at_call 13; refine (M7.out.kd.decision HTE.out I5.out).mono ?_; rintro e w8 ⟨rfl, hb8⟩; have M8 : Hid (OnceM wA (w8.alloc (.cells #[.int .i64 wt, .int .u8 wn] 28)) b dk YB MB HB BX (ys) mt mn wt wn) := (M7.out.past hb8).past (alloc_belowC _ _); have g0 := M8.out.h.c0; have g1 := M8.out.h.c1; obtain ⟨n0, n1⟩ := HSP.out _ M8.out.kd.below; clear hb8 HTE))
                          go_roundw
                          case rel => exact ⟨i + 1, true, false, rfl, rfl, by go_num, HI1.out, ⟨dk, (ys), mt, mn, wt, wn, M8.out.back, HON.out, HIN.out.1, HIN.out.2⟩⟩
                          case measure => have := HI1.out; simp [intOf]; omega
                        | true =>
                          have hte := HON.out.tells
                          rw [HIN.out.1] at hte
                          have HTE : Hid (decC [dk] 5 = (true, false, wt, wn)) := hte.1
                          clear hte
                          go_wp2_with (first
                            | (have hgo := HTE.out; clear hgo; go_at_call 13; refine (M7.out.kd.decision HTE.out I5.out).mono ?_; rintro e w8 ⟨rfl, hb8⟩; have M8 : Hid (OnceM wA (w8.alloc (.cells #[.int .i64 wt, .int .u8 wn] 28)) b dk YB MB HB BX (ys) mt mn wt wn) := (M7.out.past hb8).past (alloc_belowC _ _); have g0 := M8.out.h.c0; have g1 := M8.out.h.c1; obtain ⟨n0, n1⟩ := HSP.out _ M8.out.kd.below; clear hb8 HTE))
                          go_roundw
                          case rel => exact ⟨i + 1, true, false, rfl, rfl, by go_num, HI1.out, ⟨dk, (ys), mt, mn, wt, wn, M8.out.back, HON.out, HIN.out.1, HIN.out.2⟩⟩
                          case measure => have := HI1.out; simp [intOf]; omega
                  have ob2 : (op == 2) = false := by simpa using o2
                  by_cases o3 : op = 3
                  · have ob3 : (op == 3) = true := by simpa using o3
                    clear o1 o2 o3 CV CK HVD HVP HKP
                    have HIN : Hid (dg.id = 5 ∧ dg.parts = z1) := ⟨HGP.out.1, HGP.out.2.1⟩
                    have HON : Hid (OnceC dg a0 b0 ys true false mt mn wt wn) := HGP.out.2.2
                    clear HGP
                    go_wp2_with (first
                      | (have hgo := T1.out; clear hgo; go_at_call 16; refine (CGV.out v3 HM3.out).mono ?_; rintro e w5 ⟨rfl, k5⟩; obtain ⟨m5, hbx5, hb5⟩ := HM3.out.call k5; have M5 : Hid (OnceM wA w5 b dg YB MB HB BX ys mt mn wt wn) := m5; clear m5 hbx5 hb5 k5 T1))
                    have HYL2 : Hid ((ys).length = k) := HYL.out
                    go_loopw [18, 19] (fun av qv wr => ∃ q : Nat, av = .bool (((ys).take q).all _root_.id) ∧ qv = .int .i64 q ∧ q ≤ k ∧ Hid (Below w5.heap.size w5 wr)) (fun _ qv _ => k - (intOf qv).toNat)
                    case atStart => exact ⟨0, rfl, rfl, Nat.zero_le _, Below.refl _ _⟩
                    case round =>
                      obtain ⟨q, rfl, rfl, hq, HW3⟩ := hrel
                      have hq0 : (0 : Int) ≤ (q : Int) := by omega
                      by_cases hqlt : q < k
                      · have hq1 : (q : Int) < (k : Int) := by omega
                        obtain ⟨z, hz⟩ : ∃ z, (ys)[q]? = some z := ⟨_, List.getElem?_eq_getElem (by rw [HYL2.out]; exact hqlt)⟩
                        have yq := (M5.out.past HW3.out).y.at_ hz
                        have HTK : Hid (((ys).take (q + 1)).all _root_.id = (((ys).take q).all _root_.id && z)) := by show _ = _; rw [List.take_add_one, hz, List.all_append]; simp
                        obtain ⟨ab, hab⟩ : ∃ a, a = ((ys).take q).all _root_.id := ⟨_, rfl⟩
                        rw [← hab] at HTK ⊢
                        clear hz hab
                        cases ab with
                        | true =>
                          go_wp2
                          go_roundw
                          case rel => exact ⟨q + 1, by rw [HTK.out]; simp, by go_num, by omega, HW3⟩
                          case measure => simp [intOf]; omega
                        | false =>
                          go_wp2
                          go_roundw
                          case rel => exact ⟨q + 1, by rw [HTK.out]; rfl, by go_num, by omega, HW3⟩
                          case measure => simp [intOf]; omega
                      · obtain rfl : q = k := by omega
                        have hqni : ¬ (q : Int) < (q : Int) := by omega
                        obtain ⟨v7, hv7⟩ : ∃ v : World, v = wr := ⟨wr, rfl⟩
                        subst hv7
                        have M7 : Hid (OnceM wA v7 b dg YB MB HB BX (ys) mt mn wt wn) := M5.out.past HW3.out
                        have HTE0 : Hid ((ys).take q = ys) := List.take_of_length_le (by rw [HYL2.out]; exact Nat.le_refl _)
                        rw [HTE0.out]
                        obtain ⟨al, hal⟩ : ∃ a, a = (ys).all _root_.id := ⟨_, rfl⟩
                        rw [← hal]
                        clear hal
                        cases al with
                        | false =>
                          have hte := HON.out.tells
                          rw [HIN.out.1] at hte
                          have HTE : Hid (decC [dg] 5 = (true, false, wt, wn)) := hte.1
                          clear hte
                          go_wp2_with (first
                            | (have hgo := HTE.out; clear hgo; go_at_call 13; refine (M7.out.kd.decision HTE.out I5.out).mono ?_; rintro e w8 ⟨rfl, hb8⟩; have M8 : Hid (OnceM wA (w8.alloc (.cells #[.int .i64 wt, .int .u8 wn] 28)) b dg YB MB HB BX (ys) mt mn wt wn) := (M7.out.past hb8).past (alloc_belowC _ _); have g0 := M8.out.h.c0; have g1 := M8.out.h.c1; obtain ⟨n0, n1⟩ := HSP.out _ M8.out.kd.below; clear hb8 HTE))
                          go_roundw
                          case rel => exact ⟨i + 1, true, false, rfl, rfl, by go_num, HI1.out, ⟨dg, (ys), mt, mn, wt, wn, M8.out.back, HON.out, HIN.out.1, HIN.out.2⟩⟩
                          case measure => have := HI1.out; simp [intOf]; omega
                        | true =>
                          have hte := HON.out.tells
                          rw [HIN.out.1] at hte
                          have HTE : Hid (decC [dg] 5 = (true, false, wt, wn)) := hte.1
                          clear hte
                          go_wp2_with (first
                            | (have hgo := HTE.out; clear hgo; go_at_call 13; refine (M7.out.kd.decision HTE.out I5.out).mono ?_; rintro e w8 ⟨rfl, hb8⟩; have M8 : Hid (OnceM wA (w8.alloc (.cells #[.int .i64 wt, .int .u8 wn] 28)) b dg YB MB HB BX (ys) mt mn wt wn) := (M7.out.past hb8).past (alloc_belowC _ _); have g0 := M8.out.h.c0; have g1 := M8.out.h.c1; obtain ⟨n0, n1⟩ := HSP.out _ M8.out.kd.below; clear hb8 HTE))
                          go_roundw
                          case rel => exact ⟨i + 1, true, false, rfl, rfl, by go_num, HI1.out, ⟨dg, (ys), mt, mn, wt, wn, M8.out.back, HON.out, HIN.out.1, HIN.out.2⟩⟩
                          case measure => have := HI1.out; simp [intOf]; omega
                  have ob3 : (op == 3) = false := by simpa using o3
                  clear o1 o2 o3 CV CK CGV HVD HVP HKP HGP T1
                  go_wp2
                  have HYL2 : Hid ((ys).length = k) := HYL.out
                  go_loopw [18, 19] (fun av qv wr => ∃ q : Nat, av = .bool (((ys).take q).all _root_.id) ∧ qv = .int .i64 q ∧ q ≤ k ∧ Hid (Below v3.heap.size v3 wr)) (fun _ qv _ => k - (intOf qv).toNat)
                  case atStart => exact ⟨0, rfl, rfl, Nat.zero_le _, Below.refl _ _⟩
                  case round =>
                    obtain ⟨q, rfl, rfl, hq, HW3⟩ := hrel
                    have hq0 : (0 : Int) ≤ (q : Int) := by omega
                    by_cases hqlt : q < k
                    · have hq1 : (q : Int) < (k : Int) := by omega
                      obtain ⟨z, hz⟩ : ∃ z, (ys)[q]? = some z := ⟨_, List.getElem?_eq_getElem (by rw [HYL2.out]; exact hqlt)⟩
                      have yq := (HM3.out.past HW3.out).y.at_ hz
                      have HTK : Hid (((ys).take (q + 1)).all _root_.id = (((ys).take q).all _root_.id && z)) := by show _ = _; rw [List.take_add_one, hz, List.all_append]; simp
                      obtain ⟨ab, hab⟩ : ∃ a, a = ((ys).take q).all _root_.id := ⟨_, rfl⟩
                      rw [← hab] at HTK ⊢
                      clear hz hab
                      cases ab with
                      | true =>
                        go_wp2
                        go_roundw
                        case rel => exact ⟨q + 1, by rw [HTK.out]; simp, by go_num, by omega, HW3⟩
                        case measure => simp [intOf]; omega
                      | false =>
                        go_wp2
                        go_roundw
                        case rel => exact ⟨q + 1, by rw [HTK.out]; rfl, by go_num, by omega, HW3⟩
                        case measure => simp [intOf]; omega
                    · obtain rfl : q = k := by omega
                      have hqni : ¬ (q : Int) < (q : Int) := by omega
                      obtain ⟨v7, hv7⟩ : ∃ v : World, v = wr := ⟨wr, rfl⟩
                      subst hv7
                      have M7 : Hid (OnceM wA v7 b d YB MB HB BX (ys) mt mn wt wn) := HM3.out.past HW3.out
                      have HTE0 : Hid ((ys).take q = ys) := List.take_of_length_le (by rw [HYL2.out]; exact Nat.le_refl _)
                      rw [HTE0.out]
                      obtain ⟨al, hal⟩ : ∃ a, a = (ys).all _root_.id := ⟨_, rfl⟩
                      rw [← hal]
                      clear hal
                      cases al with
                      | false =>
                        have hte := HO.out.tells
                        rw [HIP.out.1] at hte
                        have HTE : Hid (decC [d] 5 = (true, false, wt, wn)) := hte.1
                        clear hte
                        go_wp2_with (first
                          | (have hgo := HTE.out; clear hgo; go_at_call 13; refine (M7.out.kd.decision HTE.out I5.out).mono ?_; rintro e w8 ⟨rfl, hb8⟩; have M8 : Hid (OnceM wA (w8.alloc (.cells #[.int .i64 wt, .int .u8 wn] 28)) b d YB MB HB BX (ys) mt mn wt wn) := (M7.out.past hb8).past (alloc_belowC _ _); have g0 := M8.out.h.c0; have g1 := M8.out.h.c1; obtain ⟨n0, n1⟩ := HSP.out _ M8.out.kd.below; clear hb8 HTE))
                        go_roundw
                        case rel => exact ⟨i + 1, true, false, rfl, rfl, by go_num, HI1.out, ⟨d, (ys), mt, mn, wt, wn, M8.out.back, HO.out, HIP.out.1, HIP.out.2⟩⟩
                        case measure => have := HI1.out; simp [intOf]; omega
                      | true =>
                        have hte := HO.out.tells
                        rw [HIP.out.1] at hte
                        have HTE : Hid (decC [d] 5 = (true, false, wt, wn)) := hte.1
                        clear hte
                        go_wp2_with (first
                          | (have hgo := HTE.out; clear hgo; go_at_call 13; refine (M7.out.kd.decision HTE.out I5.out).mono ?_; rintro e w8 ⟨rfl, hb8⟩; have M8 : Hid (OnceM wA (w8.alloc (.cells #[.int .i64 wt, .int .u8 wn] 28)) b d YB MB HB BX (ys) mt mn wt wn) := (M7.out.past hb8).past (alloc_belowC _ _); have g0 := M8.out.h.c0; have g1 := M8.out.h.c1; obtain ⟨n0, n1⟩ := HSP.out _ M8.out.kd.below; clear hb8 HTE))
                        go_roundw
                        case rel => exact ⟨i + 1, true, false, rfl, rfl, by go_num, HI1.out, ⟨d, (ys), mt, mn, wt, wn, M8.out.back, HO.out, HIP.out.1, HIP.out.2⟩⟩
                        case measure => have := HI1.out; simp [intOf]; omega
            | false =>
              cases co with
              | true =>
                have h1 := HO.out.kn
                have h2 := HO.out.co
                exfalso
                simp at h1 h2
                omega
              | false =>
                as_aux_lemma =>
                  have T1 : Hid True := trivial
                  have HHOW : Hid (d.how = 0) := by show d.how = 0; have := HO.out.kn; simpa using this.symm
                  have HIP : Hid (d.id = 5 ∧ d.parts = z1) := ⟨HID.out, HPR.out⟩
                  by_cases o1 : op = 1
                  · have ob : (op == 1) = true := by simpa using o1
                    clear o1 CK CGV HKP HGP
                    by_cases hp : hasP z1 part = false
                    · have hneg : pl = -1 := by rw [HPL2.out, HK.out]; exact plcC_no hp
                      subst hneg
                      have hvd : voteD d part yy yt yn = (4, d) := by rw [HVD.out]; exact if_pos hp
                      have CV : Hid (∀ u, OnceM wA u b d YB MB HB BX ys mt mn wt wn → Calls Try.prog 11 #[.pointer (some ⟨b, 0, none⟩), .int .i64 5, .int .i64 part, .bool yy, .agg #[.int .i64 yt, .int .u8 yn]] u fun e w' => e = .returned (.int .i64 4) ∧ CdS wA u w' b [d] (fun k => k = YB ∨ k = MB ∨ k = HB ∨ k = BX)) := fun u hu => by have := CV.out u hu; rwa [hvd] at this
                      clear hvd HVD HVP
                      clear hp
                      go_wp2_with (first
                        | (have hgo := T1.out; clear hgo; go_at_call 11; refine (CV.out v3 HM3.out).mono ?_; rintro e w5 ⟨rfl, k5⟩; obtain ⟨m5, hbx5, hb5⟩ := HM3.out.call k5; have M5 : Hid (OnceM wA w5 b d YB MB HB BX ys mt mn wt wn) := m5; obtain ⟨x0, x2, x3, x5, x6⟩ := FX3.out w5 hbx5; clear m5 hbx5 hb5 k5 T1))
                      have HYL2 : Hid ((ys).length = k) := HYL.out
                      go_loopw [18, 19] (fun av qv wr => ∃ q : Nat, av = .bool (((ys).take q).all _root_.id) ∧ qv = .int .i64 q ∧ q ≤ k ∧ Hid (Below w5.heap.size w5 wr)) (fun _ qv _ => k - (intOf qv).toNat)
                      case atStart => exact ⟨0, rfl, rfl, Nat.zero_le _, Below.refl _ _⟩
                      case round =>
                        obtain ⟨q, rfl, rfl, hq, HW3⟩ := hrel
                        have hq0 : (0 : Int) ≤ (q : Int) := by omega
                        by_cases hqlt : q < k
                        · have hq1 : (q : Int) < (k : Int) := by omega
                          obtain ⟨z, hz⟩ : ∃ z, (ys)[q]? = some z := ⟨_, List.getElem?_eq_getElem (by rw [HYL2.out]; exact hqlt)⟩
                          have yq := (M5.out.past HW3.out).y.at_ hz
                          have HTK : Hid (((ys).take (q + 1)).all _root_.id = (((ys).take q).all _root_.id && z)) := by show _ = _; rw [List.take_add_one, hz, List.all_append]; simp
                          obtain ⟨ab, hab⟩ : ∃ a, a = ((ys).take q).all _root_.id := ⟨_, rfl⟩
                          rw [← hab] at HTK ⊢
                          clear hz hab
                          cases ab with
                          | true =>
                            go_wp2
                            go_roundw
                            case rel => exact ⟨q + 1, by rw [HTK.out]; simp, by go_num, by omega, HW3⟩
                            case measure => simp [intOf]; omega
                          | false =>
                            go_wp2
                            go_roundw
                            case rel => exact ⟨q + 1, by rw [HTK.out]; rfl, by go_num, by omega, HW3⟩
                            case measure => simp [intOf]; omega
                        · obtain rfl : q = k := by omega
                          have hqni : ¬ (q : Int) < (q : Int) := by omega
                          obtain ⟨v7, hv7⟩ : ∃ v : World, v = wr := ⟨wr, rfl⟩
                          subst hv7
                          have M7 : Hid (OnceM wA v7 b d YB MB HB BX (ys) mt mn wt wn) := M5.out.past HW3.out
                          have HTE0 : Hid ((ys).take q = ys) := List.take_of_length_le (by rw [HYL2.out]; exact Nat.le_refl _)
                          rw [HTE0.out]
                          have hal : (ys).all _root_.id = false := by rw [HO.out.ys]; exact HO.out.open_ (by have := HO.out.kn; simpa using this.symm)
                          rw [hal]
                          clear hal
                          have hte := HO.out.tells
                          rw [HIP.out.1] at hte
                          have HTE : Hid (decC [d] 5 = (false, false, wt, wn)) := hte.1
                          clear hte
                          go_wp2_with (first
                            | (have hgo := HTE.out; clear hgo; go_at_call 13; refine (M7.out.kd.decision HTE.out I5.out).mono ?_; rintro e w8 ⟨rfl, hb8⟩; have M8 : Hid (OnceM wA (w8.alloc (.cells #[.int .i64 wt, .int .u8 wn] 28)) b d YB MB HB BX (ys) mt mn wt wn) := (M7.out.past hb8).past (alloc_belowC _ _); have g0 := M8.out.h.c0; have g1 := M8.out.h.c1; obtain ⟨n0, n1⟩ := HSP.out _ M8.out.kd.below; clear hb8 HTE))
                          go_roundw
                          case rel => exact ⟨i + 1, false, false, rfl, rfl, by go_num, HI1.out, ⟨d, (ys), mt, mn, wt, wn, M8.out.back, HO.out, HIP.out.1, HIP.out.2⟩⟩
                          case measure => have := HI1.out; simp [intOf]; omega
                    have hp : hasP z1 part = true := by cases e : hasP z1 part; exact absurd e hp; rfl
                    obtain ⟨s, hs⟩ : ∃ s, s = spotC z1 part := ⟨_, rfl⟩
                    have hpls : pl = (s : Int) ∧ s < k := by rw [HPL2.out, HK.out, hs]; exact plcC_yes hp
                    obtain ⟨rfl, hsk⟩ := hpls
                    have hs0 : (0 : Int) ≤ (s : Int) := by omega
                    have hs1 : (s : Int) < (k : Int) := by omega
                    by_cases hbad : yy = true ∧ (¬ okS yt ∨ cmpS yt yn a0 b0 ≤ 0)
                    · clear HPL2 hs
                      have hvd : voteD d part yy yt yn = (1, d) := by rw [HVD.out]; rw [if_neg (by rw [hp]; simp), if_pos hbad]
                      have CV : Hid (∀ u, OnceM wA u b d YB MB HB BX ys mt mn wt wn → Calls Try.prog 11 #[.pointer (some ⟨b, 0, none⟩), .int .i64 5, .int .i64 part, .bool yy, .agg #[.int .i64 yt, .int .u8 yn]] u fun e w' => e = .returned (.int .i64 1) ∧ CdS wA u w' b [d] (fun k => k = YB ∨ k = MB ∨ k = HB ∨ k = BX)) := fun u hu => by have := CV.out u hu; rwa [hvd] at this
                      clear hvd HVD HVP
                      clear hbad hp
                      go_wp2_with (first
                        | (have hgo := T1.out; clear hgo; go_at_call 11; refine (CV.out v3 HM3.out).mono ?_; rintro e w5 ⟨rfl, k5⟩; obtain ⟨m5, hbx5, hb5⟩ := HM3.out.call k5; have M5 : Hid (OnceM wA w5 b d YB MB HB BX ys mt mn wt wn) := m5; obtain ⟨x0, x2, x3, x5, x6⟩ := FX3.out w5 hbx5; clear m5 hbx5 hb5 k5 T1))
                      have HYL2 : Hid ((ys).length = k) := HYL.out
                      go_loopw [18, 19] (fun av qv wr => ∃ q : Nat, av = .bool (((ys).take q).all _root_.id) ∧ qv = .int .i64 q ∧ q ≤ k ∧ Hid (Below w5.heap.size w5 wr)) (fun _ qv _ => k - (intOf qv).toNat)
                      case atStart => exact ⟨0, rfl, rfl, Nat.zero_le _, Below.refl _ _⟩
                      case round =>
                        obtain ⟨q, rfl, rfl, hq, HW3⟩ := hrel
                        have hq0 : (0 : Int) ≤ (q : Int) := by omega
                        by_cases hqlt : q < k
                        · have hq1 : (q : Int) < (k : Int) := by omega
                          obtain ⟨z, hz⟩ : ∃ z, (ys)[q]? = some z := ⟨_, List.getElem?_eq_getElem (by rw [HYL2.out]; exact hqlt)⟩
                          have yq := (M5.out.past HW3.out).y.at_ hz
                          have HTK : Hid (((ys).take (q + 1)).all _root_.id = (((ys).take q).all _root_.id && z)) := by show _ = _; rw [List.take_add_one, hz, List.all_append]; simp
                          obtain ⟨ab, hab⟩ : ∃ a, a = ((ys).take q).all _root_.id := ⟨_, rfl⟩
                          rw [← hab] at HTK ⊢
                          clear hz hab
                          cases ab with
                          | true =>
                            go_wp2
                            go_roundw
                            case rel => exact ⟨q + 1, by rw [HTK.out]; simp, by go_num, by omega, HW3⟩
                            case measure => simp [intOf]; omega
                          | false =>
                            go_wp2
                            go_roundw
                            case rel => exact ⟨q + 1, by rw [HTK.out]; rfl, by go_num, by omega, HW3⟩
                            case measure => simp [intOf]; omega
                        · obtain rfl : q = k := by omega
                          have hqni : ¬ (q : Int) < (q : Int) := by omega
                          obtain ⟨v7, hv7⟩ : ∃ v : World, v = wr := ⟨wr, rfl⟩
                          subst hv7
                          have M7 : Hid (OnceM wA v7 b d YB MB HB BX (ys) mt mn wt wn) := M5.out.past HW3.out
                          have HTE0 : Hid ((ys).take q = ys) := List.take_of_length_le (by rw [HYL2.out]; exact Nat.le_refl _)
                          rw [HTE0.out]
                          have hal : (ys).all _root_.id = false := by rw [HO.out.ys]; exact HO.out.open_ (by have := HO.out.kn; simpa using this.symm)
                          rw [hal]
                          clear hal
                          have hte := HO.out.tells
                          rw [HIP.out.1] at hte
                          have HTE : Hid (decC [d] 5 = (false, false, wt, wn)) := hte.1
                          clear hte
                          go_wp2_with (first
                            | (have hgo := HTE.out; clear hgo; go_at_call 13; refine (M7.out.kd.decision HTE.out I5.out).mono ?_; rintro e w8 ⟨rfl, hb8⟩; have M8 : Hid (OnceM wA (w8.alloc (.cells #[.int .i64 wt, .int .u8 wn] 28)) b d YB MB HB BX (ys) mt mn wt wn) := (M7.out.past hb8).past (alloc_belowC _ _); have g0 := M8.out.h.c0; have g1 := M8.out.h.c1; obtain ⟨n0, n1⟩ := HSP.out _ M8.out.kd.below; clear hb8 HTE))
                          go_roundw
                          case rel => exact ⟨i + 1, false, false, rfl, rfl, by go_num, HI1.out, ⟨d, (ys), mt, mn, wt, wn, M8.out.back, HO.out, HIP.out.1, HIP.out.2⟩⟩
                          case measure => have := HI1.out; simp [intOf]; omega
                    have hys : ys.getD s false = d.votes.getD (spotC z1 part) false := by rw [HO.out.ys, hs]
                    obtain ⟨zv, hzv⟩ : ∃ z, ys[s]? = some z := ⟨_, List.getElem?_eq_getElem (by rw [HYL.out]; exact hsk)⟩
                    have hzg : ys.getD s false = zv := by simp [List.getD, hzv]
                    rw [hzg] at hys
                    cases zv with
                    | true =>
                      clear HPL2 hzg
                      have hvd : voteD d part yy yt yn = (0, d) := by rw [HVD.out]; rw [if_neg (by rw [hp]; simp), if_neg hbad, if_pos (.inr hys.symm)]
                      have CV : Hid (∀ u, OnceM wA u b d YB MB HB BX ys mt mn wt wn → Calls Try.prog 11 #[.pointer (some ⟨b, 0, none⟩), .int .i64 5, .int .i64 part, .bool yy, .agg #[.int .i64 yt, .int .u8 yn]] u fun e w' => e = .returned (.int .i64 0) ∧ CdS wA u w' b [d] (fun k => k = YB ∨ k = MB ∨ k = HB ∨ k = BX)) := fun u hu => by have := CV.out u hu; rwa [hvd] at this
                      clear hvd HVD HVP
                      clear hbad hp hs hys
                      go_wp2_with (first
                        | (have hgo := T1.out; clear hgo; go_at_call 11; refine (CV.out v3 HM3.out).mono ?_; rintro e w5 ⟨rfl, k5⟩; obtain ⟨m5, hbx5, hb5⟩ := HM3.out.call k5; have M5 : Hid (OnceM wA w5 b d YB MB HB BX ys mt mn wt wn) := m5; obtain ⟨x0, x2, x3, x5, x6⟩ := FX3.out w5 hbx5; have yz := M5.out.y.at_ hzv; clear m5 hbx5 hb5 k5 T1))
                      have HYL2 : Hid ((ys).length = k) := HYL.out
                      go_loopw [18, 19] (fun av qv wr => ∃ q : Nat, av = .bool (((ys).take q).all _root_.id) ∧ qv = .int .i64 q ∧ q ≤ k ∧ Hid (Below w5.heap.size w5 wr)) (fun _ qv _ => k - (intOf qv).toNat)
                      case atStart => exact ⟨0, rfl, rfl, Nat.zero_le _, Below.refl _ _⟩
                      case round =>
                        obtain ⟨q, rfl, rfl, hq, HW3⟩ := hrel
                        have hq0 : (0 : Int) ≤ (q : Int) := by omega
                        by_cases hqlt : q < k
                        · have hq1 : (q : Int) < (k : Int) := by omega
                          obtain ⟨z, hz⟩ : ∃ z, (ys)[q]? = some z := ⟨_, List.getElem?_eq_getElem (by rw [HYL2.out]; exact hqlt)⟩
                          have yq := (M5.out.past HW3.out).y.at_ hz
                          have HTK : Hid (((ys).take (q + 1)).all _root_.id = (((ys).take q).all _root_.id && z)) := by show _ = _; rw [List.take_add_one, hz, List.all_append]; simp
                          obtain ⟨ab, hab⟩ : ∃ a, a = ((ys).take q).all _root_.id := ⟨_, rfl⟩
                          rw [← hab] at HTK ⊢
                          clear hz hab
                          cases ab with
                          | true =>
                            go_wp2
                            go_roundw
                            case rel => exact ⟨q + 1, by rw [HTK.out]; simp, by go_num, by omega, HW3⟩
                            case measure => simp [intOf]; omega
                          | false =>
                            go_wp2
                            go_roundw
                            case rel => exact ⟨q + 1, by rw [HTK.out]; rfl, by go_num, by omega, HW3⟩
                            case measure => simp [intOf]; omega
                        · obtain rfl : q = k := by omega
                          have hqni : ¬ (q : Int) < (q : Int) := by omega
                          obtain ⟨v7, hv7⟩ : ∃ v : World, v = wr := ⟨wr, rfl⟩
                          subst hv7
                          have M7 : Hid (OnceM wA v7 b d YB MB HB BX (ys) mt mn wt wn) := M5.out.past HW3.out
                          have HTE0 : Hid ((ys).take q = ys) := List.take_of_length_le (by rw [HYL2.out]; exact Nat.le_refl _)
                          rw [HTE0.out]
                          have hal : (ys).all _root_.id = false := by rw [HO.out.ys]; exact HO.out.open_ (by have := HO.out.kn; simpa using this.symm)
                          rw [hal]
                          clear hal
                          have hte := HO.out.tells
                          rw [HIP.out.1] at hte
                          have HTE : Hid (decC [d] 5 = (false, false, wt, wn)) := hte.1
                          clear hte
                          go_wp2_with (first
                            | (have hgo := HTE.out; clear hgo; go_at_call 13; refine (M7.out.kd.decision HTE.out I5.out).mono ?_; rintro e w8 ⟨rfl, hb8⟩; have M8 : Hid (OnceM wA (w8.alloc (.cells #[.int .i64 wt, .int .u8 wn] 28)) b d YB MB HB BX (ys) mt mn wt wn) := (M7.out.past hb8).past (alloc_belowC _ _); have g0 := M8.out.h.c0; have g1 := M8.out.h.c1; obtain ⟨n0, n1⟩ := HSP.out _ M8.out.kd.below; clear hb8 HTE))
                          go_roundw
                          case rel => exact ⟨i + 1, false, false, rfl, rfl, by go_num, HI1.out, ⟨d, (ys), mt, mn, wt, wn, M8.out.back, HO.out, HIP.out.1, HIP.out.2⟩⟩
                          case measure => have := HI1.out; simp [intOf]; omega
                    | false =>
                      cases yy with
                      | false =>
                        clear HPL2 hzg
                        have hvd : voteD d part false yt yn = (0, noD d) := by rw [HVD.out, if_neg (by rw [hp]; simp), if_neg hbad, if_neg (by rintro (q | q); exact q HHOW.out; rw [← hys] at q; cases q), if_pos rfl]
                        have CV : Hid (∀ u, OnceM wA u b d YB MB HB BX ys mt mn wt wn → Calls Try.prog 11 #[.pointer (some ⟨b, 0, none⟩), .int .i64 5, .int .i64 part, .bool false, .agg #[.int .i64 yt, .int .u8 yn]] u fun e w' => e = .returned (.int .i64 0) ∧ CdS wA u w' b [noD d] (fun k => k = YB ∨ k = MB ∨ k = HB ∨ k = BX)) := fun u hu => by have := CV.out u hu; rwa [hvd] at this
                        have HIN : Hid ((noD d).id = 5 ∧ (noD d).parts = z1) := ⟨HID.out, HPR.out⟩
                        have HON : Hid (OnceC (noD d) a0 b0 ys true false mt mn wt wn) := HO.out.refused HHOW.out
                        obtain ⟨dn, hdn⟩ : ∃ x, x = noD d := ⟨_, rfl⟩
                        rw [← hdn] at CV HIN HON
                        clear hvd HVD HVP hdn hbad hp hs hys
                        go_wp2_with (first
                          | (have hgo := T1.out; clear hgo; go_at_call 11; refine (CV.out v3 HM3.out).mono ?_; rintro e w5 ⟨rfl, k5⟩; obtain ⟨m5, hbx5, hb5⟩ := HM3.out.call k5; have M5 : Hid (OnceM wA w5 b dn YB MB HB BX ys mt mn wt wn) := m5; obtain ⟨x0, x2, x3, x5, x6⟩ := FX3.out w5 hbx5; have yz := M5.out.y.at_ hzv; clear m5 hbx5 hb5 k5 T1))
                        have HYL2 : Hid ((ys).length = k) := HYL.out
                        go_loopw [18, 19] (fun av qv wr => ∃ q : Nat, av = .bool (((ys).take q).all _root_.id) ∧ qv = .int .i64 q ∧ q ≤ k ∧ Hid (Below w5.heap.size w5 wr)) (fun _ qv _ => k - (intOf qv).toNat)
                        case atStart => exact ⟨0, rfl, rfl, Nat.zero_le _, Below.refl _ _⟩
                        case round =>
                          obtain ⟨q, rfl, rfl, hq, HW3⟩ := hrel
                          have hq0 : (0 : Int) ≤ (q : Int) := by omega
                          by_cases hqlt : q < k
                          · have hq1 : (q : Int) < (k : Int) := by omega
                            obtain ⟨z, hz⟩ : ∃ z, (ys)[q]? = some z := ⟨_, List.getElem?_eq_getElem (by rw [HYL2.out]; exact hqlt)⟩
                            have yq := (M5.out.past HW3.out).y.at_ hz
                            have HTK : Hid (((ys).take (q + 1)).all _root_.id = (((ys).take q).all _root_.id && z)) := by show _ = _; rw [List.take_add_one, hz, List.all_append]; simp
                            obtain ⟨ab, hab⟩ : ∃ a, a = ((ys).take q).all _root_.id := ⟨_, rfl⟩
                            rw [← hab] at HTK ⊢
                            clear hz hab
                            cases ab with
                            | true =>
                              go_wp2
                              go_roundw
                              case rel => exact ⟨q + 1, by rw [HTK.out]; simp, by go_num, by omega, HW3⟩
                              case measure => simp [intOf]; omega
                            | false =>
                              go_wp2
                              go_roundw
                              case rel => exact ⟨q + 1, by rw [HTK.out]; rfl, by go_num, by omega, HW3⟩
                              case measure => simp [intOf]; omega
                          · obtain rfl : q = k := by omega
                            have hqni : ¬ (q : Int) < (q : Int) := by omega
                            obtain ⟨v7, hv7⟩ : ∃ v : World, v = wr := ⟨wr, rfl⟩
                            subst hv7
                            have M7 : Hid (OnceM wA v7 b dn YB MB HB BX (ys) mt mn wt wn) := M5.out.past HW3.out
                            have HTE0 : Hid ((ys).take q = ys) := List.take_of_length_le (by rw [HYL2.out]; exact Nat.le_refl _)
                            rw [HTE0.out]
                            obtain ⟨al, hal⟩ : ∃ a, a = (ys).all _root_.id := ⟨_, rfl⟩
                            rw [← hal]
                            clear hal
                            cases al with
                            | false =>
                              have hte := HON.out.tells
                              rw [HIN.out.1] at hte
                              have HTE : Hid (decC [dn] 5 = (true, false, wt, wn)) := hte.1
                              clear hte
                              go_wp2_with (first
                                | (have hgo := HTE.out; clear hgo; go_at_call 13; refine (M7.out.kd.decision HTE.out I5.out).mono ?_; rintro e w8 ⟨rfl, hb8⟩; have M8 : Hid (OnceM wA (w8.alloc (.cells #[.int .i64 wt, .int .u8 wn] 28)) b dn YB MB HB BX (ys) mt mn wt wn) := (M7.out.past hb8).past (alloc_belowC _ _); have g0 := M8.out.h.c0; have g1 := M8.out.h.c1; obtain ⟨n0, n1⟩ := HSP.out _ M8.out.kd.below; clear hb8 HTE))
                              go_roundw
                              case rel => exact ⟨i + 1, true, false, rfl, rfl, by go_num, HI1.out, ⟨dn, (ys), mt, mn, wt, wn, M8.out.back, HON.out, HIN.out.1, HIN.out.2⟩⟩
                              case measure => have := HI1.out; simp [intOf]; omega
                            | true =>
                              have hte := HON.out.tells
                              rw [HIN.out.1] at hte
                              have HTE : Hid (decC [dn] 5 = (true, false, wt, wn)) := hte.1
                              clear hte
                              go_wp2_with (first
                                | (have hgo := HTE.out; clear hgo; go_at_call 13; refine (M7.out.kd.decision HTE.out I5.out).mono ?_; rintro e w8 ⟨rfl, hb8⟩; have M8 : Hid (OnceM wA (w8.alloc (.cells #[.int .i64 wt, .int .u8 wn] 28)) b dn YB MB HB BX (ys) mt mn wt wn) := (M7.out.past hb8).past (alloc_belowC _ _); have g0 := M8.out.h.c0; have g1 := M8.out.h.c1; obtain ⟨n0, n1⟩ := HSP.out _ M8.out.kd.below; clear hb8 HTE))
                              go_roundw
                              case rel => exact ⟨i + 1, true, false, rfl, rfl, by go_num, HI1.out, ⟨dn, (ys), mt, mn, wt, wn, M8.out.back, HON.out, HIN.out.1, HIN.out.2⟩⟩
                              case measure => have := HI1.out; simp [intOf]; omega
                      | true =>
                        clear HPL2 hzg
                        have hgb : okS yt ∧ ¬ cmpS yt yn a0 b0 ≤ 0 := ⟨Classical.byContradiction fun q => hbad ⟨rfl, .inl q⟩, fun q => hbad ⟨rfl, .inr q⟩⟩
                        have hvd : voteD d part true yt yn = (0, yesD d s yt yn) := by rw [HVD.out, if_neg (by rw [hp]; simp), if_neg hbad, if_neg (by rintro (q | q); exact q HHOW.out; rw [← hys] at q; cases q), if_neg (by simp), hs]
                        have CV : Hid (∀ u, OnceM wA u b d YB MB HB BX ys mt mn wt wn → Calls Try.prog 11 #[.pointer (some ⟨b, 0, none⟩), .int .i64 5, .int .i64 part, .bool true, .agg #[.int .i64 yt, .int .u8 yn]] u fun e w' => e = .returned (.int .i64 0) ∧ CdS wA u w' b [yesD d s yt yn] (fun k => k = YB ∨ k = MB ∨ k = HB ∨ k = BX)) := fun u hu => by have := CV.out u hu; rwa [hvd] at this
                        have HIN : Hid ((yesD d s yt yn).id = 5 ∧ (yesD d s yt yn).parts = z1) := ⟨HID.out, HPR.out⟩
                        have HAB : Hid (ltS a0 b0 yt yn) := cmp_above hgb.2
                        have HSK : Hid (s < d.votes.length) := by show _ < _; rw [← HO.out.ys, HYL.out]; exact hsk
                        have HSY : Hid (s < ys.length) := by show _ < _; rw [HYL.out]; exact hsk
                        have CX : Hid (∀ u, Calls Try.prog 33 #[.agg #[.int .i64 mt, .int .u8 mn], .agg #[.int .i64 yt, .int .u8 yn]] u fun e w' => e = .returned (.agg #[.int .i64 (mxS mt mn yt yn).1, .int .u8 (mxS mt mn yt yn).2]) ∧ Below u.heap.size u w') := fun u => rmax6_any mt mn yt yn u
                        obtain ⟨dy, hdy⟩ : ∃ x, x = yesD d s yt yn := ⟨_, rfl⟩
                        have HMORE : Hid (∀ al, (ys.set s true).all _root_.id = al → if al = true then OnceC dy a0 b0 (ys.set s true) true true (mxS mt mn yt yn).1 (mxS mt mn yt yn).2 (mxS mt mn yt yn).1 (mxS mt mn yt yn).2 else OnceC dy a0 b0 (ys.set s true) false false (mxS mt mn yt yn).1 (mxS mt mn yt yn).2 wt wn) := fun al hal => by
                          rw [hdy]
                          cases al with
                          | true => exact HO.out.last HHOW.out HSK.out HAB.out hal
                          | false => exact HO.out.more HHOW.out HSK.out HAB.out hal
                        rw [← hdy] at CV HIN
                        generalize (mxS mt mn yt yn).1 = mt2 at *
                        generalize (mxS mt mn yt yn).2 = mn2 at *
                        clear hvd HVD HVP hdy hbad hp hs hys hgb
                        go_wp2_with (first
                          | (have hgo := T1.out; clear hgo; go_at_call 11; refine (CV.out v3 HM3.out).mono ?_; rintro e w5 ⟨rfl, k5⟩; obtain ⟨m5, hbx5, hb5⟩ := HM3.out.call k5; have M5 : Hid (OnceM wA w5 b dy YB MB HB BX ys mt mn wt wn) := m5; obtain ⟨x0, x2, x3, x5, x6⟩ := FX3.out w5 hbx5; have yz := M5.out.y.at_ hzv; have fz := M5.out.y.free s
                             have m6 := m5.setY HSY.out true
                             have M6 : Hid (OnceM wA (w5.setCell ⟨YB, s, none⟩ (.bool true)) b dy YB MB HB BX (ys.set s true) mt mn wt wn) := m6
                             have q0 := m6.m.c0
                             have q1 := m6.m.c1
                             have hyb : BX ≠ YB := fun e => absurd (HBX.out) (by have := M5.out.y.lt; have := HM3.out.y.lt; have := HYBX.out; omega)
                             have hk6 : (w5.setCell ⟨YB, s, none⟩ (.bool true)).heap[BX]? = v3.heap[BX]? := (Below.heap_setCell _ ⟨YB, s, none⟩ _ BX hyb).trans hbx5
                             obtain ⟨z0, z2, z3, z5, z6⟩ := FX3.out (w5.setCell ⟨YB, s, none⟩ (.bool true)) hk6
                             clear m5 hbx5 hb5 k5 T1 m6 hyb hk6)
                          | (have hgo := M6.out; clear hgo; go_at_call 33; refine (CX.out _).mono ?_; rintro e w6 ⟨rfl, hb6⟩; have M6b : Hid (OnceM wA w6 b dy YB MB HB BX (ys.set s true) mt mn wt wn) := M6.out.past hb6; have j0 := M6b.out.m.c0; have j1 := M6b.out.m.c1; have jf0 := M6b.out.m.free 0; have jf1 := M6b.out.m.free 1; clear hb6 M6))
                        have m7 := M6b.out.setM mt2 mn2
                        generalize (w6.setCell ⟨MB, 0, none⟩ (.int .i64 mt2)).setCell ⟨MB, 1, none⟩ (.int .u8 mn2) = vm at m7 ⊢
                        have MM : Hid (OnceM wA vm b dy YB MB HB BX (ys.set s true) mt2 mn2 wt wn) := m7
                        clear m7
                        have HYL2 : Hid ((ys.set s true).length = k) := by show (ys.set s true).length = _; rw [List.length_set]; exact HYL.out
                        go_loopw [18, 19] (fun av qv wr => ∃ q : Nat, av = .bool (((ys.set s true).take q).all _root_.id) ∧ qv = .int .i64 q ∧ q ≤ k ∧ Hid (Below vm.heap.size vm wr)) (fun _ qv _ => k - (intOf qv).toNat)
                        case atStart => exact ⟨0, rfl, rfl, Nat.zero_le _, Below.refl _ _⟩
                        case round =>
                          obtain ⟨q, rfl, rfl, hq, HW3⟩ := hrel
                          have hq0 : (0 : Int) ≤ (q : Int) := by omega
                          by_cases hqlt : q < k
                          · have hq1 : (q : Int) < (k : Int) := by omega
                            obtain ⟨z, hz⟩ : ∃ z, (ys.set s true)[q]? = some z := ⟨_, List.getElem?_eq_getElem (by rw [HYL2.out]; exact hqlt)⟩
                            have yq := (MM.out.past HW3.out).y.at_ hz
                            have HTK : Hid (((ys.set s true).take (q + 1)).all _root_.id = (((ys.set s true).take q).all _root_.id && z)) := by show _ = _; rw [List.take_add_one, hz, List.all_append]; simp
                            obtain ⟨ab, hab⟩ : ∃ a, a = ((ys.set s true).take q).all _root_.id := ⟨_, rfl⟩
                            rw [← hab] at HTK ⊢
                            clear hz hab
                            cases ab with
                            | true =>
                              go_wp2
                              go_roundw
                              case rel => exact ⟨q + 1, by rw [HTK.out]; simp, by go_num, by omega, HW3⟩
                              case measure => simp [intOf]; omega
                            | false =>
                              go_wp2
                              go_roundw
                              case rel => exact ⟨q + 1, by rw [HTK.out]; rfl, by go_num, by omega, HW3⟩
                              case measure => simp [intOf]; omega
                          · obtain rfl : q = k := by omega
                            have hqni : ¬ (q : Int) < (q : Int) := by omega
                            obtain ⟨v7, hv7⟩ : ∃ v : World, v = wr := ⟨wr, rfl⟩
                            subst hv7
                            have M7 : Hid (OnceM wA v7 b dy YB MB HB BX (ys.set s true) mt2 mn2 wt wn) := MM.out.past HW3.out
                            have HTE0 : Hid ((ys.set s true).take q = ys.set s true) := List.take_of_length_le (by rw [HYL2.out]; exact Nat.le_refl _)
                            rw [HTE0.out]
                            obtain ⟨al, hal⟩ : ∃ a, a = (ys.set s true).all _root_.id := ⟨_, rfl⟩
                            rw [← hal]
                            cases al with
                            | false =>
                              have O7 : Hid (OnceC dy a0 b0 (ys.set s true) false false mt2 mn2 wt wn) := by have := HMORE.out false hal.symm; simp at this; exact this
                              clear hal
                              have hte := O7.out.tells
                              rw [HIN.out.1] at hte
                              have HTE : Hid (decC [dy] 5 = (false, false, wt, wn)) := hte.1
                              clear hte
                              go_wp2_with (first
                                | (have hgo := HTE.out; clear hgo; go_at_call 13; refine (M7.out.kd.decision HTE.out I5.out).mono ?_; rintro e w8 ⟨rfl, hb8⟩; have M8 : Hid (OnceM wA (w8.alloc (.cells #[.int .i64 wt, .int .u8 wn] 28)) b dy YB MB HB BX (ys.set s true) mt2 mn2 wt wn) := (M7.out.past hb8).past (alloc_belowC _ _); have g0 := M8.out.h.c0; have g1 := M8.out.h.c1; obtain ⟨n0, n1⟩ := HSP.out _ M8.out.kd.below; clear hb8 HTE))
                              go_roundw
                              case rel => exact ⟨i + 1, false, false, rfl, rfl, by go_num, HI1.out, ⟨dy, (ys.set s true), mt2, mn2, wt, wn, M8.out.back, O7.out, HIN.out.1, HIN.out.2⟩⟩
                              case measure => have := HI1.out; simp [intOf]; omega
                            | true =>
                              have O7 : Hid (OnceC dy a0 b0 (ys.set s true) true true mt2 mn2 mt2 mn2) := by have := HMORE.out true hal.symm; simp at this; exact this
                              clear hal
                              go_wp2
                              refine wp_region_noPanic ?_
                              refine region_up 3 (fun u => Below v7.heap.size v7 u) (by kernel_rfl) ?_ (fun hHeld => ?_)
                              · exact (Below.refl _ _).drew
                              refine up_take (i := 0) (v := ?_) (by kernel_rfl) (by kernel_rfl) (by kernel_rfl) rfl (by kernel_rfl) (by kernel_rfl) (by kernel_rfl) (fun _ _ _ h => h) (Or.inl ⟨by rfl, ?_⟩) hHeld ?_
                              rotate_left
                              · intro u hSu
                                have g0 := (M7.out.past hSu).m.c0; have g1 := (M7.out.past hSu).m.c1
                                (go_simp) <;> (with_reducible rfl)
                              change wpUp _ _ _ _ _ _ _ _ (Act.put _ (some 134) _) _
                              simp only [Act.put, List.setIfInBounds_toArray, List.set_cons_zero, List.set_cons_succ]
                              refine up_take (i := 1) (v := ?_) (by kernel_rfl) (by kernel_rfl) (by kernel_rfl) rfl (by kernel_rfl) (by kernel_rfl) (by kernel_rfl) (fun _ _ _ h => h) (Or.inl ⟨by rfl, ?_⟩) hHeld ?_
                              rotate_left
                              · intro u hSu
                                (go_simp) <;> (with_reducible rfl)
                              change wpUp _ _ _ _ _ _ _ _ (Act.put _ (some 9) _) _
                              simp only [Act.put, List.setIfInBounds_toArray, List.set_cons_zero, List.set_cons_succ]
                              refine up_take (i := 2) (v := ?_) (by kernel_rfl) (by kernel_rfl) (by kernel_rfl) rfl (by kernel_rfl) (by kernel_rfl) (by kernel_rfl) (fun _ _ _ h => h) (Or.inl ⟨by rfl, ?_⟩) hHeld ?_
                              rotate_left
                              · intro u hSu
                                (go_simp) <;> (with_reducible rfl)
                              change wpUp _ _ _ _ _ _ _ _ (Act.put _ (some 10) _) _
                              simp only [Act.put, List.setIfInBounds_toArray, List.set_cons_zero, List.set_cons_succ]
                              refine up_ready (rs := [3]) (by kernel_rfl) (by simp) ?_
                              refine AllUp.that rfl (fun K hK => ?_) AllUp.nil
                              rw [if_pos (by rfl)]; refine wp_store_mid 28 _ _ rfl HB 0 #[.int .i64 mt2, .int .u8 mn2] rfl rfl (M7.out.past hHeld).h.there (by rw [info_stL]; rfl) (all_oneCell_toArray (fun u hu => by simp at hu; rcases hu with rfl | rfl <;> rfl)) ?_; refine hK.out _ _ ?_; clear hK K
                              refine up_done (by kernel_rfl) ?_
                              refine NoPanic.normal ?_
                              have m9 : OnceM wA (v7.drew.setCells HB 0 (#[.int .i64 mt2, .int .u8 mn2] : Array Value).toList) b dy YB MB HB BX (ys.set s true) mt2 mn2 mt2 mn2 := (M7.out.past (Below.refl _ _).drew).setH mt2 mn2
                              generalize v7.drew.setCells HB 0 (#[.int .i64 mt2, .int .u8 mn2] : Array Value).toList = vh at m9 ⊢
                              have MH : Hid (OnceM wA vh b dy YB MB HB BX (ys.set s true) mt2 mn2 mt2 mn2) := m9
                              clear m9
                              have hte := O7.out.tells
                              rw [HIN.out.1] at hte
                              have HTE : Hid (decC [dy] 5 = (true, true, mt2, mn2)) := hte.1
                              obtain ⟨xq, hxq⟩ : ∃ x, x = cmpS mt2 mn2 a0 b0 := ⟨_, rfl⟩
                              have CQ : Hid (∀ u, Calls Try.prog 34 #[.agg #[.int .i64 mt2, .int .u8 mn2], .agg #[.int .i64 a0, .int .u8 b0]] u fun e w' => e = .returned (.int .i64 xq) ∧ Below u.heap.size u w') := fun u => by rw [hxq]; exact rcmp6_any mt2 mn2 a0 b0 u
                              have dxq : decide (xq ≤ 0) = false := decide_eq_false (by rw [hxq]; exact hte.2 rfl)
                              clear hxq
                              clear hte
                              go_wp2_with (first
                                | (have hgo := HTE.out; clear hgo; go_at_call 13; refine (MH.out.kd.decision HTE.out I5.out).mono ?_; rintro e w8 ⟨rfl, hb8⟩; have M8 : Hid (OnceM wA (w8.alloc (.cells #[.int .i64 mt2, .int .u8 mn2] 28)) b dy YB MB HB BX (ys.set s true) mt2 mn2 mt2 mn2) := (MH.out.past hb8).past (alloc_belowC _ _); have g0 := M8.out.h.c0; have g1 := M8.out.h.c1; obtain ⟨n0, n1⟩ := HSP.out _ M8.out.kd.below; clear hb8 HTE)
                                | (go_at_call 34; refine (CQ.out _).mono ?_; rintro e w9 ⟨rfl, hb9⟩; have M9 : Hid (OnceM wA w9 b dy YB MB HB BX (ys.set s true) mt2 mn2 mt2 mn2) := M8.out.past hb9; clear hb9))
                              go_roundw
                              case rel => exact ⟨i + 1, true, true, rfl, rfl, by go_num, HI1.out, ⟨dy, (ys.set s true), mt2, mn2, mt2, mn2, M9.out.back, O7.out, HIN.out.1, HIN.out.2⟩⟩
                              case measure => have := HI1.out; simp [intOf]; omega
                  have ob : (op == 1) = false := by simpa using o1
                  by_cases o2 : op = 2
                  · have ob2 : (op == 2) = true := by simpa using o2
                    clear o1 o2 CV CGV HVD HVP HGP
                    have HIN : Hid (dk.id = 5 ∧ dk.parts = z1) := ⟨HKP.out.1, HKP.out.2.1⟩
                    have HON : Hid (OnceC dk a0 b0 ys false false mt mn wt wn) := HKP.out.2.2
                    clear HKP
                    go_wp2_with (first
                      | (have hgo := T1.out; clear hgo; go_at_call 12; refine (CK.out v3 HM3.out).mono ?_; rintro e w5 ⟨rfl, k5⟩; obtain ⟨m5, hbx5, hb5⟩ := HM3.out.call k5; have M5 : Hid (OnceM wA w5 b dk YB MB HB BX ys mt mn wt wn) := m5; clear m5 hbx5 hb5 k5 T1))
                    have HYL2 : Hid ((ys).length = k) := HYL.out
                    go_loopw [18, 19] (fun av qv wr => ∃ q : Nat, av = .bool (((ys).take q).all _root_.id) ∧ qv = .int .i64 q ∧ q ≤ k ∧ Hid (Below w5.heap.size w5 wr)) (fun _ qv _ => k - (intOf qv).toNat)
                    case atStart => exact ⟨0, rfl, rfl, Nat.zero_le _, Below.refl _ _⟩
                    case round =>
                      obtain ⟨q, rfl, rfl, hq, HW3⟩ := hrel
                      have hq0 : (0 : Int) ≤ (q : Int) := by omega
                      by_cases hqlt : q < k
                      · have hq1 : (q : Int) < (k : Int) := by omega
                        obtain ⟨z, hz⟩ : ∃ z, (ys)[q]? = some z := ⟨_, List.getElem?_eq_getElem (by rw [HYL2.out]; exact hqlt)⟩
                        have yq := (M5.out.past HW3.out).y.at_ hz
                        have HTK : Hid (((ys).take (q + 1)).all _root_.id = (((ys).take q).all _root_.id && z)) := by show _ = _; rw [List.take_add_one, hz, List.all_append]; simp
                        obtain ⟨ab, hab⟩ : ∃ a, a = ((ys).take q).all _root_.id := ⟨_, rfl⟩
                        rw [← hab] at HTK ⊢
                        clear hz hab
                        cases ab with
                        | true =>
                          go_wp2
                          go_roundw
                          case rel => exact ⟨q + 1, by rw [HTK.out]; simp, by go_num, by omega, HW3⟩
                          case measure => simp [intOf]; omega
                        | false =>
                          go_wp2
                          go_roundw
                          case rel => exact ⟨q + 1, by rw [HTK.out]; rfl, by go_num, by omega, HW3⟩
                          case measure => simp [intOf]; omega
                      · obtain rfl : q = k := by omega
                        have hqni : ¬ (q : Int) < (q : Int) := by omega
                        obtain ⟨v7, hv7⟩ : ∃ v : World, v = wr := ⟨wr, rfl⟩
                        subst hv7
                        have M7 : Hid (OnceM wA v7 b dk YB MB HB BX (ys) mt mn wt wn) := M5.out.past HW3.out
                        have HTE0 : Hid ((ys).take q = ys) := List.take_of_length_le (by rw [HYL2.out]; exact Nat.le_refl _)
                        rw [HTE0.out]
                        have hal : (ys).all _root_.id = false := by rw [HON.out.ys]; exact HON.out.open_ (by have := HON.out.kn; simpa using this.symm)
                        rw [hal]
                        clear hal
                        have hte := HON.out.tells
                        rw [HIN.out.1] at hte
                        have HTE : Hid (decC [dk] 5 = (false, false, wt, wn)) := hte.1
                        clear hte
                        go_wp2_with (first
                          | (have hgo := HTE.out; clear hgo; go_at_call 13; refine (M7.out.kd.decision HTE.out I5.out).mono ?_; rintro e w8 ⟨rfl, hb8⟩; have M8 : Hid (OnceM wA (w8.alloc (.cells #[.int .i64 wt, .int .u8 wn] 28)) b dk YB MB HB BX (ys) mt mn wt wn) := (M7.out.past hb8).past (alloc_belowC _ _); have g0 := M8.out.h.c0; have g1 := M8.out.h.c1; obtain ⟨n0, n1⟩ := HSP.out _ M8.out.kd.below; clear hb8 HTE))
                        go_roundw
                        case rel => exact ⟨i + 1, false, false, rfl, rfl, by go_num, HI1.out, ⟨dk, (ys), mt, mn, wt, wn, M8.out.back, HON.out, HIN.out.1, HIN.out.2⟩⟩
                        case measure => have := HI1.out; simp [intOf]; omega
                  have ob2 : (op == 2) = false := by simpa using o2
                  by_cases o3 : op = 3
                  · have ob3 : (op == 3) = true := by simpa using o3
                    clear o1 o2 o3 CV CK HVD HVP HKP
                    have HIN : Hid (dg.id = 5 ∧ dg.parts = z1) := ⟨HGP.out.1, HGP.out.2.1⟩
                    have HON : Hid (OnceC dg a0 b0 ys true false mt mn wt wn) := HGP.out.2.2
                    clear HGP
                    go_wp2_with (first
                      | (have hgo := T1.out; clear hgo; go_at_call 16; refine (CGV.out v3 HM3.out).mono ?_; rintro e w5 ⟨rfl, k5⟩; obtain ⟨m5, hbx5, hb5⟩ := HM3.out.call k5; have M5 : Hid (OnceM wA w5 b dg YB MB HB BX ys mt mn wt wn) := m5; clear m5 hbx5 hb5 k5 T1))
                    have HYL2 : Hid ((ys).length = k) := HYL.out
                    go_loopw [18, 19] (fun av qv wr => ∃ q : Nat, av = .bool (((ys).take q).all _root_.id) ∧ qv = .int .i64 q ∧ q ≤ k ∧ Hid (Below w5.heap.size w5 wr)) (fun _ qv _ => k - (intOf qv).toNat)
                    case atStart => exact ⟨0, rfl, rfl, Nat.zero_le _, Below.refl _ _⟩
                    case round =>
                      obtain ⟨q, rfl, rfl, hq, HW3⟩ := hrel
                      have hq0 : (0 : Int) ≤ (q : Int) := by omega
                      by_cases hqlt : q < k
                      · have hq1 : (q : Int) < (k : Int) := by omega
                        obtain ⟨z, hz⟩ : ∃ z, (ys)[q]? = some z := ⟨_, List.getElem?_eq_getElem (by rw [HYL2.out]; exact hqlt)⟩
                        have yq := (M5.out.past HW3.out).y.at_ hz
                        have HTK : Hid (((ys).take (q + 1)).all _root_.id = (((ys).take q).all _root_.id && z)) := by show _ = _; rw [List.take_add_one, hz, List.all_append]; simp
                        obtain ⟨ab, hab⟩ : ∃ a, a = ((ys).take q).all _root_.id := ⟨_, rfl⟩
                        rw [← hab] at HTK ⊢
                        clear hz hab
                        cases ab with
                        | true =>
                          go_wp2
                          go_roundw
                          case rel => exact ⟨q + 1, by rw [HTK.out]; simp, by go_num, by omega, HW3⟩
                          case measure => simp [intOf]; omega
                        | false =>
                          go_wp2
                          go_roundw
                          case rel => exact ⟨q + 1, by rw [HTK.out]; rfl, by go_num, by omega, HW3⟩
                          case measure => simp [intOf]; omega
                      · obtain rfl : q = k := by omega
                        have hqni : ¬ (q : Int) < (q : Int) := by omega
                        obtain ⟨v7, hv7⟩ : ∃ v : World, v = wr := ⟨wr, rfl⟩
                        subst hv7
                        have M7 : Hid (OnceM wA v7 b dg YB MB HB BX (ys) mt mn wt wn) := M5.out.past HW3.out
                        have HTE0 : Hid ((ys).take q = ys) := List.take_of_length_le (by rw [HYL2.out]; exact Nat.le_refl _)
                        rw [HTE0.out]
                        obtain ⟨al, hal⟩ : ∃ a, a = (ys).all _root_.id := ⟨_, rfl⟩
                        rw [← hal]
                        clear hal
                        cases al with
                        | false =>
                          have hte := HON.out.tells
                          rw [HIN.out.1] at hte
                          have HTE : Hid (decC [dg] 5 = (true, false, wt, wn)) := hte.1
                          clear hte
                          go_wp2_with (first
                            | (have hgo := HTE.out; clear hgo; go_at_call 13; refine (M7.out.kd.decision HTE.out I5.out).mono ?_; rintro e w8 ⟨rfl, hb8⟩; have M8 : Hid (OnceM wA (w8.alloc (.cells #[.int .i64 wt, .int .u8 wn] 28)) b dg YB MB HB BX (ys) mt mn wt wn) := (M7.out.past hb8).past (alloc_belowC _ _); have g0 := M8.out.h.c0; have g1 := M8.out.h.c1; obtain ⟨n0, n1⟩ := HSP.out _ M8.out.kd.below; clear hb8 HTE))
                          go_roundw
                          case rel => exact ⟨i + 1, true, false, rfl, rfl, by go_num, HI1.out, ⟨dg, (ys), mt, mn, wt, wn, M8.out.back, HON.out, HIN.out.1, HIN.out.2⟩⟩
                          case measure => have := HI1.out; simp [intOf]; omega
                        | true =>
                          have hte := HON.out.tells
                          rw [HIN.out.1] at hte
                          have HTE : Hid (decC [dg] 5 = (true, false, wt, wn)) := hte.1
                          clear hte
                          go_wp2_with (first
                            | (have hgo := HTE.out; clear hgo; go_at_call 13; refine (M7.out.kd.decision HTE.out I5.out).mono ?_; rintro e w8 ⟨rfl, hb8⟩; have M8 : Hid (OnceM wA (w8.alloc (.cells #[.int .i64 wt, .int .u8 wn] 28)) b dg YB MB HB BX (ys) mt mn wt wn) := (M7.out.past hb8).past (alloc_belowC _ _); have g0 := M8.out.h.c0; have g1 := M8.out.h.c1; obtain ⟨n0, n1⟩ := HSP.out _ M8.out.kd.below; clear hb8 HTE))
                          go_roundw
                          case rel => exact ⟨i + 1, true, false, rfl, rfl, by go_num, HI1.out, ⟨dg, (ys), mt, mn, wt, wn, M8.out.back, HON.out, HIN.out.1, HIN.out.2⟩⟩
                          case measure => have := HI1.out; simp [intOf]; omega
                  have ob3 : (op == 3) = false := by simpa using o3
                  clear o1 o2 o3 CV CK CGV HVD HVP HKP HGP T1
                  go_wp2
                  have HYL2 : Hid ((ys).length = k) := HYL.out
                  go_loopw [18, 19] (fun av qv wr => ∃ q : Nat, av = .bool (((ys).take q).all _root_.id) ∧ qv = .int .i64 q ∧ q ≤ k ∧ Hid (Below v3.heap.size v3 wr)) (fun _ qv _ => k - (intOf qv).toNat)
                  case atStart => exact ⟨0, rfl, rfl, Nat.zero_le _, Below.refl _ _⟩
                  case round =>
                    obtain ⟨q, rfl, rfl, hq, HW3⟩ := hrel
                    have hq0 : (0 : Int) ≤ (q : Int) := by omega
                    by_cases hqlt : q < k
                    · have hq1 : (q : Int) < (k : Int) := by omega
                      obtain ⟨z, hz⟩ : ∃ z, (ys)[q]? = some z := ⟨_, List.getElem?_eq_getElem (by rw [HYL2.out]; exact hqlt)⟩
                      have yq := (HM3.out.past HW3.out).y.at_ hz
                      have HTK : Hid (((ys).take (q + 1)).all _root_.id = (((ys).take q).all _root_.id && z)) := by show _ = _; rw [List.take_add_one, hz, List.all_append]; simp
                      obtain ⟨ab, hab⟩ : ∃ a, a = ((ys).take q).all _root_.id := ⟨_, rfl⟩
                      rw [← hab] at HTK ⊢
                      clear hz hab
                      cases ab with
                      | true =>
                        go_wp2
                        go_roundw
                        case rel => exact ⟨q + 1, by rw [HTK.out]; simp, by go_num, by omega, HW3⟩
                        case measure => simp [intOf]; omega
                      | false =>
                        go_wp2
                        go_roundw
                        case rel => exact ⟨q + 1, by rw [HTK.out]; rfl, by go_num, by omega, HW3⟩
                        case measure => simp [intOf]; omega
                    · obtain rfl : q = k := by omega
                      have hqni : ¬ (q : Int) < (q : Int) := by omega
                      obtain ⟨v7, hv7⟩ : ∃ v : World, v = wr := ⟨wr, rfl⟩
                      subst hv7
                      have M7 : Hid (OnceM wA v7 b d YB MB HB BX (ys) mt mn wt wn) := HM3.out.past HW3.out
                      have HTE0 : Hid ((ys).take q = ys) := List.take_of_length_le (by rw [HYL2.out]; exact Nat.le_refl _)
                      rw [HTE0.out]
                      have hal : (ys).all _root_.id = false := by rw [HO.out.ys]; exact HO.out.open_ (by have := HO.out.kn; simpa using this.symm)
                      rw [hal]
                      clear hal
                      have hte := HO.out.tells
                      rw [HIP.out.1] at hte
                      have HTE : Hid (decC [d] 5 = (false, false, wt, wn)) := hte.1
                      clear hte
                      go_wp2_with (first
                        | (have hgo := HTE.out; clear hgo; go_at_call 13; refine (M7.out.kd.decision HTE.out I5.out).mono ?_; rintro e w8 ⟨rfl, hb8⟩; have M8 : Hid (OnceM wA (w8.alloc (.cells #[.int .i64 wt, .int .u8 wn] 28)) b d YB MB HB BX (ys) mt mn wt wn) := (M7.out.past hb8).past (alloc_belowC _ _); have g0 := M8.out.h.c0; have g1 := M8.out.h.c1; obtain ⟨n0, n1⟩ := HSP.out _ M8.out.kd.below; clear hb8 HTE))
                      go_roundw
                      case rel => exact ⟨i + 1, false, false, rfl, rfl, by go_num, HI1.out, ⟨d, (ys), mt, mn, wt, wn, M8.out.back, HO.out, HIP.out.1, HIP.out.2⟩⟩
                      case measure => have := HI1.out; simp [intOf]; omega
      · obtain rfl : i = len2 := by omega
        have hni : ¬ (i : Int) < (i : Int) := by omega
        go_wp2
        go_ret
        exact ⟨rfl, HBR.out⟩

set_option maxRecDepth 100000 in
theorem lifted (os : Os) (started : os.Started) (H : Type) (enc : TypeId × Value → H) :
    ReturnsInHanded {} Try.checked os 5 .any (Rows.coordOnceSpec.pre6 enc Try.prog Try.f5 Rows.coordOnceRow.domain false) (Rows.coordOnceSpec.post enc Try.prog Try.f5 false true false false) := by
  refine returnsInHanded_of_change (C := Try.checked) own started (by kernel_rfl) Try.func5
    (ChangeSpec.witness6 (enc := enc) (C := Try.checked) false ⟨#[], #[.agg #[.int .i64 0, .int .u8 0], .slice none 0 0, .slice none 0 0], []⟩ 8 (by kernel_rfl) (by kernel_rfl) (by kernel_rfl) (by kernel_rfl)) ?_
  intro W base args ds gs before hval0 hW hcnd _
  have hval : ∀ (j : Nat) t v, Try.f5.params[j]? = some t → args[j]? = some v → Value.okWide Try.prog W .any base t v := hval0
  have hW' := hW
  obtain ⟨p, q, hA0, hV, rfl, hfz, hnd⟩ := hW
  have hA : DataW.TrodAll enc Try.prog W 0 (fun _ => true) true Try.f5.params.toList args.toList ds p := hA0
  rw [Try.params5] at hA hval
  obtain ⟨v0, vs0, d0, ds0, p0, q0, hargs, rfl, rfl, h0, r0⟩ := trodAll_cons hA
  obtain ⟨v1, vs1, d1, ds1, p1, q1, rfl, rfl, rfl, h1, r1⟩ := trodAll_cons r0
  obtain ⟨v2, vs2, d2, ds2, p2, q2, rfl, rfl, rfl, h2, r2⟩ := trodAll_cons r1
  obtain ⟨rfl, rfl, rfl⟩ := trodAll_nil r2
  obtain rfl : args = #[v0, v1, v2] := by cases args; simp_all
  obtain ⟨rfl, rfl⟩ := trodVars_none hV
  have k0 := h0
  have lt0 : ∀ x ∈ p0, x.block < W.heap.size := by obtain ⟨m, hm⟩ := k0; exact DataW.trod_lt m _ _ _ hm
  obtain ⟨a0, b0, rfl, w0, x0⟩ := struct2_open Try.underlying28 Try.underlying2 Try.underlying5 rfl rfl (by kernel_rfl) (by kernel_rfl) (by kernel_rfl) (hval 0 28 v0 rfl rfl) h0
  obtain ⟨a1, len1, cap1, rfl⟩ := okWide_slice Try.underlying35 (hval 1 35 v1 rfl rfl)
  have k1 := h1
  have lt1 : ∀ x ∈ p1, x.block < W.heap.size := by obtain ⟨m, hm⟩ := k1; exact DataW.trod_lt m _ _ _ hm
  obtain ⟨z1, l1, rm1, _, w1⟩ : ∃ zs : List Int, zs.length = len1 ∧ len1 ≤ cap1 ∧ len1 ≤ maxLen ∧ IntsAt W a1 zs := by
    obtain ⟨fuel, hf⟩ := h1
    exact ints_openC Try.underlying35 Try.underlying3 (by kernel_rfl) hf
  obtain ⟨a2, len2, cap2, rfl⟩ := okWide_slice Try.underlying47 (hval 2 47 v2 rfl rfl)
  have k2 := h2
  have lt2 : ∀ x ∈ p2, x.block < W.heap.size := by obtain ⟨m, hm⟩ := k2; exact DataW.trod_lt m _ _ _ hm
  obtain ⟨z2, l2, w2⟩ : ∃ xs : List DAct, xs.length = len2 ∧ DActsOf W a2 cap2 xs := by
    obtain ⟨fuel, hf⟩ := h2
    exact dacts_open Try.underlying47 Try.underlying53 Try.underlying3 Try.underlying2 Try.underlying35 Try.underlying3 Try.underlying4 rfl rfl Try.underlying2 Try.underlying5 Try.underlying86 Try.underlying84 Try.underlying5 Try.underlying9 Try.underlying4 Try.underlying28 Try.underlying37 Try.underlying3 Try.underlying2 Try.underlying28 Try.underlying28 Try.underlying34 Try.underlying4 Try.underlying35 Try.underlying3 rfl rfl rfl rfl rfl rfl rfl rfl rfl rfl rfl rfl rfl rfl rfl rfl rfl rfl rfl (by kernel_rfl) (by kernel_rfl) (by kernel_rfl) (by kernel_rfl) (by kernel_rfl) (by kernel_rfl) (by kernel_rfl) (by kernel_rfl) (by kernel_rfl) (by kernel_rfl) (by kernel_rfl) (by kernel_rfl) (by kernel_rfl) (by kernel_rfl) (by kernel_rfl) (by kernel_rfl) (by kernel_rfl) (by kernel_rfl) (by kernel_rfl) (by kernel_rfl) (by kernel_rfl) (by kernel_rfl) (by kernel_rfl) hf
  clear hA0 hval0
  refine (walk a0 b0 a1 len1 cap1 z1 a2 len2 cap2 z2 W w0 x0 l1 w1 rm1 l2 w2).mono fun e W' ⟨he, bel⟩ => ?_
  subst he
  exact ⟨_, rfl, _, _, _, [], _, [], hW', trodAll_mk1 (shut_bool Try.underlying4 _), (trodAll_cons_mk (Below.trod laidOut (by kernel_rfl) (of_decide_eq_true (by kernel_rfl)) k0 bel lt0) (trodAll_cons_mk (Below.trod laidOut (by kernel_rfl) (of_decide_eq_true (by kernel_rfl)) k1 bel lt1) (trodAll_cons_mk (Below.trod laidOut (by kernel_rfl) (of_decide_eq_true (by kernel_rfl)) k2 bel lt2) trodAll_mk0))), rfl, bel.frame _, fun h => by cases h⟩

theorem over : Rows.coordOnceRow.holds Try.pinned (OpenSpec.ofChange Rows.coordOnceSpec) :=
  OpenClaim.holds_of_wide 5 Try.f5 rfl rfl rfl rfl rfl rfl rfl ⟨rfl, rfl, rfl, rfl, rfl⟩ rfl rfl rfl rfl rfl (by kernel_rfl) Try.func5 (by kernel_rfl)
    (of_decide_eq_true (by kernel_rfl)) (by unfold Func.isWrapper; first | (rw [if_pos (by decide +kernel)]; kernel_rfl) | (rw [if_neg (by decide +kernel)]; exact ⟨rfl, rfl⟩))
    (fun os started H enc _ => lifted os started H enc)
theorem proved : Rows.CoordOnceSaid := over
#print axioms proved
end Go.Proofs.Ytcppihpehipelaa.coordOnce
namespace Go.Proofs.Ytcppihpehipelaa
/-- CoordOnce, as given. -/
theorem coordOnce_holds : Rows.CoordOnceSaid := coordOnce.proved
end Go.Proofs.Ytcppihpehipelaa
