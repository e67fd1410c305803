/-
  PartPlays: any calls: each answer, what is read at any time, how far each is, what stands, are as the document says (of lists of more than 40 acts, of acts of more than 20 writes, of values of more than 250 bytes, of more than 12 parts the statement asks nothing).
-/
import Derived.Test.YtileidbdmpeciaaGreatRows
import Derived.Test.YtileidbdmpeciaaGreatAu82
import Derived.Test.YtileidbdmpeciaaGreatAu113
import Derived.Test.YtileidbdmpeciaaGreatAu81
import Derived.WalkKit
import Derived.ProofKit
import Derived.OpenShut
import Derived.ShutString
import Derived.ChangeOld
import Derived.Below
import Derived.Carry
namespace Go.Proofs.YtileidbdmpeciaaGreat.partPlays
open Go.ChangeShapes Go.WideShapes Go.ChangeAt Go.RowKit
open Go.ChangeMaps (open_string shut_string)
set_option linter.unusedVariables false

theorem own : ownKnob Tryz.prog.godebug = none := by kernel_rfl
theorem laidOut : laidOutB Tryz.prog = true := by kernel_rfl
/-- A slice of integers that came in: nil, or a row of 'cap' cells, of which the first 'len' are its elements. -/
def IsRow (k : IntKind) (w : World) (a : Option Addr) (len cap : Nat) (zs : List Int) : Prop :=
  (a = none ∧ len = 0 ∧ cap = 0 ∧ zs = []) ∨
  ∃ x, a = some x ∧ len ≤ cap ∧ cap ≤ maxLen ∧ zs.length = cap ∧ (∀ i, i < zs.length → w.cell? (x.add i) = some (.int k (zs.getD i 0))) ∧ ∀ n ∈ zs, (Lit.int k n).wf = true

set_option maxRecDepth 20000 in
set_option maxHeartbeats 32000000 in
theorem walk (a0 : Option Addr) (len0 cap0 : Nat) (z0 : List QAct) (z1 : List Int) (z2 : List Int) (z3 : List Int) (a4 b4 : Int) (a5 : Int) (a6 : Int) (w : World) (l0 : z0.length = len0) (w0 : QActsOf w a0 cap0 z0) (w1 : IsArr .u8 16 z1) (w2 : IsArr .u8 16 z2) (w3 : IsArr .u8 16 z3) (w4 : (Lit.int .i64 a4).wf = true) (x4 : (Lit.int .u8 b4).wf = true) (w5 : (Lit.int .i64 a5).wf = true) (w6 : (Lit.int .i64 a6).wf = true) :
    Calls Tryz.prog 4 #[.slice a0 len0 cap0, .agg (z1.map (Value.int .u8)).toArray, .agg (z2.map (Value.int .u8)).toArray, .agg (z3.map (Value.int .u8)).toArray, .agg #[.int .i64 a4, .int .u8 b4], .int .i64 a5, .int .i64 a6] w fun e w' => e = .returned (.bool true) ∧ Below w.heap.size w w' := by
  have by4 := bounds_i64 w4
  have by4n := bounds_u8 x4
  have by6 := bounds_i64 w6
  have KY1 : Hid (Ky z1) := w1.ky
  have KY2 : Hid (Ky z2) := w2.ky
  have KY3 : Hid (Ky z3) := w3.ky
  have AW : Hid (∀ u, Calls Tryz.prog 8 #[] u fun e w' => e = .returned (.bool true) ∧ Below u.heap.size u w') := fun u => qawake_any u
  have HL : Hid (z0.length = len0) := l0
  have HA : Hid (QActsOf w a0 cap0 z0) := w0
  have hcap : len0 ≤ cap0 := by rw [← l0]; exact w0.room
  obtain ⟨W0, hW0⟩ : ∃ W0, W0 = (((w.alloc (.cells (kcs z1) 38)).alloc (.cells (kcs z2) 38)).alloc (.cells (kcs z3) 38)).alloc (.cells #[.int .i64 a4, .int .u8 b4] 28) := ⟨_, rfl⟩
  have HW0 : Hid ((((w.alloc (.cells (kcs z1) 38)).alloc (.cells (kcs z2) 38)).alloc (.cells (kcs z3) 38)).alloc (.cells #[.int .i64 a4, .int .u8 b4] 28) = W0) := hW0.symm
  have HKS : Hid (KqB w W0 z1 z2 z3 a4 b4) := by rw [hW0]; exact KqB.made w KY1.out KY2.out KY3.out a4 b4
  have HB0 : Hid (Below w.heap.size w W0) := HKS.out.below
  have TB : Hid (∀ u, Below W0.heap.size W0 u → KqB w u z1 z2 z3 a4 b4) := fun u hb => HKS.out.past hb
  have HBW0 : Hid (∀ u, Below W0.heap.size W0 u → Below w.heap.size w u) := fun u h => HB0.out.trans (h.mono HB0.out.size)
  have CN : Hid (∀ u, Below W0.heap.size W0 u → Calls Tryz.prog 9 #[] u fun e w' => ∃ p, e = .returned (.pointer (some ⟨p, 0, none⟩)) ∧ PaX W0 w' p ⟨[], [], []⟩ 0) := fun u hb => xanewp hb
  have CNR : Hid (∀ u p, PaX W0 u p ⟨[], [], []⟩ 0 → Calls Tryz.prog 21 #[] u fun e w' => ∃ q s t, e = .returned (.pointer (some ⟨q, 0, none⟩)) ∧ Hid (DuoQ W0 w' p q s t ⟨[], [], []⟩ ⟨[], [], []⟩ 0 noFoot)) := fun u p h => (rnewpart_any u).mono fun e w' ⟨q, s, t, h1, h2, h3⟩ => ⟨q, s, t, h1, duoq_new h h2 h3⟩
  clear w0 w1 w2 w3 w4 x4 w5 w6 l0 hW0 HKS
  by_cases h40 : 40 < len0
  · have b40 : (40 : Int) < (len0 : Int) := by omega
    go_enter Tryz.func4, Tryz.ntmps4
    go_wp2_with ((go_at_call 8; refine (AW.out _).mono ?_; rintro e v1 ⟨rfl, hb1⟩; rw [HW0.out] at hb1; have B1 : Hid (Below W0.heap.size W0 v1) := hb1; clear hb1))
    go_ret
    exact ⟨rfl, HBW0.out _ B1.out⟩
  · have b40 : ¬ (40 : Int) < (len0 : Int) := by omega
    have h40b : len0 ≤ 40 := by omega
    clear h40
    go_enter Tryz.func4, Tryz.ntmps4
    go_wp2_with (first | (go_at_call 8; refine (AW.out _).mono ?_; rintro e v1 ⟨rfl, hb1⟩; rw [HW0.out] at hb1; have B1 : Hid (Below W0.heap.size W0 v1) := hb1; clear hb1) | (have hgo := B1.out; clear hgo; go_at_call 9; refine (CN.out _ B1.out).mono ?_; rintro e v2 ⟨p, rfl, h2⟩; have H2 : Hid (PaX W0 v2 p ⟨[], [], []⟩ 0) := h2; clear h2 B1) | (have hgo := H2.out; clear hgo; go_at_call 21; refine (CNR.out _ _ H2.out).mono ?_; rintro e v3 ⟨q, s, t, rfl, H3⟩; clear H2))
    clear CN CNR AW
    go_loopw [17] (fun iv wr => ∃ i : Nat, iv = .int .i64 i ∧ i ≤ len0 ∧ Hid (∃ P, DuoQ W0 wr p q s t P P (2 * i) noFoot)) (fun iv _ => len0 - (intOf iv).toNat)
    case atStart => exact ⟨0, rfl, Nat.zero_le _, ⟨_, H3.out⟩⟩
    case round =>
      clear H3
      obtain ⟨i, rfl, hi, HP⟩ := hrel
      obtain ⟨P, hP⟩ := HP.out
      have HM : Hid (DuoQ W0 wr p q s t P P (2 * i) noFoot) := hP
      clear hP HP
      have h0 : (0 : Int) ≤ (i : Int) := by omega
      have HBW : Hid (Below w.heap.size w wr) := HBW0.out _ HM.out.below
      by_cases hlt : i < len0
      · have h1 : (i : Int) < (len0 : Int) := by omega
        obtain ⟨y, hy⟩ : ∃ y, z0[i]? = some y := ⟨_, List.getElem?_eq_getElem (by rw [HL.out]; exact hlt)⟩
        obtain ⟨b, off, rfl, hay, hok⟩ := HA.out.act hy
        have HAY : Hid (QActAt wr b (off + i * 18) y) := hay.past HBW.out
        have HOK : Hid (QActOk w y) := hok
        obtain ⟨lg, hlg⟩ : ∃ g, g = longQ y.x.e.l := ⟨_, rfl⟩
        have HLG : Hid (lg = longQ y.x.e.l) := hlg
        obtain ⟨lr, hlr⟩ : ∃ g, g = longQ y.r.r.l := ⟨_, rfl⟩
        have HLR : Hid (lr = longQ y.r.r.l) := hlr
        obtain ⟨N, hN⟩ : ∃ N, N = y.x.e.l.length := ⟨_, rfl⟩
        obtain ⟨ya, hya⟩ : ∃ t, t = y.x.a := ⟨_, rfl⟩
        obtain ⟨yc, hyc⟩ : ∃ t, t = y.x.c := ⟨_, rfl⟩
        obtain ⟨NR, hNR⟩ : ∃ N, N = y.r.r.l.length := ⟨_, rfl⟩
        obtain ⟨ra, hra⟩ : ∃ t, t = y.r.a := ⟨_, rfl⟩
        obtain ⟨rc, hrc⟩ : ∃ t, t = y.r.c := ⟨_, rfl⟩
        obtain ⟨NP, hNP⟩ : ∃ N, N = y.r.r.ps.length := ⟨_, rfl⟩
        obtain ⟨qa, hqa⟩ : ∃ t, t = y.r.pa := ⟨_, rfl⟩
        obtain ⟨qc, hqc⟩ : ∃ t, t = y.r.pc := ⟨_, rfl⟩
        obtain ⟨op, hop⟩ : ∃ t, t = y.op := ⟨_, rfl⟩
        obtain ⟨id, hid⟩ : ∃ t, t = y.x.e.id := ⟨_, rfl⟩
        obtain ⟨at_, hat⟩ : ∃ t, t = y.t := ⟨_, rfl⟩
        obtain ⟨an, han⟩ : ∃ t, t = y.n := ⟨_, rfl⟩
        have HNP : Hid (NP = y.r.r.ps.length) := hNP
        have hNPm : NP ≤ 9223372036854775807 := by rw [hNP]; exact Nat.le_trans hok.rcd.pfew (by unfold maxLen; omega)
        have CLG : Hid (∀ u, Below wr.heap.size wr u → Calls Tryz.prog 22 #[.slice ya N yc] u fun e w' => e = .returned (.bool lg) ∧ w' = u) := fun u hb => by rw [hya, hN, hyc, hlg]; exact qlong_any y.x.a y.x.e.l.length y.x.c y.x.e.l u rfl hok.ent.wr.room hok.ent.wr.few (hok.ent.wr.at_.past (HBW.out.trans (hb.mono HBW.out.size)))
        have CLR : Hid (∀ u, Below wr.heap.size wr u → Calls Tryz.prog 22 #[.slice ra NR rc] u fun e w' => e = .returned (.bool lr) ∧ w' = u) := fun u hb => by rw [hra, hNR, hrc, hlr]; exact qlong_any y.r.a y.r.r.l.length y.r.c y.r.r.l u rfl hok.rcd.wr.room hok.rcd.wr.few (hok.rcd.wr.at_.past (HBW.out.trans (hb.mono HBW.out.size)))
        have FQ : Hid (∀ u c, QMine u c y → u.cell? ⟨c, 0, none⟩ = some (.int .i64 op) ∧ u.cell? ⟨c, 1, none⟩ = some (.int .i64 id) ∧ u.cell? ⟨c, 6, none⟩ = some (.slice ya N yc) ∧ u.cell? ⟨c, 7, none⟩ = some (.int .i64 at_) ∧ u.cell? ⟨c, 8, none⟩ = some (.int .u8 an) ∧ u.cell? ⟨c, 15, none⟩ = some (.slice ra NR rc) ∧ u.cell? ⟨c, 17, none⟩ = some (.slice qa NP qc)) := fun u c hm => by
          have h1 := hm.at_.ent.cells
          have h2 := hm.at_.st
          have h3 := hm.at_.rcd
          have h4 := h3.at 6 _ rfl
          have h5 := h3.at 8 _ rfl
          rw [Nat.zero_add] at h1 h2
          rw [Nat.zero_add] at h4 h5
          rw [hop, hid, hya, hN, hyc, hat, han, hra, hNR, hrc, hqa, hNP, hqc]
          exact ⟨hm.at_.op, h1.1, h1.2.2.2.2.2, h2.1, h2.2, h4, h5⟩
        have FEN : Hid (∀ u, QMine u wr.heap.size y → Lies u (some ⟨wr.heap.size, 1, none⟩) (encE y.x)) := fun u h => h.at_.ent.lies
        have FRC : Hid (∀ u, QMine u wr.heap.size y → Lies u (some ⟨wr.heap.size, 9, none⟩) (encR y.r)) := fun u h => h.at_.rcd
        have hide : I64 id := by rw [hid]; exact hok.ent.ok.id
        have HID : Hid (I64 id) := hide
        have hann : 0 ≤ an ∧ an ≤ 255 := by rw [han]; exact hok.n
        have hmi := QMine.made wr 55 zeroQ
        rw [zeroQ_cells] at hmi
        have HMI : Hid _ := hmi
        clear hmi hlg hlr hN hya hyc hNR hra hrc hNP hqa hqc hop hid hat han hok hay hy hide
        cases lg with
        | true =>
          go_wp2_with (first | ((with_reducible show wpList _ _ _ (Oper.mk (some 48) _ _ _ _ _ :: _) _ _); refine wpList_load_qact 48 (by rfl) (by rfl) _ (by rfl) b (off + i * 18) (by rfl) y HAY.out ?_) | (have hgo := HMI.out; clear hgo; refine wpList_store_qact (.tmp 18) (by rfl) _ (by rfl) wr.heap.size zeroQ y (by rfl) (by rfl) HMI.out ?_; intro u2 hu; have HQ2 : Hid (QMine u2 wr.heap.size y) := hu ▸ HMI.out.store; have HB2 : Hid (Below wr.heap.size wr u2) := hu ▸ below_cells (Nat.le_refl _) ((Below.refl _ _).alloc (Nat.le_refl _) _); obtain ⟨x0, x1, x6, x7, x8, x15, x17⟩ := FQ.out u2 wr.heap.size HQ2.out; clear hu HMI) | (have hgo := CLG.out; clear hgo; go_at_call 22; refine (CLG.out _ HB2.out).mono ?_; rintro e v3 ⟨rfl, hv3⟩; obtain rfl := hv3.symm; clear CLG) | (have hgo := CLR.out; clear hgo; go_at_call 22; refine (CLR.out _ HB2.out).mono ?_; rintro e v3 ⟨rfl, hv3⟩; obtain rfl := hv3.symm; clear CLR))
          go_ret
          exact ⟨rfl, HBW.out.trans (HB2.out.mono HBW.out.size)⟩
        | false =>
          cases lr with
          | true =>
            go_wp2_with (first | ((with_reducible show wpList _ _ _ (Oper.mk (some 48) _ _ _ _ _ :: _) _ _); refine wpList_load_qact 48 (by rfl) (by rfl) _ (by rfl) b (off + i * 18) (by rfl) y HAY.out ?_) | (have hgo := HMI.out; clear hgo; refine wpList_store_qact (.tmp 18) (by rfl) _ (by rfl) wr.heap.size zeroQ y (by rfl) (by rfl) HMI.out ?_; intro u2 hu; have HQ2 : Hid (QMine u2 wr.heap.size y) := hu ▸ HMI.out.store; have HB2 : Hid (Below wr.heap.size wr u2) := hu ▸ below_cells (Nat.le_refl _) ((Below.refl _ _).alloc (Nat.le_refl _) _); obtain ⟨x0, x1, x6, x7, x8, x15, x17⟩ := FQ.out u2 wr.heap.size HQ2.out; clear hu HMI) | (have hgo := CLG.out; clear hgo; go_at_call 22; refine (CLG.out _ HB2.out).mono ?_; rintro e v3 ⟨rfl, hv3⟩; obtain rfl := hv3.symm; clear CLG) | (have hgo := CLR.out; clear hgo; go_at_call 22; refine (CLR.out _ HB2.out).mono ?_; rintro e v3 ⟨rfl, hv3⟩; obtain rfl := hv3.symm; clear CLR))
            go_ret
            exact ⟨rfl, HBW.out.trans (HB2.out.mono HBW.out.size)⟩
          | false =>
            by_cases hp : 12 < NP
            · have bp : (12 : Int) < (NP : Int) := by omega
              go_wp2_with (first | ((with_reducible show wpList _ _ _ (Oper.mk (some 48) _ _ _ _ _ :: _) _ _); refine wpList_load_qact 48 (by rfl) (by rfl) _ (by rfl) b (off + i * 18) (by rfl) y HAY.out ?_) | (have hgo := HMI.out; clear hgo; refine wpList_store_qact (.tmp 18) (by rfl) _ (by rfl) wr.heap.size zeroQ y (by rfl) (by rfl) HMI.out ?_; intro u2 hu; have HQ2 : Hid (QMine u2 wr.heap.size y) := hu ▸ HMI.out.store; have HB2 : Hid (Below wr.heap.size wr u2) := hu ▸ below_cells (Nat.le_refl _) ((Below.refl _ _).alloc (Nat.le_refl _) _); obtain ⟨x0, x1, x6, x7, x8, x15, x17⟩ := FQ.out u2 wr.heap.size HQ2.out; clear hu HMI) | (have hgo := CLG.out; clear hgo; go_at_call 22; refine (CLG.out _ HB2.out).mono ?_; rintro e v3 ⟨rfl, hv3⟩; obtain rfl := hv3.symm; clear CLG) | (have hgo := CLR.out; clear hgo; go_at_call 22; refine (CLR.out _ HB2.out).mono ?_; rintro e v3 ⟨rfl, hv3⟩; obtain rfl := hv3.symm; clear CLR))
              go_ret
              exact ⟨rfl, HBW.out.trans (HB2.out.mono HBW.out.size)⟩
            · have bp : ¬ (12 : Int) < (NP : Int) := by omega
              have HEW : Hid (∀ u, Below W0.heap.size W0 u → EntW u y.x) := fun u hb => HOK.out.ent.w (HBW0.out u hb) HLG.out.symm
              have HRW : Hid (∀ u, Below W0.heap.size W0 u → RcW u y.r) := fun u hb => HOK.out.rcd.w (HBW0.out u hb) HLR.out.symm (by rw [← HNP.out]; omega)
              have CEN : Hid (∀ u, Calls Tryz.prog 24 #[ev y.x] u fun e w' => e = .returned (ev y.x) ∧ Below u.heap.size u w') := fun u => qentv_any y.x u
              have CRC : Hid (∀ u, Calls Tryz.prog 28 #[rcv y.r] u fun e w' => e = .returned (rcv y.r) ∧ Below u.heap.size u w') := fun u => qrcd_any y.r u
              go_upto_block 2 with (first | ((with_reducible show wpList _ _ _ (Oper.mk (some 48) _ _ _ _ _ :: _) _ _); refine wpList_load_qact 48 (by rfl) (by rfl) _ (by rfl) b (off + i * 18) (by rfl) y HAY.out ?_) | (have hgo := HMI.out; clear hgo; refine wpList_store_qact (.tmp 18) (by rfl) _ (by rfl) wr.heap.size zeroQ y (by rfl) (by rfl) HMI.out ?_; intro u2 hu; have HQ2 : Hid (QMine u2 wr.heap.size y) := hu ▸ HMI.out.store; have HB2 : Hid (Below wr.heap.size wr u2) := hu ▸ below_cells (Nat.le_refl _) ((Below.refl _ _).alloc (Nat.le_refl _) _); obtain ⟨x0, x1, x6, x7, x8, x15, x17⟩ := FQ.out u2 wr.heap.size HQ2.out; clear hu HMI) | (have hgo := CLG.out; clear hgo; go_at_call 22; refine (CLG.out _ HB2.out).mono ?_; rintro e v3 ⟨rfl, hv3⟩; obtain rfl := hv3.symm; clear CLG) | (have hgo := CLR.out; clear hgo; go_at_call 22; refine (CLR.out _ HB2.out).mono ?_; rintro e v3 ⟨rfl, hv3⟩; obtain rfl := hv3.symm; clear CLR))
              have HR3 : Hid (RndQ W0 u2 p q s t wr.heap.size P P (2 * i) y) := HM.out.round HB2.out HQ2.out
              clear HM HBW HQ2 HB2 HOK HLG HLR HNP HAY
              generalize wr.heap.size = xb at *
              clear x1 x6 x7 x8 x15 x17
              go_cut [19] (fun ov wx => ov = .bool true ∧ Hid (∃ P', RndQ W0 wx p q s t xb P' P' (2 * (i + 1)) y))
              case first =>
                have h5 : op = 0 ∨ op = 1 ∨ op = 2 ∨ op = 3 ∨ (op ≠ 0 ∧ op ≠ 1 ∧ op ≠ 2 ∧ op ≠ 3) := by omega
                rcases h5 with ho | ho | ho | ho | ho
                · as_aux_lemma =>
                    subst ho
                    obtain ⟨r1, hr1⟩ : ∃ r, r = (prepP P y.x.e).1 := ⟨_, rfl⟩
                    obtain ⟨E2, hE2⟩ : ∃ r, r = (prepP P y.x.e).2 := ⟨_, rfl⟩
                    have CP : Hid (∀ u, RndQ W0 u p q s t xb P P (2 * i) y → Calls Tryz.prog 10 #[.pointer (some ⟨p, 0, none⟩), ev y.x] u fun e w' => e = .returned (.int .i64 r1) ∧ Hid (RndQ W0 w' p q s t xb E2 P (2 * i) y)) := fun u h => by rw [hr1, hE2]; exact rq h (qprep_p h.duo y.x (HEW.out u h.duo.below))
                    have CQ : Hid (∀ u, RndQ W0 u p q s t xb E2 P (2 * i) y → Calls Tryz.prog 23 #[.pointer (some ⟨q, 0, none⟩), ev y.x] u fun e w' => e = .returned (.int .i64 r1) ∧ Hid (RndQ W0 w' p q s t xb E2 E2 (2 * i) y)) := fun u h => by rw [hr1]; have h9 := rq h (qprep_d h.duo y.x (HEW.out u h.duo.below)); rw [← hE2] at h9; exact h9
                    clear hr1 hE2
                    go_wp2
                    refine wp_region_noPanic ?_
                    refine wp_region_held_drew (S := fun u => QMine u xb y) (by kernel_rfl) ?_ (fun hHeld => ?_)
                    · exact (HR3.out.box.past (Below.refl _ _).drew)
                    refine wpAnyH_take (i := 0) (v := ?_) rfl (by kernel_rfl) (by kernel_rfl) (by kernel_rfl) (fun _ _ _ h => h) (Or.inl ⟨by rfl, ?_⟩) hHeld ?_
                    rotate_left
                    · intro u hSu
                      (go_simp) <;> (with_reducible rfl)
                    change wpAnyH _ _ _ _ _ _ _ (Act.put _ (some 82) _) _
                    simp only [Act.put, List.setIfInBounds_toArray, List.set_cons_zero, List.set_cons_succ]
                    refine wpAnyH_take (i := 1) (v := ?_) rfl (by kernel_rfl) (by kernel_rfl) (by kernel_rfl) (fun _ _ _ h => h) (Or.inl ⟨by rfl, ?_⟩) hHeld ?_
                    rotate_left
                    · intro u hSu
                      (go_simp) <;> (with_reducible rfl)
                    change wpAnyH _ _ _ _ _ _ _ (Act.put _ (some 83) _) _
                    simp only [Act.put, List.setIfInBounds_toArray, List.set_cons_zero, List.set_cons_succ]
                    refine wpAnyH_take (i := 2) (v := ev y.x) rfl (by kernel_rfl) (by kernel_rfl) (by kernel_rfl) (fun _ _ _ h => h) (yieldsIf_load_mid (by rfl) _ _ rfl _ _ rfl (encE y.x) _ (fun u hu => (FEN.out u hu).range) Tryz.underlying31 rfl (by rw [info_pent]; rfl)) hHeld ?_
                    change wpAnyH _ _ _ _ _ _ _ (Act.put _ (some 84) _) _
                    simp only [Act.put, List.setIfInBounds_toArray, List.set_cons_zero, List.set_cons_succ]
                    refine wpAnyH_take (i := 4) (v := ?_) rfl (by kernel_rfl) (by kernel_rfl) (by kernel_rfl) (fun _ _ _ h => h) (Or.inl ⟨by rfl, ?_⟩) hHeld ?_
                    rotate_left
                    · intro u hSu
                      (go_simp) <;> (with_reducible rfl)
                    change wpAnyH _ _ _ _ _ _ _ (Act.put _ (some 86) _) _
                    simp only [Act.put, List.setIfInBounds_toArray, List.set_cons_zero, List.set_cons_succ]
                    refine wpAnyH_take (i := 5) (v := ?_) rfl (by kernel_rfl) (by kernel_rfl) (by kernel_rfl) (fun _ _ _ h => h) (Or.inl ⟨by rfl, ?_⟩) hHeld ?_
                    rotate_left
                    · intro u hSu
                      (go_simp) <;> (with_reducible rfl)
                    change wpAnyH _ _ _ _ _ _ _ (Act.put _ (some 87) _) _
                    simp only [Act.put, List.setIfInBounds_toArray, List.set_cons_zero, List.set_cons_succ]
                    refine wpAnyH_take (i := 6) (v := ev y.x) rfl (by kernel_rfl) (by kernel_rfl) (by kernel_rfl) (fun _ _ _ h => h) (yieldsIf_load_mid (by rfl) _ _ rfl _ _ rfl (encE y.x) _ (fun u hu => (FEN.out u hu).range) Tryz.underlying31 rfl (by rw [info_pent]; rfl)) hHeld ?_
                    change wpAnyH _ _ _ _ _ _ _ (Act.put _ (some 88) _) _
                    simp only [Act.put, List.setIfInBounds_toArray, List.set_cons_zero, List.set_cons_succ]
                    refine wpAnyH_ready (rs := [3]) (by kernel_rfl) (by simp) ?_
                    refine AllReadyH.cons rfl (fun K hK => ?_) AllReadyH.nil
                    go_simp
                    go_at_call 10
                    refine (CP.out _ (HR3.out.past (Below.refl _ _).drew)).mono ?_
                    rintro e x1 ⟨rfl, RX1⟩
                    refine hK.out _ _ ?_ (fun hHeld2 => ?_)
                    · exact RX1.out.box
                    clear hK K hHeld
                    have hHeld := hHeld2
                    clear hHeld2
                    refine wpAnyH_ready (rs := [7]) (by kernel_rfl) (by simp) ?_
                    refine AllReadyH.cons rfl (fun K hK => ?_) AllReadyH.nil
                    go_simp
                    go_at_call 24
                    refine (CEN.out _).mono ?_
                    rintro e x2 ⟨rfl, hx2⟩
                    have RX2 : Hid (RndQ W0 x2 p q s t xb E2 P (2 * i) y) := RX1.out.past hx2
                    clear hx2 RX1
                    refine hK.out _ _ ?_ (fun hHeld2 => ?_)
                    · exact RX2.out.box
                    clear hK K hHeld
                    have hHeld := hHeld2
                    clear hHeld2
                    refine wpAnyH_ready (rs := [8]) (by kernel_rfl) (by simp) ?_
                    refine AllReadyH.cons rfl (fun K hK => ?_) AllReadyH.nil
                    go_simp
                    go_at_call 23
                    refine (CQ.out _ RX2.out).mono ?_
                    rintro e x3 ⟨rfl, RX3⟩
                    clear RX2
                    refine hK.out _ _ ?_ (fun hHeld2 => ?_)
                    · exact RX3.out.box
                    clear hK K hHeld
                    have hHeld := hHeld2
                    clear hHeld2
                    refine wpAnyH_take (i := 9) (v := ?_) rfl (by kernel_rfl) (by kernel_rfl) (by kernel_rfl) (fun _ _ _ h => h) (Or.inl ⟨by rfl, ?_⟩) hHeld ?_
                    rotate_left
                    · intro u hSu
                      (go_simp) <;> (with_reducible rfl)
                    change wpAnyH _ _ _ _ _ _ _ (Act.put _ (some 91) _) _
                    simp only [Act.put, List.setIfInBounds_toArray, List.set_cons_zero, List.set_cons_succ]
                    refine wpAnyH_take (i := 10) (v := ?_) rfl (by kernel_rfl) (by kernel_rfl) (by kernel_rfl) (fun _ _ _ h => h) (Or.inl ⟨by rfl, ?_⟩) hHeld ?_
                    rotate_left
                    · intro u hSu
                      (go_simp) <;> (with_reducible rfl)
                    change wpAnyH _ _ _ _ _ _ _ (Act.put _ (some 19) _) _
                    simp only [Act.put, List.setIfInBounds_toArray, List.set_cons_zero, List.set_cons_succ]
                    refine wpAnyH_done (by kernel_rfl) ?_ _
                    refine NoPanic.normal ?_
                    go_wp2
                    go_meet
                    case rel => exact ⟨rfl, _, RX3.out.up (by omega)⟩
                · as_aux_lemma =>
                    subst ho
                    obtain ⟨r1, hr1⟩ : ∃ r, r = (commitP P id at_ an).1 := ⟨_, rfl⟩
                    obtain ⟨E2, hE2⟩ : ∃ r, r = (commitP P id at_ an).2 := ⟨_, rfl⟩
                    have CP : Hid (∀ u, RndQ W0 u p q s t xb P P (2 * i) y → Calls Tryz.prog 12 #[.pointer (some ⟨p, 0, none⟩), .int .i64 id, .agg #[.int .i64 at_, .int .u8 an]] u fun e w' => e = .returned (.int .i64 r1) ∧ Hid (RndQ W0 w' p q s t xb E2 P (2 * i + 1) y)) := fun u h => by rw [hr1, hE2]; exact rq h (qcommit_p h.duo id at_ an HID.out hann (by omega))
                    have CQ : Hid (∀ u, RndQ W0 u p q s t xb E2 P (2 * i + 1) y → Calls Tryz.prog 25 #[.pointer (some ⟨q, 0, none⟩), .int .i64 id, .agg #[.int .i64 at_, .int .u8 an]] u fun e w' => e = .returned (.int .i64 r1) ∧ Hid (RndQ W0 w' p q s t xb E2 E2 (2 * i + 1 + 1) y)) := fun u h => by rw [hr1]; have h9 := rq h (qcommit_d h.duo id at_ an hann (by omega)); rw [← hE2] at h9; exact h9
                    clear hr1 hE2
                    go_wp2
                    refine wp_region_noPanic ?_
                    refine wp_region_held_drew (S := fun u => QMine u xb y) (by kernel_rfl) ?_ (fun hHeld => ?_)
                    · exact (HR3.out.box.past (Below.refl _ _).drew)
                    refine wpAnyH_take (i := 0) (v := ?_) rfl (by kernel_rfl) (by kernel_rfl) (by kernel_rfl) (fun _ _ _ h => h) (Or.inl ⟨by rfl, ?_⟩) hHeld ?_
                    rotate_left
                    · intro u hSu
                      (go_simp) <;> (with_reducible rfl)
                    change wpAnyH _ _ _ _ _ _ _ (Act.put _ (some 94) _) _
                    simp only [Act.put, List.setIfInBounds_toArray, List.set_cons_zero, List.set_cons_succ]
                    refine wpAnyH_take (i := 1) (v := ?_) rfl (by kernel_rfl) (by kernel_rfl) (by kernel_rfl) (fun _ _ _ h => h) (Or.inl ⟨by rfl, ?_⟩) hHeld ?_
                    rotate_left
                    · intro u hSu
                      (go_simp) <;> (with_reducible rfl)
                    change wpAnyH _ _ _ _ _ _ _ (Act.put _ (some 95) _) _
                    simp only [Act.put, List.setIfInBounds_toArray, List.set_cons_zero, List.set_cons_succ]
                    refine wpAnyH_take (i := 2) (v := ?_) rfl (by kernel_rfl) (by kernel_rfl) (by kernel_rfl) (fun _ _ _ h => h) (Or.inl ⟨by rfl, ?_⟩) hHeld ?_
                    rotate_left
                    · intro u hSu
                      (go_simp) <;> (with_reducible rfl)
                    change wpAnyH _ _ _ _ _ _ _ (Act.put _ (some 96) _) _
                    simp only [Act.put, List.setIfInBounds_toArray, List.set_cons_zero, List.set_cons_succ]
                    refine wpAnyH_take (i := 3) (v := ?_) rfl (by kernel_rfl) (by kernel_rfl) (by kernel_rfl) (fun _ _ _ h => h) (Or.inl ⟨by rfl, ?_⟩) hHeld ?_
                    rotate_left
                    · intro u hSu
                      obtain ⟨x0, x1, x6, x7, x8, x15, x17⟩ := FQ.out u xb hSu
                      (go_simp) <;> (with_reducible rfl)
                    change wpAnyH _ _ _ _ _ _ _ (Act.put _ (some 97) _) _
                    simp only [Act.put, List.setIfInBounds_toArray, List.set_cons_zero, List.set_cons_succ]
                    refine wpAnyH_take (i := 4) (v := ?_) rfl (by kernel_rfl) (by kernel_rfl) (by kernel_rfl) (fun _ _ _ h => h) (Or.inl ⟨by rfl, ?_⟩) hHeld ?_
                    rotate_left
                    · intro u hSu
                      (go_simp) <;> (with_reducible rfl)
                    change wpAnyH _ _ _ _ _ _ _ (Act.put _ (some 98) _) _
                    simp only [Act.put, List.setIfInBounds_toArray, List.set_cons_zero, List.set_cons_succ]
                    refine wpAnyH_take (i := 5) (v := ?_) rfl (by kernel_rfl) (by kernel_rfl) (by kernel_rfl) (fun _ _ _ h => h) (Or.inl ⟨by rfl, ?_⟩) hHeld ?_
                    rotate_left
                    · intro u hSu
                      obtain ⟨x0, x1, x6, x7, x8, x15, x17⟩ := FQ.out u xb hSu
                      (go_simp) <;> (with_reducible rfl)
                    change wpAnyH _ _ _ _ _ _ _ (Act.put _ (some 99) _) _
                    simp only [Act.put, List.setIfInBounds_toArray, List.set_cons_zero, List.set_cons_succ]
                    refine wpAnyH_take (i := 7) (v := ?_) rfl (by kernel_rfl) (by kernel_rfl) (by kernel_rfl) (fun _ _ _ h => h) (Or.inl ⟨by rfl, ?_⟩) hHeld ?_
                    rotate_left
                    · intro u hSu
                      (go_simp) <;> (with_reducible rfl)
                    change wpAnyH _ _ _ _ _ _ _ (Act.put _ (some 101) _) _
                    simp only [Act.put, List.setIfInBounds_toArray, List.set_cons_zero, List.set_cons_succ]
                    refine wpAnyH_take (i := 8) (v := ?_) rfl (by kernel_rfl) (by kernel_rfl) (by kernel_rfl) (fun _ _ _ h => h) (Or.inl ⟨by rfl, ?_⟩) hHeld ?_
                    rotate_left
                    · intro u hSu
                      (go_simp) <;> (with_reducible rfl)
                    change wpAnyH _ _ _ _ _ _ _ (Act.put _ (some 102) _) _
                    simp only [Act.put, List.setIfInBounds_toArray, List.set_cons_zero, List.set_cons_succ]
                    refine wpAnyH_take (i := 9) (v := ?_) rfl (by kernel_rfl) (by kernel_rfl) (by kernel_rfl) (fun _ _ _ h => h) (Or.inl ⟨by rfl, ?_⟩) hHeld ?_
                    rotate_left
                    · intro u hSu
                      (go_simp) <;> (with_reducible rfl)
                    change wpAnyH _ _ _ _ _ _ _ (Act.put _ (some 103) _) _
                    simp only [Act.put, List.setIfInBounds_toArray, List.set_cons_zero, List.set_cons_succ]
                    refine wpAnyH_take (i := 10) (v := ?_) rfl (by kernel_rfl) (by kernel_rfl) (by kernel_rfl) (fun _ _ _ h => h) (Or.inl ⟨by rfl, ?_⟩) hHeld ?_
                    rotate_left
                    · intro u hSu
                      obtain ⟨x0, x1, x6, x7, x8, x15, x17⟩ := FQ.out u xb hSu
                      (go_simp) <;> (with_reducible rfl)
                    change wpAnyH _ _ _ _ _ _ _ (Act.put _ (some 104) _) _
                    simp only [Act.put, List.setIfInBounds_toArray, List.set_cons_zero, List.set_cons_succ]
                    refine wpAnyH_take (i := 11) (v := ?_) rfl (by kernel_rfl) (by kernel_rfl) (by kernel_rfl) (fun _ _ _ h => h) (Or.inl ⟨by rfl, ?_⟩) hHeld ?_
                    rotate_left
                    · intro u hSu
                      (go_simp) <;> (with_reducible rfl)
                    change wpAnyH _ _ _ _ _ _ _ (Act.put _ (some 105) _) _
                    simp only [Act.put, List.setIfInBounds_toArray, List.set_cons_zero, List.set_cons_succ]
                    refine wpAnyH_take (i := 12) (v := ?_) rfl (by kernel_rfl) (by kernel_rfl) (by kernel_rfl) (fun _ _ _ h => h) (Or.inl ⟨by rfl, ?_⟩) hHeld ?_
                    rotate_left
                    · intro u hSu
                      obtain ⟨x0, x1, x6, x7, x8, x15, x17⟩ := FQ.out u xb hSu
                      (go_simp) <;> (with_reducible rfl)
                    change wpAnyH _ _ _ _ _ _ _ (Act.put _ (some 106) _) _
                    simp only [Act.put, List.setIfInBounds_toArray, List.set_cons_zero, List.set_cons_succ]
                    refine wpAnyH_ready (rs := [6]) (by kernel_rfl) (by simp) ?_
                    refine AllReadyH.cons rfl (fun K hK => ?_) AllReadyH.nil
                    go_simp
                    go_at_call 12
                    refine (CP.out _ (HR3.out.past (Below.refl _ _).drew)).mono ?_
                    rintro e x1_ ⟨rfl, RX1⟩
                    refine hK.out _ _ ?_ (fun hHeld2 => ?_)
                    · exact RX1.out.box
                    clear hK K hHeld
                    have hHeld := hHeld2
                    clear hHeld2
                    refine wpAnyH_ready (rs := [13]) (by kernel_rfl) (by simp) ?_
                    refine AllReadyH.cons rfl (fun K hK => ?_) AllReadyH.nil
                    go_simp
                    go_at_call 25
                    refine (CQ.out _ RX1.out).mono ?_
                    rintro e x3 ⟨rfl, RX3⟩
                    clear RX1
                    refine hK.out _ _ ?_ (fun hHeld2 => ?_)
                    · exact RX3.out.box
                    clear hK K hHeld
                    have hHeld := hHeld2
                    clear hHeld2
                    refine wpAnyH_take (i := 14) (v := ?_) rfl (by kernel_rfl) (by kernel_rfl) (by kernel_rfl) (fun _ _ _ h => h) (Or.inl ⟨by rfl, ?_⟩) hHeld ?_
                    rotate_left
                    · intro u hSu
                      (go_simp) <;> (with_reducible rfl)
                    change wpAnyH _ _ _ _ _ _ _ (Act.put _ (some 108) _) _
                    simp only [Act.put, List.setIfInBounds_toArray, List.set_cons_zero, List.set_cons_succ]
                    refine wpAnyH_take (i := 15) (v := ?_) rfl (by kernel_rfl) (by kernel_rfl) (by kernel_rfl) (fun _ _ _ h => h) (Or.inl ⟨by rfl, ?_⟩) hHeld ?_
                    rotate_left
                    · intro u hSu
                      (go_simp) <;> (with_reducible rfl)
                    change wpAnyH _ _ _ _ _ _ _ (Act.put _ (some 19) _) _
                    simp only [Act.put, List.setIfInBounds_toArray, List.set_cons_zero, List.set_cons_succ]
                    refine wpAnyH_done (by kernel_rfl) ?_ _
                    refine NoPanic.normal ?_
                    go_wp2
                    go_meet
                    case rel => exact ⟨rfl, _, RX3.out.up (by omega)⟩
                · as_aux_lemma =>
                    subst ho
                    obtain ⟨r1, hr1⟩ : ∃ r, r = (abortP P id).1 := ⟨_, rfl⟩
                    obtain ⟨E2, hE2⟩ : ∃ r, r = (abortP P id).2 := ⟨_, rfl⟩
                    have CP : Hid (∀ u, RndQ W0 u p q s t xb P P (2 * i) y → Calls Tryz.prog 17 #[.pointer (some ⟨p, 0, none⟩), .int .i64 id] u fun e w' => e = .returned (.int .i64 r1) ∧ Hid (RndQ W0 w' p q s t xb E2 P (2 * i + 1) y)) := fun u h => by rw [hr1, hE2]; exact rq h (qabort_p h.duo id HID.out (by omega))
                    have CQ : Hid (∀ u, RndQ W0 u p q s t xb E2 P (2 * i + 1) y → Calls Tryz.prog 26 #[.pointer (some ⟨q, 0, none⟩), .int .i64 id] u fun e w' => e = .returned (.int .i64 r1) ∧ Hid (RndQ W0 w' p q s t xb E2 E2 (2 * i + 1 + 1) y)) := fun u h => by rw [hr1]; have h9 := rq h (qabort_d h.duo id (by omega)); rw [← hE2] at h9; exact h9
                    clear hr1 hE2
                    go_wp2
                    refine wp_region_noPanic ?_
                    refine wp_region_held_drew (S := fun u => QMine u xb y) (by kernel_rfl) ?_ (fun hHeld => ?_)
                    · exact (HR3.out.box.past (Below.refl _ _).drew)
                    refine wpAnyH_take (i := 0) (v := ?_) rfl (by kernel_rfl) (by kernel_rfl) (by kernel_rfl) (fun _ _ _ h => h) (Or.inl ⟨by rfl, ?_⟩) hHeld ?_
                    rotate_left
                    · intro u hSu
                      (go_simp) <;> (with_reducible rfl)
                    change wpAnyH _ _ _ _ _ _ _ (Act.put _ (some 111) _) _
                    simp only [Act.put, List.setIfInBounds_toArray, List.set_cons_zero, List.set_cons_succ]
                    refine wpAnyH_take (i := 1) (v := ?_) rfl (by kernel_rfl) (by kernel_rfl) (by kernel_rfl) (fun _ _ _ h => h) (Or.inl ⟨by rfl, ?_⟩) hHeld ?_
                    rotate_left
                    · intro u hSu
                      (go_simp) <;> (with_reducible rfl)
                    change wpAnyH _ _ _ _ _ _ _ (Act.put _ (some 112) _) _
                    simp only [Act.put, List.setIfInBounds_toArray, List.set_cons_zero, List.set_cons_succ]
                    refine wpAnyH_take (i := 2) (v := ?_) rfl (by kernel_rfl) (by kernel_rfl) (by kernel_rfl) (fun _ _ _ h => h) (Or.inl ⟨by rfl, ?_⟩) hHeld ?_
                    rotate_left
                    · intro u hSu
                      (go_simp) <;> (with_reducible rfl)
                    change wpAnyH _ _ _ _ _ _ _ (Act.put _ (some 113) _) _
                    simp only [Act.put, List.setIfInBounds_toArray, List.set_cons_zero, List.set_cons_succ]
                    refine wpAnyH_take (i := 3) (v := ?_) rfl (by kernel_rfl) (by kernel_rfl) (by kernel_rfl) (fun _ _ _ h => h) (Or.inl ⟨by rfl, ?_⟩) hHeld ?_
                    rotate_left
                    · intro u hSu
                      obtain ⟨x0, x1, x6, x7, x8, x15, x17⟩ := FQ.out u xb hSu
                      (go_simp) <;> (with_reducible rfl)
                    change wpAnyH _ _ _ _ _ _ _ (Act.put _ (some 114) _) _
                    simp only [Act.put, List.setIfInBounds_toArray, List.set_cons_zero, List.set_cons_succ]
                    refine wpAnyH_take (i := 5) (v := ?_) rfl (by kernel_rfl) (by kernel_rfl) (by kernel_rfl) (fun _ _ _ h => h) (Or.inl ⟨by rfl, ?_⟩) hHeld ?_
                    rotate_left
                    · intro u hSu
                      (go_simp) <;> (with_reducible rfl)
                    change wpAnyH _ _ _ _ _ _ _ (Act.put _ (some 116) _) _
                    simp only [Act.put, List.setIfInBounds_toArray, List.set_cons_zero, List.set_cons_succ]
                    refine wpAnyH_take (i := 6) (v := ?_) rfl (by kernel_rfl) (by kernel_rfl) (by kernel_rfl) (fun _ _ _ h => h) (Or.inl ⟨by rfl, ?_⟩) hHeld ?_
                    rotate_left
                    · intro u hSu
                      (go_simp) <;> (with_reducible rfl)
                    change wpAnyH _ _ _ _ _ _ _ (Act.put _ (some 117) _) _
                    simp only [Act.put, List.setIfInBounds_toArray, List.set_cons_zero, List.set_cons_succ]
                    refine wpAnyH_take (i := 7) (v := ?_) rfl (by kernel_rfl) (by kernel_rfl) (by kernel_rfl) (fun _ _ _ h => h) (Or.inl ⟨by rfl, ?_⟩) hHeld ?_
                    rotate_left
                    · intro u hSu
                      (go_simp) <;> (with_reducible rfl)
                    change wpAnyH _ _ _ _ _ _ _ (Act.put _ (some 118) _) _
                    simp only [Act.put, List.setIfInBounds_toArray, List.set_cons_zero, List.set_cons_succ]
                    refine wpAnyH_take (i := 8) (v := ?_) rfl (by kernel_rfl) (by kernel_rfl) (by kernel_rfl) (fun _ _ _ h => h) (Or.inl ⟨by rfl, ?_⟩) hHeld ?_
                    rotate_left
                    · intro u hSu
                      obtain ⟨x0, x1, x6, x7, x8, x15, x17⟩ := FQ.out u xb hSu
                      (go_simp) <;> (with_reducible rfl)
                    change wpAnyH _ _ _ _ _ _ _ (Act.put _ (some 119) _) _
                    simp only [Act.put, List.setIfInBounds_toArray, List.set_cons_zero, List.set_cons_succ]
                    refine wpAnyH_ready (rs := [4]) (by kernel_rfl) (by simp) ?_
                    refine AllReadyH.cons rfl (fun K hK => ?_) AllReadyH.nil
                    go_simp
                    go_at_call 17
                    refine (CP.out _ (HR3.out.past (Below.refl _ _).drew)).mono ?_
                    rintro e x1_ ⟨rfl, RX1⟩
                    refine hK.out _ _ ?_ (fun hHeld2 => ?_)
                    · exact RX1.out.box
                    clear hK K hHeld
                    have hHeld := hHeld2
                    clear hHeld2
                    refine wpAnyH_ready (rs := [9]) (by kernel_rfl) (by simp) ?_
                    refine AllReadyH.cons rfl (fun K hK => ?_) AllReadyH.nil
                    go_simp
                    go_at_call 26
                    refine (CQ.out _ RX1.out).mono ?_
                    rintro e x3 ⟨rfl, RX3⟩
                    clear RX1
                    refine hK.out _ _ ?_ (fun hHeld2 => ?_)
                    · exact RX3.out.box
                    clear hK K hHeld
                    have hHeld := hHeld2
                    clear hHeld2
                    refine wpAnyH_take (i := 10) (v := ?_) rfl (by kernel_rfl) (by kernel_rfl) (by kernel_rfl) (fun _ _ _ h => h) (Or.inl ⟨by rfl, ?_⟩) hHeld ?_
                    rotate_left
                    · intro u hSu
                      (go_simp) <;> (with_reducible rfl)
                    change wpAnyH _ _ _ _ _ _ _ (Act.put _ (some 121) _) _
                    simp only [Act.put, List.setIfInBounds_toArray, List.set_cons_zero, List.set_cons_succ]
                    refine wpAnyH_take (i := 11) (v := ?_) rfl (by kernel_rfl) (by kernel_rfl) (by kernel_rfl) (fun _ _ _ h => h) (Or.inl ⟨by rfl, ?_⟩) hHeld ?_
                    rotate_left
                    · intro u hSu
                      (go_simp) <;> (with_reducible rfl)
                    change wpAnyH _ _ _ _ _ _ _ (Act.put _ (some 19) _) _
                    simp only [Act.put, List.setIfInBounds_toArray, List.set_cons_zero, List.set_cons_succ]
                    refine wpAnyH_done (by kernel_rfl) ?_ _
                    refine NoPanic.normal ?_
                    go_wp2
                    go_meet
                    case rel => exact ⟨rfl, _, RX3.out.up (by omega)⟩
                · as_aux_lemma =>
                    subst ho
                    obtain ⟨r1, hr1⟩ : ∃ r, r = (playP P y.r.r).1 := ⟨_, rfl⟩
                    obtain ⟨E2, hE2⟩ : ∃ r, r = (playP P y.r.r).2 := ⟨_, rfl⟩
                    have CP : Hid (∀ u, RndQ W0 u p q s t xb P P (2 * i) y → Calls Tryz.prog 18 #[.pointer (some ⟨p, 0, none⟩), rcv y.r] u fun e w' => e = .returned (.int .i64 r1) ∧ Hid (RndQ W0 w' p q s t xb E2 P (2 * i + 1) y)) := fun u h => by rw [hr1, hE2]; exact rq h (qplay_p h.duo y.r (HRW.out u h.duo.below) (by omega))
                    have CQ : Hid (∀ u, RndQ W0 u p q s t xb E2 P (2 * i + 1) y → Calls Tryz.prog 27 #[.pointer (some ⟨q, 0, none⟩), rcv y.r] u fun e w' => e = .returned (.int .i64 r1) ∧ Hid (RndQ W0 w' p q s t xb E2 E2 (2 * i + 1 + 1) y)) := fun u h => by rw [hr1]; have h9 := rq h (qplay_d h.duo y.r (HRW.out u h.duo.below) (by omega)); rw [← hE2] at h9; exact h9
                    clear hr1 hE2
                    go_wp2
                    refine wp_region_noPanic ?_
                    refine wp_region_held_drew (S := fun u => QMine u xb y) (by kernel_rfl) ?_ (fun hHeld => ?_)
                    · exact (HR3.out.box.past (Below.refl _ _).drew)
                    refine wpAnyH_take (i := 0) (v := ?_) rfl (by kernel_rfl) (by kernel_rfl) (by kernel_rfl) (fun _ _ _ h => h) (Or.inl ⟨by rfl, ?_⟩) hHeld ?_
                    rotate_left
                    · intro u hSu
                      (go_simp) <;> (with_reducible rfl)
                    change wpAnyH _ _ _ _ _ _ _ (Act.put _ (some 124) _) _
                    simp only [Act.put, List.setIfInBounds_toArray, List.set_cons_zero, List.set_cons_succ]
                    refine wpAnyH_take (i := 1) (v := ?_) rfl (by kernel_rfl) (by kernel_rfl) (by kernel_rfl) (fun _ _ _ h => h) (Or.inl ⟨by rfl, ?_⟩) hHeld ?_
                    rotate_left
                    · intro u hSu
                      (go_simp) <;> (with_reducible rfl)
                    change wpAnyH _ _ _ _ _ _ _ (Act.put _ (some 125) _) _
                    simp only [Act.put, List.setIfInBounds_toArray, List.set_cons_zero, List.set_cons_succ]
                    refine wpAnyH_take (i := 2) (v := rcv y.r) rfl (by kernel_rfl) (by kernel_rfl) (by kernel_rfl) (fun _ _ _ h => h) (yieldsIf_load_mid (by rfl) _ _ rfl _ _ rfl (encR y.r) _ (fun u hu => (FRC.out u hu).range) Tryz.underlying47 rfl (by rw [info_rcdQ]; rfl)) hHeld ?_
                    change wpAnyH _ _ _ _ _ _ _ (Act.put _ (some 126) _) _
                    simp only [Act.put, List.setIfInBounds_toArray, List.set_cons_zero, List.set_cons_succ]
                    refine wpAnyH_take (i := 4) (v := ?_) rfl (by kernel_rfl) (by kernel_rfl) (by kernel_rfl) (fun _ _ _ h => h) (Or.inl ⟨by rfl, ?_⟩) hHeld ?_
                    rotate_left
                    · intro u hSu
                      (go_simp) <;> (with_reducible rfl)
                    change wpAnyH _ _ _ _ _ _ _ (Act.put _ (some 128) _) _
                    simp only [Act.put, List.setIfInBounds_toArray, List.set_cons_zero, List.set_cons_succ]
                    refine wpAnyH_take (i := 5) (v := ?_) rfl (by kernel_rfl) (by kernel_rfl) (by kernel_rfl) (fun _ _ _ h => h) (Or.inl ⟨by rfl, ?_⟩) hHeld ?_
                    rotate_left
                    · intro u hSu
                      (go_simp) <;> (with_reducible rfl)
                    change wpAnyH _ _ _ _ _ _ _ (Act.put _ (some 129) _) _
                    simp only [Act.put, List.setIfInBounds_toArray, List.set_cons_zero, List.set_cons_succ]
                    refine wpAnyH_take (i := 6) (v := rcv y.r) rfl (by kernel_rfl) (by kernel_rfl) (by kernel_rfl) (fun _ _ _ h => h) (yieldsIf_load_mid (by rfl) _ _ rfl _ _ rfl (encR y.r) _ (fun u hu => (FRC.out u hu).range) Tryz.underlying47 rfl (by rw [info_rcdQ]; rfl)) hHeld ?_
                    change wpAnyH _ _ _ _ _ _ _ (Act.put _ (some 130) _) _
                    simp only [Act.put, List.setIfInBounds_toArray, List.set_cons_zero, List.set_cons_succ]
                    refine wpAnyH_ready (rs := [3]) (by kernel_rfl) (by simp) ?_
                    refine AllReadyH.cons rfl (fun K hK => ?_) AllReadyH.nil
                    go_simp
                    go_at_call 18
                    refine (CP.out _ (HR3.out.past (Below.refl _ _).drew)).mono ?_
                    rintro e x1_ ⟨rfl, RX1⟩
                    refine hK.out _ _ ?_ (fun hHeld2 => ?_)
                    · exact RX1.out.box
                    clear hK K hHeld
                    have hHeld := hHeld2
                    clear hHeld2
                    refine wpAnyH_ready (rs := [7]) (by kernel_rfl) (by simp) ?_
                    refine AllReadyH.cons rfl (fun K hK => ?_) AllReadyH.nil
                    go_simp
                    go_at_call 28
                    refine (CRC.out _).mono ?_
                    rintro e x2 ⟨rfl, hx2⟩
                    have RX2 : Hid (RndQ W0 x2 p q s t xb E2 P (2 * i + 1) y) := RX1.out.past hx2
                    clear hx2 RX1
                    refine hK.out _ _ ?_ (fun hHeld2 => ?_)
                    · exact RX2.out.box
                    clear hK K hHeld
                    have hHeld := hHeld2
                    clear hHeld2
                    refine wpAnyH_ready (rs := [8]) (by kernel_rfl) (by simp) ?_
                    refine AllReadyH.cons rfl (fun K hK => ?_) AllReadyH.nil
                    go_simp
                    go_at_call 27
                    refine (CQ.out _ RX2.out).mono ?_
                    rintro e x3 ⟨rfl, RX3⟩
                    clear RX2
                    refine hK.out _ _ ?_ (fun hHeld2 => ?_)
                    · exact RX3.out.box
                    clear hK K hHeld
                    have hHeld := hHeld2
                    clear hHeld2
                    refine wpAnyH_take (i := 9) (v := ?_) rfl (by kernel_rfl) (by kernel_rfl) (by kernel_rfl) (fun _ _ _ h => h) (Or.inl ⟨by rfl, ?_⟩) hHeld ?_
                    rotate_left
                    · intro u hSu
                      (go_simp) <;> (with_reducible rfl)
                    change wpAnyH _ _ _ _ _ _ _ (Act.put _ (some 133) _) _
                    simp only [Act.put, List.setIfInBounds_toArray, List.set_cons_zero, List.set_cons_succ]
                    refine wpAnyH_take (i := 10) (v := ?_) rfl (by kernel_rfl) (by kernel_rfl) (by kernel_rfl) (fun _ _ _ h => h) (Or.inl ⟨by rfl, ?_⟩) hHeld ?_
                    rotate_left
                    · intro u hSu
                      (go_simp) <;> (with_reducible rfl)
                    change wpAnyH _ _ _ _ _ _ _ (Act.put _ (some 19) _) _
                    simp only [Act.put, List.setIfInBounds_toArray, List.set_cons_zero, List.set_cons_succ]
                    refine wpAnyH_done (by kernel_rfl) ?_ _
                    refine NoPanic.normal ?_
                    go_wp2
                    go_meet
                    case rel => exact ⟨rfl, _, RX3.out.up (by omega)⟩
                · as_aux_lemma =>
                    have bo0 : (op == 0) = false := by simpa using ho.1
                    have bo1 : (op == 1) = false := by simpa using ho.2.1
                    have bo2 : (op == 2) = false := by simpa using ho.2.2.1
                    have bo3 : (op == 3) = false := by simpa using ho.2.2.2
                    clear ho
                    obtain ⟨r1, hr1⟩ : ∃ r, r = (trimP P at_ an).1 := ⟨_, rfl⟩
                    obtain ⟨E2, hE2⟩ : ∃ r, r = (trimP P at_ an).2 := ⟨_, rfl⟩
                    have CP : Hid (∀ u, RndQ W0 u p q s t xb P P (2 * i) y → Calls Tryz.prog 29 #[.pointer (some ⟨p, 0, none⟩), .agg #[.int .i64 at_, .int .u8 an]] u fun e w' => e = .returned (.int .i64 r1) ∧ Hid (RndQ W0 w' p q s t xb E2 P (2 * i) y)) := fun u h => by rw [hr1, hE2]; exact rq h (qtrim_p h.duo at_ an)
                    have CQ : Hid (∀ u, RndQ W0 u p q s t xb E2 P (2 * i) y → Calls Tryz.prog 30 #[.pointer (some ⟨s, 0, none⟩), .agg #[.int .i64 at_, .int .u8 an]] u fun e w' => e = .returned (.int .i64 r1) ∧ Hid (RndQ W0 w' p q s t xb E2 E2 (2 * i) y)) := fun u h => by rw [hr1]; have h9 := rq h (qtrim_d h.duo at_ an); rw [← hE2] at h9; exact h9
                    clear hr1 hE2
                    go_wp2
                    refine wp_region_noPanic ?_
                    refine wp_region_held_drew (S := fun u => QMine u xb y ∧ u.cell? ⟨q, 0, none⟩ = some (.pointer (some ⟨s, 0, none⟩))) (by kernel_rfl) ?_ (fun hHeld => ?_)
                    · exact ⟨(HR3.out.box.past (Below.refl _ _).drew), (HR3.out.past (Below.refl _ _).drew).duo.cells.1⟩
                    refine wpAnyH_take (i := 0) (v := ?_) rfl (by kernel_rfl) (by kernel_rfl) (by kernel_rfl) (fun _ _ _ h => h) (Or.inl ⟨by rfl, ?_⟩) hHeld ?_
                    rotate_left
                    · intro u hSu
                      (go_simp) <;> (with_reducible rfl)
                    change wpAnyH _ _ _ _ _ _ _ (Act.put _ (some 68) _) _
                    simp only [Act.put, List.setIfInBounds_toArray, List.set_cons_zero, List.set_cons_succ]
                    refine wpAnyH_take (i := 1) (v := ?_) rfl (by kernel_rfl) (by kernel_rfl) (by kernel_rfl) (fun _ _ _ h => h) (Or.inl ⟨by rfl, ?_⟩) hHeld ?_
                    rotate_left
                    · intro u hSu
                      (go_simp) <;> (with_reducible rfl)
                    change wpAnyH _ _ _ _ _ _ _ (Act.put _ (some 69) _) _
                    simp only [Act.put, List.setIfInBounds_toArray, List.set_cons_zero, List.set_cons_succ]
                    refine wpAnyH_take (i := 2) (v := ?_) rfl (by kernel_rfl) (by kernel_rfl) (by kernel_rfl) (fun _ _ _ h => h) (Or.inl ⟨by rfl, ?_⟩) hHeld ?_
                    rotate_left
                    · intro u hSu
                      obtain ⟨x0, x1, x6, x7, x8, x15, x17⟩ := FQ.out u xb hSu.1
                      (go_simp) <;> (with_reducible rfl)
                    change wpAnyH _ _ _ _ _ _ _ (Act.put _ (some 70) _) _
                    simp only [Act.put, List.setIfInBounds_toArray, List.set_cons_zero, List.set_cons_succ]
                    refine wpAnyH_take (i := 4) (v := ?_) rfl (by kernel_rfl) (by kernel_rfl) (by kernel_rfl) (fun _ _ _ h => h) (Or.inl ⟨by rfl, ?_⟩) hHeld ?_
                    rotate_left
                    · intro u hSu
                      (go_simp) <;> (with_reducible rfl)
                    change wpAnyH _ _ _ _ _ _ _ (Act.put _ (some 72) _) _
                    simp only [Act.put, List.setIfInBounds_toArray, List.set_cons_zero, List.set_cons_succ]
                    refine wpAnyH_take (i := 5) (v := ?_) rfl (by kernel_rfl) (by kernel_rfl) (by kernel_rfl) (fun _ _ _ h => h) (Or.inl ⟨by rfl, ?_⟩) hHeld ?_
                    rotate_left
                    · intro u hSu
                      (go_simp) <;> (with_reducible rfl)
                    change wpAnyH _ _ _ _ _ _ _ (Act.put _ (some 73) _) _
                    simp only [Act.put, List.setIfInBounds_toArray, List.set_cons_zero, List.set_cons_succ]
                    refine wpAnyH_take (i := 6) (v := ?_) rfl (by kernel_rfl) (by kernel_rfl) (by kernel_rfl) (fun _ _ _ h => h) (Or.inl ⟨by rfl, ?_⟩) hHeld ?_
                    rotate_left
                    · intro u hSu
                      (go_simp) <;> (with_reducible rfl)
                    change wpAnyH _ _ _ _ _ _ _ (Act.put _ (some 74) _) _
                    simp only [Act.put, List.setIfInBounds_toArray, List.set_cons_zero, List.set_cons_succ]
                    refine wpAnyH_take (i := 7) (v := ?_) rfl (by kernel_rfl) (by kernel_rfl) (by kernel_rfl) (fun _ _ _ h => h) (Or.inl ⟨by rfl, ?_⟩) hHeld ?_
                    rotate_left
                    · intro u hSu
                      have f0 := hSu.2
                      (go_simp) <;> (with_reducible rfl)
                    change wpAnyH _ _ _ _ _ _ _ (Act.put _ (some 75) _) _
                    simp only [Act.put, List.setIfInBounds_toArray, List.set_cons_zero, List.set_cons_succ]
                    refine wpAnyH_take (i := 8) (v := ?_) rfl (by kernel_rfl) (by kernel_rfl) (by kernel_rfl) (fun _ _ _ h => h) (Or.inl ⟨by rfl, ?_⟩) hHeld ?_
                    rotate_left
                    · intro u hSu
                      (go_simp) <;> (with_reducible rfl)
                    change wpAnyH _ _ _ _ _ _ _ (Act.put _ (some 76) _) _
                    simp only [Act.put, List.setIfInBounds_toArray, List.set_cons_zero, List.set_cons_succ]
                    refine wpAnyH_take (i := 9) (v := ?_) rfl (by kernel_rfl) (by kernel_rfl) (by kernel_rfl) (fun _ _ _ h => h) (Or.inl ⟨by rfl, ?_⟩) hHeld ?_
                    rotate_left
                    · intro u hSu
                      obtain ⟨x0, x1, x6, x7, x8, x15, x17⟩ := FQ.out u xb hSu.1
                      (go_simp) <;> (with_reducible rfl)
                    change wpAnyH _ _ _ _ _ _ _ (Act.put _ (some 77) _) _
                    simp only [Act.put, List.setIfInBounds_toArray, List.set_cons_zero, List.set_cons_succ]
                    refine wpAnyH_ready (rs := [3]) (by kernel_rfl) (by simp) ?_
                    refine AllReadyH.cons rfl (fun K hK => ?_) AllReadyH.nil
                    go_simp
                    go_at_call 29
                    refine (CP.out _ (HR3.out.past (Below.refl _ _).drew)).mono ?_
                    rintro e x1_ ⟨rfl, RX1⟩
                    refine hK.out _ _ ?_ (fun hHeld2 => ?_)
                    · exact ⟨RX1.out.box, RX1.out.duo.cells.1⟩
                    clear hK K hHeld
                    have hHeld := hHeld2
                    clear hHeld2
                    refine wpAnyH_ready (rs := [10]) (by kernel_rfl) (by simp) ?_
                    refine AllReadyH.cons rfl (fun K hK => ?_) AllReadyH.nil
                    go_simp
                    go_at_call 30
                    refine (CQ.out _ RX1.out).mono ?_
                    rintro e x3 ⟨rfl, RX3⟩
                    clear RX1
                    refine hK.out _ _ ?_ (fun hHeld2 => ?_)
                    · exact ⟨RX3.out.box, RX3.out.duo.cells.1⟩
                    clear hK K hHeld
                    have hHeld := hHeld2
                    clear hHeld2
                    refine wpAnyH_take (i := 11) (v := ?_) rfl (by kernel_rfl) (by kernel_rfl) (by kernel_rfl) (fun _ _ _ h => h) (Or.inl ⟨by rfl, ?_⟩) hHeld ?_
                    rotate_left
                    · intro u hSu
                      (go_simp) <;> (with_reducible rfl)
                    change wpAnyH _ _ _ _ _ _ _ (Act.put _ (some 79) _) _
                    simp only [Act.put, List.setIfInBounds_toArray, List.set_cons_zero, List.set_cons_succ]
                    refine wpAnyH_take (i := 12) (v := ?_) rfl (by kernel_rfl) (by kernel_rfl) (by kernel_rfl) (fun _ _ _ h => h) (Or.inl ⟨by rfl, ?_⟩) hHeld ?_
                    rotate_left
                    · intro u hSu
                      (go_simp) <;> (with_reducible rfl)
                    change wpAnyH _ _ _ _ _ _ _ (Act.put _ (some 19) _) _
                    simp only [Act.put, List.setIfInBounds_toArray, List.set_cons_zero, List.set_cons_succ]
                    refine wpAnyH_done (by kernel_rfl) ?_ _
                    refine NoPanic.normal ?_
                    go_wp2
                    go_meet
                    case rel => exact ⟨rfl, _, RX3.out.up (by omega)⟩
              case rest =>
                as_aux_lemma =>
                  obtain ⟨rfl, HP⟩ := hcut
                  obtain ⟨P, hP⟩ := HP.out
                  have HR4 : Hid (RndQ W0 wc p q s t xb P P (2 * (i + 1)) y) := hP
                  clear hP HP
                  have HKP : Hid (PstK P) := HR4.out.duo.kk
                  obtain ⟨RE, hRE⟩ : ∃ x, x = (readP P z1 a4 b4 a5).1 := ⟨_, rfl⟩
                  obtain ⟨sg, hsg⟩ : ∃ x, x = strOfNums ((readP P z1 a4 b4 a5).2.getD []) := ⟨_, rfl⟩
                  obtain ⟨og, hog⟩ : ∃ x, x = (readP P z1 a4 b4 a5).2.isSome := ⟨_, rfl⟩
                  obtain ⟨SE, hSE⟩ : ∃ x, x = (scanP P z2 z3 a4 b4 a5 a6).1 := ⟨_, rfl⟩
                  obtain ⟨G, hG⟩ : ∃ x, x = (scanP P z2 z3 a4 b4 a5 a6).2 := ⟨_, rfl⟩
                  obtain ⟨NG, hNG⟩ : ∃ x, x = G.length := ⟨_, rfl⟩
                  have hNGf : NG ≤ 1000000 := by rw [hNG, hG]; exact scan_few HKP.out z2 z3 a4 b4 a5 a6
                  obtain ⟨st, hst⟩ : ∃ x, x = stateP P id := ⟨_, rfl⟩
                  obtain ⟨NT, hNT⟩ : ∃ x, x = P.T.length := ⟨_, rfl⟩
                  obtain ⟨ids, hids⟩ : ∃ x, x = idsV P.T := ⟨_, rfl⟩
                  have HNI : Hid (ids.length = NT) := by show _ = _; rw [hids, hNT]; unfold idsV; simp
                  have hNT100 : NT ≤ 100 := by rw [hNT]; exact HKP.out.tab.few
                  have CR1 : Hid (∀ u, RndQ W0 u p q s t xb P P (2 * (i + 1)) y → Calls Tryz.prog 14 #[.pointer (some ⟨p, 0, none⟩), kv z1, .agg #[.int .i64 a4, .int .u8 b4], .int .i64 a5] u fun e w' => e = .returned (.tuple #[.string sg, .bool og, .int .i64 RE]) ∧ Below u.heap.size u w') := fun u h => by rw [hsg, hog, hRE]; exact qread_p h.duo z1 KY1.out a4 b4 a5
                  have CR2 : Hid (∀ u, RndQ W0 u p q s t xb P P (2 * (i + 1)) y → Calls Tryz.prog 31 #[.pointer (some ⟨q, 0, none⟩), kv z1, .agg #[.int .i64 a4, .int .u8 b4], .int .i64 a5] u fun e w' => e = .returned (.tuple #[.string sg, .bool og, .int .i64 RE]) ∧ Below u.heap.size u w') := fun u h => by rw [hsg, hog, hRE]; exact qread_d h.duo z1 KY1.out a4 b4 a5
                  have CS1 : Hid (∀ u, RndQ W0 u p q s t xb P P (2 * (i + 1)) y → Calls Tryz.prog 16 #[.pointer (some ⟨p, 0, none⟩), kv z2, kv z3, .agg #[.int .i64 a4, .int .u8 b4], .int .i64 a5, .int .i64 a6] u fun e w' => (∃ a' c', e = .returned (.tuple #[.slice a' NG c', .int .i64 SE]) ∧ Hid (ItmsAt w' a' G) ∧ NG ≤ c') ∧ Below u.heap.size u w') := fun u h => by rw [hSE, hNG, hG]; exact qscan_p h.duo z2 z3 KY2.out KY3.out a4 b4 a5 a6 by6
                  have CS2 : Hid (∀ u, RndQ W0 u p q s t xb P P (2 * (i + 1)) y → Calls Tryz.prog 32 #[.pointer (some ⟨q, 0, none⟩), kv z2, kv z3, .agg #[.int .i64 a4, .int .u8 b4], .int .i64 a5, .int .i64 a6] u fun e w' => (∃ a' c', e = .returned (.tuple #[.slice a' NG c', .int .i64 SE]) ∧ Hid (ItmsAt w' a' G) ∧ NG ≤ c') ∧ Below u.heap.size u w') := fun u h => by rw [hSE, hNG, hG]; exact qscan_d h.duo z2 z3 KY2.out KY3.out a4 b4 a5 a6 by6
                  have CT1 : Hid (∀ u, RndQ W0 u p q s t xb P P (2 * (i + 1)) y → Calls Tryz.prog 19 #[.pointer (some ⟨p, 0, none⟩), .int .i64 id] u fun e w' => e = .returned (.int .i64 st) ∧ Below u.heap.size u w') := fun u h => by rw [hst]; exact qstate_p h.duo id HID.out
                  have CT2 : Hid (∀ u, RndQ W0 u p q s t xb P P (2 * (i + 1)) y → Calls Tryz.prog 34 #[.pointer (some ⟨q, 0, none⟩), .int .i64 id] u fun e w' => e = .returned (.int .i64 st) ∧ Below u.heap.size u w') := fun u h => by rw [hst]; exact qstate_d h.duo id
                  have CPD : Hid (∀ u, RndQ W0 u p q s t xb P P (2 * (i + 1)) y → Calls Tryz.prog 20 #[.pointer (some ⟨p, 0, none⟩)] u fun e w' => (∃ a c, e = .returned (.slice a NT c) ∧ NT ≤ c ∧ Hid (I64L w' a ids)) ∧ Below u.heap.size u w') := fun u h => by rw [hNT, hids]; refine (qprepared_p h.duo).mono ?_; rintro e w' ⟨a, c, rfl, ho⟩; obtain ⟨g1, g2⟩ := own_i64 ho.own (by unfold idsV; simp); exact ⟨⟨a, c, rfl, g2, g1⟩, ho.below⟩
                  have CI : Hid (∀ u a c a' c', ItmsAt u a G → ItmsAt u a' G → NG ≤ c → NG ≤ c' → Calls Tryz.prog 33 #[.slice a NG c, .slice a' NG c'] u fun e w' => e = .returned (.bool true) ∧ Below u.heap.size u w') := fun u a c a' c' h1 h2 h3 h4 => by
                    have h9 := ritems_any a a' NG NG c c' G G u hNG.symm hNG.symm h3 h4 hNGf hNGf h1 h2
                    rw [show decide (G = G) = true from by simp] at h9
                    exact h9
                  have CSM : Hid (∀ u a b c d, NT ≤ c → NT ≤ d → I64L u a ids → I64L u b ids → Calls Tryz.prog 35 #[.slice a NT c, .slice b NT d] u fun e w' => e = .returned (.bool true) ∧ Below u.heap.size u w') := fun u a b c d h1 h2 h3 h4 => qsame64_any a b NT c d ids u HNI.out h1 h2 (by omega) h3 h4
                  have FT : Hid (∀ u, RndQ W0 u p q s t xb P P (2 * (i + 1)) y → ∃ a cc, NT ≤ cc ∧ (∀ v, Below u.heap.size u v → v.cell? ⟨t, 0, none⟩ = some (.slice a NT cc)) ∧ ∀ i x, P.T[i]? = some x → ∃ g, a = some ⟨g, 0, none⟩ ∧ ∀ v, Below u.heap.size u v → v.cell? ⟨g, i * 6, none⟩ = some (.int .i64 x.id)) := fun u h => by
                    rw [hNT]
                    obtain ⟨a, cc, g1, _, g3, g4⟩ := h.duo.tabs
                    exact ⟨a, cc, g1, g3, g4⟩
                  have HIDS : Hid (ids = idsV P.T) := hids
                  have HNT : Hid (P.T.length = NT) := hNT.symm
                  clear hRE hsg hog hSE hG hNG hst hNT hids
                  obtain ⟨_, _, _, _, c0, c1⟩ := TB.out _ HR4.out.duo.below
                  go_wp2_with (first | ((with_reducible show wpList _ _ _ (Oper.mk (some 136) _ _ _ _ _ :: _) _ _); refine wpList_load_keyD 136 (by rfl) (by rfl) _ (by rfl) (w.heap.size) 0 (by rfl) z1 KY1.out (TB.out _ HR4.out.duo.below).k ?_) | (have hgo := HR4.out; clear hgo; go_at_call 14; refine (CR1.out _ HR4.out).mono ?_; rintro e v5 ⟨rfl, hb⟩; have Rv5 : Hid (RndQ W0 v5 p q s t xb P P (2 * (i + 1)) y) := HR4.out.past hb; clear hb HR4 CR1 c0 c1; obtain ⟨_, _, _, _, c0, c1⟩ := TB.out _ Rv5.out.duo.below) | ((with_reducible show wpList _ _ _ (Oper.mk (some 145) _ _ _ _ _ :: _) _ _); refine wpList_load_keyD 145 (by rfl) (by rfl) _ (by rfl) (w.heap.size) 0 (by rfl) z1 KY1.out (TB.out _ Rv5.out.duo.below).k ?_) | (have hgo := Rv5.out; clear hgo; go_at_call 31; refine (CR2.out _ Rv5.out).mono ?_; rintro e v6 ⟨rfl, hb⟩; have Rv6 : Hid (RndQ W0 v6 p q s t xb P P (2 * (i + 1)) y) := Rv5.out.past hb; clear hb Rv5 CR2 c0 c1; obtain ⟨_, _, _, _, c0, c1⟩ := TB.out _ Rv6.out.duo.below) | ((with_reducible show wpList _ _ _ (Oper.mk (some 154) _ _ _ _ _ :: _) _ _); refine wpList_load_keyD 154 (by rfl) (by rfl) _ (by rfl) (w.heap.size + 1) 0 (by rfl) z2 KY2.out (TB.out _ Rv6.out.duo.below).a ?_) | ((with_reducible show wpList _ _ _ (Oper.mk (some 155) _ _ _ _ _ :: _) _ _); refine wpList_load_keyD 155 (by rfl) (by rfl) _ (by rfl) (w.heap.size + 2) 0 (by rfl) z3 KY3.out (TB.out _ Rv6.out.duo.below).b ?_) | (have hgo := Rv6.out; clear hgo; go_at_call 16; refine (CS1.out _ Rv6.out).mono ?_; rintro e v7 ⟨⟨sa, sc, rfl, hs1, hsc⟩, hb⟩; have Rv7 : Hid (RndQ W0 v7 p q s t xb P P (2 * (i + 1)) y) := Rv6.out.past hb; clear hb Rv6 CS1 c0 c1; obtain ⟨_, _, _, _, c0, c1⟩ := TB.out _ Rv7.out.duo.below) | ((with_reducible show wpList _ _ _ (Oper.mk (some 164) _ _ _ _ _ :: _) _ _); refine wpList_load_keyD 164 (by rfl) (by rfl) _ (by rfl) (w.heap.size + 1) 0 (by rfl) z2 KY2.out (TB.out _ Rv7.out.duo.below).a ?_) | ((with_reducible show wpList _ _ _ (Oper.mk (some 165) _ _ _ _ _ :: _) _ _); refine wpList_load_keyD 165 (by rfl) (by rfl) _ (by rfl) (w.heap.size + 2) 0 (by rfl) z3 KY3.out (TB.out _ Rv7.out.duo.below).b ?_) | (have hgo := Rv7.out; clear hgo; go_at_call 32; refine (CS2.out _ Rv7.out).mono ?_; rintro e v8 ⟨⟨ta, tc, rfl, ht1, htc⟩, hb⟩; have Rv8 : Hid (RndQ W0 v8 p q s t xb P P (2 * (i + 1)) y) := Rv7.out.past hb; have HIT : Hid (ItmsAt v8 sa G ∧ ItmsAt v8 ta G) := ⟨hs1.out.past hb, ht1.out⟩; clear hs1 ht1; clear hb Rv7 CS2 c0 c1; obtain ⟨_, _, _, _, c0, c1⟩ := TB.out _ Rv8.out.duo.below))
                  obtain ⟨ga, gc, hgc, hgcell, hgel⟩ := FT.out _ Rv8.out
                  have FTC : Hid (∀ v, Below v8.heap.size v8 v → v.cell? ⟨t, 0, none⟩ = some (.slice ga NT gc)) := hgcell
                  have FTE : Hid (∀ i x, P.T[i]? = some x → ∃ g, ga = some ⟨g, 0, none⟩ ∧ Hid (∀ v, Below v8.heap.size v8 v → v.cell? ⟨g, i * 6, none⟩ = some (.int .i64 x.id))) := hgel
                  have HRV : Hid (∀ v, Below v8.heap.size v8 v → RndQ W0 v p q s t xb P P (2 * (i + 1)) y) := fun v hv => Rv8.out.past hv
                  clear hgcell hgel FT Rv8 c0 c1
                  go_loopw [30, 31] (fun lv jv wr => ∃ (z : Nat) (la : Option Addr) (lc : Nat), jv = .int .i64 z ∧ lv = .slice la z lc ∧ z ≤ NT ∧ Hid (OwnB 2 1 v8 wr (.slice la z lc) z ((ids.take z).map (Value.int .i64)))) (fun _ jv _ => NT - (intOf jv).toNat)
                  case atStart => exact ⟨0, none, 0, rfl, rfl, Nat.zero_le _, ⟨World.ownsRow_nil _ _ _ _, Below.refl _ _⟩⟩
                  case round =>
                    obtain ⟨z, la, lc, rfl, rfl, hz, HO⟩ := hrel
                    have hz0 : (0 : Int) ≤ (z : Int) := by omega
                    have f1 := (HRV.out wr HO.out.below).duo.cells.2
                    have f2 := FTC.out wr HO.out.below
                    by_cases hzl : z < NT
                    · have h2 : (z : Int) < (NT : Int) := by omega
                      obtain ⟨x, hx⟩ : ∃ x, P.T[z]? = some x := ⟨_, List.getElem?_eq_getElem (by rw [HNT.out]; exact hzl)⟩
                      obtain ⟨g, hg, hge⟩ := FTE.out z x hx
                      subst hg
                      obtain ⟨xi, hxi⟩ : ∃ v, v = x.id := ⟨_, rfl⟩
                      have f3 := hge.out wr HO.out.below
                      rw [← hxi] at f3
                      have HNX : Hid ((ids.take (z + 1)).map (Value.int .i64) = (ids.take z).map (Value.int .i64) ++ [.int .i64 xi]) := by
                        show _ = _
                        rw [List.take_add_one, HIDS.out]
                        have : (idsV P.T)[z]? = some xi := by unfold idsV; rw [List.getElem?_map, hx, hxi]; rfl
                        rw [this]
                        simp
                      have hm1 : z + 1 ≤ 1000000 := by omega
                      clear hx hge hxi
                      go_wp2_with (first | (have hgo := HNX.out; clear hgo; at_builtin; refine wpList_own i64El (w0 := v8) rfl (.tmp 184) (.tmp 196) rfl _ z _ [.int .i64 xi] rfl (HO.out.alloc _) _ _ _ rfl rfl (lies_made _ _ _) (by intro u hu; simp at hu; rw [hu]; rfl) (fun h => by cases h) (z + 1) rfl hm1 ((ids.take (z + 1)).map (Value.int .i64)) HNX.out.symm ?_; intro a6 c6 w6 h1 h2; have O6 : Hid (OwnB 2 1 v8 w6 (.slice a6 (z + 1) c6) (z + 1) ((ids.take (z + 1)).map (Value.int .i64))) := h1; clear h1 h2))
                      go_roundw
                      case rel => exact ⟨z + 1, a6, c6, by go_num, rfl, by omega, O6⟩
                      case measure => simp [intOf]; omega
                    · obtain rfl : z = NT := by omega
                      have HOI : Hid (I64L wr la ids ∧ z ≤ lc) := by
                        have h9 := HO.out.own
                        rw [List.take_of_length_le (by rw [HNI.out]; exact Nat.le_refl _)] at h9
                        exact own_i64 h9 HNI.out
                      have HBV : Hid (Below v8.heap.size v8 wr) := HO.out.below
                      have HRW2 : Hid (∀ u, Below wr.heap.size wr u → RndQ W0 u p q s t xb P P (2 * (i + 1)) y) := fun u hu => HRV.out u (HBV.out.trans (hu.mono HBV.out.size))
                      have HIW : Hid (ItmsAt wr sa G ∧ ItmsAt wr ta G) := ⟨HIT.out.1.past HBV.out, HIT.out.2.past HBV.out⟩
                      have FX : Hid (∀ u, Below wr.heap.size wr u → u.cell? ⟨xb, 1, none⟩ = some (.int .i64 id)) := fun u hu => (FQ.out u xb (HRW2.out u hu).box).2.1
                      clear HO HIT HRV FTC FTE
                      go_wp2
                      refine wp_region_noPanic ?_
                      refine wp_region_held_drew (S := fun u => Below wr.heap.size wr u) (by kernel_rfl) ?_ (fun hHeld => ?_)
                      · exact (Below.refl _ _).drew
                      refine wpAnyH_take (i := 0) (v := ?_) rfl (by kernel_rfl) (by kernel_rfl) (by kernel_rfl) (fun _ _ _ h => h) (Or.inl ⟨by rfl, ?_⟩) hHeld ?_
                      rotate_left
                      · intro u hSu
                        (go_simp) <;> (with_reducible rfl)
                      change wpAnyH _ _ _ _ _ _ _ (Act.put _ (some 198) _) _
                      simp only [Act.put, List.setIfInBounds_toArray, List.set_cons_zero, List.set_cons_succ]
                      refine wpAnyH_take (i := 1) (v := ?_) rfl (by kernel_rfl) (by kernel_rfl) (by kernel_rfl) (fun _ _ _ h => h) (Or.inl ⟨by rfl, ?_⟩) hHeld ?_
                      rotate_left
                      · intro u hSu
                        (go_simp) <;> (with_reducible rfl)
                      change wpAnyH _ _ _ _ _ _ _ (Act.put _ (some 199) _) _
                      simp only [Act.put, List.setIfInBounds_toArray, List.set_cons_zero, List.set_cons_succ]
                      refine wpAnyH_take (i := 2) (v := ?_) rfl (by kernel_rfl) (by kernel_rfl) (by kernel_rfl) (fun _ _ _ h => h) (Or.inl ⟨by rfl, ?_⟩) hHeld ?_
                      rotate_left
                      · intro u hSu
                        (go_simp) <;> (with_reducible rfl)
                      change wpAnyH _ _ _ _ _ _ _ (Act.put _ (some 200) _) _
                      simp only [Act.put, List.setIfInBounds_toArray, List.set_cons_zero, List.set_cons_succ]
                      refine wpAnyH_take (i := 3) (v := ?_) rfl (by kernel_rfl) (by kernel_rfl) (by kernel_rfl) (fun _ _ _ h => h) (Or.inl ⟨by rfl, ?_⟩) hHeld ?_
                      rotate_left
                      · intro u hSu
                        (go_simp) <;> (with_reducible rfl)
                      change wpAnyH _ _ _ _ _ _ _ (Act.put _ (some 201) _) _
                      simp only [Act.put, List.setIfInBounds_toArray, List.set_cons_zero, List.set_cons_succ]
                      refine wpAnyH_take (i := 4) (v := ?_) rfl (by kernel_rfl) (by kernel_rfl) (by kernel_rfl) (fun _ _ _ h => h) (Or.inl ⟨by rfl, ?_⟩) hHeld ?_
                      rotate_left
                      · intro u hSu
                        (go_simp) <;> (with_reducible rfl)
                      change wpAnyH _ _ _ _ _ _ _ (Act.put _ (some 202) _) _
                      simp only [Act.put, List.setIfInBounds_toArray, List.set_cons_zero, List.set_cons_succ]
                      refine wpAnyH_take (i := 5) (v := ?_) rfl (by kernel_rfl) (by kernel_rfl) (by kernel_rfl) (fun _ _ _ h => h) (Or.inl ⟨by rfl, ?_⟩) hHeld ?_
                      rotate_left
                      · intro u hSu
                        (go_simp) <;> (with_reducible rfl)
                      change wpAnyH _ _ _ _ _ _ _ (Act.put _ (some 203) _) _
                      simp only [Act.put, List.setIfInBounds_toArray, List.set_cons_zero, List.set_cons_succ]
                      refine wpAnyH_take (i := 6) (v := ?_) rfl (by kernel_rfl) (by kernel_rfl) (by kernel_rfl) (fun _ _ _ h => h) (Or.inl ⟨by rfl, ?_⟩) hHeld ?_
                      rotate_left
                      · intro u hSu
                        (go_simp) <;> (with_reducible rfl)
                      change wpAnyH _ _ _ _ _ _ _ (Act.put _ (some 204) _) _
                      simp only [Act.put, List.setIfInBounds_toArray, List.set_cons_zero, List.set_cons_succ]
                      refine wpAnyH_take (i := 7) (v := ?_) rfl (by kernel_rfl) (by kernel_rfl) (by kernel_rfl) (fun _ _ _ h => h) (Or.inl ⟨by rfl, ?_⟩) hHeld ?_
                      rotate_left
                      · intro u hSu
                        (go_simp) <;> (with_reducible rfl)
                      change wpAnyH _ _ _ _ _ _ _ (Act.put _ (some 205) _) _
                      simp only [Act.put, List.setIfInBounds_toArray, List.set_cons_zero, List.set_cons_succ]
                      refine wpAnyH_take (i := 8) (v := ?_) rfl (by kernel_rfl) (by kernel_rfl) (by kernel_rfl) (fun _ _ _ h => h) (Or.inl ⟨by rfl, ?_⟩) hHeld ?_
                      rotate_left
                      · intro u hSu
                        (go_simp) <;> (with_reducible rfl)
                      change wpAnyH _ _ _ _ _ _ _ (Act.put _ (some 206) _) _
                      simp only [Act.put, List.setIfInBounds_toArray, List.set_cons_zero, List.set_cons_succ]
                      refine wpAnyH_take (i := 9) (v := ?_) rfl (by kernel_rfl) (by kernel_rfl) (by kernel_rfl) (fun _ _ _ h => h) (Or.inl ⟨by rfl, ?_⟩) hHeld ?_
                      rotate_left
                      · intro u hSu
                        (go_simp) <;> (with_reducible rfl)
                      change wpAnyH _ _ _ _ _ _ _ (Act.put _ (some 207) _) _
                      simp only [Act.put, List.setIfInBounds_toArray, List.set_cons_zero, List.set_cons_succ]
                      refine wpAnyH_take (i := 10) (v := ?_) rfl (by kernel_rfl) (by kernel_rfl) (by kernel_rfl) (fun _ _ _ h => h) (Or.inl ⟨by rfl, ?_⟩) hHeld ?_
                      rotate_left
                      · intro u hSu
                        (go_simp) <;> (with_reducible rfl)
                      change wpAnyH _ _ _ _ _ _ _ (Act.put _ (some 208) _) _
                      simp only [Act.put, List.setIfInBounds_toArray, List.set_cons_zero, List.set_cons_succ]
                      refine wpAnyH_take (i := 11) (v := ?_) rfl (by kernel_rfl) (by kernel_rfl) (by kernel_rfl) (fun _ _ _ h => h) (Or.inl ⟨by rfl, ?_⟩) hHeld ?_
                      rotate_left
                      · intro u hSu
                        (go_simp) <;> (with_reducible rfl)
                      change wpAnyH _ _ _ _ _ _ _ (Act.put _ (some 209) _) _
                      simp only [Act.put, List.setIfInBounds_toArray, List.set_cons_zero, List.set_cons_succ]
                      refine wpAnyH_take (i := 12) (v := ?_) rfl (by kernel_rfl) (by kernel_rfl) (by kernel_rfl) (fun _ _ _ h => h) (Or.inl ⟨by rfl, ?_⟩) hHeld ?_
                      rotate_left
                      · intro u hSu
                        (go_simp) <;> (with_reducible rfl)
                      change wpAnyH _ _ _ _ _ _ _ (Act.put _ (some 210) _) _
                      simp only [Act.put, List.setIfInBounds_toArray, List.set_cons_zero, List.set_cons_succ]
                      refine wpAnyH_take (i := 13) (v := ?_) rfl (by kernel_rfl) (by kernel_rfl) (by kernel_rfl) (fun _ _ _ h => h) (Or.inl ⟨by rfl, ?_⟩) hHeld ?_
                      rotate_left
                      · intro u hSu
                        (go_simp) <;> (with_reducible rfl)
                      change wpAnyH _ _ _ _ _ _ _ (Act.put _ (some 211) _) _
                      simp only [Act.put, List.setIfInBounds_toArray, List.set_cons_zero, List.set_cons_succ]
                      refine wpAnyH_take (i := 14) (v := ?_) rfl (by kernel_rfl) (by kernel_rfl) (by kernel_rfl) (fun _ _ _ h => h) (Or.inl ⟨by rfl, ?_⟩) hHeld ?_
                      rotate_left
                      · intro u hSu
                        (go_simp) <;> (with_reducible rfl)
                      change wpAnyH _ _ _ _ _ _ _ (Act.put _ (some 212) _) _
                      simp only [Act.put, List.setIfInBounds_toArray, List.set_cons_zero, List.set_cons_succ]
                      refine wpAnyH_take (i := 15) (v := ?_) rfl (by kernel_rfl) (by kernel_rfl) (by kernel_rfl) (fun _ _ _ h => h) (Or.inl ⟨by rfl, ?_⟩) hHeld ?_
                      rotate_left
                      · intro u hSu
                        (go_simp) <;> (with_reducible rfl)
                      change wpAnyH _ _ _ _ _ _ _ (Act.put _ (some 213) _) _
                      simp only [Act.put, List.setIfInBounds_toArray, List.set_cons_zero, List.set_cons_succ]
                      refine wpAnyH_take (i := 16) (v := ?_) rfl (by kernel_rfl) (by kernel_rfl) (by kernel_rfl) (fun _ _ _ h => h) (Or.inl ⟨by rfl, ?_⟩) hHeld ?_
                      rotate_left
                      · intro u hSu
                        (go_simp) <;> (with_reducible rfl)
                      change wpAnyH _ _ _ _ _ _ _ (Act.put _ (some 214) _) _
                      simp only [Act.put, List.setIfInBounds_toArray, List.set_cons_zero, List.set_cons_succ]
                      refine wpAnyH_take (i := 17) (v := ?_) rfl (by kernel_rfl) (by kernel_rfl) (by kernel_rfl) (fun _ _ _ h => h) (Or.inl ⟨by rfl, ?_⟩) hHeld ?_
                      rotate_left
                      · intro u hSu
                        (go_simp) <;> (with_reducible rfl)
                      change wpAnyH _ _ _ _ _ _ _ (Act.put _ (some 215) _) _
                      simp only [Act.put, List.setIfInBounds_toArray, List.set_cons_zero, List.set_cons_succ]
                      refine wpAnyH_take (i := 18) (v := ?_) rfl (by kernel_rfl) (by kernel_rfl) (by kernel_rfl) (fun _ _ _ h => h) (Or.inl ⟨by rfl, ?_⟩) hHeld ?_
                      rotate_left
                      · intro u hSu
                        (go_simp) <;> (with_reducible rfl)
                      change wpAnyH _ _ _ _ _ _ _ (Act.put _ (some 216) _) _
                      simp only [Act.put, List.setIfInBounds_toArray, List.set_cons_zero, List.set_cons_succ]
                      refine wpAnyH_take (i := 19) (v := ?_) rfl (by kernel_rfl) (by kernel_rfl) (by kernel_rfl) (fun _ _ _ h => h) (Or.inl ⟨by rfl, ?_⟩) hHeld ?_
                      rotate_left
                      · intro u hSu
                        (go_simp) <;> (with_reducible rfl)
                      change wpAnyH _ _ _ _ _ _ _ (Act.put _ (some 217) _) _
                      simp only [Act.put, List.setIfInBounds_toArray, List.set_cons_zero, List.set_cons_succ]
                      refine wpAnyH_take (i := 20) (v := ?_) rfl (by kernel_rfl) (by kernel_rfl) (by kernel_rfl) (fun _ _ _ h => h) (Or.inl ⟨by rfl, ?_⟩) hHeld ?_
                      rotate_left
                      · intro u hSu
                        (go_simp) <;> (with_reducible rfl)
                      change wpAnyH _ _ _ _ _ _ _ (Act.put _ (some 218) _) _
                      simp only [Act.put, List.setIfInBounds_toArray, List.set_cons_zero, List.set_cons_succ]
                      refine wpAnyH_take (i := 21) (v := ?_) rfl (by kernel_rfl) (by kernel_rfl) (by kernel_rfl) (fun _ _ _ h => h) (Or.inl ⟨by rfl, ?_⟩) hHeld ?_
                      rotate_left
                      · intro u hSu
                        (go_simp) <;> (with_reducible rfl)
                      change wpAnyH _ _ _ _ _ _ _ (Act.put _ (some 219) _) _
                      simp only [Act.put, List.setIfInBounds_toArray, List.set_cons_zero, List.set_cons_succ]
                      refine wpAnyH_take (i := 22) (v := ?_) rfl (by kernel_rfl) (by kernel_rfl) (by kernel_rfl) (fun _ _ _ h => h) (Or.inl ⟨by rfl, ?_⟩) hHeld ?_
                      rotate_left
                      · intro u hSu
                        (go_simp) <;> (with_reducible rfl)
                      change wpAnyH _ _ _ _ _ _ _ (Act.put _ (some 220) _) _
                      simp only [Act.put, List.setIfInBounds_toArray, List.set_cons_zero, List.set_cons_succ]
                      refine wpAnyH_take (i := 23) (v := ?_) rfl (by kernel_rfl) (by kernel_rfl) (by kernel_rfl) (fun _ _ _ h => h) (Or.inl ⟨by rfl, ?_⟩) hHeld ?_
                      rotate_left
                      · intro u hSu
                        (go_simp) <;> (with_reducible rfl)
                      change wpAnyH _ _ _ _ _ _ _ (Act.put _ (some 221) _) _
                      simp only [Act.put, List.setIfInBounds_toArray, List.set_cons_zero, List.set_cons_succ]
                      refine wpAnyH_take (i := 24) (v := ?_) rfl (by kernel_rfl) (by kernel_rfl) (by kernel_rfl) (fun _ _ _ h => h) (Or.inl ⟨by rfl, ?_⟩) hHeld ?_
                      rotate_left
                      · intro u hSu
                        (go_simp) <;> (with_reducible rfl)
                      change wpAnyH _ _ _ _ _ _ _ (Act.put _ (some 222) _) _
                      simp only [Act.put, List.setIfInBounds_toArray, List.set_cons_zero, List.set_cons_succ]
                      refine wpAnyH_ready (rs := [25]) (by kernel_rfl) (by simp) ?_
                      refine AllReadyH.cons rfl (fun K hK => ?_) AllReadyH.nil
                      go_simp
                      go_at_call 33
                      refine (CI.out _ _ _ _ _ (HIW.out.1.past hHeld) (HIW.out.2.past hHeld) hsc htc).mono ?_
                      rintro e y1 ⟨rfl, hby1⟩
                      have By1 : Hid (Below wr.heap.size wr y1) := hHeld.trans (hby1.mono hHeld.size)
                      clear hby1
                      refine hK.out _ _ ?_ (fun hHeld2 => ?_)
                      · exact By1.out
                      clear hK K hHeld
                      have hHeld := hHeld2
                      clear hHeld2
                      refine wpAnyH_take (i := 26) (v := ?_) rfl (by kernel_rfl) (by kernel_rfl) (by kernel_rfl) (fun _ _ _ h => h) (Or.inl ⟨by rfl, ?_⟩) hHeld ?_
                      rotate_left
                      · intro u hSu
                        (go_simp) <;> (with_reducible rfl)
                      change wpAnyH _ _ _ _ _ _ _ (Act.put _ (some 224) _) _
                      simp only [Act.put, List.setIfInBounds_toArray, List.set_cons_zero, List.set_cons_succ]
                      refine wpAnyH_take (i := 27) (v := ?_) rfl (by kernel_rfl) (by kernel_rfl) (by kernel_rfl) (fun _ _ _ h => h) (Or.inl ⟨by rfl, ?_⟩) hHeld ?_
                      rotate_left
                      · intro u hSu
                        (go_simp) <;> (with_reducible rfl)
                      change wpAnyH _ _ _ _ _ _ _ (Act.put _ (some 225) _) _
                      simp only [Act.put, List.setIfInBounds_toArray, List.set_cons_zero, List.set_cons_succ]
                      refine wpAnyH_take (i := 28) (v := ?_) rfl (by kernel_rfl) (by kernel_rfl) (by kernel_rfl) (fun _ _ _ h => h) (Or.inl ⟨by rfl, ?_⟩) hHeld ?_
                      rotate_left
                      · intro u hSu
                        (go_simp) <;> (with_reducible rfl)
                      change wpAnyH _ _ _ _ _ _ _ (Act.put _ (some 226) _) _
                      simp only [Act.put, List.setIfInBounds_toArray, List.set_cons_zero, List.set_cons_succ]
                      refine wpAnyH_take (i := 29) (v := ?_) rfl (by kernel_rfl) (by kernel_rfl) (by kernel_rfl) (fun _ _ _ h => h) (Or.inl ⟨by rfl, ?_⟩) hHeld ?_
                      rotate_left
                      · intro u hSu
                        (go_simp) <;> (with_reducible rfl)
                      change wpAnyH _ _ _ _ _ _ _ (Act.put _ (some 227) _) _
                      simp only [Act.put, List.setIfInBounds_toArray, List.set_cons_zero, List.set_cons_succ]
                      refine wpAnyH_take (i := 30) (v := ?_) rfl (by kernel_rfl) (by kernel_rfl) (by kernel_rfl) (fun _ _ _ h => h) (Or.inl ⟨by rfl, ?_⟩) hHeld ?_
                      rotate_left
                      · intro u hSu
                        (go_simp) <;> (with_reducible rfl)
                      change wpAnyH _ _ _ _ _ _ _ (Act.put _ (some 228) _) _
                      simp only [Act.put, List.setIfInBounds_toArray, List.set_cons_zero, List.set_cons_succ]
                      refine wpAnyH_take (i := 31) (v := ?_) rfl (by kernel_rfl) (by kernel_rfl) (by kernel_rfl) (fun _ _ _ h => h) (Or.inl ⟨by rfl, ?_⟩) hHeld ?_
                      rotate_left
                      · intro u hSu
                        (go_simp) <;> (with_reducible rfl)
                      change wpAnyH _ _ _ _ _ _ _ (Act.put _ (some 229) _) _
                      simp only [Act.put, List.setIfInBounds_toArray, List.set_cons_zero, List.set_cons_succ]
                      refine wpAnyH_take (i := 32) (v := ?_) rfl (by kernel_rfl) (by kernel_rfl) (by kernel_rfl) (fun _ _ _ h => h) (Or.inl ⟨by rfl, ?_⟩) hHeld ?_
                      rotate_left
                      · intro u hSu
                        have r1 := FX.out u hSu
                        (go_simp) <;> (with_reducible rfl)
                      change wpAnyH _ _ _ _ _ _ _ (Act.put _ (some 230) _) _
                      simp only [Act.put, List.setIfInBounds_toArray, List.set_cons_zero, List.set_cons_succ]
                      refine wpAnyH_take (i := 34) (v := ?_) rfl (by kernel_rfl) (by kernel_rfl) (by kernel_rfl) (fun _ _ _ h => h) (Or.inl ⟨by rfl, ?_⟩) hHeld ?_
                      rotate_left
                      · intro u hSu
                        (go_simp) <;> (with_reducible rfl)
                      change wpAnyH _ _ _ _ _ _ _ (Act.put _ (some 232) _) _
                      simp only [Act.put, List.setIfInBounds_toArray, List.set_cons_zero, List.set_cons_succ]
                      refine wpAnyH_take (i := 35) (v := ?_) rfl (by kernel_rfl) (by kernel_rfl) (by kernel_rfl) (fun _ _ _ h => h) (Or.inl ⟨by rfl, ?_⟩) hHeld ?_
                      rotate_left
                      · intro u hSu
                        (go_simp) <;> (with_reducible rfl)
                      change wpAnyH _ _ _ _ _ _ _ (Act.put _ (some 233) _) _
                      simp only [Act.put, List.setIfInBounds_toArray, List.set_cons_zero, List.set_cons_succ]
                      refine wpAnyH_take (i := 36) (v := ?_) rfl (by kernel_rfl) (by kernel_rfl) (by kernel_rfl) (fun _ _ _ h => h) (Or.inl ⟨by rfl, ?_⟩) hHeld ?_
                      rotate_left
                      · intro u hSu
                        (go_simp) <;> (with_reducible rfl)
                      change wpAnyH _ _ _ _ _ _ _ (Act.put _ (some 234) _) _
                      simp only [Act.put, List.setIfInBounds_toArray, List.set_cons_zero, List.set_cons_succ]
                      refine wpAnyH_take (i := 37) (v := ?_) rfl (by kernel_rfl) (by kernel_rfl) (by kernel_rfl) (fun _ _ _ h => h) (Or.inl ⟨by rfl, ?_⟩) hHeld ?_
                      rotate_left
                      · intro u hSu
                        have r1 := FX.out u hSu
                        (go_simp) <;> (with_reducible rfl)
                      change wpAnyH _ _ _ _ _ _ _ (Act.put _ (some 235) _) _
                      simp only [Act.put, List.setIfInBounds_toArray, List.set_cons_zero, List.set_cons_succ]
                      refine wpAnyH_ready (rs := [33]) (by kernel_rfl) (by simp) ?_
                      refine AllReadyH.cons rfl (fun K hK => ?_) AllReadyH.nil
                      go_simp
                      go_at_call 19
                      refine (CT1.out _ (HRW2.out _ hHeld)).mono ?_
                      rintro e y2 ⟨rfl, hby2⟩
                      have By2 : Hid (Below wr.heap.size wr y2) := hHeld.trans (hby2.mono hHeld.size)
                      clear hby2
                      refine hK.out _ _ ?_ (fun hHeld2 => ?_)
                      · exact By2.out
                      clear hK K hHeld
                      have hHeld := hHeld2
                      clear hHeld2
                      refine wpAnyH_ready (rs := [38]) (by kernel_rfl) (by simp) ?_
                      refine AllReadyH.cons rfl (fun K hK => ?_) AllReadyH.nil
                      go_simp
                      go_at_call 34
                      refine (CT2.out _ (HRW2.out _ hHeld)).mono ?_
                      rintro e y3 ⟨rfl, hby3⟩
                      have By3 : Hid (Below wr.heap.size wr y3) := hHeld.trans (hby3.mono hHeld.size)
                      clear hby3
                      refine hK.out _ _ ?_ (fun hHeld2 => ?_)
                      · exact By3.out
                      clear hK K hHeld
                      have hHeld := hHeld2
                      clear hHeld2
                      refine wpAnyH_take (i := 39) (v := ?_) rfl (by kernel_rfl) (by kernel_rfl) (by kernel_rfl) (fun _ _ _ h => h) (Or.inl ⟨by rfl, ?_⟩) hHeld ?_
                      rotate_left
                      · intro u hSu
                        (go_simp) <;> (with_reducible rfl)
                      change wpAnyH _ _ _ _ _ _ _ (Act.put _ (some 237) _) _
                      simp only [Act.put, List.setIfInBounds_toArray, List.set_cons_zero, List.set_cons_succ]
                      refine wpAnyH_take (i := 40) (v := ?_) rfl (by kernel_rfl) (by kernel_rfl) (by kernel_rfl) (fun _ _ _ h => h) (Or.inl ⟨by rfl, ?_⟩) hHeld ?_
                      rotate_left
                      · intro u hSu
                        (go_simp) <;> (with_reducible rfl)
                      change wpAnyH _ _ _ _ _ _ _ (Act.put _ (some 238) _) _
                      simp only [Act.put, List.setIfInBounds_toArray, List.set_cons_zero, List.set_cons_succ]
                      refine wpAnyH_take (i := 41) (v := ?_) rfl (by kernel_rfl) (by kernel_rfl) (by kernel_rfl) (fun _ _ _ h => h) (Or.inl ⟨by rfl, ?_⟩) hHeld ?_
                      rotate_left
                      · intro u hSu
                        (go_simp) <;> (with_reducible rfl)
                      change wpAnyH _ _ _ _ _ _ _ (Act.put _ (some 239) _) _
                      simp only [Act.put, List.setIfInBounds_toArray, List.set_cons_zero, List.set_cons_succ]
                      refine wpAnyH_take (i := 42) (v := ?_) rfl (by kernel_rfl) (by kernel_rfl) (by kernel_rfl) (fun _ _ _ h => h) (Or.inl ⟨by rfl, ?_⟩) hHeld ?_
                      rotate_left
                      · intro u hSu
                        (go_simp) <;> (with_reducible rfl)
                      change wpAnyH _ _ _ _ _ _ _ (Act.put _ (some 240) _) _
                      simp only [Act.put, List.setIfInBounds_toArray, List.set_cons_zero, List.set_cons_succ]
                      refine wpAnyH_take (i := 44) (v := ?_) rfl (by kernel_rfl) (by kernel_rfl) (by kernel_rfl) (fun _ _ _ h => h) (Or.inl ⟨by rfl, ?_⟩) hHeld ?_
                      rotate_left
                      · intro u hSu
                        (go_simp) <;> (with_reducible rfl)
                      change wpAnyH _ _ _ _ _ _ _ (Act.put _ (some 242) _) _
                      simp only [Act.put, List.setIfInBounds_toArray, List.set_cons_zero, List.set_cons_succ]
                      refine wpAnyH_ready (rs := [43]) (by kernel_rfl) (by simp) ?_
                      refine AllReadyH.cons rfl (fun K hK => ?_) AllReadyH.nil
                      go_simp
                      go_at_call 20
                      refine (CPD.out _ (HRW2.out _ hHeld)).mono ?_
                      rintro e y4 ⟨⟨da, dc, rfl, hdc, HD⟩, hby4⟩
                      have By4 : Hid (Below wr.heap.size wr y4) := hHeld.trans (hby4.mono hHeld.size)
                      have HDD : Hid (I64L y4 da ids ∧ I64L y4 la ids) := ⟨HD.out, HOI.out.1.past By4.out⟩
                      clear HD
                      clear hby4
                      refine hK.out _ _ ?_ (fun hHeld2 => ?_)
                      · exact By4.out
                      clear hK K hHeld
                      have hHeld := hHeld2
                      clear hHeld2
                      refine wpAnyH_ready (rs := [45]) (by kernel_rfl) (by simp) ?_
                      refine AllReadyH.cons rfl (fun K hK => ?_) AllReadyH.nil
                      go_simp
                      go_at_call 35
                      refine (CSM.out _ _ _ _ _ hdc HOI.out.2 HDD.out.1 HDD.out.2).mono ?_
                      rintro e y5 ⟨rfl, hby5⟩
                      have By5 : Hid (Below wr.heap.size wr y5) := hHeld.trans (hby5.mono hHeld.size)
                      clear hby5
                      refine hK.out _ _ ?_ (fun hHeld2 => ?_)
                      · exact By5.out
                      clear hK K hHeld
                      have hHeld := hHeld2
                      clear hHeld2
                      refine wpAnyH_take (i := 46) (v := ?_) rfl (by kernel_rfl) (by kernel_rfl) (by kernel_rfl) (fun _ _ _ h => h) (Or.inl ⟨by rfl, ?_⟩) hHeld ?_
                      rotate_left
                      · intro u hSu
                        (go_simp) <;> (with_reducible rfl)
                      change wpAnyH _ _ _ _ _ _ _ (Act.put _ (some 244) _) _
                      simp only [Act.put, List.setIfInBounds_toArray, List.set_cons_zero, List.set_cons_succ]
                      refine wpAnyH_take (i := 47) (v := ?_) rfl (by kernel_rfl) (by kernel_rfl) (by kernel_rfl) (fun _ _ _ h => h) (Or.inl ⟨by rfl, ?_⟩) hHeld ?_
                      rotate_left
                      · intro u hSu
                        (go_simp) <;> (with_reducible rfl)
                      change wpAnyH _ _ _ _ _ _ _ (Act.put _ (some 245) _) _
                      simp only [Act.put, List.setIfInBounds_toArray, List.set_cons_zero, List.set_cons_succ]
                      refine wpAnyH_done (by kernel_rfl) ?_ _
                      refine NoPanic.normal ?_
                      go_wp2
                      go_roundw
                      case rel => exact ⟨i + 1, by go_num, by omega, P, (HRW2.out _ By5.out).duo.less (fun k e => e.elim)⟩
                      case measure => simp [intOf]; omega
      · as_aux_lemma =>
          obtain rfl : i = len0 := by omega
          have CSO : Hid (∀ u, Below wr.heap.size wr u → Calls Tryz.prog 38 #[.pointer (some ⟨p, 0, none⟩)] u fun e w' => ∃ b, e = .returned (.pointer (some ⟨b, 0, none⟩)) ∧ Hid (∃ Z, StD w' b P.S Z) ∧ Below u.heap.size u w') := fun u hu => qstore_p (HM.out.past hu)
          have CST : Hid (∀ u b, (∃ Z, StD u b P.S Z) → Calls Tryz.prog 37 #[.pointer (some ⟨b, 0, none⟩)] u fun e w' => ∃ c, e = .returned (.pointer (some ⟨c, 0, none⟩)) ∧ Hid (StoreL w' c P.S) ∧ Below u.heap.size u w') := fun u b h => by
            obtain ⟨Z, hZ⟩ := h
            refine (lsto_any b P.S Z u hZ).mono ?_
            rintro e w' ⟨c, rfl, h1, h2⟩
            exact ⟨c, rfl, h1.looks, h2⟩
          have CSM : Hid (∀ u c, Below wr.heap.size wr u → StoreL u c P.S → Calls Tryz.prog 36 #[.pointer (some ⟨c, 0, none⟩), .pointer (some ⟨s, 0, none⟩)] u fun e w' => e = .returned (.bool true) ∧ Below u.heap.size u w') := fun u c hu h => rsame_yesQ c s P.S u h (HM.out.past hu).sto.looks
          have FC : Hid (∀ u, Below wr.heap.size wr u → u.cell? ⟨q, 0, none⟩ = some (.pointer (some ⟨s, 0, none⟩))) := fun u hu => (HM.out.past hu).cells.1
          go_wp2
          refine wp_region_noPanic ?_
          refine wp_region_held_drew (S := fun u => Below wr.heap.size wr u) (by kernel_rfl) ?_ (fun hHeld => ?_)
          · exact (Below.refl _ _).drew
          refine wpAnyH_take (i := 0) (v := ?_) rfl (by kernel_rfl) (by kernel_rfl) (by kernel_rfl) (fun _ _ _ h => h) (Or.inl ⟨by rfl, ?_⟩) hHeld ?_
          rotate_left
          · intro u hSu
            (go_simp) <;> (with_reducible rfl)
          change wpAnyH _ _ _ _ _ _ _ (Act.put _ (some 246) _) _
          simp only [Act.put, List.setIfInBounds_toArray, List.set_cons_zero, List.set_cons_succ]
          refine wpAnyH_take (i := 3) (v := ?_) rfl (by kernel_rfl) (by kernel_rfl) (by kernel_rfl) (fun _ _ _ h => h) (Or.inl ⟨by rfl, ?_⟩) hHeld ?_
          rotate_left
          · intro u hSu
            (go_simp) <;> (with_reducible rfl)
          change wpAnyH _ _ _ _ _ _ _ (Act.put _ (some 249) _) _
          simp only [Act.put, List.setIfInBounds_toArray, List.set_cons_zero, List.set_cons_succ]
          refine wpAnyH_take (i := 4) (v := ?_) rfl (by kernel_rfl) (by kernel_rfl) (by kernel_rfl) (fun _ _ _ h => h) (Or.inl ⟨by rfl, ?_⟩) hHeld ?_
          rotate_left
          · intro u hSu
            (go_simp) <;> (with_reducible rfl)
          change wpAnyH _ _ _ _ _ _ _ (Act.put _ (some 250) _) _
          simp only [Act.put, List.setIfInBounds_toArray, List.set_cons_zero, List.set_cons_succ]
          refine wpAnyH_take (i := 5) (v := ?_) rfl (by kernel_rfl) (by kernel_rfl) (by kernel_rfl) (fun _ _ _ h => h) (Or.inl ⟨by rfl, ?_⟩) hHeld ?_
          rotate_left
          · intro u hSu
            (go_simp) <;> (with_reducible rfl)
          change wpAnyH _ _ _ _ _ _ _ (Act.put _ (some 251) _) _
          simp only [Act.put, List.setIfInBounds_toArray, List.set_cons_zero, List.set_cons_succ]
          refine wpAnyH_take (i := 6) (v := ?_) rfl (by kernel_rfl) (by kernel_rfl) (by kernel_rfl) (fun _ _ _ h => h) (Or.inl ⟨by rfl, ?_⟩) hHeld ?_
          rotate_left
          · intro u hSu
            have f0 := FC.out u hSu
            (go_simp) <;> (with_reducible rfl)
          change wpAnyH _ _ _ _ _ _ _ (Act.put _ (some 252) _) _
          simp only [Act.put, List.setIfInBounds_toArray, List.set_cons_zero, List.set_cons_succ]
          refine wpAnyH_ready (rs := [1]) (by kernel_rfl) (by simp) ?_
          refine AllReadyH.cons rfl (fun K hK => ?_) AllReadyH.nil
          go_simp
          go_at_call 38
          refine (CSO.out _ hHeld).mono ?_
          rintro e y1 ⟨sb, rfl, HSD, hb1⟩
          have By1 : Hid (Below wr.heap.size wr y1) := hHeld.trans (hb1.mono hHeld.size)
          clear hb1
          refine hK.out _ _ ?_ (fun hHeld2 => ?_)
          · exact By1.out
          clear hK K hHeld
          have hHeld := hHeld2
          clear hHeld2
          refine wpAnyH_ready (rs := [2]) (by kernel_rfl) (by simp) ?_
          refine AllReadyH.cons rfl (fun K hK => ?_) AllReadyH.nil
          go_simp
          go_at_call 37
          refine (CST.out _ _ HSD.out).mono ?_
          rintro e y2 ⟨sc, rfl, HSL, hb2⟩
          have By2 : Hid (Below wr.heap.size wr y2) := hHeld.trans (hb2.mono hHeld.size)
          clear hb2
          refine hK.out _ _ ?_ (fun hHeld2 => ?_)
          · exact By2.out
          clear hK K hHeld
          have hHeld := hHeld2
          clear hHeld2
          refine wpAnyH_ready (rs := [7]) (by kernel_rfl) (by simp) ?_
          refine AllReadyH.cons rfl (fun K hK => ?_) AllReadyH.nil
          go_simp
          go_at_call 36
          refine (CSM.out _ _ hHeld HSL.out).mono ?_
          rintro e y3 ⟨rfl, hb3⟩
          have By3 : Hid (Below wr.heap.size wr y3) := hHeld.trans (hb3.mono hHeld.size)
          clear hb3
          refine hK.out _ _ ?_ (fun hHeld2 => ?_)
          · exact By3.out
          clear hK K hHeld
          have hHeld := hHeld2
          clear hHeld2
          refine wpAnyH_take (i := 8) (v := ?_) rfl (by kernel_rfl) (by kernel_rfl) (by kernel_rfl) (fun _ _ _ h => h) (Or.inl ⟨by rfl, ?_⟩) hHeld ?_
          rotate_left
          · intro u hSu
            (go_simp) <;> (with_reducible rfl)
          change wpAnyH _ _ _ _ _ _ _ (Act.put _ (some 14) _) _
          simp only [Act.put, List.setIfInBounds_toArray, List.set_cons_zero, List.set_cons_succ]
          refine wpAnyH_done (by kernel_rfl) ?_ _
          refine NoPanic.normal ?_
          go_wp2
          go_ret
          exact ⟨rfl, HBW.out.trans (By3.out.mono HBW.out.size)⟩

set_option maxRecDepth 100000 in
theorem lifted (os : Os) (started : os.Started) (H : Type) (enc : TypeId × Value → H) :
    ReturnsInHanded {} Tryz.checked os 4 .any (Rows.partPlaysSpec.pre6 enc Tryz.prog Tryz.f4 Rows.partPlaysRow.domain false) (Rows.partPlaysSpec.post enc Tryz.prog Tryz.f4 false true false false) := by
  refine returnsInHanded_of_change (C := Tryz.checked) own started (by kernel_rfl) Tryz.func4
    (ChangeSpec.witness6 (enc := enc) (C := Tryz.checked) false ⟨#[], #[.slice none 0 0, .agg #[.int .u8 0, .int .u8 0, .int .u8 0, .int .u8 0, .int .u8 0, .int .u8 0, .int .u8 0, .int .u8 0, .int .u8 0, .int .u8 0, .int .u8 0, .int .u8 0, .int .u8 0, .int .u8 0, .int .u8 0, .int .u8 0], .agg #[.int .u8 0, .int .u8 0, .int .u8 0, .int .u8 0, .int .u8 0, .int .u8 0, .int .u8 0, .int .u8 0, .int .u8 0, .int .u8 0, .int .u8 0, .int .u8 0, .int .u8 0, .int .u8 0, .int .u8 0, .int .u8 0], .agg #[.int .u8 0, .int .u8 0, .int .u8 0, .int .u8 0, .int .u8 0, .int .u8 0, .int .u8 0, .int .u8 0, .int .u8 0, .int .u8 0, .int .u8 0, .int .u8 0, .int .u8 0, .int .u8 0, .int .u8 0, .int .u8 0], .agg #[.int .i64 0, .int .u8 0], .int .i64 0, .int .i64 0], []⟩ 8 (by kernel_rfl) (by kernel_rfl) (by kernel_rfl) (by kernel_rfl)) ?_
  intro W base args ds gs before hval0 hW hcnd _
  have hval : ∀ (j : Nat) t v, Tryz.f4.params[j]? = some t → args[j]? = some v → Value.okWide Tryz.prog W .any base t v := hval0
  have hW' := hW
  obtain ⟨p, q, hA0, hV, rfl, hfz, hnd⟩ := hW
  have hA : DataW.TrodAll enc Tryz.prog W 0 (fun _ => true) true Tryz.f4.params.toList args.toList ds p := hA0
  rw [Tryz.params4] at hA hval
  obtain ⟨v0, vs0, d0, ds0, p0, q0, hargs, rfl, rfl, h0, r0⟩ := trodAll_cons hA
  obtain ⟨v1, vs1, d1, ds1, p1, q1, rfl, rfl, rfl, h1, r1⟩ := trodAll_cons r0
  obtain ⟨v2, vs2, d2, ds2, p2, q2, rfl, rfl, rfl, h2, r2⟩ := trodAll_cons r1
  obtain ⟨v3, vs3, d3, ds3, p3, q3, rfl, rfl, rfl, h3, r3⟩ := trodAll_cons r2
  obtain ⟨v4, vs4, d4, ds4, p4, q4, rfl, rfl, rfl, h4, r4⟩ := trodAll_cons r3
  obtain ⟨v5, vs5, d5, ds5, p5, q5, rfl, rfl, rfl, h5, r5⟩ := trodAll_cons r4
  obtain ⟨v6, vs6, d6, ds6, p6, q6, rfl, rfl, rfl, h6, r6⟩ := trodAll_cons r5
  obtain ⟨rfl, rfl, rfl⟩ := trodAll_nil r6
  obtain rfl : args = #[v0, v1, v2, v3, v4, v5, v6] := by cases args; simp_all
  obtain ⟨rfl, rfl⟩ := trodVars_none hV
  obtain ⟨a0, len0, cap0, rfl⟩ := okWide_slice Tryz.underlying51 (hval 0 51 v0 rfl rfl)
  have k0 := h0
  have lt0 : ∀ x ∈ p0, x.block < W.heap.size := by obtain ⟨m, hm⟩ := k0; exact DataW.trod_lt m _ _ _ hm
  obtain ⟨z0, l0, w0⟩ : ∃ xs : List QAct, xs.length = len0 ∧ QActsOf W a0 cap0 xs := by
    obtain ⟨fuel, hf⟩ := h0
    exact qacts_open Tryz.underlying51 Tryz.underlying55 Tryz.underlying3 rfl rfl rfl Tryz.underlying31 Tryz.underlying2 Tryz.underlying28 Tryz.underlying28 Tryz.underlying2 Tryz.underlying5 Tryz.underlying29 Tryz.underlying80 Tryz.underlying38 Tryz.underlying5 Tryz.underlying9 Tryz.underlying4 rfl rfl rfl rfl rfl rfl rfl rfl rfl (by kernel_rfl) (by kernel_rfl) (by kernel_rfl) (by kernel_rfl) (by kernel_rfl) (by kernel_rfl) (by kernel_rfl) (by kernel_rfl) (by kernel_rfl) (by kernel_rfl) (by kernel_rfl) Tryz.underlying28 Tryz.underlying47 Tryz.underlying3 Tryz.underlying2 Tryz.underlying28 Tryz.underlying28 Tryz.underlying29 Tryz.underlying4 Tryz.underlying45 Tryz.underlying3 rfl rfl rfl rfl rfl rfl rfl (by kernel_rfl) (by kernel_rfl) (by kernel_rfl) (by kernel_rfl) (by kernel_rfl) (by kernel_rfl) (by kernel_rfl) (by kernel_rfl) rfl rfl rfl rfl (by kernel_rfl) (by kernel_rfl) (by kernel_rfl) (by kernel_rfl) (by kernel_rfl) hf
  have k1 := h1
  have lt1 : ∀ x ∈ p1, x.block < W.heap.size := by obtain ⟨m, hm⟩ := k1; exact DataW.trod_lt m _ _ _ hm
  obtain ⟨z1, rfl, w1⟩ := arr_open Tryz.underlying38 Tryz.underlying5 (by kernel_rfl) (by kernel_rfl) (hval 1 38 v1 rfl rfl) h1
  have k2 := h2
  have lt2 : ∀ x ∈ p2, x.block < W.heap.size := by obtain ⟨m, hm⟩ := k2; exact DataW.trod_lt m _ _ _ hm
  obtain ⟨z2, rfl, w2⟩ := arr_open Tryz.underlying38 Tryz.underlying5 (by kernel_rfl) (by kernel_rfl) (hval 2 38 v2 rfl rfl) h2
  have k3 := h3
  have lt3 : ∀ x ∈ p3, x.block < W.heap.size := by obtain ⟨m, hm⟩ := k3; exact DataW.trod_lt m _ _ _ hm
  obtain ⟨z3, rfl, w3⟩ := arr_open Tryz.underlying38 Tryz.underlying5 (by kernel_rfl) (by kernel_rfl) (hval 3 38 v3 rfl rfl) h3
  have k4 := h4
  have lt4 : ∀ x ∈ p4, x.block < W.heap.size := by obtain ⟨m, hm⟩ := k4; exact DataW.trod_lt m _ _ _ hm
  obtain ⟨a4, b4, rfl, w4, x4⟩ := struct2_open Tryz.underlying28 Tryz.underlying2 Tryz.underlying5 rfl rfl (by kernel_rfl) (by kernel_rfl) (by kernel_rfl) (hval 4 28 v4 rfl rfl) h4
  have k5 := h5
  have lt5 : ∀ x ∈ p5, x.block < W.heap.size := by obtain ⟨m, hm⟩ := k5; exact DataW.trod_lt m _ _ _ hm
  obtain ⟨a5, rfl, rfl, rfl, w5⟩ := open_int Tryz.underlying2 (hval 5 2 v5 rfl rfl) h5
  have k6 := h6
  have lt6 : ∀ x ∈ p6, x.block < W.heap.size := by obtain ⟨m, hm⟩ := k6; exact DataW.trod_lt m _ _ _ hm
  obtain ⟨a6, rfl, rfl, rfl, w6⟩ := open_int Tryz.underlying3 (hval 6 3 v6 rfl rfl) h6
  clear hA0 hval0
  refine (walk a0 len0 cap0 z0 z1 z2 z3 a4 b4 a5 a6 W l0 w0 w1 w2 w3 w4 x4 w5 w6).mono fun e W' ⟨he, bel⟩ => ?_
  subst he
  exact ⟨_, rfl, _, _, _, [], _, [], hW', trodAll_mk1 (shut_bool Tryz.underlying4 _), (trodAll_cons_mk (Below.trod laidOut (by kernel_rfl) (of_decide_eq_true (by kernel_rfl)) k0 bel lt0) (trodAll_cons_mk (Below.trod laidOut (by kernel_rfl) (of_decide_eq_true (by kernel_rfl)) k1 bel lt1) (trodAll_cons_mk (Below.trod laidOut (by kernel_rfl) (of_decide_eq_true (by kernel_rfl)) k2 bel lt2) (trodAll_cons_mk (Below.trod laidOut (by kernel_rfl) (of_decide_eq_true (by kernel_rfl)) k3 bel lt3) (trodAll_cons_mk (Below.trod laidOut (by kernel_rfl) (of_decide_eq_true (by kernel_rfl)) k4 bel lt4) (trodAll_cons_mk (Below.trod laidOut (by kernel_rfl) (of_decide_eq_true (by kernel_rfl)) k5 bel lt5) (trodAll_cons_mk (Below.trod laidOut (by kernel_rfl) (of_decide_eq_true (by kernel_rfl)) k6 bel lt6) trodAll_mk0))))))), rfl, bel.frame _, fun h => by cases h⟩

theorem over : Rows.partPlaysRow.holds Tryz.pinned (OpenSpec.ofChange Rows.partPlaysSpec) :=
  OpenClaim.holds_of_wide 4 Tryz.f4 rfl rfl rfl rfl rfl rfl rfl ⟨rfl, rfl, rfl, rfl, rfl⟩ rfl rfl rfl rfl rfl (by kernel_rfl) Tryz.func4 (by kernel_rfl)
    (of_decide_eq_true (by kernel_rfl)) (by unfold Func.isWrapper; first | (rw [if_pos (by decide +kernel)]; kernel_rfl) | (rw [if_neg (by decide +kernel)]; exact ⟨rfl, rfl⟩))
    (fun os started H enc _ => lifted os started H enc)
theorem proved : Rows.PartPlaysSaid := over
#print axioms proved
end Go.Proofs.YtileidbdmpeciaaGreat.partPlays
namespace Go.Proofs.YtileidbdmpeciaaGreat
/-- PartPlays, as given. -/
theorem partPlays_holds : Rows.PartPlaysSaid := partPlays.proved
end Go.Proofs.YtileidbdmpeciaaGreat
