/-
  CoordPlays: any calls: what is decided, at which stamp, who owes, what is logged, are as the document says (of more than 80 calls, of more than 12 parts, of records with writes the statement asks nothing).
-/
import Derived.Test.YtcppihpehipelaaRows
import Derived.Test.YtcppihpehipelaaCdL6
import Derived.Test.YtcppihpehipelaaAu64
import Derived.WalkKit
import Derived.ProofKit
import Derived.OpenShut
import Derived.ShutString
import Derived.ChangeOld
import Derived.Below
import Derived.Carry
namespace Go.Proofs.Ytcppihpehipelaa.coordPlays
open Go.ChangeShapes Go.WideShapes Go.ChangeAt Go.RowKit
open Go.ChangeMaps (open_string shut_string)
set_option linter.unusedVariables false

theorem own : ownKnob Try.prog.godebug = none := by kernel_rfl
theorem laidOut : laidOutB Try.prog = true := by kernel_rfl
/-- A slice of integers that came in: nil, or a row of 'cap' cells, of which the first 'len' are its elements. -/
def IsRow (k : IntKind) (w : World) (a : Option Addr) (len cap : Nat) (zs : List Int) : Prop :=
  (a = none ∧ len = 0 ∧ cap = 0 ∧ zs = []) ∨
  ∃ x, a = some x ∧ len ≤ cap ∧ cap ≤ maxLen ∧ zs.length = cap ∧ (∀ i, i < zs.length → w.cell? (x.add i) = some (.int k (zs.getD i 0))) ∧ ∀ n ∈ zs, (Lit.int k n).wf = true

set_option linter.unusedSimpArgs false in
set_option maxRecDepth 20000 in
set_option maxHeartbeats 32000000 in
theorem walk (a0 : Option Addr) (len0 cap0 : Nat) (z0 : List DAct) (w : World) (l0 : z0.length = len0) (w0 : DActsOf w a0 cap0 z0) :
    Calls Try.prog 4 #[.slice a0 len0 cap0] w fun e w' => e = .returned (.bool true) ∧ Below w.heap.size w w' := by
  have HL : Hid (z0.length = len0) := l0
  have HA : Hid (DActsOf w a0 cap0 z0) := w0
  have hcap : len0 ≤ cap0 := by rw [← l0]; exact w0.room
  have AW : Hid (∀ u, Calls Try.prog 7 #[] u fun e w' => e = .returned (.bool true) ∧ Below u.heap.size u w') := fun u => cdawake_any u
  clear w0 l0
  by_cases h80 : 80 < len0
  · have b80 : (80 : Int) < (len0 : Int) := by omega
    go_enter Try.func4, Try.ntmps4
    go_wp2_with ((go_at_call 7; refine (AW.out _).mono ?_; rintro e wA ⟨rfl, hbA⟩; have HBA : Hid (Below w.heap.size w wA) := hbA; clear hbA))
    go_ret
    exact ⟨rfl, HBA.out⟩
  have b80 : ¬ (80 : Int) < (len0 : Int) := by omega
  have h80b : len0 ≤ 80 := by omega
  clear h80
  go_enter Try.func4, Try.ntmps4
  go_wp2_with (first | (go_at_call 7; refine (AW.out _).mono ?_; rintro e wA ⟨rfl, hbA⟩; have HBA : Hid (Below w.heap.size w wA) := hbA; clear hbA) | (go_at_call 8; refine (cdf_new _).mono ?_; rintro e wN ⟨b, rfl, kN, -⟩; have KN : Hid (CdF wA wN b [] noFoot) := kN; clear kN))
  have HD0 : Hid (DuoC wA (wN.alloc (.cells #[.slice none 0 0] 51)) b wN.heap.size [] [] 0 noFoot) := DuoC.new KN.out 51
  obtain ⟨q, hq⟩ : ∃ k, k = wN.heap.size := ⟨_, rfl⟩
  obtain ⟨w1, hw1⟩ : ∃ v, v = wN.alloc (.cells #[.slice none 0 0] 51) := ⟨_, rfl⟩
  rw [← hw1, ← hq] at HD0
  rw [← hw1, ← hq]
  clear hq hw1 KN AW
  go_loopw [5] (fun iv wr => ∃ i : Nat, iv = .int .i64 i ∧ i ≤ len0 ∧ Hid (∃ P, DuoC wA wr b q P P i noFoot)) (fun iv _ => len0 - (intOf iv).toNat)
  case atStart => exact ⟨0, rfl, Nat.zero_le _, ⟨_, HD0.out⟩⟩
  case round =>
    clear HD0
    obtain ⟨i, rfl, hi, HP⟩ := hrel
    obtain ⟨P, hP⟩ := HP.out
    have HM : Hid (DuoC wA wr b q P P i noFoot) := hP
    clear hP HP
    have h0 : (0 : Int) ≤ (i : Int) := by omega
    have HBR : Hid (Below w.heap.size w wr) := HBA.out.trans (HM.out.below.mono HBA.out.size)
    by_cases hlt : i < len0
    · have hi1 : (i : Int) < (len0 : Int) := by omega
      have hicap : (i : Int) < (cap0 : Int) := by omega
      obtain ⟨v0, hv0⟩ : ∃ v : World, v = wr := ⟨wr, rfl⟩
      subst hv0
      obtain ⟨y, bb, off, hy, rfl, hok, hat⟩ := HA.out.look (i := i) (by rw [HL.out]; exact hlt)
      have HOK : Hid (DActOk w y) := hok
      obtain ⟨cs, hcs⟩ : ∃ cs, cs = encDA y := ⟨_, rfl⟩
      have HCS : Hid (cs = encDA y) := hcs
      have hcl : cs.length = 16 := by rw [hcs]; rfl
      have HLD : Hid (v0.rangeAt bb (off + i * 16) cs) := by rw [hcs]; exact (hat v0 HBR.out).lies.range
      have HIN : Hid ((Try.prog.info? 53).map (·.size) = some cs.length) := by show _ = _; rw [hcl]; kernel_rfl
      have HONE : Hid (∀ u ∈ cs, u.oneCell' = true) := by rw [hcs]; exact encDA_one y
      have HTH : Hid ((v0.alloc (.cells #[.int .i64 0, .int .i64 0, .int .i64 0, .int .u8 0, .slice none 0 0, .int .i64 0, .bool false, .int .i64 0, .int .i64 0, .int .i64 0, .int .u8 0, .int .i64 0, .int .u8 0, .slice none 0 0, .bool false, .slice none 0 0] 53)).there v0.heap.size 0 cs.length) := by rw [hcl]; exact there16C v0 53
      obtain ⟨op, hop⟩ : ∃ x, x = y.op := ⟨_, rfl⟩
      obtain ⟨id, hid⟩ : ∃ x, x = y.id := ⟨_, rfl⟩
      obtain ⟨t, ht⟩ : ∃ x, x = y.t := ⟨_, rfl⟩
      obtain ⟨n, hn⟩ : ∃ x, x = y.n := ⟨_, rfl⟩
      obtain ⟨pt, hpt⟩ : ∃ x, x = y.part := ⟨_, rfl⟩
      obtain ⟨yy, hyy⟩ : ∃ x, x = y.y := ⟨_, rfl⟩
      obtain ⟨pa, hpa⟩ : ∃ x, x = y.pa := ⟨_, rfl⟩
      obtain ⟨pc, hpc⟩ : ∃ x, x = y.pc := ⟨_, rfl⟩
      obtain ⟨NP, hNP⟩ : ∃ x, x = y.ps.length := ⟨_, rfl⟩
      obtain ⟨NR, hNR⟩ : ∃ x, x = y.r.r.ps.length := ⟨_, rfl⟩
      obtain ⟨NW, hNW⟩ : ∃ x, x = y.r.r.l.length := ⟨_, rfl⟩
      obtain ⟨ra, hra⟩ : ∃ x, x = y.r.pa := ⟨_, rfl⟩
      obtain ⟨rc, hrc⟩ : ∃ x, x = y.r.pc := ⟨_, rfl⟩
      obtain ⟨ka, hka⟩ : ∃ x, x = y.r.a := ⟨_, rfl⟩
      obtain ⟨kc, hkc⟩ : ∃ x, x = y.r.c := ⟨_, rfl⟩
      have hNPm : NP ≤ 9223372036854775807 := by rw [hNP]; exact Nat.le_trans hok.pfew (by unfold maxLen; omega)
      have hNRm : NR ≤ 9223372036854775807 := by rw [hNR]; exact Nat.le_trans hok.rcd.pfew (by unfold maxLen; omega)
      have FQ : Hid (∀ (u : World) (c : Nat), u.rangeAt c 0 (encDA y) → u.cell? ⟨c, 0, none⟩ = some (.int .i64 op) ∧ u.cell? ⟨c, 1, none⟩ = some (.int .i64 id) ∧ u.cell? ⟨c, 2, none⟩ = some (.int .i64 t) ∧ u.cell? ⟨c, 3, none⟩ = some (.int .u8 n) ∧ u.cell? ⟨c, 4, none⟩ = some (.slice pa NP pc) ∧ u.cell? ⟨c, 5, none⟩ = some (.int .i64 pt) ∧ u.cell? ⟨c, 6, none⟩ = some (.bool yy) ∧ u.cell? ⟨c, 13, none⟩ = some (.slice ka NW kc) ∧ u.cell? ⟨c, 15, none⟩ = some (.slice ra NR rc)) := fun u c h => by
        have f : ∀ (j : Nat) v, (encDA y)[j]? = some v → u.cell? ⟨c, j, none⟩ = some v := fun j v hv => by have := h j v hv; rwa [Nat.zero_add] at this
        rw [hop, hid, ht, hn, hpt, hyy, hpa, hpc, hNP, hNR, hNW, hra, hrc, hka, hkc]
        exact ⟨f 0 _ rfl, f 1 _ rfl, f 2 _ rfl, f 3 _ rfl, f 4 _ rfl, f 5 _ rfl, f 6 _ rfl, f 13 _ rfl, f 15 _ rfl⟩
      have FRC : Hid (∀ (u : World) (c : Nat), u.rangeAt c 0 (encDA y) → u.rangeAt c 7 (encR y.r)) := fun u c h j v hv => by
        have := h (7 + j) v (by show (encDA y)[7 + j]? = _; unfold encDA; rw [Nat.add_comm]; exact hv)
        rwa [Nat.zero_add] at this
      have HEQ : Hid (op = y.op ∧ id = y.id ∧ t = y.t ∧ n = y.n ∧ pt = y.part ∧ yy = y.y ∧ pa = y.pa ∧ pc = y.pc ∧ NP = y.ps.length ∧ NR = y.r.r.ps.length ∧ NW = y.r.r.l.length) := ⟨hop, hid, ht, hn, hpt, hyy, hpa, hpc, hNP, hNR, hNW⟩
      have HI64 : Hid (I64 id) := by show I64 id; rw [hid]; exact hok.id
      clear hy hok hat hcs hcl hop hid ht hn hpt hyy hpa hpc hNP hNR hNW hra hrc hka hkc
      by_cases hp : 12 < NP
      · have b12 : (12 : Int) < (NP : Int) := by omega
        go_wp2_with (first | ((with_reducible show wpList _ _ _ (Oper.mk (some 39) _ _ _ _ _ :: _) _ _); refine wpList_load_mid (by rfl) 53 _ (by rfl) bb (off + i * 16) (by rfl) cs _ HLD.out Try.underlying53 rfl HIN.out ?_) | ((with_reducible show wpList _ _ _ (Oper.mk none (Op.store 53 _ _) _ _ _ _ :: _) _ _); refine wpList_store_rowU (by rfl) _ _ (by rfl) v0.heap.size cs (by rfl) (by rfl) HIN.out HONE.out HTH.out ?_; intro u2 hr2 hc2; have HC2 : Hid (u2.rangeAt v0.heap.size 0 cs ∧ Below v0.heap.size v0 u2 ∧ v0.heap.size < u2.heap.size) := (by exact ⟨hr2, (alloc_belowC v0 _).trans ((hc2.below (B := v0.heap.size) (by rw [World.size_alloc]; omega) (fun k e => by omega))), Nat.lt_of_lt_of_le (by rw [World.size_alloc]; omega) hc2.size⟩); clear hr2 hc2; obtain ⟨x0, x1, x2, x3, x4, x5, x6, x13, x15⟩ := FQ.out u2 _ (HCS.out ▸ HC2.out.1)))
        go_ret
        exact ⟨rfl, HBR.out.trans (HC2.out.2.1.mono HBR.out.size)⟩
      by_cases hq : 12 < NR
      · have b12 : ¬ (12 : Int) < (NP : Int) := by omega
        have r12 : (12 : Int) < (NR : Int) := by omega
        go_wp2_with (first | ((with_reducible show wpList _ _ _ (Oper.mk (some 39) _ _ _ _ _ :: _) _ _); refine wpList_load_mid (by rfl) 53 _ (by rfl) bb (off + i * 16) (by rfl) cs _ HLD.out Try.underlying53 rfl HIN.out ?_) | ((with_reducible show wpList _ _ _ (Oper.mk none (Op.store 53 _ _) _ _ _ _ :: _) _ _); refine wpList_store_rowU (by rfl) _ _ (by rfl) v0.heap.size cs (by rfl) (by rfl) HIN.out HONE.out HTH.out ?_; intro u2 hr2 hc2; have HC2 : Hid (u2.rangeAt v0.heap.size 0 cs ∧ Below v0.heap.size v0 u2 ∧ v0.heap.size < u2.heap.size) := (by exact ⟨hr2, (alloc_belowC v0 _).trans ((hc2.below (B := v0.heap.size) (by rw [World.size_alloc]; omega) (fun k e => by omega))), Nat.lt_of_lt_of_le (by rw [World.size_alloc]; omega) hc2.size⟩); clear hr2 hc2; obtain ⟨x0, x1, x2, x3, x4, x5, x6, x13, x15⟩ := FQ.out u2 _ (HCS.out ▸ HC2.out.1)))
        go_ret
        exact ⟨rfl, HBR.out.trans (HC2.out.2.1.mono HBR.out.size)⟩
      by_cases hw : 0 < NW
      · have b12 : ¬ (12 : Int) < (NP : Int) := by omega
        have r12 : ¬ (12 : Int) < (NR : Int) := by omega
        have w0 : (0 : Int) < (NW : Int) := by omega
        go_wp2_with (first | ((with_reducible show wpList _ _ _ (Oper.mk (some 39) _ _ _ _ _ :: _) _ _); refine wpList_load_mid (by rfl) 53 _ (by rfl) bb (off + i * 16) (by rfl) cs _ HLD.out Try.underlying53 rfl HIN.out ?_) | ((with_reducible show wpList _ _ _ (Oper.mk none (Op.store 53 _ _) _ _ _ _ :: _) _ _); refine wpList_store_rowU (by rfl) _ _ (by rfl) v0.heap.size cs (by rfl) (by rfl) HIN.out HONE.out HTH.out ?_; intro u2 hr2 hc2; have HC2 : Hid (u2.rangeAt v0.heap.size 0 cs ∧ Below v0.heap.size v0 u2 ∧ v0.heap.size < u2.heap.size) := (by exact ⟨hr2, (alloc_belowC v0 _).trans ((hc2.below (B := v0.heap.size) (by rw [World.size_alloc]; omega) (fun k e => by omega))), Nat.lt_of_lt_of_le (by rw [World.size_alloc]; omega) hc2.size⟩); clear hr2 hc2; obtain ⟨x0, x1, x2, x3, x4, x5, x6, x13, x15⟩ := FQ.out u2 _ (HCS.out ▸ HC2.out.1)))
        go_ret
        exact ⟨rfl, HBR.out.trans (HC2.out.2.1.mono HBR.out.size)⟩
      have b12 : ¬ (12 : Int) < (NP : Int) := by omega
      have r12 : ¬ (12 : Int) < (NR : Int) := by omega
      have w0 : ¬ (0 : Int) < (NW : Int) := by omega
      have HP12 : Hid (y.ps.length ≤ 12) := by show y.ps.length ≤ 12; rw [← HEQ.out.2.2.2.2.2.2.2.2.1]; omega
      have HRW : Hid (∀ u, Below wA.heap.size wA u → RcW u y.r) := fun u hu => (HOK.out.rcd.rc (by rw [← HEQ.out.2.2.2.2.2.2.2.2.2.2]; omega) (by rw [← HEQ.out.2.2.2.2.2.2.2.2.2.1]; omega)).past (HBA.out.trans (hu.mono HBA.out.size))
      go_upto_block 2 with (first | ((with_reducible show wpList _ _ _ (Oper.mk (some 39) _ _ _ _ _ :: _) _ _); refine wpList_load_mid (by rfl) 53 _ (by rfl) bb (off + i * 16) (by rfl) cs _ HLD.out Try.underlying53 rfl HIN.out ?_) | ((with_reducible show wpList _ _ _ (Oper.mk none (Op.store 53 _ _) _ _ _ _ :: _) _ _); refine wpList_store_rowU (by rfl) _ _ (by rfl) v0.heap.size cs (by rfl) (by rfl) HIN.out HONE.out HTH.out ?_; intro u2 hr2 hc2; have HC2 : Hid (u2.rangeAt v0.heap.size 0 cs ∧ Below v0.heap.size v0 u2 ∧ v0.heap.size < u2.heap.size) := (by exact ⟨hr2, (alloc_belowC v0 _).trans ((hc2.below (B := v0.heap.size) (by rw [World.size_alloc]; omega) (fun k e => by omega))), Nat.lt_of_lt_of_le (by rw [World.size_alloc]; omega) hc2.size⟩); clear hr2 hc2; obtain ⟨x0, x1, x2, x3, x4, x5, x6, x13, x15⟩ := FQ.out u2 _ (HCS.out ▸ HC2.out.1)))
      have HR3 : Hid (RndC wA u2 b q v0.heap.size P P i y) := RndC.start HM.out HC2.out.2.1 HC2.out.2.2 (HCS.out ▸ HC2.out.1)
      have HT : Hid (TblC P) := HM.out.tbl
      clear HM HBR HC2
      generalize v0.heap.size = xb at *
      clear x2 x3 x4 x5 x6 x13 x15
      go_cut [7] (fun ov wx => ov = .bool true ∧ Hid (∃ P', RndC wA wx b q xb P' P' (i + 1) y))
      case first =>
        have h5 : op = 0 ∨ op = 1 ∨ op = 2 ∨ op = 3 ∨ (op ≠ 0 ∧ op ≠ 1 ∧ op ≠ 2 ∧ op ≠ 3) := by omega
        have HEQ : Hid (True ∧ id = y.id ∧ t = y.t ∧ n = y.n ∧ pt = y.part ∧ yy = y.y ∧ pa = y.pa ∧ pc = y.pc ∧ NP = y.ps.length ∧ NR = y.r.r.ps.length ∧ NW = y.r.r.l.length) := ⟨trivial, HEQ.out.2⟩
        rcases h5 with ho | ho | ho | ho | ho
        · as_aux_lemma =>
            subst ho
            obtain ⟨r1, hr1⟩ : ∃ r, r = (beginC P y.id y.t y.n y.ps).1 := ⟨_, rfl⟩
            obtain ⟨E2, hE2⟩ : ∃ r, r = (beginC P y.id y.t y.n y.ps).2 := ⟨_, rfl⟩
            have HE : Hid (beginC P y.id y.t y.n y.ps = (r1, E2)) := by show _ = _; rw [hr1, hE2]
            have CP : Hid (∀ u, RndC wA u b q xb P P i y → Calls Try.prog 9 #[.pointer (some ⟨b, 0, none⟩), .int .i64 id, .agg #[.int .i64 t, .int .u8 n], .slice pa NP pc] u fun e w' => e = .returned (.int .i64 r1) ∧ Hid (RndC wA w' b q xb E2 P (i + 1) y)) := fun u h => by
              rw [HEQ.out.2.1, HEQ.out.2.2.1, HEQ.out.2.2.2.1, HEQ.out.2.2.2.2.2.2.1, HEQ.out.2.2.2.2.2.2.2.1, HEQ.out.2.2.2.2.2.2.2.2.1]
              exact h.begin_c HOK.out (HBA.out.trans (h.below.mono HBA.out.size)) HP12.out (by omega) HE.out
            have CQ : Hid (∀ u, RndC wA u b q xb E2 P (i + 1) y → Calls Try.prog 20 #[.pointer (some ⟨q, 0, none⟩), .int .i64 id, .agg #[.int .i64 t, .int .u8 n], .slice pa NP pc] u fun e w' => e = .returned (.int .i64 r1) ∧ Hid (RndC wA w' b q xb E2 E2 (i + 1) y)) := fun u h => by
              rw [HEQ.out.2.1, HEQ.out.2.2.1, HEQ.out.2.2.2.1, HEQ.out.2.2.2.2.2.2.1, HEQ.out.2.2.2.2.2.2.2.1, HEQ.out.2.2.2.2.2.2.2.2.1]
              exact h.begin_q HOK.out (HBA.out.trans (h.below.mono HBA.out.size)) HP12.out (by omega) HE.out
            clear hr1 hE2
            go_wp2
            refine wp_region_noPanic ?_
            refine wp_region_held_drew (S := fun u => u.rangeAt xb 0 (encDA y)) (by kernel_rfl) ?_ (fun hHeld => ?_)
            · exact (HR3.out.past (Below.refl _ _).drew).box
            refine wpAnyH_take (i := 0) (v := ?_) rfl (by kernel_rfl) (by kernel_rfl) (by kernel_rfl) (fun _ _ _ h => h) (Or.inl ⟨by rfl, ?_⟩) hHeld ?_
            rotate_left
            · intro u hSu
              (go_simp) <;> (with_reducible rfl)
            change wpAnyH _ _ _ _ _ _ _ (Act.put _ (some 72) _) _
            simp only [Act.put, List.setIfInBounds_toArray, List.set_cons_zero, List.set_cons_succ]
            refine wpAnyH_take (i := 1) (v := ?_) rfl (by kernel_rfl) (by kernel_rfl) (by kernel_rfl) (fun _ _ _ h => h) (Or.inl ⟨by rfl, ?_⟩) hHeld ?_
            rotate_left
            · intro u hSu
              (go_simp) <;> (with_reducible rfl)
            change wpAnyH _ _ _ _ _ _ _ (Act.put _ (some 73) _) _
            simp only [Act.put, List.setIfInBounds_toArray, List.set_cons_zero, List.set_cons_succ]
            refine wpAnyH_take (i := 2) (v := ?_) rfl (by kernel_rfl) (by kernel_rfl) (by kernel_rfl) (fun _ _ _ h => h) (Or.inl ⟨by rfl, ?_⟩) hHeld ?_
            rotate_left
            · intro u hSu
              obtain ⟨x0, x1, x2, x3, x4, x5, x6, x13, x15⟩ := FQ.out u xb hSu
              (go_simp) <;> (with_reducible rfl)
            change wpAnyH _ _ _ _ _ _ _ (Act.put _ (some 74) _) _
            simp only [Act.put, List.setIfInBounds_toArray, List.set_cons_zero, List.set_cons_succ]
            refine wpAnyH_take (i := 3) (v := ?_) rfl (by kernel_rfl) (by kernel_rfl) (by kernel_rfl) (fun _ _ _ h => h) (Or.inl ⟨by rfl, ?_⟩) hHeld ?_
            rotate_left
            · intro u hSu
              (go_simp) <;> (with_reducible rfl)
            change wpAnyH _ _ _ _ _ _ _ (Act.put _ (some 75) _) _
            simp only [Act.put, List.setIfInBounds_toArray, List.set_cons_zero, List.set_cons_succ]
            refine wpAnyH_take (i := 4) (v := ?_) rfl (by kernel_rfl) (by kernel_rfl) (by kernel_rfl) (fun _ _ _ h => h) (Or.inl ⟨by rfl, ?_⟩) hHeld ?_
            rotate_left
            · intro u hSu
              obtain ⟨x0, x1, x2, x3, x4, x5, x6, x13, x15⟩ := FQ.out u xb hSu
              (go_simp) <;> (with_reducible rfl)
            change wpAnyH _ _ _ _ _ _ _ (Act.put _ (some 76) _) _
            simp only [Act.put, List.setIfInBounds_toArray, List.set_cons_zero, List.set_cons_succ]
            refine wpAnyH_take (i := 5) (v := ?_) rfl (by kernel_rfl) (by kernel_rfl) (by kernel_rfl) (fun _ _ _ h => h) (Or.inl ⟨by rfl, ?_⟩) hHeld ?_
            rotate_left
            · intro u hSu
              (go_simp) <;> (with_reducible rfl)
            change wpAnyH _ _ _ _ _ _ _ (Act.put _ (some 77) _) _
            simp only [Act.put, List.setIfInBounds_toArray, List.set_cons_zero, List.set_cons_succ]
            refine wpAnyH_take (i := 6) (v := ?_) rfl (by kernel_rfl) (by kernel_rfl) (by kernel_rfl) (fun _ _ _ h => h) (Or.inl ⟨by rfl, ?_⟩) hHeld ?_
            rotate_left
            · intro u hSu
              obtain ⟨x0, x1, x2, x3, x4, x5, x6, x13, x15⟩ := FQ.out u xb hSu
              (go_simp) <;> (with_reducible rfl)
            change wpAnyH _ _ _ _ _ _ _ (Act.put _ (some 78) _) _
            simp only [Act.put, List.setIfInBounds_toArray, List.set_cons_zero, List.set_cons_succ]
            refine wpAnyH_take (i := 8) (v := ?_) rfl (by kernel_rfl) (by kernel_rfl) (by kernel_rfl) (fun _ _ _ h => h) (Or.inl ⟨by rfl, ?_⟩) hHeld ?_
            rotate_left
            · intro u hSu
              (go_simp) <;> (with_reducible rfl)
            change wpAnyH _ _ _ _ _ _ _ (Act.put _ (some 80) _) _
            simp only [Act.put, List.setIfInBounds_toArray, List.set_cons_zero, List.set_cons_succ]
            refine wpAnyH_take (i := 9) (v := ?_) rfl (by kernel_rfl) (by kernel_rfl) (by kernel_rfl) (fun _ _ _ h => h) (Or.inl ⟨by rfl, ?_⟩) hHeld ?_
            rotate_left
            · intro u hSu
              (go_simp) <;> (with_reducible rfl)
            change wpAnyH _ _ _ _ _ _ _ (Act.put _ (some 81) _) _
            simp only [Act.put, List.setIfInBounds_toArray, List.set_cons_zero, List.set_cons_succ]
            refine wpAnyH_take (i := 10) (v := ?_) rfl (by kernel_rfl) (by kernel_rfl) (by kernel_rfl) (fun _ _ _ h => h) (Or.inl ⟨by rfl, ?_⟩) hHeld ?_
            rotate_left
            · intro u hSu
              obtain ⟨x0, x1, x2, x3, x4, x5, x6, x13, x15⟩ := FQ.out u xb hSu
              (go_simp) <;> (with_reducible rfl)
            change wpAnyH _ _ _ _ _ _ _ (Act.put _ (some 82) _) _
            simp only [Act.put, List.setIfInBounds_toArray, List.set_cons_zero, List.set_cons_succ]
            refine wpAnyH_take (i := 11) (v := ?_) rfl (by kernel_rfl) (by kernel_rfl) (by kernel_rfl) (fun _ _ _ h => h) (Or.inl ⟨by rfl, ?_⟩) hHeld ?_
            rotate_left
            · intro u hSu
              (go_simp) <;> (with_reducible rfl)
            change wpAnyH _ _ _ _ _ _ _ (Act.put _ (some 83) _) _
            simp only [Act.put, List.setIfInBounds_toArray, List.set_cons_zero, List.set_cons_succ]
            refine wpAnyH_take (i := 12) (v := ?_) rfl (by kernel_rfl) (by kernel_rfl) (by kernel_rfl) (fun _ _ _ h => h) (Or.inl ⟨by rfl, ?_⟩) hHeld ?_
            rotate_left
            · intro u hSu
              obtain ⟨x0, x1, x2, x3, x4, x5, x6, x13, x15⟩ := FQ.out u xb hSu
              (go_simp) <;> (with_reducible rfl)
            change wpAnyH _ _ _ _ _ _ _ (Act.put _ (some 84) _) _
            simp only [Act.put, List.setIfInBounds_toArray, List.set_cons_zero, List.set_cons_succ]
            refine wpAnyH_take (i := 13) (v := ?_) rfl (by kernel_rfl) (by kernel_rfl) (by kernel_rfl) (fun _ _ _ h => h) (Or.inl ⟨by rfl, ?_⟩) hHeld ?_
            rotate_left
            · intro u hSu
              (go_simp) <;> (with_reducible rfl)
            change wpAnyH _ _ _ _ _ _ _ (Act.put _ (some 85) _) _
            simp only [Act.put, List.setIfInBounds_toArray, List.set_cons_zero, List.set_cons_succ]
            refine wpAnyH_take (i := 14) (v := ?_) rfl (by kernel_rfl) (by kernel_rfl) (by kernel_rfl) (fun _ _ _ h => h) (Or.inl ⟨by rfl, ?_⟩) hHeld ?_
            rotate_left
            · intro u hSu
              obtain ⟨x0, x1, x2, x3, x4, x5, x6, x13, x15⟩ := FQ.out u xb hSu
              (go_simp) <;> (with_reducible rfl)
            change wpAnyH _ _ _ _ _ _ _ (Act.put _ (some 86) _) _
            simp only [Act.put, List.setIfInBounds_toArray, List.set_cons_zero, List.set_cons_succ]
            refine wpAnyH_ready (rs := [7]) (by kernel_rfl) (by simp) ?_
            refine AllReadyH.cons rfl (fun K hK => ?_) AllReadyH.nil
            go_simp
            go_at_call 9
            refine (CP.out _ (HR3.out.past (Below.refl _ _).drew)).mono ?_
            rintro e u3 ⟨rfl, RX3⟩
            refine hK.out _ _ ?_ (fun hHeld2 => ?_)
            · exact RX3.out.box
            clear hK K hHeld
            have hHeld := hHeld2
            clear hHeld2
            refine wpAnyH_ready (rs := [15]) (by kernel_rfl) (by simp) ?_
            refine AllReadyH.cons rfl (fun K hK => ?_) AllReadyH.nil
            go_simp
            go_at_call 20
            refine (CQ.out _ RX3.out).mono ?_
            rintro e u4 ⟨rfl, RX4⟩
            clear RX3
            refine hK.out _ _ ?_ (fun hHeld2 => ?_)
            · exact RX4.out.box
            clear hK K hHeld
            have hHeld := hHeld2
            clear hHeld2
            refine wpAnyH_take (i := 16) (v := ?_) rfl (by kernel_rfl) (by kernel_rfl) (by kernel_rfl) (fun _ _ _ h => h) (Or.inl ⟨by rfl, ?_⟩) hHeld ?_
            rotate_left
            · intro u hSu
              (go_simp) <;> (with_reducible rfl)
            change wpAnyH _ _ _ _ _ _ _ (Act.put _ (some 88) _) _
            simp only [Act.put, List.setIfInBounds_toArray, List.set_cons_zero, List.set_cons_succ]
            refine wpAnyH_take (i := 17) (v := ?_) rfl (by kernel_rfl) (by kernel_rfl) (by kernel_rfl) (fun _ _ _ h => h) (Or.inl ⟨by rfl, ?_⟩) hHeld ?_
            rotate_left
            · intro u hSu
              (go_simp) <;> (with_reducible rfl)
            change wpAnyH _ _ _ _ _ _ _ (Act.put _ (some 7) _) _
            simp only [Act.put, List.setIfInBounds_toArray, List.set_cons_zero, List.set_cons_succ]
            refine wpAnyH_done (by kernel_rfl) ?_ _
            refine NoPanic.normal ?_
            go_wp2
            go_meet
            case rel => exact ⟨rfl, _, RX4⟩
        · as_aux_lemma =>
            subst ho
            obtain ⟨r1, hr1⟩ : ∃ r, r = (voteC P y.id y.part y.y y.t y.n).1 := ⟨_, rfl⟩
            obtain ⟨E2, hE2⟩ : ∃ r, r = (voteC P y.id y.part y.y y.t y.n).2 := ⟨_, rfl⟩
            have HE : Hid (voteC P y.id y.part y.y y.t y.n = (r1, E2)) := by show _ = _; rw [hr1, hE2]
            have CP : Hid (∀ u, RndC wA u b q xb P P i y → Calls Try.prog 11 #[.pointer (some ⟨b, 0, none⟩), .int .i64 id, .int .i64 pt, .bool yy, .agg #[.int .i64 t, .int .u8 n]] u fun e w' => e = .returned (.int .i64 r1) ∧ Hid (RndC wA w' b q xb E2 P (i + 1) y)) := fun u h => by
              rw [HEQ.out.2.1, HEQ.out.2.2.1, HEQ.out.2.2.2.1, HEQ.out.2.2.2.2.1, HEQ.out.2.2.2.2.2.1]
              exact h.vote_c HOK.out HE.out
            have CQ : Hid (∀ u, RndC wA u b q xb E2 P (i + 1) y → Calls Try.prog 21 #[.pointer (some ⟨q, 0, none⟩), .int .i64 id, .int .i64 pt, .bool yy, .agg #[.int .i64 t, .int .u8 n]] u fun e w' => e = .returned (.int .i64 r1) ∧ Hid (RndC wA w' b q xb E2 E2 (i + 1) y)) := fun u h => by
              rw [HEQ.out.2.1, HEQ.out.2.2.1, HEQ.out.2.2.2.1, HEQ.out.2.2.2.2.1, HEQ.out.2.2.2.2.2.1]
              exact h.vote_q HT.out (by omega) HE.out
            clear hr1 hE2
            go_wp2
            refine wp_region_noPanic ?_
            refine wp_region_held_drew (S := fun u => u.rangeAt xb 0 (encDA y)) (by kernel_rfl) ?_ (fun hHeld => ?_)
            · exact (HR3.out.past (Below.refl _ _).drew).box
            refine wpAnyH_take (i := 0) (v := ?_) rfl (by kernel_rfl) (by kernel_rfl) (by kernel_rfl) (fun _ _ _ h => h) (Or.inl ⟨by rfl, ?_⟩) hHeld ?_
            rotate_left
            · intro u hSu
              (go_simp) <;> (with_reducible rfl)
            change wpAnyH _ _ _ _ _ _ _ (Act.put _ (some 91) _) _
            simp only [Act.put, List.setIfInBounds_toArray, List.set_cons_zero, List.set_cons_succ]
            refine wpAnyH_take (i := 1) (v := ?_) rfl (by kernel_rfl) (by kernel_rfl) (by kernel_rfl) (fun _ _ _ h => h) (Or.inl ⟨by rfl, ?_⟩) hHeld ?_
            rotate_left
            · intro u hSu
              (go_simp) <;> (with_reducible rfl)
            change wpAnyH _ _ _ _ _ _ _ (Act.put _ (some 92) _) _
            simp only [Act.put, List.setIfInBounds_toArray, List.set_cons_zero, List.set_cons_succ]
            refine wpAnyH_take (i := 2) (v := ?_) rfl (by kernel_rfl) (by kernel_rfl) (by kernel_rfl) (fun _ _ _ h => h) (Or.inl ⟨by rfl, ?_⟩) hHeld ?_
            rotate_left
            · intro u hSu
              obtain ⟨x0, x1, x2, x3, x4, x5, x6, x13, x15⟩ := FQ.out u xb hSu
              (go_simp) <;> (with_reducible rfl)
            change wpAnyH _ _ _ _ _ _ _ (Act.put _ (some 93) _) _
            simp only [Act.put, List.setIfInBounds_toArray, List.set_cons_zero, List.set_cons_succ]
            refine wpAnyH_take (i := 3) (v := ?_) rfl (by kernel_rfl) (by kernel_rfl) (by kernel_rfl) (fun _ _ _ h => h) (Or.inl ⟨by rfl, ?_⟩) hHeld ?_
            rotate_left
            · intro u hSu
              (go_simp) <;> (with_reducible rfl)
            change wpAnyH _ _ _ _ _ _ _ (Act.put _ (some 94) _) _
            simp only [Act.put, List.setIfInBounds_toArray, List.set_cons_zero, List.set_cons_succ]
            refine wpAnyH_take (i := 4) (v := ?_) rfl (by kernel_rfl) (by kernel_rfl) (by kernel_rfl) (fun _ _ _ h => h) (Or.inl ⟨by rfl, ?_⟩) hHeld ?_
            rotate_left
            · intro u hSu
              obtain ⟨x0, x1, x2, x3, x4, x5, x6, x13, x15⟩ := FQ.out u xb hSu
              (go_simp) <;> (with_reducible rfl)
            change wpAnyH _ _ _ _ _ _ _ (Act.put _ (some 95) _) _
            simp only [Act.put, List.setIfInBounds_toArray, List.set_cons_zero, List.set_cons_succ]
            refine wpAnyH_take (i := 5) (v := ?_) rfl (by kernel_rfl) (by kernel_rfl) (by kernel_rfl) (fun _ _ _ h => h) (Or.inl ⟨by rfl, ?_⟩) hHeld ?_
            rotate_left
            · intro u hSu
              (go_simp) <;> (with_reducible rfl)
            change wpAnyH _ _ _ _ _ _ _ (Act.put _ (some 96) _) _
            simp only [Act.put, List.setIfInBounds_toArray, List.set_cons_zero, List.set_cons_succ]
            refine wpAnyH_take (i := 6) (v := ?_) rfl (by kernel_rfl) (by kernel_rfl) (by kernel_rfl) (fun _ _ _ h => h) (Or.inl ⟨by rfl, ?_⟩) hHeld ?_
            rotate_left
            · intro u hSu
              obtain ⟨x0, x1, x2, x3, x4, x5, x6, x13, x15⟩ := FQ.out u xb hSu
              (go_simp) <;> (with_reducible rfl)
            change wpAnyH _ _ _ _ _ _ _ (Act.put _ (some 97) _) _
            simp only [Act.put, List.setIfInBounds_toArray, List.set_cons_zero, List.set_cons_succ]
            refine wpAnyH_take (i := 7) (v := ?_) rfl (by kernel_rfl) (by kernel_rfl) (by kernel_rfl) (fun _ _ _ h => h) (Or.inl ⟨by rfl, ?_⟩) hHeld ?_
            rotate_left
            · intro u hSu
              (go_simp) <;> (with_reducible rfl)
            change wpAnyH _ _ _ _ _ _ _ (Act.put _ (some 98) _) _
            simp only [Act.put, List.setIfInBounds_toArray, List.set_cons_zero, List.set_cons_succ]
            refine wpAnyH_take (i := 8) (v := ?_) rfl (by kernel_rfl) (by kernel_rfl) (by kernel_rfl) (fun _ _ _ h => h) (Or.inl ⟨by rfl, ?_⟩) hHeld ?_
            rotate_left
            · intro u hSu
              obtain ⟨x0, x1, x2, x3, x4, x5, x6, x13, x15⟩ := FQ.out u xb hSu
              (go_simp) <;> (with_reducible rfl)
            change wpAnyH _ _ _ _ _ _ _ (Act.put _ (some 99) _) _
            simp only [Act.put, List.setIfInBounds_toArray, List.set_cons_zero, List.set_cons_succ]
            refine wpAnyH_take (i := 10) (v := ?_) rfl (by kernel_rfl) (by kernel_rfl) (by kernel_rfl) (fun _ _ _ h => h) (Or.inl ⟨by rfl, ?_⟩) hHeld ?_
            rotate_left
            · intro u hSu
              (go_simp) <;> (with_reducible rfl)
            change wpAnyH _ _ _ _ _ _ _ (Act.put _ (some 101) _) _
            simp only [Act.put, List.setIfInBounds_toArray, List.set_cons_zero, List.set_cons_succ]
            refine wpAnyH_take (i := 11) (v := ?_) rfl (by kernel_rfl) (by kernel_rfl) (by kernel_rfl) (fun _ _ _ h => h) (Or.inl ⟨by rfl, ?_⟩) hHeld ?_
            rotate_left
            · intro u hSu
              (go_simp) <;> (with_reducible rfl)
            change wpAnyH _ _ _ _ _ _ _ (Act.put _ (some 102) _) _
            simp only [Act.put, List.setIfInBounds_toArray, List.set_cons_zero, List.set_cons_succ]
            refine wpAnyH_take (i := 12) (v := ?_) rfl (by kernel_rfl) (by kernel_rfl) (by kernel_rfl) (fun _ _ _ h => h) (Or.inl ⟨by rfl, ?_⟩) hHeld ?_
            rotate_left
            · intro u hSu
              obtain ⟨x0, x1, x2, x3, x4, x5, x6, x13, x15⟩ := FQ.out u xb hSu
              (go_simp) <;> (with_reducible rfl)
            change wpAnyH _ _ _ _ _ _ _ (Act.put _ (some 103) _) _
            simp only [Act.put, List.setIfInBounds_toArray, List.set_cons_zero, List.set_cons_succ]
            refine wpAnyH_take (i := 13) (v := ?_) rfl (by kernel_rfl) (by kernel_rfl) (by kernel_rfl) (fun _ _ _ h => h) (Or.inl ⟨by rfl, ?_⟩) hHeld ?_
            rotate_left
            · intro u hSu
              (go_simp) <;> (with_reducible rfl)
            change wpAnyH _ _ _ _ _ _ _ (Act.put _ (some 104) _) _
            simp only [Act.put, List.setIfInBounds_toArray, List.set_cons_zero, List.set_cons_succ]
            refine wpAnyH_take (i := 14) (v := ?_) rfl (by kernel_rfl) (by kernel_rfl) (by kernel_rfl) (fun _ _ _ h => h) (Or.inl ⟨by rfl, ?_⟩) hHeld ?_
            rotate_left
            · intro u hSu
              obtain ⟨x0, x1, x2, x3, x4, x5, x6, x13, x15⟩ := FQ.out u xb hSu
              (go_simp) <;> (with_reducible rfl)
            change wpAnyH _ _ _ _ _ _ _ (Act.put _ (some 105) _) _
            simp only [Act.put, List.setIfInBounds_toArray, List.set_cons_zero, List.set_cons_succ]
            refine wpAnyH_take (i := 15) (v := ?_) rfl (by kernel_rfl) (by kernel_rfl) (by kernel_rfl) (fun _ _ _ h => h) (Or.inl ⟨by rfl, ?_⟩) hHeld ?_
            rotate_left
            · intro u hSu
              (go_simp) <;> (with_reducible rfl)
            change wpAnyH _ _ _ _ _ _ _ (Act.put _ (some 106) _) _
            simp only [Act.put, List.setIfInBounds_toArray, List.set_cons_zero, List.set_cons_succ]
            refine wpAnyH_take (i := 16) (v := ?_) rfl (by kernel_rfl) (by kernel_rfl) (by kernel_rfl) (fun _ _ _ h => h) (Or.inl ⟨by rfl, ?_⟩) hHeld ?_
            rotate_left
            · intro u hSu
              obtain ⟨x0, x1, x2, x3, x4, x5, x6, x13, x15⟩ := FQ.out u xb hSu
              (go_simp) <;> (with_reducible rfl)
            change wpAnyH _ _ _ _ _ _ _ (Act.put _ (some 107) _) _
            simp only [Act.put, List.setIfInBounds_toArray, List.set_cons_zero, List.set_cons_succ]
            refine wpAnyH_take (i := 17) (v := ?_) rfl (by kernel_rfl) (by kernel_rfl) (by kernel_rfl) (fun _ _ _ h => h) (Or.inl ⟨by rfl, ?_⟩) hHeld ?_
            rotate_left
            · intro u hSu
              (go_simp) <;> (with_reducible rfl)
            change wpAnyH _ _ _ _ _ _ _ (Act.put _ (some 108) _) _
            simp only [Act.put, List.setIfInBounds_toArray, List.set_cons_zero, List.set_cons_succ]
            refine wpAnyH_take (i := 18) (v := ?_) rfl (by kernel_rfl) (by kernel_rfl) (by kernel_rfl) (fun _ _ _ h => h) (Or.inl ⟨by rfl, ?_⟩) hHeld ?_
            rotate_left
            · intro u hSu
              obtain ⟨x0, x1, x2, x3, x4, x5, x6, x13, x15⟩ := FQ.out u xb hSu
              (go_simp) <;> (with_reducible rfl)
            change wpAnyH _ _ _ _ _ _ _ (Act.put _ (some 109) _) _
            simp only [Act.put, List.setIfInBounds_toArray, List.set_cons_zero, List.set_cons_succ]
            refine wpAnyH_ready (rs := [9]) (by kernel_rfl) (by simp) ?_
            refine AllReadyH.cons rfl (fun K hK => ?_) AllReadyH.nil
            go_simp
            go_at_call 11
            refine (CP.out _ (HR3.out.past (Below.refl _ _).drew)).mono ?_
            rintro e u3 ⟨rfl, RX3⟩
            refine hK.out _ _ ?_ (fun hHeld2 => ?_)
            · exact RX3.out.box
            clear hK K hHeld
            have hHeld := hHeld2
            clear hHeld2
            refine wpAnyH_ready (rs := [19]) (by kernel_rfl) (by simp) ?_
            refine AllReadyH.cons rfl (fun K hK => ?_) AllReadyH.nil
            go_simp
            go_at_call 21
            refine (CQ.out _ RX3.out).mono ?_
            rintro e u4 ⟨rfl, RX4⟩
            clear RX3
            refine hK.out _ _ ?_ (fun hHeld2 => ?_)
            · exact RX4.out.box
            clear hK K hHeld
            have hHeld := hHeld2
            clear hHeld2
            refine wpAnyH_take (i := 20) (v := ?_) rfl (by kernel_rfl) (by kernel_rfl) (by kernel_rfl) (fun _ _ _ h => h) (Or.inl ⟨by rfl, ?_⟩) hHeld ?_
            rotate_left
            · intro u hSu
              (go_simp) <;> (with_reducible rfl)
            change wpAnyH _ _ _ _ _ _ _ (Act.put _ (some 111) _) _
            simp only [Act.put, List.setIfInBounds_toArray, List.set_cons_zero, List.set_cons_succ]
            refine wpAnyH_take (i := 21) (v := ?_) rfl (by kernel_rfl) (by kernel_rfl) (by kernel_rfl) (fun _ _ _ h => h) (Or.inl ⟨by rfl, ?_⟩) hHeld ?_
            rotate_left
            · intro u hSu
              (go_simp) <;> (with_reducible rfl)
            change wpAnyH _ _ _ _ _ _ _ (Act.put _ (some 7) _) _
            simp only [Act.put, List.setIfInBounds_toArray, List.set_cons_zero, List.set_cons_succ]
            refine wpAnyH_done (by kernel_rfl) ?_ _
            refine NoPanic.normal ?_
            go_wp2
            go_meet
            case rel => exact ⟨rfl, _, RX4⟩
        · as_aux_lemma =>
            subst ho
            obtain ⟨r1, hr1⟩ : ∃ r, r = (ackC P y.id y.part).1 := ⟨_, rfl⟩
            obtain ⟨E2, hE2⟩ : ∃ r, r = (ackC P y.id y.part).2 := ⟨_, rfl⟩
            have HE : Hid (ackC P y.id y.part = (r1, E2)) := by show _ = _; rw [hr1, hE2]
            have CP : Hid (∀ u, RndC wA u b q xb P P i y → Calls Try.prog 12 #[.pointer (some ⟨b, 0, none⟩), .int .i64 id, .int .i64 pt] u fun e w' => e = .returned (.int .i64 r1) ∧ Hid (RndC wA w' b q xb E2 P (i + 1) y)) := fun u h => by
              rw [HEQ.out.2.1, HEQ.out.2.2.2.2.1]
              exact h.ack_c HOK.out HE.out
            have CQ : Hid (∀ u, RndC wA u b q xb E2 P (i + 1) y → Calls Try.prog 22 #[.pointer (some ⟨q, 0, none⟩), .int .i64 id, .int .i64 pt] u fun e w' => e = .returned (.int .i64 r1) ∧ Hid (RndC wA w' b q xb E2 E2 (i + 1) y)) := fun u h => by
              rw [HEQ.out.2.1, HEQ.out.2.2.2.2.1]
              exact h.ack_q HT.out (by omega) HE.out
            clear hr1 hE2
            go_wp2
            refine wp_region_noPanic ?_
            refine wp_region_held_drew (S := fun u => u.rangeAt xb 0 (encDA y)) (by kernel_rfl) ?_ (fun hHeld => ?_)
            · exact (HR3.out.past (Below.refl _ _).drew).box
            refine wpAnyH_take (i := 0) (v := ?_) rfl (by kernel_rfl) (by kernel_rfl) (by kernel_rfl) (fun _ _ _ h => h) (Or.inl ⟨by rfl, ?_⟩) hHeld ?_
            rotate_left
            · intro u hSu
              (go_simp) <;> (with_reducible rfl)
            change wpAnyH _ _ _ _ _ _ _ (Act.put _ (some 114) _) _
            simp only [Act.put, List.setIfInBounds_toArray, List.set_cons_zero, List.set_cons_succ]
            refine wpAnyH_take (i := 1) (v := ?_) rfl (by kernel_rfl) (by kernel_rfl) (by kernel_rfl) (fun _ _ _ h => h) (Or.inl ⟨by rfl, ?_⟩) hHeld ?_
            rotate_left
            · intro u hSu
              (go_simp) <;> (with_reducible rfl)
            change wpAnyH _ _ _ _ _ _ _ (Act.put _ (some 115) _) _
            simp only [Act.put, List.setIfInBounds_toArray, List.set_cons_zero, List.set_cons_succ]
            refine wpAnyH_take (i := 2) (v := ?_) rfl (by kernel_rfl) (by kernel_rfl) (by kernel_rfl) (fun _ _ _ h => h) (Or.inl ⟨by rfl, ?_⟩) hHeld ?_
            rotate_left
            · intro u hSu
              obtain ⟨x0, x1, x2, x3, x4, x5, x6, x13, x15⟩ := FQ.out u xb hSu
              (go_simp) <;> (with_reducible rfl)
            change wpAnyH _ _ _ _ _ _ _ (Act.put _ (some 116) _) _
            simp only [Act.put, List.setIfInBounds_toArray, List.set_cons_zero, List.set_cons_succ]
            refine wpAnyH_take (i := 3) (v := ?_) rfl (by kernel_rfl) (by kernel_rfl) (by kernel_rfl) (fun _ _ _ h => h) (Or.inl ⟨by rfl, ?_⟩) hHeld ?_
            rotate_left
            · intro u hSu
              (go_simp) <;> (with_reducible rfl)
            change wpAnyH _ _ _ _ _ _ _ (Act.put _ (some 117) _) _
            simp only [Act.put, List.setIfInBounds_toArray, List.set_cons_zero, List.set_cons_succ]
            refine wpAnyH_take (i := 4) (v := ?_) rfl (by kernel_rfl) (by kernel_rfl) (by kernel_rfl) (fun _ _ _ h => h) (Or.inl ⟨by rfl, ?_⟩) hHeld ?_
            rotate_left
            · intro u hSu
              obtain ⟨x0, x1, x2, x3, x4, x5, x6, x13, x15⟩ := FQ.out u xb hSu
              (go_simp) <;> (with_reducible rfl)
            change wpAnyH _ _ _ _ _ _ _ (Act.put _ (some 118) _) _
            simp only [Act.put, List.setIfInBounds_toArray, List.set_cons_zero, List.set_cons_succ]
            refine wpAnyH_take (i := 6) (v := ?_) rfl (by kernel_rfl) (by kernel_rfl) (by kernel_rfl) (fun _ _ _ h => h) (Or.inl ⟨by rfl, ?_⟩) hHeld ?_
            rotate_left
            · intro u hSu
              (go_simp) <;> (with_reducible rfl)
            change wpAnyH _ _ _ _ _ _ _ (Act.put _ (some 120) _) _
            simp only [Act.put, List.setIfInBounds_toArray, List.set_cons_zero, List.set_cons_succ]
            refine wpAnyH_take (i := 7) (v := ?_) rfl (by kernel_rfl) (by kernel_rfl) (by kernel_rfl) (fun _ _ _ h => h) (Or.inl ⟨by rfl, ?_⟩) hHeld ?_
            rotate_left
            · intro u hSu
              (go_simp) <;> (with_reducible rfl)
            change wpAnyH _ _ _ _ _ _ _ (Act.put _ (some 121) _) _
            simp only [Act.put, List.setIfInBounds_toArray, List.set_cons_zero, List.set_cons_succ]
            refine wpAnyH_take (i := 8) (v := ?_) rfl (by kernel_rfl) (by kernel_rfl) (by kernel_rfl) (fun _ _ _ h => h) (Or.inl ⟨by rfl, ?_⟩) hHeld ?_
            rotate_left
            · intro u hSu
              obtain ⟨x0, x1, x2, x3, x4, x5, x6, x13, x15⟩ := FQ.out u xb hSu
              (go_simp) <;> (with_reducible rfl)
            change wpAnyH _ _ _ _ _ _ _ (Act.put _ (some 122) _) _
            simp only [Act.put, List.setIfInBounds_toArray, List.set_cons_zero, List.set_cons_succ]
            refine wpAnyH_take (i := 9) (v := ?_) rfl (by kernel_rfl) (by kernel_rfl) (by kernel_rfl) (fun _ _ _ h => h) (Or.inl ⟨by rfl, ?_⟩) hHeld ?_
            rotate_left
            · intro u hSu
              (go_simp) <;> (with_reducible rfl)
            change wpAnyH _ _ _ _ _ _ _ (Act.put _ (some 123) _) _
            simp only [Act.put, List.setIfInBounds_toArray, List.set_cons_zero, List.set_cons_succ]
            refine wpAnyH_take (i := 10) (v := ?_) rfl (by kernel_rfl) (by kernel_rfl) (by kernel_rfl) (fun _ _ _ h => h) (Or.inl ⟨by rfl, ?_⟩) hHeld ?_
            rotate_left
            · intro u hSu
              obtain ⟨x0, x1, x2, x3, x4, x5, x6, x13, x15⟩ := FQ.out u xb hSu
              (go_simp) <;> (with_reducible rfl)
            change wpAnyH _ _ _ _ _ _ _ (Act.put _ (some 124) _) _
            simp only [Act.put, List.setIfInBounds_toArray, List.set_cons_zero, List.set_cons_succ]
            refine wpAnyH_ready (rs := [5]) (by kernel_rfl) (by simp) ?_
            refine AllReadyH.cons rfl (fun K hK => ?_) AllReadyH.nil
            go_simp
            go_at_call 12
            refine (CP.out _ (HR3.out.past (Below.refl _ _).drew)).mono ?_
            rintro e u3 ⟨rfl, RX3⟩
            refine hK.out _ _ ?_ (fun hHeld2 => ?_)
            · exact RX3.out.box
            clear hK K hHeld
            have hHeld := hHeld2
            clear hHeld2
            refine wpAnyH_ready (rs := [11]) (by kernel_rfl) (by simp) ?_
            refine AllReadyH.cons rfl (fun K hK => ?_) AllReadyH.nil
            go_simp
            go_at_call 22
            refine (CQ.out _ RX3.out).mono ?_
            rintro e u4 ⟨rfl, RX4⟩
            clear RX3
            refine hK.out _ _ ?_ (fun hHeld2 => ?_)
            · exact RX4.out.box
            clear hK K hHeld
            have hHeld := hHeld2
            clear hHeld2
            refine wpAnyH_take (i := 12) (v := ?_) rfl (by kernel_rfl) (by kernel_rfl) (by kernel_rfl) (fun _ _ _ h => h) (Or.inl ⟨by rfl, ?_⟩) hHeld ?_
            rotate_left
            · intro u hSu
              (go_simp) <;> (with_reducible rfl)
            change wpAnyH _ _ _ _ _ _ _ (Act.put _ (some 126) _) _
            simp only [Act.put, List.setIfInBounds_toArray, List.set_cons_zero, List.set_cons_succ]
            refine wpAnyH_take (i := 13) (v := ?_) rfl (by kernel_rfl) (by kernel_rfl) (by kernel_rfl) (fun _ _ _ h => h) (Or.inl ⟨by rfl, ?_⟩) hHeld ?_
            rotate_left
            · intro u hSu
              (go_simp) <;> (with_reducible rfl)
            change wpAnyH _ _ _ _ _ _ _ (Act.put _ (some 7) _) _
            simp only [Act.put, List.setIfInBounds_toArray, List.set_cons_zero, List.set_cons_succ]
            refine wpAnyH_done (by kernel_rfl) ?_ _
            refine NoPanic.normal ?_
            go_wp2
            go_meet
            case rel => exact ⟨rfl, _, RX4⟩
        · as_aux_lemma =>
            subst ho
            obtain ⟨z1, hz1⟩ : ∃ r, r = (giveC P y.id).1.1 := ⟨_, rfl⟩
            obtain ⟨r1, hr1⟩ : ∃ r, r = (giveC P y.id).1.2 := ⟨_, rfl⟩
            obtain ⟨E2, hE2⟩ : ∃ r, r = (giveC P y.id).2 := ⟨_, rfl⟩
            have HE : Hid (giveC P y.id = ((z1, r1), E2)) := by show _ = _; rw [hz1, hr1, hE2]
            have CP : Hid (∀ u, RndC wA u b q xb P P i y → Calls Try.prog 16 #[.pointer (some ⟨b, 0, none⟩), .int .i64 id] u fun e w' => e = .returned (.tuple #[.bool z1, .int .i64 r1]) ∧ Hid (RndC wA w' b q xb E2 P (i + 1) y)) := fun u h => by
              rw [HEQ.out.2.1]
              exact h.give_c HOK.out HE.out
            have CQ : Hid (∀ u, RndC wA u b q xb E2 P (i + 1) y → Calls Try.prog 23 #[.pointer (some ⟨q, 0, none⟩), .int .i64 id] u fun e w' => e = .returned (.tuple #[.bool z1, .int .i64 r1]) ∧ Hid (RndC wA w' b q xb E2 E2 (i + 1) y)) := fun u h => by
              rw [HEQ.out.2.1]
              exact h.give_q (by omega) HE.out
            clear hz1 hr1 hE2
            go_wp2_with (first
              | (have hgo := HR3.out; clear hgo; go_at_call 16; refine (CP.out _ HR3.out).mono ?_; rintro e u3 ⟨rfl, RX3⟩; clear CP x0 x1; obtain ⟨x0, x1, -⟩ := FQ.out _ _ RX3.out.box; clear HR3)
              | (have hgo := RX3.out; clear hgo; go_at_call 23; refine (CQ.out _ RX3.out).mono ?_; rintro e u4 ⟨rfl, RX4⟩; clear CQ x0 x1 RX3))
            go_meet
            case rel => exact ⟨rfl, _, RX4⟩
        · as_aux_lemma =>
            have bo0 : (op == 0) = false := by simpa using ho.1
            have bo1 : (op == 1) = false := by simpa using ho.2.1
            have bo2 : (op == 2) = false := by simpa using ho.2.2.1
            have bo3 : (op == 3) = false := by simpa using ho.2.2.2
            clear ho
            obtain ⟨r1, hr1⟩ : ∃ r, r = (playC P y.r.r).1 := ⟨_, rfl⟩
            obtain ⟨E2, hE2⟩ : ∃ r, r = (playC P y.r.r).2 := ⟨_, rfl⟩
            have HE : Hid (playC P y.r.r = (r1, E2)) := by show _ = _; rw [hr1, hE2]
            have CP : Hid (∀ u, RndC wA u b q xb P P i y → Calls Try.prog 15 #[.pointer (some ⟨b, 0, none⟩), rcv y.r] u fun e w' => e = .returned (.int .i64 r1) ∧ Hid (RndC wA w' b q xb E2 P (i + 1) y)) := fun u h => h.play_c (HRW.out u h.below) (by omega) HE.out
            have CQ : Hid (∀ u, RndC wA u b q xb E2 P (i + 1) y → Calls Try.prog 24 #[.pointer (some ⟨q, 0, none⟩), rcv y.r] u fun e w' => e = .returned (.int .i64 r1) ∧ Hid (RndC wA w' b q xb E2 E2 (i + 1) y)) := fun u h => h.play_q (HRW.out u h.below) (by omega) HE.out
            clear hr1 hE2
            go_wp2
            refine wp_region_noPanic ?_
            refine wp_region_held_drew (S := fun u => u.rangeAt xb 0 (encDA y)) (by kernel_rfl) ?_ (fun hHeld => ?_)
            · exact (HR3.out.past (Below.refl _ _).drew).box
            refine wpAnyH_take (i := 0) (v := ?_) rfl (by kernel_rfl) (by kernel_rfl) (by kernel_rfl) (fun _ _ _ h => h) (Or.inl ⟨by rfl, ?_⟩) hHeld ?_
            rotate_left
            · intro u hSu
              (go_simp) <;> (with_reducible rfl)
            change wpAnyH _ _ _ _ _ _ _ (Act.put _ (some 60) _) _
            simp only [Act.put, List.setIfInBounds_toArray, List.set_cons_zero, List.set_cons_succ]
            refine wpAnyH_take (i := 1) (v := ?_) rfl (by kernel_rfl) (by kernel_rfl) (by kernel_rfl) (fun _ _ _ h => h) (Or.inl ⟨by rfl, ?_⟩) hHeld ?_
            rotate_left
            · intro u hSu
              (go_simp) <;> (with_reducible rfl)
            change wpAnyH _ _ _ _ _ _ _ (Act.put _ (some 61) _) _
            simp only [Act.put, List.setIfInBounds_toArray, List.set_cons_zero, List.set_cons_succ]
            refine wpAnyH_take (i := 2) (v := rcv y.r) rfl (by kernel_rfl) (by kernel_rfl) (by kernel_rfl) (fun _ _ _ h => h) (yieldsIf_load_mid (by rfl) _ _ rfl _ _ rfl (encR y.r) _ (fun u hu => FRC.out u xb hu) Try.underlying37 rfl info_rcdU) hHeld ?_
            change wpAnyH _ _ _ _ _ _ _ (Act.put _ (some 62) _) _
            simp only [Act.put, List.setIfInBounds_toArray, List.set_cons_zero, List.set_cons_succ]
            refine wpAnyH_take (i := 4) (v := ?_) rfl (by kernel_rfl) (by kernel_rfl) (by kernel_rfl) (fun _ _ _ h => h) (Or.inl ⟨by rfl, ?_⟩) hHeld ?_
            rotate_left
            · intro u hSu
              (go_simp) <;> (with_reducible rfl)
            change wpAnyH _ _ _ _ _ _ _ (Act.put _ (some 64) _) _
            simp only [Act.put, List.setIfInBounds_toArray, List.set_cons_zero, List.set_cons_succ]
            refine wpAnyH_take (i := 5) (v := ?_) rfl (by kernel_rfl) (by kernel_rfl) (by kernel_rfl) (fun _ _ _ h => h) (Or.inl ⟨by rfl, ?_⟩) hHeld ?_
            rotate_left
            · intro u hSu
              (go_simp) <;> (with_reducible rfl)
            change wpAnyH _ _ _ _ _ _ _ (Act.put _ (some 65) _) _
            simp only [Act.put, List.setIfInBounds_toArray, List.set_cons_zero, List.set_cons_succ]
            refine wpAnyH_take (i := 6) (v := rcv y.r) rfl (by kernel_rfl) (by kernel_rfl) (by kernel_rfl) (fun _ _ _ h => h) (yieldsIf_load_mid (by rfl) _ _ rfl _ _ rfl (encR y.r) _ (fun u hu => FRC.out u xb hu) Try.underlying37 rfl info_rcdU) hHeld ?_
            change wpAnyH _ _ _ _ _ _ _ (Act.put _ (some 66) _) _
            simp only [Act.put, List.setIfInBounds_toArray, List.set_cons_zero, List.set_cons_succ]
            refine wpAnyH_ready (rs := [3]) (by kernel_rfl) (by simp) ?_
            refine AllReadyH.cons rfl (fun K hK => ?_) AllReadyH.nil
            go_simp
            go_at_call 15
            refine (CP.out _ (HR3.out.past (Below.refl _ _).drew)).mono ?_
            rintro e u3 ⟨rfl, RX3⟩
            refine hK.out _ _ ?_ (fun hHeld2 => ?_)
            · exact RX3.out.box
            clear hK K hHeld
            have hHeld := hHeld2
            clear hHeld2
            refine wpAnyH_ready (rs := [7]) (by kernel_rfl) (by simp) ?_
            refine AllReadyH.cons rfl (fun K hK => ?_) AllReadyH.nil
            go_simp
            go_at_call 25
            refine (cdrcd_any y.r _).mono ?_
            rintro e u5 ⟨rfl, hb5⟩
            have RX5 : Hid (RndC wA u5 b q xb E2 P (i + 1) y) := RX3.out.past hb5
            clear hb5 RX3
            refine hK.out _ _ ?_ (fun hHeld2 => ?_)
            · exact RX5.out.box
            clear hK K hHeld
            have hHeld := hHeld2
            clear hHeld2
            refine wpAnyH_ready (rs := [8]) (by kernel_rfl) (by simp) ?_
            refine AllReadyH.cons rfl (fun K hK => ?_) AllReadyH.nil
            go_simp
            go_at_call 24
            refine (CQ.out _ RX5.out).mono ?_
            rintro e u4 ⟨rfl, RX4⟩
            clear RX5
            refine hK.out _ _ ?_ (fun hHeld2 => ?_)
            · exact RX4.out.box
            clear hK K hHeld
            have hHeld := hHeld2
            clear hHeld2
            refine wpAnyH_take (i := 9) (v := ?_) rfl (by kernel_rfl) (by kernel_rfl) (by kernel_rfl) (fun _ _ _ h => h) (Or.inl ⟨by rfl, ?_⟩) hHeld ?_
            rotate_left
            · intro u hSu
              (go_simp) <;> (with_reducible rfl)
            change wpAnyH _ _ _ _ _ _ _ (Act.put _ (some 69) _) _
            simp only [Act.put, List.setIfInBounds_toArray, List.set_cons_zero, List.set_cons_succ]
            refine wpAnyH_take (i := 10) (v := ?_) rfl (by kernel_rfl) (by kernel_rfl) (by kernel_rfl) (fun _ _ _ h => h) (Or.inl ⟨by rfl, ?_⟩) hHeld ?_
            rotate_left
            · intro u hSu
              (go_simp) <;> (with_reducible rfl)
            change wpAnyH _ _ _ _ _ _ _ (Act.put _ (some 7) _) _
            simp only [Act.put, List.setIfInBounds_toArray, List.set_cons_zero, List.set_cons_succ]
            refine wpAnyH_done (by kernel_rfl) ?_ _
            refine NoPanic.normal ?_
            go_wp2
            go_meet
            case rel => exact ⟨rfl, _, RX4⟩
      case rest =>
        as_aux_lemma =>
          obtain ⟨rfl, HP⟩ := hcut
          obtain ⟨P, hP⟩ := HP.out
          have HR4 : Hid (RndC wA wc b q xb P P (i + 1) y) := hP
          clear hP HP
          obtain ⟨dk, hdk⟩ : ∃ x, x = (decC P id).1 := ⟨_, rfl⟩
          obtain ⟨dy, hdy⟩ : ∃ x, x = (decC P id).2.1 := ⟨_, rfl⟩
          obtain ⟨dt, hdt⟩ : ∃ x, x = (decC P id).2.2.1 := ⟨_, rfl⟩
          obtain ⟨dn, hdn⟩ : ∃ x, x = (decC P id).2.2.2 := ⟨_, rfl⟩
          have HDE : Hid (decC P id = (dk, dy, dt, dn)) := by show _ = _; rw [hdk, hdy, hdt, hdn]
          obtain ⟨rs, hrs⟩ : ∃ x, x = (recC P id).isSome := ⟨_, rfl⟩
          obtain ⟨ow, how⟩ : ∃ x, x = owesC P id := ⟨_, rfl⟩
          obtain ⟨NO, hNO⟩ : ∃ x, x = ow.length := ⟨_, rfl⟩
          obtain ⟨os, hos⟩ : ∃ x, x = openC P := ⟨_, rfl⟩
          obtain ⟨NS, hNS⟩ : ∃ x, x = os.length := ⟨_, rfl⟩
          have hNOf : NO ≤ 1000000 := by rw [hNO, how]; exact Nat.le_trans (owes_fewC HR4.out.duo.tbl id) (by omega)
          have hNSf : NS ≤ 1000000 := by rw [hNS, hos]; have := open_fewC P; have := HR4.out.duo.len.1; omega
          have CD1 : Hid (∀ u, RndC wA u b q xb P P (i + 1) y → Calls Try.prog 13 #[.pointer (some ⟨b, 0, none⟩), .int .i64 id] u fun e w' => e = .returned (.tuple #[.bool dk, .bool dy, .agg #[.int .i64 dt, .int .u8 dn]]) ∧ Below u.heap.size u w') := fun u h => by exact h.dec_c HI64.out HDE.out
          have CD2 : Hid (∀ u, RndC wA u b q xb P P (i + 1) y → Calls Try.prog 26 #[.pointer (some ⟨q, 0, none⟩), .int .i64 id] u fun e w' => e = .returned (.tuple #[.bool dk, .bool dy, .agg #[.int .i64 dt, .int .u8 dn]]) ∧ Below u.heap.size u w') := fun u h => by exact h.dec_q (by omega) HDE.out
          have CR1 : Hid (∀ u, RndC wA u b q xb P P (i + 1) y → Calls Try.prog 14 #[.pointer (some ⟨b, 0, none⟩), .int .i64 id] u fun e w' => ∃ x : RcM, e = .returned (.tuple #[rcv x, .bool rs]) ∧ x.r = (recC P id).getD noRcd.r ∧ RcW w' x ∧ Below u.heap.size u w') := fun u h => by rw [hrs]; exact h.rec_c HI64.out rfl
          have CR2 : Hid (∀ u, RndC wA u b q xb P P (i + 1) y → Calls Try.prog 27 #[.pointer (some ⟨q, 0, none⟩), .int .i64 id] u fun e w' => ∃ x : RcM, e = .returned (.tuple #[rcv x, .bool rs]) ∧ x.r = (recC P id).getD noRcd.r ∧ RcW w' x ∧ Below u.heap.size u w') := fun u h => by rw [hrs]; exact h.rec_q (by omega) HI64.out rfl
          have CO1 : Hid (∀ u, RndC wA u b q xb P P (i + 1) y → Calls Try.prog 30 #[.pointer (some ⟨b, 0, none⟩), .int .i64 id] u fun e w' => (∃ a c, e = .returned (.slice a NO c) ∧ NO ≤ c ∧ RowI w' a ow) ∧ Below u.heap.size u w') := fun u h => by rw [hNO]; exact h.owes_c HI64.out how.symm
          have CO2 : Hid (∀ u, RndC wA u b q xb P P (i + 1) y → Calls Try.prog 31 #[.pointer (some ⟨q, 0, none⟩), .int .i64 id] u fun e w' => (∃ a c, e = .returned (.slice a NO c) ∧ NO ≤ c ∧ RowI w' a ow) ∧ Below u.heap.size u w') := fun u h => by rw [hNO]; exact h.owes_q (by omega) how.symm
          have CN1 : Hid (∀ u, RndC wA u b q xb P P (i + 1) y → Calls Try.prog 18 #[.pointer (some ⟨b, 0, none⟩)] u fun e w' => (∃ a c, e = .returned (.slice a NS c) ∧ NS ≤ c ∧ RowI w' a os) ∧ Below u.heap.size u w') := fun u h => by rw [hNS]; exact h.open_c (by omega) hos.symm
          have CN2 : Hid (∀ u, RndC wA u b q xb P P (i + 1) y → Calls Try.prog 32 #[.pointer (some ⟨q, 0, none⟩)] u fun e w' => (∃ a c, e = .returned (.slice a NS c) ∧ NS ≤ c ∧ RowI w' a os) ∧ Below u.heap.size u w') := fun u h => by rw [hNS]; exact h.open_q (by omega) hos.symm
          have CS : Hid (∀ u a c a' c', NO ≤ c → NO ≤ c' → RowI u a ow → RowI u a' ow → Calls Try.prog 29 #[.slice a NO c, .slice a' NO c'] u fun e w' => e = .returned (.bool true) ∧ Below u.heap.size u w') := fun u a c a' c' h1 h2 h3 h4 => cdsame_any a a' NO c c' ow u hNO.symm h1 h2 hNOf h3 h4
          have CS64 : Hid (∀ u a c a' c', NS ≤ c → NS ≤ c' → RowI u a os → RowI u a' os → Calls Try.prog 19 #[.slice a NS c, .slice a' NS c'] u fun e w' => e = .returned (.bool true) ∧ Below u.heap.size u w') := fun u a c a' c' h1 h2 h3 h4 => cdsame64_any a a' NS c c' os u hNS.symm h1 h2 hNSf h3 h4
          clear hdk hdy hdt hdn hrs how hNO hos hNS
          obtain ⟨-, x1, -⟩ := FQ.out _ _ HR4.out.box
          go_upto_region 26 with (have hgo := HR4.out; clear hgo; go_at_call 13; refine (CD1.out _ HR4.out).mono ?_; rintro e v5 ⟨rfl, hb⟩; have R5 : Hid (RndC wA (v5.alloc (.cells #[.int .i64 dt, .int .u8 dn] 28)) b q xb P P (i + 1) y) := (HR4.out.past hb).past (alloc_belowC _ _); have SA : Hid (SBox (v5.alloc (.cells #[.int .i64 dt, .int .u8 dn] 28)) v5.heap.size dt dn) := SBox.made _ _ _ _; clear hb HR4 CD1 x1)
          obtain ⟨s1, hs1⟩ : ∃ k, k = v5.heap.size := ⟨_, rfl⟩
          rw [← hs1] at SA ⊢
          obtain ⟨v6, hv6⟩ : ∃ v, v = v5.alloc (.cells #[.int .i64 dt, .int .u8 dn] 28) := ⟨_, rfl⟩
          rw [← hv6] at R5 SA ⊢
          clear hs1 hv6
          obtain ⟨-, x1, -⟩ := FQ.out _ _ R5.out.box
          go_upto_region 27 with (have hgo := R5.out; clear hgo; go_at_call 26; refine (CD2.out _ R5.out).mono ?_; rintro e v7 ⟨rfl, hb⟩; have R6 : Hid (RndC wA (v7.alloc (.cells #[.int .i64 dt, .int .u8 dn] 28)) b q xb P P (i + 1) y) := (R5.out.past hb).past (alloc_belowC _ _); have SA2 : Hid (SBox (v7.alloc (.cells #[.int .i64 dt, .int .u8 dn] 28)) s1 dt dn) := (SA.out.past hb).past (alloc_belowC _ _); have SB : Hid (SBox (v7.alloc (.cells #[.int .i64 dt, .int .u8 dn] 28)) v7.heap.size dt dn) := SBox.made _ _ _ _; clear hb R5 SA CD2 x1)
          obtain ⟨s2, hs2⟩ : ∃ k, k = v7.heap.size := ⟨_, rfl⟩
          rw [← hs2] at SB ⊢
          obtain ⟨v8, hv8⟩ : ∃ v, v = v7.alloc (.cells #[.int .i64 dt, .int .u8 dn] 28) := ⟨_, rfl⟩
          rw [← hv8] at R6 SA2 SB ⊢
          clear hs2 hv8
          obtain ⟨-, x1, -⟩ := FQ.out _ _ R6.out.box
          go_upto_region 28 with (first | (have hgo := R6.out; clear hgo; go_at_call 14; refine (CR1.out _ R6.out).mono ?_; rintro e v9 ⟨ma, rfl, hxma, hwma, hb⟩; have Hv9 : Hid (RndC wA v9 b q xb P P (i + 1) y ∧ SBox v9 s1 dt dn ∧ SBox v9 s2 dt dn ∧ RcW v9 ma ∧ ma.r = (recC P id).getD noRcd.r) := ⟨R6.out.past hb, SA2.out.past hb, SB.out.past hb, hwma, hxma⟩; clear hxma hwma hb R6 SA2 SB x1) | ((with_reducible show wpList _ _ _ (Oper.mk none (Op.store 37 _ _) _ _ _ _ :: _) _ _); refine wpList_store_rowU (by rfl) _ _ (by rfl) v9.heap.size (encR ma) (by rfl) (by rfl) info_rcdU (encR_one ma) (thereRcd v9 37) ?_; intro ua hr hc; have Bua : Hid (Below v9.heap.size v9 ua) := (alloc_belowC v9 _).trans (hc.below (by rw [World.size_alloc]; omega) (fun k e => by omega)); have RNGua : Hid (ua.rangeAt v9.heap.size 0 (encR ma) ∧ v9.heap.size < ua.heap.size) := ⟨hr, Nat.lt_of_lt_of_le (by rw [World.size_alloc]; omega) hc.size⟩; clear hr hc))
          have R7 : Hid (RndC wA ua b q xb P P (i + 1) y) := Hv9.out.1.past Bua.out
          have SC : Hid (SBox ua s1 dt dn ∧ SBox ua s2 dt dn ∧ RcW ua ma ∧ ma.r = (recC P id).getD noRcd.r ∧ ua.rangeAt v9.heap.size 0 (encR ma) ∧ v9.heap.size < ua.heap.size) := ⟨Hv9.out.2.1.past Bua.out, Hv9.out.2.2.1.past Bua.out, Hv9.out.2.2.2.1.past Bua.out, Hv9.out.2.2.2.2, RNGua.out.1, RNGua.out.2⟩
          obtain ⟨s3, hs3⟩ : ∃ k, k = v9.heap.size := ⟨_, rfl⟩
          rw [← hs3] at SC ⊢
          clear hs3 Hv9 Bua RNGua CR1
          obtain ⟨-, x1, -⟩ := FQ.out _ _ R7.out.box
          go_upto_region 29 with (first | (have hgo := R7.out; clear hgo; go_at_call 27; refine (CR2.out _ R7.out).mono ?_; rintro e vb ⟨mb, rfl, hxb, hwb, hb⟩; have Hvb : Hid (RndC wA vb b q xb P P (i + 1) y ∧ SBox vb s1 dt dn ∧ SBox vb s2 dt dn ∧ (RcW vb ma ∧ ma.r = (recC P id).getD noRcd.r) ∧ (vb.rangeAt s3 0 (encR ma) ∧ s3 < vb.heap.size) ∧ RcW vb mb ∧ mb.r = (recC P id).getD noRcd.r) := ⟨R7.out.past hb, SC.out.1.past hb, SC.out.2.1.past hb, ⟨SC.out.2.2.1.past hb, SC.out.2.2.2.1⟩, ⟨range_keptC SC.out.2.2.2.2.1 (hb.block s3 SC.out.2.2.2.2.2), Nat.lt_of_lt_of_le SC.out.2.2.2.2.2 hb.size⟩, hwb, hxb⟩; clear hxb hwb hb R7 SC x1) | ((with_reducible show wpList _ _ _ (Oper.mk none (Op.store 56 _ _) _ _ _ _ :: _) _ _); refine wpList_store_rowU (by rfl) _ _ (by rfl) vb.heap.size (encR mb) (by rfl) (by rfl) info_rrcdC (encR_one mb) (thereRcd vb 56) ?_; intro ub hr hc; have Bub : Hid (Below vb.heap.size vb ub) := (alloc_belowC vb _).trans (hc.below (by rw [World.size_alloc]; omega) (fun k e => by omega)); have RNGub : Hid (ub.rangeAt vb.heap.size 0 (encR mb) ∧ vb.heap.size < ub.heap.size) := ⟨hr, Nat.lt_of_lt_of_le (by rw [World.size_alloc]; omega) hc.size⟩; clear hr hc))
          obtain ⟨s4, hs4⟩ : ∃ k, k = vb.heap.size := ⟨_, rfl⟩
          have HMM : Hid (ma.r = mb.r) := Hvb.out.2.2.2.1.2.trans Hvb.out.2.2.2.2.2.2.symm
          have LK : Hid (∀ u, Below ub.heap.size ub u → RndC wA u b q xb P P (i + 1) y ∧ (SBox u s1 dt dn ∧ SBox u s2 dt dn) ∧ (RcW u ma ∧ RcW u mb) ∧ u.rangeAt s3 0 (encR ma) ∧ u.rangeAt s4 0 (encR mb)) := fun u hu => by
            have hb := Bub.out.trans (hu.mono Bub.out.size)
            obtain ⟨k1, k2, k3, ⟨k4, -⟩, ⟨k5, k6⟩, k7, -⟩ := Hvb.out
            rw [hs4]
            exact ⟨k1.past hb, ⟨k2.past hb, k3.past hb⟩, ⟨k4.past hb, k7.past hb⟩, range_keptC k5 (hb.block s3 k6), range_keptC RNGub.out.1 (hu.block _ RNGub.out.2)⟩
          rw [← hs4]
          clear hs4 Hvb Bub RNGub CR2
          have FX : Hid (∀ u, Below ub.heap.size ub u → u.cell? ⟨xb, 1, none⟩ = some (.int .i64 id) ∧ u.cell? ⟨s1, 0, none⟩ = some (.int .i64 dt) ∧ u.cell? ⟨s1, 1, none⟩ = some (.int .u8 dn) ∧ u.cell? ⟨s2, 0, none⟩ = some (.int .i64 dt) ∧ u.cell? ⟨s2, 1, none⟩ = some (.int .u8 dn)) := fun u hu => by
            obtain ⟨k1, ⟨k2, k3⟩, -⟩ := LK.out u hu
            obtain ⟨-, x1, -⟩ := FQ.out u xb k1.box
            exact ⟨x1, k2.c0, k2.c1, k3.c0, k3.c1⟩
          clear HCS HLD HIN HONE HTH
          go_wp2
          refine wp_region_noPanic ?_
          refine wp_region_held_drew (S := fun u => Below ub.heap.size ub u) (by kernel_rfl) ?_ (fun hHeld => ?_)
          · exact (Below.refl _ _).drew
          refine wpAnyH_take (i := 0) (v := ?_) rfl (by kernel_rfl) (by kernel_rfl) (by kernel_rfl) (fun _ _ _ h => h) (Or.inl ⟨by rfl, ?_⟩) hHeld ?_
          rotate_left
          · intro u hSu
            (go_simp) <;> (with_reducible rfl)
          change wpAnyH _ _ _ _ _ _ _ (Act.put _ (some 181) _) _
          simp only [Act.put, List.setIfInBounds_toArray, List.set_cons_zero, List.set_cons_succ]
          refine wpAnyH_take (i := 1) (v := ?_) rfl (by kernel_rfl) (by kernel_rfl) (by kernel_rfl) (fun _ _ _ h => h) (Or.inl ⟨by rfl, ?_⟩) hHeld ?_
          rotate_left
          · intro u hSu
            (go_simp) <;> (with_reducible rfl)
          change wpAnyH _ _ _ _ _ _ _ (Act.put _ (some 182) _) _
          simp only [Act.put, List.setIfInBounds_toArray, List.set_cons_zero, List.set_cons_succ]
          refine wpAnyH_take (i := 2) (v := ?_) rfl (by kernel_rfl) (by kernel_rfl) (by kernel_rfl) (fun _ _ _ h => h) (Or.inl ⟨by rfl, ?_⟩) hHeld ?_
          rotate_left
          · intro u hSu
            (go_simp) <;> (with_reducible rfl)
          change wpAnyH _ _ _ _ _ _ _ (Act.put _ (some 183) _) _
          simp only [Act.put, List.setIfInBounds_toArray, List.set_cons_zero, List.set_cons_succ]
          refine wpAnyH_take (i := 3) (v := ?_) rfl (by kernel_rfl) (by kernel_rfl) (by kernel_rfl) (fun _ _ _ h => h) (Or.inl ⟨by rfl, ?_⟩) hHeld ?_
          rotate_left
          · intro u hSu
            (go_simp) <;> (with_reducible rfl)
          change wpAnyH _ _ _ _ _ _ _ (Act.put _ (some 184) _) _
          simp only [Act.put, List.setIfInBounds_toArray, List.set_cons_zero, List.set_cons_succ]
          refine wpAnyH_take (i := 4) (v := ?_) rfl (by kernel_rfl) (by kernel_rfl) (by kernel_rfl) (fun _ _ _ h => h) (Or.inl ⟨by rfl, ?_⟩) hHeld ?_
          rotate_left
          · intro u hSu
            (go_simp) <;> (with_reducible rfl)
          change wpAnyH _ _ _ _ _ _ _ (Act.put _ (some 185) _) _
          simp only [Act.put, List.setIfInBounds_toArray, List.set_cons_zero, List.set_cons_succ]
          refine wpAnyH_take (i := 5) (v := ?_) rfl (by kernel_rfl) (by kernel_rfl) (by kernel_rfl) (fun _ _ _ h => h) (Or.inl ⟨by rfl, ?_⟩) hHeld ?_
          rotate_left
          · intro u hSu
            (go_simp) <;> (with_reducible rfl)
          change wpAnyH _ _ _ _ _ _ _ (Act.put _ (some 186) _) _
          simp only [Act.put, List.setIfInBounds_toArray, List.set_cons_zero, List.set_cons_succ]
          refine wpAnyH_take (i := 6) (v := ?_) rfl (by kernel_rfl) (by kernel_rfl) (by kernel_rfl) (fun _ _ _ h => h) (Or.inl ⟨by rfl, ?_⟩) hHeld ?_
          rotate_left
          · intro u hSu
            (go_simp) <;> (with_reducible rfl)
          change wpAnyH _ _ _ _ _ _ _ (Act.put _ (some 187) _) _
          simp only [Act.put, List.setIfInBounds_toArray, List.set_cons_zero, List.set_cons_succ]
          refine wpAnyH_take (i := 7) (v := ?_) rfl (by kernel_rfl) (by kernel_rfl) (by kernel_rfl) (fun _ _ _ h => h) (Or.inl ⟨by rfl, ?_⟩) hHeld ?_
          rotate_left
          · intro u hSu
            (go_simp) <;> (with_reducible rfl)
          change wpAnyH _ _ _ _ _ _ _ (Act.put _ (some 188) _) _
          simp only [Act.put, List.setIfInBounds_toArray, List.set_cons_zero, List.set_cons_succ]
          refine wpAnyH_take (i := 8) (v := ?_) rfl (by kernel_rfl) (by kernel_rfl) (by kernel_rfl) (fun _ _ _ h => h) (Or.inl ⟨by rfl, ?_⟩) hHeld ?_
          rotate_left
          · intro u hSu
            (go_simp) <;> (with_reducible rfl)
          change wpAnyH _ _ _ _ _ _ _ (Act.put _ (some 189) _) _
          simp only [Act.put, List.setIfInBounds_toArray, List.set_cons_zero, List.set_cons_succ]
          refine wpAnyH_take (i := 9) (v := ?_) rfl (by kernel_rfl) (by kernel_rfl) (by kernel_rfl) (fun _ _ _ h => h) (Or.inl ⟨by rfl, ?_⟩) hHeld ?_
          rotate_left
          · intro u hSu
            (go_simp) <;> (with_reducible rfl)
          change wpAnyH _ _ _ _ _ _ _ (Act.put _ (some 190) _) _
          simp only [Act.put, List.setIfInBounds_toArray, List.set_cons_zero, List.set_cons_succ]
          refine wpAnyH_take (i := 10) (v := ?_) rfl (by kernel_rfl) (by kernel_rfl) (by kernel_rfl) (fun _ _ _ h => h) (Or.inl ⟨by rfl, ?_⟩) hHeld ?_
          rotate_left
          · intro u hSu
            (go_simp) <;> (with_reducible rfl)
          change wpAnyH _ _ _ _ _ _ _ (Act.put _ (some 191) _) _
          simp only [Act.put, List.setIfInBounds_toArray, List.set_cons_zero, List.set_cons_succ]
          refine wpAnyH_take (i := 11) (v := ?_) rfl (by kernel_rfl) (by kernel_rfl) (by kernel_rfl) (fun _ _ _ h => h) (Or.inl ⟨by rfl, ?_⟩) hHeld ?_
          rotate_left
          · intro u hSu
            (go_simp) <;> (with_reducible rfl)
          change wpAnyH _ _ _ _ _ _ _ (Act.put _ (some 192) _) _
          simp only [Act.put, List.setIfInBounds_toArray, List.set_cons_zero, List.set_cons_succ]
          refine wpAnyH_take (i := 12) (v := ?_) rfl (by kernel_rfl) (by kernel_rfl) (by kernel_rfl) (fun _ _ _ h => h) (Or.inl ⟨by rfl, ?_⟩) hHeld ?_
          rotate_left
          · intro u hSu
            (go_simp) <;> (with_reducible rfl)
          change wpAnyH _ _ _ _ _ _ _ (Act.put _ (some 193) _) _
          simp only [Act.put, List.setIfInBounds_toArray, List.set_cons_zero, List.set_cons_succ]
          refine wpAnyH_take (i := 13) (v := ?_) rfl (by kernel_rfl) (by kernel_rfl) (by kernel_rfl) (fun _ _ _ h => h) (Or.inl ⟨by rfl, ?_⟩) hHeld ?_
          rotate_left
          · intro u hSu
            obtain ⟨x1, s10, s11, s20, s21⟩ := FX.out u hSu
            (go_simp) <;> (with_reducible rfl)
          change wpAnyH _ _ _ _ _ _ _ (Act.put _ (some 194) _) _
          simp only [Act.put, List.setIfInBounds_toArray, List.set_cons_zero, List.set_cons_succ]
          refine wpAnyH_take (i := 14) (v := ?_) rfl (by kernel_rfl) (by kernel_rfl) (by kernel_rfl) (fun _ _ _ h => h) (Or.inl ⟨by rfl, ?_⟩) hHeld ?_
          rotate_left
          · intro u hSu
            obtain ⟨x1, s10, s11, s20, s21⟩ := FX.out u hSu
            (go_simp) <;> (with_reducible rfl)
          change wpAnyH _ _ _ _ _ _ _ (Act.put _ (some 195) _) _
          simp only [Act.put, List.setIfInBounds_toArray, List.set_cons_zero, List.set_cons_succ]
          refine wpAnyH_take (i := 15) (v := ?_) rfl (by kernel_rfl) (by kernel_rfl) (by kernel_rfl) (fun _ _ _ h => h) (Or.inl ⟨by rfl, ?_⟩) hHeld ?_
          rotate_left
          · intro u hSu
            (go_simp) <;> (with_reducible rfl)
          change wpAnyH _ _ _ _ _ _ _ (Act.put _ (some 196) _) _
          simp only [Act.put, List.setIfInBounds_toArray, List.set_cons_zero, List.set_cons_succ]
          refine wpAnyH_take (i := 16) (v := ?_) rfl (by kernel_rfl) (by kernel_rfl) (by kernel_rfl) (fun _ _ _ h => h) (Or.inl ⟨by rfl, ?_⟩) hHeld ?_
          rotate_left
          · intro u hSu
            (go_simp) <;> (with_reducible rfl)
          change wpAnyH _ _ _ _ _ _ _ (Act.put _ (some 197) _) _
          simp only [Act.put, List.setIfInBounds_toArray, List.set_cons_zero, List.set_cons_succ]
          refine wpAnyH_take (i := 17) (v := ?_) rfl (by kernel_rfl) (by kernel_rfl) (by kernel_rfl) (fun _ _ _ h => h) (Or.inl ⟨by rfl, ?_⟩) hHeld ?_
          rotate_left
          · intro u hSu
            (go_simp) <;> (with_reducible rfl)
          change wpAnyH _ _ _ _ _ _ _ (Act.put _ (some 198) _) _
          simp only [Act.put, List.setIfInBounds_toArray, List.set_cons_zero, List.set_cons_succ]
          refine wpAnyH_take (i := 18) (v := ?_) rfl (by kernel_rfl) (by kernel_rfl) (by kernel_rfl) (fun _ _ _ h => h) (Or.inl ⟨by rfl, ?_⟩) hHeld ?_
          rotate_left
          · intro u hSu
            (go_simp) <;> (with_reducible rfl)
          change wpAnyH _ _ _ _ _ _ _ (Act.put _ (some 199) _) _
          simp only [Act.put, List.setIfInBounds_toArray, List.set_cons_zero, List.set_cons_succ]
          refine wpAnyH_take (i := 19) (v := ?_) rfl (by kernel_rfl) (by kernel_rfl) (by kernel_rfl) (fun _ _ _ h => h) (Or.inl ⟨by rfl, ?_⟩) hHeld ?_
          rotate_left
          · intro u hSu
            (go_simp) <;> (with_reducible rfl)
          change wpAnyH _ _ _ _ _ _ _ (Act.put _ (some 200) _) _
          simp only [Act.put, List.setIfInBounds_toArray, List.set_cons_zero, List.set_cons_succ]
          refine wpAnyH_take (i := 20) (v := ?_) rfl (by kernel_rfl) (by kernel_rfl) (by kernel_rfl) (fun _ _ _ h => h) (Or.inl ⟨by rfl, ?_⟩) hHeld ?_
          rotate_left
          · intro u hSu
            (go_simp) <;> (with_reducible rfl)
          change wpAnyH _ _ _ _ _ _ _ (Act.put _ (some 201) _) _
          simp only [Act.put, List.setIfInBounds_toArray, List.set_cons_zero, List.set_cons_succ]
          refine wpAnyH_take (i := 21) (v := ?_) rfl (by kernel_rfl) (by kernel_rfl) (by kernel_rfl) (fun _ _ _ h => h) (Or.inl ⟨by rfl, ?_⟩) hHeld ?_
          rotate_left
          · intro u hSu
            (go_simp) <;> (with_reducible rfl)
          change wpAnyH _ _ _ _ _ _ _ (Act.put _ (some 202) _) _
          simp only [Act.put, List.setIfInBounds_toArray, List.set_cons_zero, List.set_cons_succ]
          refine wpAnyH_take (i := 22) (v := ?_) rfl (by kernel_rfl) (by kernel_rfl) (by kernel_rfl) (fun _ _ _ h => h) (Or.inl ⟨by rfl, ?_⟩) hHeld ?_
          rotate_left
          · intro u hSu
            (go_simp) <;> (with_reducible rfl)
          change wpAnyH _ _ _ _ _ _ _ (Act.put _ (some 203) _) _
          simp only [Act.put, List.setIfInBounds_toArray, List.set_cons_zero, List.set_cons_succ]
          refine wpAnyH_take (i := 23) (v := rcv ma) rfl (by kernel_rfl) (by kernel_rfl) (by kernel_rfl) (fun _ _ _ h => h) (yieldsIf_load_mid (by rfl) _ _ rfl _ _ rfl (encR ma) _ (fun u hu => (LK.out u hu).2.2.2.1) Try.underlying37 rfl info_rcdU) hHeld ?_
          change wpAnyH _ _ _ _ _ _ _ (Act.put _ (some 204) _) _
          simp only [Act.put, List.setIfInBounds_toArray, List.set_cons_zero, List.set_cons_succ]
          refine wpAnyH_take (i := 25) (v := rcv mb) rfl (by kernel_rfl) (by kernel_rfl) (by kernel_rfl) (fun _ _ _ h => h) (yieldsIf_load_mid (by rfl) _ _ rfl _ _ rfl (encR mb) _ (fun u hu => (LK.out u hu).2.2.2.2) Try.underlying56 rfl info_rrcdC) hHeld ?_
          change wpAnyH _ _ _ _ _ _ _ (Act.put _ (some 206) _) _
          simp only [Act.put, List.setIfInBounds_toArray, List.set_cons_zero, List.set_cons_succ]
          refine wpAnyH_ready (rs := [24]) (by kernel_rfl) (by simp) ?_
          refine AllReadyH.cons rfl (fun K hK => ?_) AllReadyH.nil
          go_simp
          go_at_call 25
          refine (cdrcd_any ma _).mono ?_
          rintro e y1 ⟨rfl, hby1⟩
          have By1 : Hid (Below ub.heap.size ub y1) := hHeld.trans (hby1.mono hHeld.size)
          clear hby1
          refine hK.out _ _ ?_ (fun hHeld2 => ?_)
          · exact By1.out
          clear hK K hHeld
          have hHeld := hHeld2
          clear hHeld2
          refine wpAnyH_ready (rs := [26]) (by kernel_rfl) (by simp) ?_
          refine AllReadyH.cons rfl (fun K hK => ?_) AllReadyH.nil
          go_simp
          go_at_call 28
          refine (rsame_yesC ma mb _ (LK.out _ hHeld).2.2.1.1 (LK.out _ hHeld).2.2.1.2 HMM.out).mono ?_
          rintro e y2 ⟨rfl, hby2⟩
          have By2 : Hid (Below ub.heap.size ub y2) := hHeld.trans (hby2.mono hHeld.size)
          clear hby2
          refine hK.out _ _ ?_ (fun hHeld2 => ?_)
          · exact By2.out
          clear hK K hHeld
          have hHeld := hHeld2
          clear hHeld2
          refine wpAnyH_take (i := 27) (v := ?_) rfl (by kernel_rfl) (by kernel_rfl) (by kernel_rfl) (fun _ _ _ h => h) (Or.inl ⟨by rfl, ?_⟩) hHeld ?_
          rotate_left
          · intro u hSu
            (go_simp) <;> (with_reducible rfl)
          change wpAnyH _ _ _ _ _ _ _ (Act.put _ (some 208) _) _
          simp only [Act.put, List.setIfInBounds_toArray, List.set_cons_zero, List.set_cons_succ]
          refine wpAnyH_take (i := 28) (v := ?_) rfl (by kernel_rfl) (by kernel_rfl) (by kernel_rfl) (fun _ _ _ h => h) (Or.inl ⟨by rfl, ?_⟩) hHeld ?_
          rotate_left
          · intro u hSu
            (go_simp) <;> (with_reducible rfl)
          change wpAnyH _ _ _ _ _ _ _ (Act.put _ (some 209) _) _
          simp only [Act.put, List.setIfInBounds_toArray, List.set_cons_zero, List.set_cons_succ]
          refine wpAnyH_take (i := 29) (v := ?_) rfl (by kernel_rfl) (by kernel_rfl) (by kernel_rfl) (fun _ _ _ h => h) (Or.inl ⟨by rfl, ?_⟩) hHeld ?_
          rotate_left
          · intro u hSu
            (go_simp) <;> (with_reducible rfl)
          change wpAnyH _ _ _ _ _ _ _ (Act.put _ (some 210) _) _
          simp only [Act.put, List.setIfInBounds_toArray, List.set_cons_zero, List.set_cons_succ]
          refine wpAnyH_take (i := 30) (v := ?_) rfl (by kernel_rfl) (by kernel_rfl) (by kernel_rfl) (fun _ _ _ h => h) (Or.inl ⟨by rfl, ?_⟩) hHeld ?_
          rotate_left
          · intro u hSu
            (go_simp) <;> (with_reducible rfl)
          change wpAnyH _ _ _ _ _ _ _ (Act.put _ (some 211) _) _
          simp only [Act.put, List.setIfInBounds_toArray, List.set_cons_zero, List.set_cons_succ]
          refine wpAnyH_take (i := 31) (v := ?_) rfl (by kernel_rfl) (by kernel_rfl) (by kernel_rfl) (fun _ _ _ h => h) (Or.inl ⟨by rfl, ?_⟩) hHeld ?_
          rotate_left
          · intro u hSu
            (go_simp) <;> (with_reducible rfl)
          change wpAnyH _ _ _ _ _ _ _ (Act.put _ (some 212) _) _
          simp only [Act.put, List.setIfInBounds_toArray, List.set_cons_zero, List.set_cons_succ]
          refine wpAnyH_take (i := 32) (v := ?_) rfl (by kernel_rfl) (by kernel_rfl) (by kernel_rfl) (fun _ _ _ h => h) (Or.inl ⟨by rfl, ?_⟩) hHeld ?_
          rotate_left
          · intro u hSu
            obtain ⟨x1, s10, s11, s20, s21⟩ := FX.out u hSu
            (go_simp) <;> (with_reducible rfl)
          change wpAnyH _ _ _ _ _ _ _ (Act.put _ (some 213) _) _
          simp only [Act.put, List.setIfInBounds_toArray, List.set_cons_zero, List.set_cons_succ]
          refine wpAnyH_take (i := 34) (v := ?_) rfl (by kernel_rfl) (by kernel_rfl) (by kernel_rfl) (fun _ _ _ h => h) (Or.inl ⟨by rfl, ?_⟩) hHeld ?_
          rotate_left
          · intro u hSu
            (go_simp) <;> (with_reducible rfl)
          change wpAnyH _ _ _ _ _ _ _ (Act.put _ (some 215) _) _
          simp only [Act.put, List.setIfInBounds_toArray, List.set_cons_zero, List.set_cons_succ]
          refine wpAnyH_take (i := 35) (v := ?_) rfl (by kernel_rfl) (by kernel_rfl) (by kernel_rfl) (fun _ _ _ h => h) (Or.inl ⟨by rfl, ?_⟩) hHeld ?_
          rotate_left
          · intro u hSu
            (go_simp) <;> (with_reducible rfl)
          change wpAnyH _ _ _ _ _ _ _ (Act.put _ (some 216) _) _
          simp only [Act.put, List.setIfInBounds_toArray, List.set_cons_zero, List.set_cons_succ]
          refine wpAnyH_take (i := 36) (v := ?_) rfl (by kernel_rfl) (by kernel_rfl) (by kernel_rfl) (fun _ _ _ h => h) (Or.inl ⟨by rfl, ?_⟩) hHeld ?_
          rotate_left
          · intro u hSu
            obtain ⟨x1, s10, s11, s20, s21⟩ := FX.out u hSu
            (go_simp) <;> (with_reducible rfl)
          change wpAnyH _ _ _ _ _ _ _ (Act.put _ (some 217) _) _
          simp only [Act.put, List.setIfInBounds_toArray, List.set_cons_zero, List.set_cons_succ]
          refine wpAnyH_ready (rs := [33]) (by kernel_rfl) (by simp) ?_
          refine AllReadyH.cons rfl (fun K hK => ?_) AllReadyH.nil
          go_simp
          go_at_call 30
          refine (CO1.out _ (LK.out _ hHeld).1).mono ?_
          rintro e y3 ⟨⟨oa, oc, rfl, hoc, hoi⟩, hby3⟩
          have By3 : Hid (Below ub.heap.size ub y3) := hHeld.trans (hby3.mono hHeld.size)
          have HO1 : Hid (RowI y3 oa ow ∧ NO ≤ oc) := ⟨hoi, hoc⟩
          clear hoi hoc
          clear hby3
          refine hK.out _ _ ?_ (fun hHeld2 => ?_)
          · exact By3.out
          clear hK K hHeld
          have hHeld := hHeld2
          clear hHeld2
          refine wpAnyH_ready (rs := [37]) (by kernel_rfl) (by simp) ?_
          refine AllReadyH.cons rfl (fun K hK => ?_) AllReadyH.nil
          go_simp
          go_at_call 31
          refine (CO2.out _ (LK.out _ hHeld).1).mono ?_
          rintro e y4 ⟨⟨qa, qc, rfl, hqc, hqi⟩, hby4⟩
          have By4 : Hid (Below ub.heap.size ub y4) := hHeld.trans (hby4.mono hHeld.size)
          have HO2 : Hid (RowI y4 oa ow ∧ NO ≤ oc ∧ RowI y4 qa ow ∧ NO ≤ qc) := ⟨HO1.out.1.past hby4, HO1.out.2, hqi, hqc⟩
          clear hqi hqc HO1
          clear hby4
          refine hK.out _ _ ?_ (fun hHeld2 => ?_)
          · exact By4.out
          clear hK K hHeld
          have hHeld := hHeld2
          clear hHeld2
          refine wpAnyH_ready (rs := [38]) (by kernel_rfl) (by simp) ?_
          refine AllReadyH.cons rfl (fun K hK => ?_) AllReadyH.nil
          go_simp
          go_at_call 29
          refine (CS.out _ _ _ _ _ HO2.out.2.1 HO2.out.2.2.2 HO2.out.1 HO2.out.2.2.1).mono ?_
          rintro e y5 ⟨rfl, hby5⟩
          have By5 : Hid (Below ub.heap.size ub y5) := hHeld.trans (hby5.mono hHeld.size)
          clear hby5
          refine hK.out _ _ ?_ (fun hHeld2 => ?_)
          · exact By5.out
          clear hK K hHeld
          have hHeld := hHeld2
          clear hHeld2
          refine wpAnyH_take (i := 39) (v := ?_) rfl (by kernel_rfl) (by kernel_rfl) (by kernel_rfl) (fun _ _ _ h => h) (Or.inl ⟨by rfl, ?_⟩) hHeld ?_
          rotate_left
          · intro u hSu
            (go_simp) <;> (with_reducible rfl)
          change wpAnyH _ _ _ _ _ _ _ (Act.put _ (some 220) _) _
          simp only [Act.put, List.setIfInBounds_toArray, List.set_cons_zero, List.set_cons_succ]
          refine wpAnyH_take (i := 40) (v := ?_) rfl (by kernel_rfl) (by kernel_rfl) (by kernel_rfl) (fun _ _ _ h => h) (Or.inl ⟨by rfl, ?_⟩) hHeld ?_
          rotate_left
          · intro u hSu
            (go_simp) <;> (with_reducible rfl)
          change wpAnyH _ _ _ _ _ _ _ (Act.put _ (some 221) _) _
          simp only [Act.put, List.setIfInBounds_toArray, List.set_cons_zero, List.set_cons_succ]
          refine wpAnyH_take (i := 41) (v := ?_) rfl (by kernel_rfl) (by kernel_rfl) (by kernel_rfl) (fun _ _ _ h => h) (Or.inl ⟨by rfl, ?_⟩) hHeld ?_
          rotate_left
          · intro u hSu
            (go_simp) <;> (with_reducible rfl)
          change wpAnyH _ _ _ _ _ _ _ (Act.put _ (some 222) _) _
          simp only [Act.put, List.setIfInBounds_toArray, List.set_cons_zero, List.set_cons_succ]
          refine wpAnyH_take (i := 42) (v := ?_) rfl (by kernel_rfl) (by kernel_rfl) (by kernel_rfl) (fun _ _ _ h => h) (Or.inl ⟨by rfl, ?_⟩) hHeld ?_
          rotate_left
          · intro u hSu
            (go_simp) <;> (with_reducible rfl)
          change wpAnyH _ _ _ _ _ _ _ (Act.put _ (some 223) _) _
          simp only [Act.put, List.setIfInBounds_toArray, List.set_cons_zero, List.set_cons_succ]
          refine wpAnyH_take (i := 44) (v := ?_) rfl (by kernel_rfl) (by kernel_rfl) (by kernel_rfl) (fun _ _ _ h => h) (Or.inl ⟨by rfl, ?_⟩) hHeld ?_
          rotate_left
          · intro u hSu
            (go_simp) <;> (with_reducible rfl)
          change wpAnyH _ _ _ _ _ _ _ (Act.put _ (some 225) _) _
          simp only [Act.put, List.setIfInBounds_toArray, List.set_cons_zero, List.set_cons_succ]
          refine wpAnyH_ready (rs := [43]) (by kernel_rfl) (by simp) ?_
          refine AllReadyH.cons rfl (fun K hK => ?_) AllReadyH.nil
          go_simp
          go_at_call 18
          refine (CN1.out _ (LK.out _ hHeld).1).mono ?_
          rintro e y6 ⟨⟨na, nc, rfl, hnc, hni⟩, hby6⟩
          have By6 : Hid (Below ub.heap.size ub y6) := hHeld.trans (hby6.mono hHeld.size)
          have HN1 : Hid (RowI y6 na os ∧ NS ≤ nc) := ⟨hni, hnc⟩
          clear hni hnc
          clear hby6
          refine hK.out _ _ ?_ (fun hHeld2 => ?_)
          · exact By6.out
          clear hK K hHeld
          have hHeld := hHeld2
          clear hHeld2
          refine wpAnyH_ready (rs := [45]) (by kernel_rfl) (by simp) ?_
          refine AllReadyH.cons rfl (fun K hK => ?_) AllReadyH.nil
          go_simp
          go_at_call 32
          refine (CN2.out _ (LK.out _ hHeld).1).mono ?_
          rintro e y7 ⟨⟨ma2, mc2, rfl, hmc, hmi⟩, hby7⟩
          have By7 : Hid (Below ub.heap.size ub y7) := hHeld.trans (hby7.mono hHeld.size)
          have HN2 : Hid (RowI y7 na os ∧ NS ≤ nc ∧ RowI y7 ma2 os ∧ NS ≤ mc2) := ⟨HN1.out.1.past hby7, HN1.out.2, hmi, hmc⟩
          clear hmi hmc HN1
          clear hby7
          refine hK.out _ _ ?_ (fun hHeld2 => ?_)
          · exact By7.out
          clear hK K hHeld
          have hHeld := hHeld2
          clear hHeld2
          refine wpAnyH_ready (rs := [46]) (by kernel_rfl) (by simp) ?_
          refine AllReadyH.cons rfl (fun K hK => ?_) AllReadyH.nil
          go_simp
          go_at_call 19
          refine (CS64.out _ _ _ _ _ HN2.out.2.1 HN2.out.2.2.2 HN2.out.1 HN2.out.2.2.1).mono ?_
          rintro e y8 ⟨rfl, hby8⟩
          have By8 : Hid (Below ub.heap.size ub y8) := hHeld.trans (hby8.mono hHeld.size)
          clear hby8
          refine hK.out _ _ ?_ (fun hHeld2 => ?_)
          · exact By8.out
          clear hK K hHeld
          have hHeld := hHeld2
          clear hHeld2
          refine wpAnyH_take (i := 47) (v := ?_) rfl (by kernel_rfl) (by kernel_rfl) (by kernel_rfl) (fun _ _ _ h => h) (Or.inl ⟨by rfl, ?_⟩) hHeld ?_
          rotate_left
          · intro u hSu
            (go_simp) <;> (with_reducible rfl)
          change wpAnyH _ _ _ _ _ _ _ (Act.put _ (some 228) _) _
          simp only [Act.put, List.setIfInBounds_toArray, List.set_cons_zero, List.set_cons_succ]
          refine wpAnyH_take (i := 48) (v := ?_) rfl (by kernel_rfl) (by kernel_rfl) (by kernel_rfl) (fun _ _ _ h => h) (Or.inl ⟨by rfl, ?_⟩) hHeld ?_
          rotate_left
          · intro u hSu
            (go_simp) <;> (with_reducible rfl)
          change wpAnyH _ _ _ _ _ _ _ (Act.put _ (some 229) _) _
          simp only [Act.put, List.setIfInBounds_toArray, List.set_cons_zero, List.set_cons_succ]
          refine wpAnyH_done (by kernel_rfl) ?_ _
          refine NoPanic.normal ?_
          go_wp2
          go_roundw
          case rel => exact ⟨i + 1, by go_num, by omega, P, (LK.out _ By8.out).1.done⟩
          case measure => simp [intOf]; omega
    · obtain rfl : i = len0 := by omega
      have hni : ¬ (i : Int) < (i : Int) := by omega
      go_wp2
      go_ret
      exact ⟨rfl, HBR.out⟩

set_option maxRecDepth 100000 in
theorem lifted (os : Os) (started : os.Started) (H : Type) (enc : TypeId × Value → H) :
    ReturnsInHanded {} Try.checked os 4 .any (Rows.coordPlaysSpec.pre6 enc Try.prog Try.f4 Rows.coordPlaysRow.domain false) (Rows.coordPlaysSpec.post enc Try.prog Try.f4 false true false false) := by
  refine returnsInHanded_of_change (C := Try.checked) own started (by kernel_rfl) Try.func4
    (ChangeSpec.witness6 (enc := enc) (C := Try.checked) false ⟨#[], #[.slice none 0 0], []⟩ 8 (by kernel_rfl) (by kernel_rfl) (by kernel_rfl) (by kernel_rfl)) ?_
  intro W base args ds gs before hval0 hW hcnd _
  have hval : ∀ (j : Nat) t v, Try.f4.params[j]? = some t → args[j]? = some v → Value.okWide Try.prog W .any base t v := hval0
  have hW' := hW
  obtain ⟨p, q, hA0, hV, rfl, hfz, hnd⟩ := hW
  have hA : DataW.TrodAll enc Try.prog W 0 (fun _ => true) true Try.f4.params.toList args.toList ds p := hA0
  rw [Try.params4] at hA hval
  obtain ⟨v0, vs0, d0, ds0, p0, q0, hargs, rfl, rfl, h0, r0⟩ := trodAll_cons hA
  obtain ⟨rfl, rfl, rfl⟩ := trodAll_nil r0
  obtain rfl : args = #[v0] := by cases args; simp_all
  obtain ⟨rfl, rfl⟩ := trodVars_none hV
  obtain ⟨a0, len0, cap0, rfl⟩ := okWide_slice Try.underlying47 (hval 0 47 v0 rfl rfl)
  have k0 := h0
  have lt0 : ∀ x ∈ p0, x.block < W.heap.size := by obtain ⟨m, hm⟩ := k0; exact DataW.trod_lt m _ _ _ hm
  obtain ⟨z0, l0, w0⟩ : ∃ xs : List DAct, xs.length = len0 ∧ DActsOf W a0 cap0 xs := by
    obtain ⟨fuel, hf⟩ := h0
    exact dacts_open Try.underlying47 Try.underlying53 Try.underlying3 Try.underlying2 Try.underlying35 Try.underlying3 Try.underlying4 rfl rfl Try.underlying2 Try.underlying5 Try.underlying86 Try.underlying84 Try.underlying5 Try.underlying9 Try.underlying4 Try.underlying28 Try.underlying37 Try.underlying3 Try.underlying2 Try.underlying28 Try.underlying28 Try.underlying34 Try.underlying4 Try.underlying35 Try.underlying3 rfl rfl rfl rfl rfl rfl rfl rfl rfl rfl rfl rfl rfl rfl rfl rfl rfl rfl rfl (by kernel_rfl) (by kernel_rfl) (by kernel_rfl) (by kernel_rfl) (by kernel_rfl) (by kernel_rfl) (by kernel_rfl) (by kernel_rfl) (by kernel_rfl) (by kernel_rfl) (by kernel_rfl) (by kernel_rfl) (by kernel_rfl) (by kernel_rfl) (by kernel_rfl) (by kernel_rfl) (by kernel_rfl) (by kernel_rfl) (by kernel_rfl) (by kernel_rfl) (by kernel_rfl) (by kernel_rfl) (by kernel_rfl) hf
  clear hA0 hval0
  refine (walk a0 len0 cap0 z0 W l0 w0).mono fun e W' ⟨he, bel⟩ => ?_
  subst he
  exact ⟨_, rfl, _, _, _, [], _, [], hW', trodAll_mk1 (shut_bool Try.underlying4 _), (trodAll_cons_mk (Below.trod laidOut (by kernel_rfl) (of_decide_eq_true (by kernel_rfl)) k0 bel lt0) trodAll_mk0), rfl, bel.frame _, fun h => by cases h⟩

theorem over : Rows.coordPlaysRow.holds Try.pinned (OpenSpec.ofChange Rows.coordPlaysSpec) :=
  OpenClaim.holds_of_wide 4 Try.f4 rfl rfl rfl rfl rfl rfl rfl ⟨rfl, rfl, rfl, rfl, rfl⟩ rfl rfl rfl rfl rfl (by kernel_rfl) Try.func4 (by kernel_rfl)
    (of_decide_eq_true (by kernel_rfl)) (by unfold Func.isWrapper; first | (rw [if_pos (by decide +kernel)]; kernel_rfl) | (rw [if_neg (by decide +kernel)]; exact ⟨rfl, rfl⟩))
    (fun os started H enc _ => lifted os started H enc)
theorem proved : Rows.CoordPlaysSaid := over
#print axioms proved
end Go.Proofs.Ytcppihpehipelaa.coordPlays
namespace Go.Proofs.Ytcppihpehipelaa
/-- CoordPlays, as given. -/
theorem coordPlays_holds : Rows.CoordPlaysSaid := coordPlays.proved
end Go.Proofs.Ytcppihpehipelaa
