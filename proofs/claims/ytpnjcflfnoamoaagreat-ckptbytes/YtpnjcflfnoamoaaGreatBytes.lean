/-
  CkptBytes: any store's bytes, any bytes' store, also a store's with one byte changed, are as the document says (of stores of more than 30 calls, of more than 20 writes a call, of values of more than 250 bytes, of more than 2000 bytes the statement asks nothing).
-/
import Derived.Test.YtpnjcflfnoamoaaGreatRows
import Derived.Test.YtpnjcflfnoamoaaGreatAu13
import Derived.Test.YtpnjcflfnoamoaaGreatOp
import Derived.WalkKit
import Derived.ProofKit
import Derived.OpenShut
import Derived.ShutString
import Derived.ChangeOld
import Derived.Below
import Derived.Carry
namespace Go.Proofs.YtpnjcflfnoamoaaGreat.ckptBytes
open Go.ChangeShapes Go.WideShapes Go.ChangeAt Go.RowKit
open Go.ChangeMaps (open_string shut_string)
set_option linter.unusedVariables false

theorem own : ownKnob Tryz.prog.godebug = none := by kernel_rfl
theorem laidOut : laidOutB Tryz.prog = true := by kernel_rfl
/-- A slice of integers that came in: nil, or a row of 'cap' cells, of which the first 'len' are its elements. -/
def IsRow (k : IntKind) (w : World) (a : Option Addr) (len cap : Nat) (zs : List Int) : Prop :=
  (a = none ∧ len = 0 ∧ cap = 0 ∧ zs = []) ∨
  ∃ x, a = some x ∧ len ≤ cap ∧ cap ≤ maxLen ∧ zs.length = cap ∧ (∀ i, i < zs.length → w.cell? (x.add i) = some (.int k (zs.getD i 0))) ∧ ∀ n ∈ zs, (Lit.int k n).wf = true

open Classical in
set_option maxRecDepth 20000 in
set_option maxHeartbeats 16000000 in
theorem walk (a0 : Option Addr) (len0 cap0 : Nat) (z0 : List SAct) (a1 : Int) (a2 : Int) (a3 : Option Addr) (len3 cap3 : Nat) (z3 : List Int) (w : World) (l0 : z0.length = len0) (w0 : SActsOf w a0 cap0 z0) (w1 : (Lit.int .i64 a1).wf = true) (w2 : (Lit.int .u8 a2).wf = true) (w3 : IsRow .u8 w a3 len3 cap3 z3) :
    Calls Tryz.prog 3 #[.slice a0 len0 cap0, .int .i64 a1, .int .u8 a2, .slice a3 len3 cap3] w fun e w' => e = .returned (.bool true) ∧ Below w.heap.size w w' := by
  have by1 := bounds_i64 w1
  have yb := bounds_u8 w2
  have AW : Hid (∀ u, Calls Tryz.prog 6 #[] u fun e w' => e = .returned (.bool true) ∧ Below u.heap.size u w') := fun u => cawake_any u
  obtain ⟨zs, hzl, hzr⟩ := row_of w3
  have hzc : len3 ≤ cap3 := by
    rcases w3 with ⟨_, h1, h2, _⟩ | ⟨_, _, h1, _⟩ <;> omega
  have HROW : Hid (∀ u, Below w.heap.size w u → Row u a3 zs) := fun u hu => hzr.below hu (Nat.le_refl _)
  obtain ⟨L, hL⟩ : ∃ L, L = actsV [] z0 := ⟨_, rfl⟩
  have CGR : Hid (∀ u, Below w.heap.size w u → Calls Tryz.prog 7 #[.slice a0 len0 cap0] u fun e w' => (e = .returned (.pointer none) ∧ Below w.heap.size w w') ∨ (∃ p, e = .returned (.pointer (some ⟨p, 0, none⟩)) ∧ StX w w' p L ∧ GdK L ∧ L.length ≤ 600)) := fun u hu => by
    rw [hL]
    refine (lgrown_any z0 a0 len0 cap0 l0 w u hu w0).mono ?_
    rintro e w' (⟨rfl, hb⟩ | ⟨p, rfl, h1, h2, h3⟩)
    · exact .inl ⟨rfl, hu.trans (hb.mono hu.size)⟩
    · exact .inr ⟨p, rfl, h1.to hu, h2, h3⟩
  have HZL : Hid (zs.length = len3) := hzl
  clear hL w0 w3 hzr hzl l0
  by_cases h2000 : 2000 < len3
  · have b3 : (2000 : Int) < (len3 : Int) := by omega
    go_enter Tryz.func3, Tryz.ntmps3
    go_wp2_with (first
      | (have hgo := B1.out; clear hgo; go_at_call 7; refine (CGR.out _ B1.out).mono ?_; rintro e v2 (⟨rfl, h1⟩ | ⟨p, rfl, h1⟩); rotate_left; (have S2 : Hid (StX w v2 p L ∧ GdK L ∧ L.length ≤ 600) := h1; clear h1 CGR B1); rotate_left; (have S2 : Hid (Below w.heap.size w v2) := h1; clear h1 CGR B1))
      | (go_at_call 6; refine (AW.out _).mono ?_; rintro e v1 ⟨rfl, hb⟩; have B1 : Hid (Below w.heap.size w v1) := hb; clear hb AW))
    · go_ret
      exact ⟨rfl, S2.out⟩
    · go_ret
      exact ⟨rfl, S2.out.1.below⟩
  · have b3 : ¬ (2000 : Int) < (len3 : Int) := by omega
    obtain ⟨BZ, hBZ⟩ : ∃ B, B = storeB L := ⟨_, rfl⟩
    obtain ⟨LB, hLB⟩ : ∃ n, n = BZ.length := ⟨_, rfl⟩
    have HLB : Hid (BZ.length = LB) := hLB.symm
    have HM : Hid (StoG L → GdK L → L.length ≤ 600 → LB ≤ 140000) := fun h1 h2 h3 => by
      have := storeB_len h1 h2
      rw [hLB, hBZ]; omega
    have CPL : Hid (∀ u p, StX w u p L → GdK L → L.length ≤ 600 → Calls Tryz.prog 8 #[.pointer (some ⟨p, 0, none⟩)] u fun e w' => ∃ a c, e = .returned (.slice a LB c) ∧ Bt u w' BZ a LB c) := fun u p h1 h2 h3 => by
      refine (ckput_any h1 h2 (by omega)).mono ?_
      rintro e w' ⟨a, m, c, rfl, h4⟩
      rw [← hBZ] at h4
      obtain rfl : m = LB := by rw [hLB]; exact h4.len.symm
      exact ⟨a, c, rfl, h4⟩
    have CST : Hid (∀ u p, StX w u p L → Calls Tryz.prog 10 #[.pointer (some ⟨p, 0, none⟩)] u fun e w' => ∃ q, e = .returned (.pointer (some ⟨q, 0, none⟩)) ∧ (∃ B, StoreR w' B q L) ∧ Below u.heap.size u w') := fun u p h =>
      (xsto_any h).mono fun e w' ⟨q, h1, h2, h3⟩ => ⟨q, h1, ⟨_, h2⟩, h3⟩
    have CPR : Hid (∀ u q, (∃ B, StoreR u B q L) → StoG L → GdK L → L.length ≤ 600 → Calls Tryz.prog 9 #[.pointer (some ⟨q, 0, none⟩)] u fun e w' => ∃ a c, e = .returned (.slice a LB c) ∧ Bt u w' BZ a LB c) := fun u q ⟨B, h⟩ h1 h2 h3 => by
      refine (rputstore_any B q L u h h1 (by have := storeB_len h1 h2; omega)).mono ?_
      rintro e w' ⟨a, m, c, rfl, h4⟩
      rw [← hBZ] at h4
      obtain rfl : m = LB := by rw [hLB]; exact h4.len.symm
      exact ⟨a, c, rfl, h4⟩
    have hseq : ((strOfNums BZ).toList == (strOfNums BZ).toList) = true := by simp
    clear hBZ hLB
    go_enter Tryz.func3, Tryz.ntmps3
    go_upto_region 7 with (first
      | (have hgo := S2.out; clear hgo; go_at_call 8; refine (CPL.out _ _ S2.out.1 S2.out.2.1 S2.out.2.2).mono ?_; rintro e v3 ⟨ax, cx, rfl, hbt⟩; have S3 : Hid (StX w v3 p L ∧ GdK L ∧ L.length ≤ 600 ∧ Bt v2 v3 BZ ax LB cx) := ⟨S2.out.1.past hbt.below, S2.out.2.1, S2.out.2.2, hbt⟩; clear hbt)
      | (have hgo := B1.out; clear hgo; go_at_call 7; refine (CGR.out _ B1.out).mono ?_; rintro e v2 (⟨rfl, h1⟩ | ⟨p, rfl, h1⟩); rotate_left; (have S2 : Hid (StX w v2 p L ∧ GdK L ∧ L.length ≤ 600) := h1; clear h1 CGR B1); rotate_left; (have S2 : Hid (Below w.heap.size w v2) := h1; clear h1 CGR B1))
      | (go_at_call 6; refine (AW.out _).mono ?_; rintro e v1 ⟨rfl, hb⟩; have B1 : Hid (Below w.heap.size w v1) := hb; clear hb AW))
    · go_wp2
      go_ret
      exact ⟨rfl, S2.out⟩
    · have HX3 : Hid (StX w v3 p L ∧ StoG L ∧ GdK L ∧ L.length ≤ 600) := ⟨S3.out.1, S3.out.1.sto, S3.out.2.1, S3.out.2.2.1⟩
      have HB3 : Hid (Bt v2 v3 BZ ax LB cx) := S3.out.2.2.2
      have HLM : Hid (LB ≤ 140000) := HM.out HX3.out.2.1 HX3.out.2.2.1 HX3.out.2.2.2
      have HBW : Hid (Below w.heap.size w v3) := HX3.out.1.below
      have HV2 : Hid (w.heap.size ≤ v2.heap.size) := S3.out.2.2.2.below.size |> fun _ => S2.out.1.below.size
      clear S3 S2 HM CPL
      go_cut [36] from 30 to 36 (fun dv wx => dv = .bool false ∧ Hid (Below v3.heap.size v3 wx))
      case first =>
        refine wp_region_noPanic ?_
        refine wp_region_held_drew (S := fun u => Below v3.heap.size v3 u) (by kernel_rfl) ?_ (fun hHeld => ?_)
        · exact (Below.refl _ _).drew
        refine wpAnyH_take (i := 0) (v := ?_) rfl (by kernel_rfl) (by kernel_rfl) (by kernel_rfl) (fun _ _ _ h => h) (Or.inl ⟨by rfl, ?_⟩) hHeld ?_
        rotate_left
        · intro u hSu
          (go_simp) <;> (with_reducible rfl)
        change wpAnyH _ _ _ _ _ _ _ (Act.put _ (some 30) _) _
        simp only [Act.put, List.setIfInBounds_toArray, List.set_cons_zero, List.set_cons_succ]
        refine wpAnyH_take (i := 2) (v := ?_) rfl (by kernel_rfl) (by kernel_rfl) (by kernel_rfl) (fun _ _ _ h => h) (Or.inl ⟨by rfl, ?_⟩) hHeld ?_
        rotate_left
        · intro u hSu
          (go_simp) <;> (with_reducible rfl)
        change wpAnyH _ _ _ _ _ _ _ (Act.put _ (some 32) _) _
        simp only [Act.put, List.setIfInBounds_toArray, List.set_cons_zero, List.set_cons_succ]
        refine wpAnyH_ready (rs := [1, 3]) (by kernel_rfl) (by simp) ?_
        refine AllReadyH.cons rfl (fun K hK => ?_) ?_
        · have hcv1 := str_at HLB.out (HB3.out.past (hHeld)).row cx
          go_simp
          refine hK.out _ _ ?_ (fun hHeld2 => ?_)
          · exact hHeld
          clear hK K hHeld
          have hHeld := hHeld2
          clear hHeld2
          refine wpAnyH_ready (rs := [3]) (by kernel_rfl) (by simp) ?_
          refine AllReadyH.cons rfl (fun K hK => ?_) AllReadyH.nil
          go_simp
          go_at_call 10
          refine (CST.out _ _ (HX3.out.1.past hHeld)).mono ?_
          rintro e v4 ⟨q4, rfl, hs4, hb4⟩
          have B4 : Hid (Below v3.heap.size v3 v4) := hHeld.trans (hb4.mono hHeld.size)
          have R4 : Hid (∃ B, StoreR v4 B q4 L) := hs4
          clear hs4 hb4
          refine hK.out _ _ ?_ (fun hHeld2 => ?_)
          · exact B4.out
          clear hK K hHeld
          have hHeld := hHeld2
          clear hHeld2
          refine wpAnyH_ready (rs := [4]) (by kernel_rfl) (by simp) ?_
          refine AllReadyH.cons rfl (fun K hK => ?_) AllReadyH.nil
          go_simp
          go_at_call 9
          refine (CPR.out _ _ R4.out HX3.out.2.1 HX3.out.2.2.1 HX3.out.2.2.2).mono ?_
          rintro e v5 ⟨a5, c5, rfl, hbt5⟩
          have B5 : Hid (Below v3.heap.size v3 v5) := hHeld.trans (hbt5.below.mono hHeld.size)
          have HT5 : Hid (Row v5 a5 BZ) := hbt5.row
          clear hbt5
          refine hK.out _ _ ?_ (fun hHeld2 => ?_)
          · exact B5.out
          clear hK K hHeld
          have hHeld := hHeld2
          clear hHeld2
          refine wpAnyH_ready (rs := [5]) (by kernel_rfl) (by simp) ?_
          refine AllReadyH.cons rfl (fun K hK => ?_) AllReadyH.nil
          have hcv5 := str_at HLB.out HT5.out c5
          go_simp
          refine hK.out _ _ ?_ (fun hHeld2 => ?_)
          · exact B5.out
          clear hK K hHeld
          have hHeld := hHeld2
          clear hHeld2
          refine wpAnyH_take (i := 6) (v := ?_) rfl (by kernel_rfl) (by kernel_rfl) (by kernel_rfl) (fun _ _ _ h => h) (Or.inl ⟨by rfl, ?_⟩) hHeld ?_
          rotate_left
          · intro u hSu
            (go_simp) <;> (with_reducible rfl)
          change wpAnyH _ _ _ _ _ _ _ (Act.put _ (some 36) _) _
          simp only [Act.put, List.setIfInBounds_toArray, List.set_cons_zero, List.set_cons_succ]
          refine wpAnyH_done (by kernel_rfl) ?_ _
          refine NoPanic.normal ?_
          go_wp2
          go_meet
          case rel => exact ⟨rfl, B5⟩
        refine AllReadyH.cons rfl (fun K hK => ?_) AllReadyH.nil
        go_simp
        go_at_call 10
        refine (CST.out _ _ (HX3.out.1.past hHeld)).mono ?_
        rintro e v4 ⟨q4, rfl, hs4, hb4⟩
        have B4 : Hid (Below v3.heap.size v3 v4) := hHeld.trans (hb4.mono hHeld.size)
        have R4 : Hid (∃ B, StoreR v4 B q4 L) := hs4
        clear hs4 hb4
        refine hK.out _ _ ?_ (fun hHeld2 => ?_)
        · exact B4.out
        clear hK K hHeld
        have hHeld := hHeld2
        clear hHeld2
        refine wpAnyH_ready (rs := [1, 4]) (by kernel_rfl) (by simp) ?_
        refine AllReadyH.cons rfl (fun K hK => ?_) ?_
        · have hcv1 := str_at HLB.out (HB3.out.past (B4.out)).row cx
          go_simp
          refine hK.out _ _ ?_ (fun hHeld2 => ?_)
          · exact B4.out
          clear hK K hHeld
          have hHeld := hHeld2
          clear hHeld2
          refine wpAnyH_ready (rs := [4]) (by kernel_rfl) (by simp) ?_
          refine AllReadyH.cons rfl (fun K hK => ?_) AllReadyH.nil
          go_simp
          go_at_call 9
          refine (CPR.out _ _ R4.out HX3.out.2.1 HX3.out.2.2.1 HX3.out.2.2.2).mono ?_
          rintro e v5 ⟨a5, c5, rfl, hbt5⟩
          have B5 : Hid (Below v3.heap.size v3 v5) := hHeld.trans (hbt5.below.mono hHeld.size)
          have HT5 : Hid (Row v5 a5 BZ) := hbt5.row
          clear hbt5
          refine hK.out _ _ ?_ (fun hHeld2 => ?_)
          · exact B5.out
          clear hK K hHeld
          have hHeld := hHeld2
          clear hHeld2
          refine wpAnyH_ready (rs := [5]) (by kernel_rfl) (by simp) ?_
          refine AllReadyH.cons rfl (fun K hK => ?_) AllReadyH.nil
          have hcv5 := str_at HLB.out HT5.out c5
          go_simp
          refine hK.out _ _ ?_ (fun hHeld2 => ?_)
          · exact B5.out
          clear hK K hHeld
          have hHeld := hHeld2
          clear hHeld2
          refine wpAnyH_take (i := 6) (v := ?_) rfl (by kernel_rfl) (by kernel_rfl) (by kernel_rfl) (fun _ _ _ h => h) (Or.inl ⟨by rfl, ?_⟩) hHeld ?_
          rotate_left
          · intro u hSu
            (go_simp) <;> (with_reducible rfl)
          change wpAnyH _ _ _ _ _ _ _ (Act.put _ (some 36) _) _
          simp only [Act.put, List.setIfInBounds_toArray, List.set_cons_zero, List.set_cons_succ]
          refine wpAnyH_done (by kernel_rfl) ?_ _
          refine NoPanic.normal ?_
          go_wp2
          go_meet
          case rel => exact ⟨rfl, B5⟩
        refine AllReadyH.cons rfl (fun K hK => ?_) AllReadyH.nil
        go_simp
        go_at_call 9
        refine (CPR.out _ _ R4.out HX3.out.2.1 HX3.out.2.2.1 HX3.out.2.2.2).mono ?_
        rintro e v5 ⟨a5, c5, rfl, hbt5⟩
        have B5 : Hid (Below v3.heap.size v3 v5) := hHeld.trans (hbt5.below.mono hHeld.size)
        have HT5 : Hid (Row v5 a5 BZ) := hbt5.row
        clear hbt5
        refine hK.out _ _ ?_ (fun hHeld2 => ?_)
        · exact B5.out
        clear hK K hHeld
        have hHeld := hHeld2
        clear hHeld2
        refine wpAnyH_ready (rs := [1, 5]) (by kernel_rfl) (by simp) ?_
        refine AllReadyH.cons rfl (fun K hK => ?_) ?_
        · have hcv1 := str_at HLB.out (HB3.out.past (B5.out)).row cx
          go_simp
          refine hK.out _ _ ?_ (fun hHeld2 => ?_)
          · exact B5.out
          clear hK K hHeld
          have hHeld := hHeld2
          clear hHeld2
          refine wpAnyH_ready (rs := [5]) (by kernel_rfl) (by simp) ?_
          refine AllReadyH.cons rfl (fun K hK => ?_) AllReadyH.nil
          have hcv5 := str_at HLB.out HT5.out c5
          go_simp
          refine hK.out _ _ ?_ (fun hHeld2 => ?_)
          · exact B5.out
          clear hK K hHeld
          have hHeld := hHeld2
          clear hHeld2
          refine wpAnyH_take (i := 6) (v := ?_) rfl (by kernel_rfl) (by kernel_rfl) (by kernel_rfl) (fun _ _ _ h => h) (Or.inl ⟨by rfl, ?_⟩) hHeld ?_
          rotate_left
          · intro u hSu
            (go_simp) <;> (with_reducible rfl)
          change wpAnyH _ _ _ _ _ _ _ (Act.put _ (some 36) _) _
          simp only [Act.put, List.setIfInBounds_toArray, List.set_cons_zero, List.set_cons_succ]
          refine wpAnyH_done (by kernel_rfl) ?_ _
          refine NoPanic.normal ?_
          go_wp2
          go_meet
          case rel => exact ⟨rfl, B5⟩
        refine AllReadyH.cons rfl (fun K hK => ?_) AllReadyH.nil
        have hcv5 := str_at HLB.out HT5.out c5
        go_simp
        refine hK.out _ _ ?_ (fun hHeld2 => ?_)
        · exact B5.out
        clear hK K hHeld
        have hHeld := hHeld2
        clear hHeld2
        refine wpAnyH_ready (rs := [1]) (by kernel_rfl) (by simp) ?_
        refine AllReadyH.cons rfl (fun K hK => ?_) AllReadyH.nil
        have hcv1 := str_at HLB.out (HB3.out.past (B5.out)).row cx
        go_simp
        refine hK.out _ _ ?_ (fun hHeld2 => ?_)
        · exact B5.out
        clear hK K hHeld
        have hHeld := hHeld2
        clear hHeld2
        refine wpAnyH_take (i := 6) (v := ?_) rfl (by kernel_rfl) (by kernel_rfl) (by kernel_rfl) (fun _ _ _ h => h) (Or.inl ⟨by rfl, ?_⟩) hHeld ?_
        rotate_left
        · intro u hSu
          (go_simp) <;> (with_reducible rfl)
        change wpAnyH _ _ _ _ _ _ _ (Act.put _ (some 36) _) _
        simp only [Act.put, List.setIfInBounds_toArray, List.set_cons_zero, List.set_cons_succ]
        refine wpAnyH_done (by kernel_rfl) ?_ _
        refine NoPanic.normal ?_
        go_wp2
        go_meet
        case rel => exact ⟨rfl, B5⟩
      case rest =>
        obtain ⟨rfl, HC⟩ := hcut
        have HBT : Hid (Bt v2 wc BZ ax LB cx) := HB3.out.past HC.out
        have HWC : Hid (Below w.heap.size w wc) := HBW.out.trans (HC.out.mono HBW.out.size)
        have hroom : LB ≤ cx := HBT.out.room
        have hlm : LB ≤ 140000 := HLM.out
        clear HX3 HB3 HLM HBW HC CST CPR hseq
        by_cases h0 : 0 ≤ a1
        · by_cases h1 : a1 < (LB : Int)
          · obtain ⟨k, rfl⟩ : ∃ k : Nat, a1 = k := ⟨a1.toNat, by omega⟩
            have hk : k < LB := by omega
            obtain ⟨g, hga, hg, hmine, _⟩ := mine_of_own HBT.out.own HBT.out.bytes (by omega)
            subst hga
            have hfree := hmine.free k
            have hpc := hmine.cells k (by rw [HLB.out]; exact hk)
            have fb := at_byte hmine.bytes k
            have HMI : Hid (Mine wc g BZ) := hmine
            obtain ⟨v, hv⟩ : ∃ v, v = BZ.getD k 0 := ⟨_, rfl⟩
            rw [← hv] at hpc
            have hvb : 0 ≤ v ∧ v ≤ 255 := by rw [hv]; exact fb
            have X1 : bits BinOp.xor IntKind.u8 v a2 = ((v.toNat ^^^ a2.toNat : Nat) : Int) := u8_xor _ _ hvb.1 (by omega) yb.1 (by omega)
            have X2 : v.toNat ^^^ a2.toNat < 256 := Nat.xor_lt_two_pow (n := 8) (by omega) (by omega)
            obtain ⟨xv, hxv⟩ : ∃ xv, xv = ((v.toNat ^^^ a2.toNat : Nat) : Int) := ⟨_, rfl⟩
            have hxb : 0 ≤ xv ∧ xv ≤ 255 := by rw [hxv]; omega
            rw [← hxv] at X1
            clear hmine fb hv hxv X2
            have HM2 : Hid (Row (wc.setCell ⟨g, k, none⟩ (.int .u8 xv)) (some ⟨g, 0, none⟩) (BZ.set k xv)) := (HMI.out.set k xv (by rw [HLB.out]; exact hk) hxb.1 hxb.2).row
            have HB2 : Hid (Below w.heap.size w (wc.setCell ⟨g, k, none⟩ (.int .u8 xv))) := HWC.out.setCell (Nat.le_trans HV2.out hg) _
            have HL2 : Hid ((BZ.set k xv).length = LB) := by show _ = _; rw [List.length_set]; exact HLB.out
            clear HMI HBT HWC
            go_wp2
            obtain ⟨wT, hwT⟩ : ∃ wT, wT = (wc.setCell ⟨g, k, none⟩ (.int .u8 xv)) := ⟨_, rfl⟩
            rw [← hwT] at HM2 HB2 ⊢
            clear hwT
            have HIX : Hid (∀ (wr : World) (j : Nat), j < 2 → Below wT.heap.size wT wr → ∃ (ya : Option Addr) (yN yc : Nat) (ys : List Int), (∀ u, (Instr.index 31 (.agg #[.slice (some ⟨g, 0, none⟩) LB cx, .slice a3 len3 cap3]) (.int .i64 j)).run Tryz.prog u = .ok (.slice ya yN yc) u) ∧ Row wr ya ys ∧ ys.length = yN ∧ yN ≤ yc ∧ yN ≤ 140000) := fun wr j hj hb => by
              have hj2 : j = 0 ∨ j = 1 := by omega
              rcases hj2 with rfl | rfl
              · exact ⟨_, _, _, (BZ.set k xv), fun u => idxB_zero u _ _ _ _ _ _, HM2.out.below hb (Nat.le_refl _), HL2.out, hroom, hlm⟩
              · exact ⟨_, _, _, zs, fun u => idxB_one u _ _ _ _ _ _, HROW.out _ (HB2.out.trans (hb.mono HB2.out.size)), HZL.out, hzc, by omega⟩
            go_loopw [57] (fun iv wr => ∃ j : Nat, j ≤ 2 ∧ iv = .int .i64 j ∧ Hid (Below wT.heap.size wT wr)) (fun iv _ => 2 - (intOf iv).toNat)
            case atStart => exact ⟨0, by omega, rfl, Below.refl _ _⟩
            case round =>
              obtain ⟨j, hj, rfl, HBC⟩ := hrel
              have hj0 : (0 : Int) ≤ (j : Int) := by omega
              by_cases hlt : j < 2
              · have hlti : (j : Int) < 2 := by omega
                obtain ⟨ya, yN, yc, ys, hix, hyr, hyl, hyc, hym⟩ := HIX.out wr j hlt HBC.out
                have HY : Hid (∀ u, Below wr.heap.size wr u → Row u ya ys) := fun u hu => hyr.below hu (Nat.le_refl _)
                have HYL : Hid (ys.length = yN) := hyl
                clear HIX hyr hyl
                go_wp2_with (first
                  | (have hgo := R8.out; clear hgo; go_at_call 13; refine (rsame_is _ _ _ _ _ R8.out.2.1 R8.out.1 rfl).mono ?_; rintro e w9 ⟨rfl, hb⟩; have R9 : Hid (Below wr.heap.size wr w9) := R8.out.2.2.trans (hb.mono R8.out.2.2.size); clear hb R8)
                  | (have hgo := R7.out; clear hgo; go_at_call 10; refine (xsto_any R7.out.1).mono ?_; rintro e w8 ⟨r8, rfl, h1, hb⟩; have R8 : Hid (StoreL w8 r7 M ∧ StoreL w8 r8 M ∧ Below wr.heap.size wr w8) := ⟨R7.out.2.past hb, h1.looks, R7.out.1.below.trans (hb.mono R7.out.1.below.size)⟩; clear h1 hb R7)
                  | (have hgo := R6.out; clear hgo; go_at_call 12; refine (rgets_some ya yc yN ys _ (HY.out _ R6.out.2.below) HYL.out hyc (by omega) M R6.out.1).mono ?_; rintro e w7 ⟨r7, rfl, h1, hb⟩; have R7 : Hid (StX wr w7 q6 M ∧ StoreL w7 r7 M) := ⟨R6.out.2.past hb, h1⟩; clear h1 hb R6)
                  | (have hgo := N6.out; clear hgo; go_at_call 12; refine (rgets_none ya yc yN ys _ (HY.out _ N6.out.2) HYL.out hyc (by omega) N6.out.1).mono ?_; rintro e w7 ⟨rfl, hb⟩; have N7 : Hid (Below wr.heap.size wr w7) := N6.out.2.trans (hb.mono N6.out.2.size); clear hb N6)
                  | (go_at_call 11; refine (ckget_any ya yc yN ys _ (HY.out _ (Below.refl _ _)) HYL.out hyc (by omega)).mono ?_; rintro e w6 ⟨⟨q6, M, e1, rfl, h1⟩ | ⟨e1, rfl⟩, hb⟩; rotate_left; (have N6 : Hid (getS ys = none ∧ Below wr.heap.size wr w6) := ⟨e1, hb⟩; clear e1 hb); rotate_left; (have R6 : Hid (getS ys = some M ∧ StX wr w6 q6 M) := ⟨e1, h1⟩; clear e1 h1 hb)))
                · go_roundw
                  case rel => exact ⟨j + 1, by omega, by go_num, HBC.out.trans (R9.out.mono HBC.out.size)⟩
                  case measure => simp [intOf]; omega
                · go_roundw
                  case rel => exact ⟨j + 1, by omega, by go_num, HBC.out.trans (N7.out.mono HBC.out.size)⟩
                  case measure => simp [intOf]; omega
              · have hlti : ¬ (j : Int) < 2 := by omega
                go_wp2
                go_ret
                exact ⟨rfl, HB2.out.trans (HBC.out.mono HB2.out.size)⟩
          · have HB2 : Hid (Below w.heap.size w wc) := HWC.out
            have HM2 : Hid (Row wc ax BZ) := HBT.out.row
            have HL2 : Hid (BZ.length = LB) := HLB.out
            clear HBT HWC
            go_wp2
            obtain ⟨wT, hwT⟩ : ∃ wT, wT = wc := ⟨_, rfl⟩
            rw [← hwT] at HM2 HB2 ⊢
            clear hwT
            have HIX : Hid (∀ (wr : World) (j : Nat), j < 2 → Below wT.heap.size wT wr → ∃ (ya : Option Addr) (yN yc : Nat) (ys : List Int), (∀ u, (Instr.index 31 (.agg #[.slice ax LB cx, .slice a3 len3 cap3]) (.int .i64 j)).run Tryz.prog u = .ok (.slice ya yN yc) u) ∧ Row wr ya ys ∧ ys.length = yN ∧ yN ≤ yc ∧ yN ≤ 140000) := fun wr j hj hb => by
              have hj2 : j = 0 ∨ j = 1 := by omega
              rcases hj2 with rfl | rfl
              · exact ⟨_, _, _, BZ, fun u => idxB_zero u _ _ _ _ _ _, HM2.out.below hb (Nat.le_refl _), HL2.out, hroom, hlm⟩
              · exact ⟨_, _, _, zs, fun u => idxB_one u _ _ _ _ _ _, HROW.out _ (HB2.out.trans (hb.mono HB2.out.size)), HZL.out, hzc, by omega⟩
            go_loopw [57] (fun iv wr => ∃ j : Nat, j ≤ 2 ∧ iv = .int .i64 j ∧ Hid (Below wT.heap.size wT wr)) (fun iv _ => 2 - (intOf iv).toNat)
            case atStart => exact ⟨0, by omega, rfl, Below.refl _ _⟩
            case round =>
              obtain ⟨j, hj, rfl, HBC⟩ := hrel
              have hj0 : (0 : Int) ≤ (j : Int) := by omega
              by_cases hlt : j < 2
              · have hlti : (j : Int) < 2 := by omega
                obtain ⟨ya, yN, yc, ys, hix, hyr, hyl, hyc, hym⟩ := HIX.out wr j hlt HBC.out
                have HY : Hid (∀ u, Below wr.heap.size wr u → Row u ya ys) := fun u hu => hyr.below hu (Nat.le_refl _)
                have HYL : Hid (ys.length = yN) := hyl
                clear HIX hyr hyl
                go_wp2_with (first
                  | (have hgo := R8.out; clear hgo; go_at_call 13; refine (rsame_is _ _ _ _ _ R8.out.2.1 R8.out.1 rfl).mono ?_; rintro e w9 ⟨rfl, hb⟩; have R9 : Hid (Below wr.heap.size wr w9) := R8.out.2.2.trans (hb.mono R8.out.2.2.size); clear hb R8)
                  | (have hgo := R7.out; clear hgo; go_at_call 10; refine (xsto_any R7.out.1).mono ?_; rintro e w8 ⟨r8, rfl, h1, hb⟩; have R8 : Hid (StoreL w8 r7 M ∧ StoreL w8 r8 M ∧ Below wr.heap.size wr w8) := ⟨R7.out.2.past hb, h1.looks, R7.out.1.below.trans (hb.mono R7.out.1.below.size)⟩; clear h1 hb R7)
                  | (have hgo := R6.out; clear hgo; go_at_call 12; refine (rgets_some ya yc yN ys _ (HY.out _ R6.out.2.below) HYL.out hyc (by omega) M R6.out.1).mono ?_; rintro e w7 ⟨r7, rfl, h1, hb⟩; have R7 : Hid (StX wr w7 q6 M ∧ StoreL w7 r7 M) := ⟨R6.out.2.past hb, h1⟩; clear h1 hb R6)
                  | (have hgo := N6.out; clear hgo; go_at_call 12; refine (rgets_none ya yc yN ys _ (HY.out _ N6.out.2) HYL.out hyc (by omega) N6.out.1).mono ?_; rintro e w7 ⟨rfl, hb⟩; have N7 : Hid (Below wr.heap.size wr w7) := N6.out.2.trans (hb.mono N6.out.2.size); clear hb N6)
                  | (go_at_call 11; refine (ckget_any ya yc yN ys _ (HY.out _ (Below.refl _ _)) HYL.out hyc (by omega)).mono ?_; rintro e w6 ⟨⟨q6, M, e1, rfl, h1⟩ | ⟨e1, rfl⟩, hb⟩; rotate_left; (have N6 : Hid (getS ys = none ∧ Below wr.heap.size wr w6) := ⟨e1, hb⟩; clear e1 hb); rotate_left; (have R6 : Hid (getS ys = some M ∧ StX wr w6 q6 M) := ⟨e1, h1⟩; clear e1 h1 hb)))
                · go_roundw
                  case rel => exact ⟨j + 1, by omega, by go_num, HBC.out.trans (R9.out.mono HBC.out.size)⟩
                  case measure => simp [intOf]; omega
                · go_roundw
                  case rel => exact ⟨j + 1, by omega, by go_num, HBC.out.trans (N7.out.mono HBC.out.size)⟩
                  case measure => simp [intOf]; omega
              · have hlti : ¬ (j : Int) < 2 := by omega
                go_wp2
                go_ret
                exact ⟨rfl, HB2.out.trans (HBC.out.mono HB2.out.size)⟩
        · have HB2 : Hid (Below w.heap.size w wc) := HWC.out
          have HM2 : Hid (Row wc ax BZ) := HBT.out.row
          have HL2 : Hid (BZ.length = LB) := HLB.out
          clear HBT HWC
          go_wp2
          obtain ⟨wT, hwT⟩ : ∃ wT, wT = wc := ⟨_, rfl⟩
          rw [← hwT] at HM2 HB2 ⊢
          clear hwT
          have HIX : Hid (∀ (wr : World) (j : Nat), j < 2 → Below wT.heap.size wT wr → ∃ (ya : Option Addr) (yN yc : Nat) (ys : List Int), (∀ u, (Instr.index 31 (.agg #[.slice ax LB cx, .slice a3 len3 cap3]) (.int .i64 j)).run Tryz.prog u = .ok (.slice ya yN yc) u) ∧ Row wr ya ys ∧ ys.length = yN ∧ yN ≤ yc ∧ yN ≤ 140000) := fun wr j hj hb => by
            have hj2 : j = 0 ∨ j = 1 := by omega
            rcases hj2 with rfl | rfl
            · exact ⟨_, _, _, BZ, fun u => idxB_zero u _ _ _ _ _ _, HM2.out.below hb (Nat.le_refl _), HL2.out, hroom, hlm⟩
            · exact ⟨_, _, _, zs, fun u => idxB_one u _ _ _ _ _ _, HROW.out _ (HB2.out.trans (hb.mono HB2.out.size)), HZL.out, hzc, by omega⟩
          go_loopw [57] (fun iv wr => ∃ j : Nat, j ≤ 2 ∧ iv = .int .i64 j ∧ Hid (Below wT.heap.size wT wr)) (fun iv _ => 2 - (intOf iv).toNat)
          case atStart => exact ⟨0, by omega, rfl, Below.refl _ _⟩
          case round =>
            obtain ⟨j, hj, rfl, HBC⟩ := hrel
            have hj0 : (0 : Int) ≤ (j : Int) := by omega
            by_cases hlt : j < 2
            · have hlti : (j : Int) < 2 := by omega
              obtain ⟨ya, yN, yc, ys, hix, hyr, hyl, hyc, hym⟩ := HIX.out wr j hlt HBC.out
              have HY : Hid (∀ u, Below wr.heap.size wr u → Row u ya ys) := fun u hu => hyr.below hu (Nat.le_refl _)
              have HYL : Hid (ys.length = yN) := hyl
              clear HIX hyr hyl
              go_wp2_with (first
                | (have hgo := R8.out; clear hgo; go_at_call 13; refine (rsame_is _ _ _ _ _ R8.out.2.1 R8.out.1 rfl).mono ?_; rintro e w9 ⟨rfl, hb⟩; have R9 : Hid (Below wr.heap.size wr w9) := R8.out.2.2.trans (hb.mono R8.out.2.2.size); clear hb R8)
                | (have hgo := R7.out; clear hgo; go_at_call 10; refine (xsto_any R7.out.1).mono ?_; rintro e w8 ⟨r8, rfl, h1, hb⟩; have R8 : Hid (StoreL w8 r7 M ∧ StoreL w8 r8 M ∧ Below wr.heap.size wr w8) := ⟨R7.out.2.past hb, h1.looks, R7.out.1.below.trans (hb.mono R7.out.1.below.size)⟩; clear h1 hb R7)
                | (have hgo := R6.out; clear hgo; go_at_call 12; refine (rgets_some ya yc yN ys _ (HY.out _ R6.out.2.below) HYL.out hyc (by omega) M R6.out.1).mono ?_; rintro e w7 ⟨r7, rfl, h1, hb⟩; have R7 : Hid (StX wr w7 q6 M ∧ StoreL w7 r7 M) := ⟨R6.out.2.past hb, h1⟩; clear h1 hb R6)
                | (have hgo := N6.out; clear hgo; go_at_call 12; refine (rgets_none ya yc yN ys _ (HY.out _ N6.out.2) HYL.out hyc (by omega) N6.out.1).mono ?_; rintro e w7 ⟨rfl, hb⟩; have N7 : Hid (Below wr.heap.size wr w7) := N6.out.2.trans (hb.mono N6.out.2.size); clear hb N6)
                | (go_at_call 11; refine (ckget_any ya yc yN ys _ (HY.out _ (Below.refl _ _)) HYL.out hyc (by omega)).mono ?_; rintro e w6 ⟨⟨q6, M, e1, rfl, h1⟩ | ⟨e1, rfl⟩, hb⟩; rotate_left; (have N6 : Hid (getS ys = none ∧ Below wr.heap.size wr w6) := ⟨e1, hb⟩; clear e1 hb); rotate_left; (have R6 : Hid (getS ys = some M ∧ StX wr w6 q6 M) := ⟨e1, h1⟩; clear e1 h1 hb)))
              · go_roundw
                case rel => exact ⟨j + 1, by omega, by go_num, HBC.out.trans (R9.out.mono HBC.out.size)⟩
                case measure => simp [intOf]; omega
              · go_roundw
                case rel => exact ⟨j + 1, by omega, by go_num, HBC.out.trans (N7.out.mono HBC.out.size)⟩
                case measure => simp [intOf]; omega
            · have hlti : ¬ (j : Int) < 2 := by omega
              go_wp2
              go_ret
              exact ⟨rfl, HB2.out.trans (HBC.out.mono HB2.out.size)⟩

set_option maxRecDepth 100000 in
theorem lifted (os : Os) (started : os.Started) (H : Type) (enc : TypeId × Value → H) :
    ReturnsInHanded {} Tryz.checked os 3 .any (Rows.ckptBytesSpec.pre6 enc Tryz.prog Tryz.f3 Rows.ckptBytesRow.domain false) (Rows.ckptBytesSpec.post enc Tryz.prog Tryz.f3 false true false false) := by
  refine returnsInHanded_of_change (C := Tryz.checked) own started (by kernel_rfl) Tryz.func3
    (ChangeSpec.witness6 (enc := enc) (C := Tryz.checked) false ⟨#[], #[.slice none 0 0, .int .i64 0, .int .u8 0, .slice none 0 0], []⟩ 8 (by kernel_rfl) (by kernel_rfl) (by kernel_rfl) (by kernel_rfl)) ?_
  intro W base args ds gs before hval0 hW hcnd _
  have hval : ∀ (j : Nat) t v, Tryz.f3.params[j]? = some t → args[j]? = some v → Value.okWide Tryz.prog W .any base t v := hval0
  have hW' := hW
  obtain ⟨p, q, hA0, hV, rfl, hfz, hnd⟩ := hW
  have hA : DataW.TrodAll enc Tryz.prog W 0 (fun _ => true) true Tryz.f3.params.toList args.toList ds p := hA0
  rw [Tryz.params3] at hA hval
  obtain ⟨v0, vs0, d0, ds0, p0, q0, hargs, rfl, rfl, h0, r0⟩ := trodAll_cons hA
  obtain ⟨v1, vs1, d1, ds1, p1, q1, rfl, rfl, rfl, h1, r1⟩ := trodAll_cons r0
  obtain ⟨v2, vs2, d2, ds2, p2, q2, rfl, rfl, rfl, h2, r2⟩ := trodAll_cons r1
  obtain ⟨v3, vs3, d3, ds3, p3, q3, rfl, rfl, rfl, h3, r3⟩ := trodAll_cons r2
  obtain ⟨rfl, rfl, rfl⟩ := trodAll_nil r3
  obtain rfl : args = #[v0, v1, v2, v3] := by cases args; simp_all
  obtain ⟨rfl, rfl⟩ := trodVars_none hV
  obtain ⟨a0, len0, cap0, rfl⟩ := okWide_slice Tryz.underlying22 (hval 0 22 v0 rfl rfl)
  have k0 := h0
  have lt0 : ∀ x ∈ p0, x.block < W.heap.size := by obtain ⟨m, hm⟩ := k0; exact DataW.trod_lt m _ _ _ hm
  obtain ⟨z0, l0, w0⟩ : ∃ xs : List SAct, xs.length = len0 ∧ SActsOf W a0 cap0 xs := by
    obtain ⟨fuel, hf⟩ := h0
    exact sacts_open Tryz.underlying22 Tryz.underlying45 Tryz.underlying3 Tryz.underlying42 Tryz.underlying2 Tryz.underlying5 Tryz.underlying43 Tryz.underlying95 Tryz.underlying57 Tryz.underlying5 Tryz.underlying9 Tryz.underlying4 rfl rfl rfl rfl rfl rfl rfl rfl (by kernel_rfl) (by kernel_rfl) (by kernel_rfl) (by kernel_rfl) (by kernel_rfl) (by kernel_rfl) (by kernel_rfl) (by kernel_rfl) (by kernel_rfl) (by kernel_rfl) (by kernel_rfl) hf
  have k1 := h1
  have lt1 : ∀ x ∈ p1, x.block < W.heap.size := by obtain ⟨m, hm⟩ := k1; exact DataW.trod_lt m _ _ _ hm
  obtain ⟨a1, rfl, rfl, rfl, w1⟩ := open_int Tryz.underlying3 (hval 1 3 v1 rfl rfl) h1
  have k2 := h2
  have lt2 : ∀ x ∈ p2, x.block < W.heap.size := by obtain ⟨m, hm⟩ := k2; exact DataW.trod_lt m _ _ _ hm
  obtain ⟨a2, rfl, rfl, rfl, w2⟩ := open_int Tryz.underlying5 (hval 2 5 v2 rfl rfl) h2
  obtain ⟨a3, len3, cap3, rfl⟩ := okWide_slice Tryz.underlying23 (hval 3 23 v3 rfl rfl)
  have k3 := h3
  have lt3 : ∀ x ∈ p3, x.block < W.heap.size := by obtain ⟨m, hm⟩ := k3; exact DataW.trod_lt m _ _ _ hm
  obtain ⟨z3, w3⟩ : ∃ zs, IsRow .u8 W a3 len3 cap3 zs := by
    obtain ⟨fuel, hf⟩ := h3
    rcases open_ints Tryz.underlying23 Tryz.underlying5 (by kernel_rfl) hf with ⟨hcs, _⟩ | ⟨x, l, c, zs, hcs, _, hl, hm, hz, _, hcell, hwz⟩
    · simp [Value.cells] at hcs
      obtain ⟨rfl, rfl, rfl⟩ := hcs
      exact ⟨[], .inl ⟨rfl, rfl, rfl, rfl⟩⟩
    · simp [Value.cells] at hcs
      obtain ⟨rfl, rfl, rfl⟩ := hcs
      exact ⟨zs, .inr ⟨_, rfl, hl, hm, by simpa using hz, hcell, hwz⟩⟩
  clear hA0 hval0
  refine (walk a0 len0 cap0 z0 a1 a2 a3 len3 cap3 z3 W l0 w0 w1 w2 w3).mono fun e W' ⟨he, bel⟩ => ?_
  subst he
  exact ⟨_, rfl, _, _, _, [], _, [], hW', trodAll_mk1 (shut_bool Tryz.underlying4 _), (trodAll_cons_mk (Below.trod laidOut (by kernel_rfl) (of_decide_eq_true (by kernel_rfl)) k0 bel lt0) (trodAll_cons_mk (Below.trod laidOut (by kernel_rfl) (of_decide_eq_true (by kernel_rfl)) k1 bel lt1) (trodAll_cons_mk (Below.trod laidOut (by kernel_rfl) (of_decide_eq_true (by kernel_rfl)) k2 bel lt2) (trodAll_cons_mk (Below.trod laidOut (by kernel_rfl) (of_decide_eq_true (by kernel_rfl)) k3 bel lt3) trodAll_mk0)))), rfl, bel.frame _, fun h => by cases h⟩

theorem over : Rows.ckptBytesRow.holds Tryz.pinned (OpenSpec.ofChange Rows.ckptBytesSpec) :=
  OpenClaim.holds_of_wide 3 Tryz.f3 rfl rfl rfl rfl rfl rfl rfl ⟨rfl, rfl, rfl, rfl, rfl⟩ rfl rfl rfl rfl rfl (by kernel_rfl) Tryz.func3 (by kernel_rfl)
    (of_decide_eq_true (by kernel_rfl)) (by unfold Func.isWrapper; first | (rw [if_pos (by decide +kernel)]; kernel_rfl) | (rw [if_neg (by decide +kernel)]; exact ⟨rfl, rfl⟩))
    (fun os started H enc _ => lifted os started H enc)
theorem proved : Rows.CkptBytesSaid := over
#print axioms proved
end Go.Proofs.YtpnjcflfnoamoaaGreat.ckptBytes
namespace Go.Proofs.YtpnjcflfnoamoaaGreat
/-- CkptBytes, as given. -/
theorem ckptBytes_holds : Rows.CkptBytesSaid := ckptBytes.proved
end Go.Proofs.YtpnjcflfnoamoaaGreat
