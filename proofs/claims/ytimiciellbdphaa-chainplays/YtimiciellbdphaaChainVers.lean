/-
  What layer 11's own vers answers: versions of no key as the document's own.
-/
import Derived.Test.YtimiciellbdphaaChainOwn
import Derived.Test.YtimiciellbdphaaRegLast
import Derived.Test.YtimiciellbdphaaVerSlice
namespace Go.Proofs.Ytimiciellbdphaa
open Go.RowKit
set_option linter.unusedVariables false

set_option maxRecDepth 4000 in
set_option maxHeartbeats 4000000 in
theorem lvers_any (a : Option Addr) (N c : Nat) (L : List Ver) (w : World) (hl : L.length = N) (hN : N ≤ 1000) (hat : CVersOf w a c L) :
    Calls Try.prog 25 #[.slice a N c] w fun e w' => (∃ a' c', e = .returned (.slice a' N c') ∧ w'.ownsRow w.heap.size 47 20 (.slice a' N c') N (L.flatMap encV)) ∧ Below w.heap.size w w' := by
  have HL : Hid (L.length = N) := hl
  have HA : Hid (CVersOf w a c L) := hat
  have hNc : N ≤ c := by rw [← hl]; exact hat.room
  clear hl hat
  go_enter Try.func25, Try.ntmps25
  go_wp2
  go_loopw [3, 4] (fun rv iv wr => ∃ (i : Nat) (ra : Option Addr) (rc : Nat), iv = .int .i64 i ∧ rv = .slice ra i rc ∧ i ≤ N ∧ Hid (OwnB 47 20 w wr (.slice ra i rc) i ((L.take i).flatMap encV))) (fun _ iv _ => N - (intOf iv).toNat)
  case atStart => exact ⟨0, none, 0, rfl, rfl, Nat.zero_le _, ⟨World.ownsRow_nil _ _ _ _, Below.refl _ _⟩⟩
  case round =>
    obtain ⟨i, ra, rc, rfl, rfl, hi, HO⟩ := hrel
    have h0 : (0 : Int) ≤ (i : Int) := by omega
    by_cases hlt : i < N
    · have h1 : (i : Int) < (N : Int) := by omega
      obtain ⟨V1, hV1⟩ : ∃ V, L[i]? = some V := ⟨_, List.getElem?_eq_getElem (by rw [HL.out]; exact hlt)⟩
      have hin := HA.out.ins V1 (List.mem_of_getElem? hV1)
      have HKV : Hid (Ky V1.k) := by rw [hin.key]; exact zeroK_ky
      obtain ⟨b, off, rfl, hcv⟩ : ∃ b off, a = some ⟨b, off, none⟩ ∧ CVerAt w b (off + i * 4) V1 := by
        rcases HA.out.cells with e | ⟨b, off, e, hc⟩
        · rw [e] at hV1; simp at hV1
        · exact ⟨b, off, e, hc i V1 hV1⟩
      have HT : Hid ((L.take i).flatMap encV ++ encV V1 = (L.take (i + 1)).flatMap encV) := by show _ = _; rw [List.take_add_one, hV1, List.flatMap_append]; simp
      have HVV : Hid (vv V1 = .agg #[.int .u8 0, .int .u8 0, .int .u8 0, .int .u8 0, .int .u8 0, .int .u8 0, .int .u8 0, .int .u8 0, .int .u8 0, .int .u8 0, .int .u8 0, .int .u8 0, .int .u8 0, .int .u8 0, .int .u8 0, .int .u8 0, .int .i64 V1.t, .int .u8 V1.n, .string (strOfNums V1.v), .bool V1.g]) := by
        show Value.agg (encV V1).toArray = _
        unfold encV
        rw [hin.key]
        rfl
      obtain ⟨G, hG⟩ : ∃ G : Foot, G = fun k => w.heap.size ≤ k := ⟨_, rfl⟩
      have HGO : Hid (∀ k, G k ↔ w.heap.size ≤ k) := fun k => by rw [hG]
      have HF : Hid (∀ u, Chg wr u G → u.cell? ⟨b, off + i * 4, none⟩ = some (.int .i64 V1.t) ∧ u.cell? ⟨b, off + i * 4 + 1, none⟩ = some (.int .u8 V1.n) ∧ u.cell? ⟨b, off + i * 4 + 2, none⟩ = some (.string (strOfNums V1.v)) ∧ u.cell? ⟨b, off + i * 4 + 3, none⟩ = some (.bool V1.g)) := fun u hu => by
        have hb := HO.out.below.trans (hu.below HO.out.below.size (fun k hk => (HGO.out k).1 hk))
        have := hcv.past (hb.mono (Nat.le_refl _))
        exact ⟨this.c0, this.c1, this.c2, this.c3⟩
      have HBD : Hid (∀ u, (Instr.build 47 #[(1, .agg #[.int .i64 V1.t, .int .u8 V1.n]), (2, .string (strOfNums V1.v)), (3, .bool V1.g)]).run Try.prog u = .ok (.agg #[.int .u8 0, .int .u8 0, .int .u8 0, .int .u8 0, .int .u8 0, .int .u8 0, .int .u8 0, .int .u8 0, .int .u8 0, .int .u8 0, .int .u8 0, .int .u8 0, .int .u8 0, .int .u8 0, .int .u8 0, .int .u8 0, .int .i64 V1.t, .int .u8 V1.n, .string (strOfNums V1.v), .bool V1.g]) u) := fun u => run_build_one u V1.t V1.n (strOfNums V1.v) V1.g
      obtain ⟨t1, ht1⟩ : ∃ t, t = V1.t := ⟨_, rfl⟩
      obtain ⟨n1, hn1⟩ : ∃ t, t = V1.n := ⟨_, rfl⟩
      obtain ⟨S1, hS1⟩ : ∃ t, t = strOfNums V1.v := ⟨_, rfl⟩
      obtain ⟨g1, hg1⟩ : ∃ t, t = V1.g := ⟨_, rfl⟩
      rw [← ht1, ← hn1, ← hS1, ← hg1] at HVV HF HBD
      have HLIE : Hid (Lies (wr.drew.alloc (.cells (encV V1).toArray 47)) (some ⟨wr.heap.size, 0, none⟩) (encV V1)) := by
        have := lies_made wr.drew (encV V1).toArray 47
        rwa [List.toList_toArray] at this
      clear ht1 hn1 hS1 hg1 hV1 hin hcv hG
      go_wp2
      refine wp_region_noPanic ?_
      refine region_till 19 (fun u => Chg wr u G) (by kernel_rfl) ?_ (fun hHeld => ?_)
      · exact (Chg.refl _ _).drew
      refine till_take (i := 0) (v := ?_) 0 (by kernel_rfl) (Or.inl rfl) (by kernel_rfl) rfl (by kernel_rfl) (by kernel_rfl) (by kernel_rfl) (fun _ _ _ h => h) (Or.inl ⟨by rfl, ?_⟩) hHeld ?_
      rotate_left
      · intro u hSu
        (go_simp) <;> (with_reducible rfl)
      change wpTill _ _ _ _ _ _ _ _ (Act.put _ (some 11) _) _
      simp only [Act.put, List.setIfInBounds_toArray, List.set_cons_zero, List.set_cons_succ]
      refine till_take (i := 1) (v := ?_) 1 (by kernel_rfl) (Or.inl rfl) (by kernel_rfl) rfl (by kernel_rfl) (by kernel_rfl) (by kernel_rfl) (fun _ _ _ h => h) (Or.inl ⟨by rfl, ?_⟩) hHeld ?_
      rotate_left
      · intro u hSu
        (go_simp) <;> (with_reducible rfl)
      change wpTill _ _ _ _ _ _ _ _ (Act.put _ (some 12) _) _
      simp only [Act.put, List.setIfInBounds_toArray, List.set_cons_zero, List.set_cons_succ]
      refine till_take (i := 2) (v := ?_) 2 (by kernel_rfl) (Or.inl rfl) (by kernel_rfl) rfl (by kernel_rfl) (by kernel_rfl) (by kernel_rfl) (fun _ _ _ h => h) (Or.inl ⟨by rfl, ?_⟩) hHeld ?_
      rotate_left
      · intro u hSu
        (go_simp) <;> (with_reducible rfl)
      change wpTill _ _ _ _ _ _ _ _ (Act.put _ (some 13) _) _
      simp only [Act.put, List.setIfInBounds_toArray, List.set_cons_zero, List.set_cons_succ]
      refine till_take (i := 3) (v := ?_) 3 (by kernel_rfl) (Or.inl rfl) (by kernel_rfl) rfl (by kernel_rfl) (by kernel_rfl) (by kernel_rfl) (fun _ _ _ h => h) (Or.inl ⟨by rfl, ?_⟩) hHeld ?_
      rotate_left
      · intro u hSu
        (go_simp) <;> (with_reducible rfl)
      change wpTill _ _ _ _ _ _ _ _ (Act.put _ (some 14) _) _
      simp only [Act.put, List.setIfInBounds_toArray, List.set_cons_zero, List.set_cons_succ]
      refine till_take (i := 4) (v := ?_) 4 (by kernel_rfl) (Or.inl rfl) (by kernel_rfl) rfl (by kernel_rfl) (by kernel_rfl) (by kernel_rfl) (fun _ _ _ h => h) (Or.inl ⟨by rfl, ?_⟩) hHeld ?_
      rotate_left
      · intro u hSu
        (go_simp) <;> (with_reducible rfl)
      change wpTill _ _ _ _ _ _ _ _ (Act.put _ (some 15) _) _
      simp only [Act.put, List.setIfInBounds_toArray, List.set_cons_zero, List.set_cons_succ]
      refine till_take (i := 5) (v := ?_) 5 (by kernel_rfl) (Or.inl rfl) (by kernel_rfl) rfl (by kernel_rfl) (by kernel_rfl) (by kernel_rfl) (fun _ _ _ h => h) (Or.inl ⟨by rfl, ?_⟩) hHeld ?_
      rotate_left
      · intro u hSu
        obtain ⟨q0, q1, q2, q3⟩ := HF.out u hSu
        (go_simp) <;> (with_reducible rfl)
      change wpTill _ _ _ _ _ _ _ _ (Act.put _ (some 16) _) _
      simp only [Act.put, List.setIfInBounds_toArray, List.set_cons_zero, List.set_cons_succ]
      refine till_take (i := 6) (v := ?_) 6 (by kernel_rfl) (Or.inl rfl) (by kernel_rfl) rfl (by kernel_rfl) (by kernel_rfl) (by kernel_rfl) (fun _ _ _ h => h) (Or.inl ⟨by rfl, ?_⟩) hHeld ?_
      rotate_left
      · intro u hSu
        (go_simp) <;> (with_reducible rfl)
      change wpTill _ _ _ _ _ _ _ _ (Act.put _ (some 17) _) _
      simp only [Act.put, List.setIfInBounds_toArray, List.set_cons_zero, List.set_cons_succ]
      refine till_take (i := 7) (v := ?_) 7 (by kernel_rfl) (Or.inl rfl) (by kernel_rfl) rfl (by kernel_rfl) (by kernel_rfl) (by kernel_rfl) (fun _ _ _ h => h) (Or.inl ⟨by rfl, ?_⟩) hHeld ?_
      rotate_left
      · intro u hSu
        (go_simp) <;> (with_reducible rfl)
      change wpTill _ _ _ _ _ _ _ _ (Act.put _ (some 18) _) _
      simp only [Act.put, List.setIfInBounds_toArray, List.set_cons_zero, List.set_cons_succ]
      refine till_take (i := 8) (v := ?_) 8 (by kernel_rfl) (Or.inl rfl) (by kernel_rfl) rfl (by kernel_rfl) (by kernel_rfl) (by kernel_rfl) (fun _ _ _ h => h) (Or.inl ⟨by rfl, ?_⟩) hHeld ?_
      rotate_left
      · intro u hSu
        (go_simp) <;> (with_reducible rfl)
      change wpTill _ _ _ _ _ _ _ _ (Act.put _ (some 19) _) _
      simp only [Act.put, List.setIfInBounds_toArray, List.set_cons_zero, List.set_cons_succ]
      refine till_take (i := 9) (v := ?_) 9 (by kernel_rfl) (Or.inl rfl) (by kernel_rfl) rfl (by kernel_rfl) (by kernel_rfl) (by kernel_rfl) (fun _ _ _ h => h) (Or.inl ⟨by rfl, ?_⟩) hHeld ?_
      rotate_left
      · intro u hSu
        (go_simp) <;> (with_reducible rfl)
      change wpTill _ _ _ _ _ _ _ _ (Act.put _ (some 20) _) _
      simp only [Act.put, List.setIfInBounds_toArray, List.set_cons_zero, List.set_cons_succ]
      refine till_take (i := 10) (v := ?_) 10 (by kernel_rfl) (Or.inl rfl) (by kernel_rfl) rfl (by kernel_rfl) (by kernel_rfl) (by kernel_rfl) (fun _ _ _ h => h) (Or.inl ⟨by rfl, ?_⟩) hHeld ?_
      rotate_left
      · intro u hSu
        obtain ⟨q0, q1, q2, q3⟩ := HF.out u hSu
        (go_simp) <;> (with_reducible rfl)
      change wpTill _ _ _ _ _ _ _ _ (Act.put _ (some 21) _) _
      simp only [Act.put, List.setIfInBounds_toArray, List.set_cons_zero, List.set_cons_succ]
      refine till_take (i := 11) (v := ?_) 11 (by kernel_rfl) (Or.inl rfl) (by kernel_rfl) rfl (by kernel_rfl) (by kernel_rfl) (by kernel_rfl) (fun _ _ _ h => h) (Or.inl ⟨by rfl, ?_⟩) hHeld ?_
      rotate_left
      · intro u hSu
        (go_simp) <;> (with_reducible rfl)
      change wpTill _ _ _ _ _ _ _ _ (Act.put _ (some 22) _) _
      simp only [Act.put, List.setIfInBounds_toArray, List.set_cons_zero, List.set_cons_succ]
      refine till_take (i := 12) (v := ?_) 12 (by kernel_rfl) (Or.inl rfl) (by kernel_rfl) rfl (by kernel_rfl) (by kernel_rfl) (by kernel_rfl) (fun _ _ _ h => h) (Or.inl ⟨by rfl, ?_⟩) hHeld ?_
      rotate_left
      · intro u hSu
        (go_simp) <;> (with_reducible rfl)
      change wpTill _ _ _ _ _ _ _ _ (Act.put _ (some 23) _) _
      simp only [Act.put, List.setIfInBounds_toArray, List.set_cons_zero, List.set_cons_succ]
      refine till_take (i := 13) (v := ?_) 13 (by kernel_rfl) (Or.inl rfl) (by kernel_rfl) rfl (by kernel_rfl) (by kernel_rfl) (by kernel_rfl) (fun _ _ _ h => h) (Or.inl ⟨by rfl, ?_⟩) hHeld ?_
      rotate_left
      · intro u hSu
        (go_simp) <;> (with_reducible rfl)
      change wpTill _ _ _ _ _ _ _ _ (Act.put _ (some 24) _) _
      simp only [Act.put, List.setIfInBounds_toArray, List.set_cons_zero, List.set_cons_succ]
      refine till_take (i := 14) (v := ?_) 14 (by kernel_rfl) (Or.inl rfl) (by kernel_rfl) rfl (by kernel_rfl) (by kernel_rfl) (by kernel_rfl) (fun _ _ _ h => h) (Or.inl ⟨by rfl, ?_⟩) hHeld ?_
      rotate_left
      · intro u hSu
        (go_simp) <;> (with_reducible rfl)
      change wpTill _ _ _ _ _ _ _ _ (Act.put _ (some 25) _) _
      simp only [Act.put, List.setIfInBounds_toArray, List.set_cons_zero, List.set_cons_succ]
      refine till_take (i := 15) (v := ?_) 15 (by kernel_rfl) (Or.inl rfl) (by kernel_rfl) rfl (by kernel_rfl) (by kernel_rfl) (by kernel_rfl) (fun _ _ _ h => h) (Or.inl ⟨by rfl, ?_⟩) hHeld ?_
      rotate_left
      · intro u hSu
        obtain ⟨q0, q1, q2, q3⟩ := HF.out u hSu
        (go_simp) <;> (with_reducible rfl)
      change wpTill _ _ _ _ _ _ _ _ (Act.put _ (some 26) _) _
      simp only [Act.put, List.setIfInBounds_toArray, List.set_cons_zero, List.set_cons_succ]
      refine till_take (i := 16) (v := ?_) 16 (by kernel_rfl) (Or.inl rfl) (by kernel_rfl) rfl (by kernel_rfl) (by kernel_rfl) (by kernel_rfl) (fun _ _ _ h => h) (Or.inl ⟨by rfl, ?_⟩) hHeld ?_
      rotate_left
      · intro u hSu
        have hbd := HBD.out u
        (go_simp) <;> (with_reducible rfl)
      change wpTill _ _ _ _ _ _ _ _ (Act.put _ (some 27) _) _
      simp only [Act.put, List.setIfInBounds_toArray, List.set_cons_zero, List.set_cons_succ]
      refine till_ready (rs := [17]) (by kernel_rfl) (by simp) ?_
      refine AllTill.cons rfl (fun K hK => ?_) AllTill.nil
      refine step_build_ver rfl (.tmp 27) rfl V1 HKV.out (by exact HVV.out.symm) ?_
      refine hK.out _ _ ?_ (fun hHeld2 => ?_)
      · exact hHeld.alloc _
      clear hK K hHeld
      have hHeld := hHeld2
      clear hHeld2
      change wpTill _ _ _ _ _ _ _ _ (Act.put _ (some 28) _) _
      simp only [Act.put, List.setIfInBounds_toArray, List.set_cons_zero, List.set_cons_succ]
      refine till_ready (rs := [18]) (by kernel_rfl) (by simp) ?_
      refine AllTill.cons rfl (fun K hK => ?_) AllTill.nil
      refine step_own verEl (w0 := w) rfl (.tmp 11) (.tmp 28) rfl _ i ((L.take i).flatMap encV) (encV V1) rfl ((HO.out.past (Below.refl _ _).drew).alloc _) _ _ _ rfl (by rw [enc_len HKV.out]) HLIE.out (enc_one V1) (fun h => by cases h) (i + 1) rfl (by omega) _ HT.out ?_; intro a6 c6 w6 h6 hg6; have O6 : Hid (OwnB 47 20 w w6 (.slice a6 (i + 1) c6) (i + 1) ((L.take (i + 1)).flatMap encV)) := h6; have C6 : Hid (Chg wr w6 G) := (Chg.of_below ((Below.refl _ _).drew.alloc (Nat.le_refl _) _) G).trans (Chg.of_grown hg6 (X := G) (fun k e => (HGO.out k).2 (HO.out.own.lt k e).1)) (fun _ _ x => x); clear h6 hg6
      refine hK.out _ _ ?_ (fun hHeld2 => ?_)
      · exact C6.out
      clear hK K hHeld
      have hHeld := hHeld2
      clear hHeld2
      change wpTill _ _ _ _ _ _ _ _ (Act.put _ (some 29) _) _
      simp only [Act.put, List.setIfInBounds_toArray, List.set_cons_zero, List.set_cons_succ]
      refine till_last (by kernel_rfl) (by kernel_rfl) rfl (fun K hK => ?_)
      go_simp; refine hK.out _ _ ?_; refine NoPanic.normal ?_; clear hK K hHeld
      go_wp2
      go_roundw
      case rel => exact ⟨i + 1, a6, c6, by go_num, rfl, by omega, O6⟩
      case measure => simp [intOf]; omega
    · obtain rfl : i = N := by omega
      have HT : Hid (L.take i = L) := List.take_of_length_le (by rw [HL.out]; exact Nat.le_refl _)
      rw [HT.out] at HO
      go_wp2
      go_ret
      exact ⟨⟨ra, rc, rfl, HO.out.own⟩, HO.out.below⟩
end Go.Proofs.Ytimiciellbdphaa
