/-
  Stores that calls make, as the statements of layer 15 make them: what they hold, and how long their bytes are. No program is named here.
  Layer 15's grown: a store that a list of acts makes.
  Layer 15's awake: what the document tells of an empty store.
-/
import Derived.Test.YtpnjcflfnoamoaaGreatOp
import Derived.Test.YtpnjcflfnoamoaaGreatAu40
import Derived.Test.YtpnjcflfnoamoaaGreatPm
import Derived.Test.YtpnjcflfnoamoaaGreatAu24
import Derived.Test.YtpnjcflfnoamoaaGreatAu36
namespace Go.Proofs.YtpnjcflfnoamoaaGreat
set_option linter.unusedVariables false

/-- One act. -/
def actV (L : List Ver) (x : SAct) : List Ver := if x.op = 0 then (applyV L x.t x.n x.l).2 else restV L x.t x.n
/-- Acts, one after another. -/
def actsV (L : List Ver) (z : List SAct) : List Ver := z.foldl actV L
theorem acts_next (L : List Ver) {z : List SAct} {i : Nat} {x : SAct} (h : z[i]? = some x) : actsV L (z.take (i + 1)) = actV (actsV L (z.take i)) x := by
  unfold actsV
  rw [List.take_add_one, h]
  simp [List.foldl_append]
theorem acts_zero (L : List Ver) (z : List SAct) : actsV L (z.take 0) = L := by rw [List.take_zero]; rfl
theorem gdk_nil : GdK [] := fun V hV => by simp at hV
theorem gdk_act {L : List Ver} (h : StoG L) (hg : GdK L) (x : SAct) : GdK (actV L x) := by
  unfold actV
  split
  · exact gdk_apply h hg
  · exact gdk_rest hg _ _
theorem apply_most (L : List Ver) (t n : Int) (l : List Wrt) : (applyV L t n l).2.length ≤ L.length + l.length := by
  by_cases h0 : (applyV L t n l).1 = 0
  · obtain ⟨e1, e2, e3, _⟩ := apply_ok h0
    rw [e1, run_len l L e2 e3]
    exact Nat.le_refl _
  · rw [apply_bad h0]; omega
theorem act_most (L : List Ver) (x : SAct) (h : longW x.l = false) : (actV L x).length ≤ L.length + 20 := by
  have h20 : x.l.length ≤ 20 := by
    unfold longW at h
    simp only [Bool.or_eq_false_iff, decide_eq_false_iff_not] at h
    omega
  unfold actV
  split
  · exact Nat.le_trans (apply_most L x.t x.n x.l) (by omega)
  · exact Nat.le_trans (rest_len_le L x.t x.n) (by omega)
theorem acts_most : ∀ (z : List SAct) (L : List Ver), (∀ x ∈ z, longW x.l = false) → (actsV L z).length ≤ L.length + 20 * z.length
  | [], L, _ => by simp [actsV]
  | x :: z, L, h => by
    have h1 := act_most L x (h x (by simp))
    have h2 := acts_most z (actV L x) (fun y hy => h y (by simp [hy]))
    have e : actsV L (x :: z) = actsV (actV L x) z := rfl
    rw [e, List.length_cons]
    omega
/-! ### How long a store's bytes are -/
end Go.Proofs.YtpnjcflfnoamoaaGreat

namespace Go.Proofs.YtpnjcflfnoamoaaGreat
open Go.RowKit
set_option linter.unusedVariables false

set_option maxRecDepth 20000 in
set_option maxHeartbeats 16000000 in
/-- A store that a list of acts makes, or nil: they are more than is asked of. -/
theorem lgrown_any (z : List SAct) (a : Option Addr) (N cap : Nat) (hN : z.length = N) (w0 w : World) (hb0 : Below w0.heap.size w0 w) (h : SActsOf w0 a cap z) :
    Calls Tryz.prog 7 #[.slice a N cap] w fun e w' => (e = .returned (.pointer none) ∧ Below w.heap.size w w') ∨ (∃ p, e = .returned (.pointer (some ⟨p, 0, none⟩)) ∧ StX w w' p (actsV [] z) ∧ GdK (actsV [] z) ∧ (actsV [] z).length ≤ 600) := by
  have HN : Hid (z.length = N) := hN
  have HA : Hid (SActsOf w0 a cap z) := h
  have HB0 : Hid (Below w0.heap.size w0 w) := hb0
  have hcap : N ≤ cap := by rw [← hN]; exact h.room
  have CN : Hid (∀ u, Below w.heap.size w u → Calls Tryz.prog 19 #[] u fun e w' => ∃ p, e = .returned (.pointer (some ⟨p, 0, none⟩)) ∧ StX w w' p []) := fun u hb => (xnew_any u).mono fun e w' ⟨p, h1, h2⟩ => ⟨p, h1, h2.to hb⟩
  clear h hb0 hN
  by_cases ha : 30 < N
  · have ba : (30 : Int) < (N : Int) := by omega
    go_enter Tryz.func7, Tryz.ntmps7
    go_wp2
    go_ret
    exact .inl ⟨rfl, Below.refl _ _⟩
  · have ba : ¬ (30 : Int) < (N : Int) := by omega
    go_enter Tryz.func7, Tryz.ntmps7
    go_wp2_with (go_at_call 19; refine (CN.out _ (Below.refl _ _)).mono ?_; rintro e v2 ⟨p, rfl, h2⟩; have H2 : Hid (StX w v2 p []) := h2; clear h2)
    clear CN
    go_loopw [4] (fun iv wr => ∃ i : Nat, iv = .int .i64 i ∧ i ≤ N ∧ Hid (StX w wr p (actsV [] (z.take i)) ∧ GdK (actsV [] (z.take i)) ∧ ∀ x ∈ z.take i, longW x.l = false)) (fun iv _ => N - (intOf iv).toNat)
    case atStart => exact ⟨0, rfl, Nat.zero_le _, by rw [acts_zero]; exact ⟨H2.out, gdk_nil, fun x hx => by simp at hx⟩⟩
    case round =>
      obtain ⟨i, rfl, hi, HC⟩ := hrel
      have h0 : (0 : Int) ≤ (i : Int) := by omega
      have HBW : Hid (Below w.heap.size w wr) := HC.out.1.below
      have HBX : Hid (Below w0.heap.size w0 wr) := HB0.out.trans (HBW.out.mono HB0.out.size)
      by_cases hlt : i < N
      · have h1 : (i : Int) < (N : Int) := by omega
        obtain ⟨x, hx⟩ : ∃ x, z[i]? = some x := ⟨_, List.getElem?_eq_getElem (by rw [HN.out]; exact hlt)⟩
        obtain ⟨b, off, rfl, hax, hok⟩ := HA.out.act hx
        obtain ⟨q0, q1, q2, q3⟩ := hax.past HBX.out
        have HAX : Hid (SActAt wr b (off + i * 4) x) := hax.past HBX.out
        obtain ⟨M, hM⟩ : ∃ M, M = x.l.length := ⟨_, rfl⟩
        obtain ⟨o, ho⟩ : ∃ t, t = x.op := ⟨_, rfl⟩
        obtain ⟨t, ht⟩ : ∃ t, t = x.t := ⟨_, rfl⟩
        obtain ⟨n, hn⟩ : ∃ t, t = x.n := ⟨_, rfl⟩
        obtain ⟨xa, hxa⟩ : ∃ t, t = x.a := ⟨_, rfl⟩
        obtain ⟨xc, hxc⟩ : ∃ t, t = x.cap := ⟨_, rfl⟩
        rw [← ho] at q0
        rw [← ht] at q1
        rw [← hn] at q2
        rw [← hM, ← hxa, ← hxc] at q3
        have CLG : Hid (Calls Tryz.prog 15 #[.slice xa M xc] wr fun e w' => e = .returned (.bool (longW x.l)) ∧ w' = wr) := by rw [hxa, hM, hxc]; exact llong_any x.a x.l.length x.cap x.l wr rfl hok.wr.room hok.wr.few (hok.wr.at_.past HBX.out)
        obtain ⟨lg, hlg⟩ : ∃ g, g = longW x.l := ⟨_, rfl⟩
        rw [← hlg] at CLG
        cases lg with
        | true =>
          clear hok hax HAX ht hn hM hxa hxc hlg hx ho
          go_wp2_with (go_at_call 15; refine CLG.out.mono ?_; rintro e v3 ⟨rfl, rfl⟩)
          go_ret
          exact .inl ⟨rfl, HBW.out⟩
        | false =>
          have hM20 : M ≤ 20 := by
            have h9 : longW x.l = false := hlg.symm
            unfold longW at h9
            simp only [Bool.or_eq_false_iff, decide_eq_false_iff_not] at h9
            omega
          have HQ : Hid (∀ u, Below wr.heap.size wr u → u.cell? ⟨b, off + i * 4 + 1, none⟩ = some (.int .i64 t) ∧ u.cell? ⟨b, off + i * 4 + 2, none⟩ = some (.int .u8 n) ∧ u.cell? ⟨b, off + i * 4 + 3, none⟩ = some (.slice xa M xc)) := fun u hb => by
            obtain ⟨_, r1, r2, r3⟩ := HAX.out.past hb
            rw [ht, hn, hM, hxa, hxc]
            exact ⟨r1, r2, r3⟩
          have HT : Hid (actsV [] (z.take (i + 1)) = actV (actsV [] (z.take i)) x) := acts_next [] hx
          have HG : Hid (GdK (actsV [] (z.take (i + 1))) ∧ ∀ y ∈ z.take (i + 1), longW y.l = false) := by
            refine ⟨by rw [HT.out]; exact gdk_act HC.out.1.sto HC.out.2.1 x, fun y hy => ?_⟩
            rw [List.take_add_one, hx] at hy
            rcases List.mem_append.1 hy with e | e
            · exact HC.out.2.2 y e
            · rw [List.mem_singleton.1 e]; exact hlg.symm
          have HO : Hid (x.op = o) := ho.symm
          have PU : Hid (o = 0 → ∀ u, Below wr.heap.size wr u → Calls Tryz.prog 16 #[.pointer (some ⟨p, 0, none⟩), .agg #[.int .i64 t, .int .u8 n], .slice xa M xc] u fun e w' => ∃ r, e = .returned (.int .i64 r) ∧ StX w w' p (actsV [] (z.take (i + 1)))) := fun h9 u hb => by
            rw [HT.out, ht, hn, hxa, hM, hxc]
            unfold actV
            rw [if_pos (by rw [HO.out]; exact h9)]
            exact (xapply_in (HC.out.1.past hb) x.t x.n hok.n x.a x.l.length x.cap x.l rfl hok.wr.room (by rw [← hM]; omega) (hok.wr.at_.past HB0.out)).mono fun e w' ⟨h1, h2⟩ => ⟨_, h1, h2⟩
          have PT : Hid (o ≠ 0 → ∀ u, Below wr.heap.size wr u → Calls Tryz.prog 17 #[.pointer (some ⟨p, 0, none⟩), .agg #[.int .i64 t, .int .u8 n]] u fun e w' => ∃ r, e = .returned (.int .i64 r) ∧ StX w w' p (actsV [] (z.take (i + 1)))) := fun h9 u hb => by
            rw [HT.out, ht, hn]
            unfold actV
            rw [if_neg (by rw [HO.out]; exact h9)]
            exact (xtrim_s (HC.out.1.past hb) x.t x.n).mono fun e w' ⟨h1, h2⟩ => ⟨_, h1, h2⟩
          clear HT hok hax HAX ht hn hM hxa hxc hlg hx HO ho
          by_cases h9 : o = 0
          · have PV : Hid (∀ u, Below wr.heap.size wr u → Calls Tryz.prog 16 #[.pointer (some ⟨p, 0, none⟩), .agg #[.int .i64 t, .int .u8 n], .slice xa M xc] u fun e w' => ∃ r, e = .returned (.int .i64 r) ∧ StX w w' p (actsV [] (z.take (i + 1)))) := PU.out h9
            clear PU PT
            subst h9
            go_wp2_with (go_at_call 15; refine CLG.out.mono ?_; rintro e v3 ⟨rfl, rfl⟩; clear CLG)
            refine wp_region_noPanic ?_
            refine region_till 11 (fun u => Below v3.heap.size v3 u) (by kernel_rfl) ?_ (fun hHeld => ?_)
            · exact (Below.refl _ _).drew
            refine till_take (i := 0) (v := ?_) 0 (by kernel_rfl) (Or.inl rfl) (by kernel_rfl) rfl (by kernel_rfl) (by kernel_rfl) (by kernel_rfl) (fun _ _ _ h => h) (Or.inl ⟨by rfl, ?_⟩) hHeld ?_
            rotate_left
            · intro u hSu
              (go_simp) <;> (with_reducible rfl)
            change wpTill _ _ _ _ _ _ _ _ (Act.put _ (some 27) _) _
            simp only [Act.put, List.setIfInBounds_toArray, List.set_cons_zero, List.set_cons_succ]
            refine till_takeP (i := 1) (v := ?_) [5, 4, 3] (by kernel_rfl) (by kernel_rfl) rfl (by kernel_rfl) (by kernel_rfl) (by kernel_rfl) (fun _ _ _ h => h) (Or.inl ⟨by rfl, ?_⟩) hHeld ?_
            rotate_left
            · intro u hSu
              (go_simp) <;> (with_reducible rfl)
            change wpTill _ _ _ _ _ _ _ _ (Act.put _ (some 28) _) _
            simp only [Act.put, List.setIfInBounds_toArray, List.set_cons_zero, List.set_cons_succ]
            refine till_takeP (i := 2) (v := ?_) [5, 4, 3] (by kernel_rfl) (by kernel_rfl) rfl (by kernel_rfl) (by kernel_rfl) (by kernel_rfl) (fun _ _ _ h => h) (Or.inl ⟨by rfl, ?_⟩) hHeld ?_
            rotate_left
            · intro u hSu
              (go_simp) <;> (with_reducible rfl)
            change wpTill _ _ _ _ _ _ _ _ (Act.put _ (some 29) _) _
            simp only [Act.put, List.setIfInBounds_toArray, List.set_cons_zero, List.set_cons_succ]
            refine till_takeP (i := 3) (v := ?_) [5, 4] (by kernel_rfl) (by kernel_rfl) rfl (by kernel_rfl) (by kernel_rfl) (by kernel_rfl) (fun _ _ _ h => h) (Or.inl ⟨by rfl, ?_⟩) hHeld ?_
            rotate_left
            · intro u hSu
              (go_simp) <;> (with_reducible rfl)
            change wpTill _ _ _ _ _ _ _ _ (Act.put _ (some 30) _) _
            simp only [Act.put, List.setIfInBounds_toArray, List.set_cons_zero, List.set_cons_succ]
            refine till_takeP (i := 4) (v := ?_) [5] (by kernel_rfl) (by kernel_rfl) rfl (by kernel_rfl) (by kernel_rfl) (by kernel_rfl) (fun _ _ _ h => h) (Or.inl ⟨by rfl, ?_⟩) hHeld ?_
            rotate_left
            · intro u hSu
              (go_simp) <;> (with_reducible rfl)
            change wpTill _ _ _ _ _ _ _ _ (Act.put _ (some 31) _) _
            simp only [Act.put, List.setIfInBounds_toArray, List.set_cons_zero, List.set_cons_succ]
            refine till_take (i := 5) (v := ?_) 5 (by kernel_rfl) (Or.inl rfl) (by kernel_rfl) rfl (by kernel_rfl) (by kernel_rfl) (by kernel_rfl) (fun _ _ _ h => h) (Or.inl ⟨by rfl, ?_⟩) hHeld ?_
            rotate_left
            · intro u hSu
              obtain ⟨r1, r2, r3⟩ := HQ.out u hSu
              (go_simp) <;> (with_reducible rfl)
            change wpTill _ _ _ _ _ _ _ _ (Act.put _ (some 32) _) _
            simp only [Act.put, List.setIfInBounds_toArray, List.set_cons_zero, List.set_cons_succ]
            refine till_takeP (i := 6) (v := ?_) [10, 9, 8] (by kernel_rfl) (by kernel_rfl) rfl (by kernel_rfl) (by kernel_rfl) (by kernel_rfl) (fun _ _ _ h => h) (Or.inl ⟨by rfl, ?_⟩) hHeld ?_
            rotate_left
            · intro u hSu
              (go_simp) <;> (with_reducible rfl)
            change wpTill _ _ _ _ _ _ _ _ (Act.put _ (some 33) _) _
            simp only [Act.put, List.setIfInBounds_toArray, List.set_cons_zero, List.set_cons_succ]
            refine till_takeP (i := 7) (v := ?_) [10, 9, 8] (by kernel_rfl) (by kernel_rfl) rfl (by kernel_rfl) (by kernel_rfl) (by kernel_rfl) (fun _ _ _ h => h) (Or.inl ⟨by rfl, ?_⟩) hHeld ?_
            rotate_left
            · intro u hSu
              (go_simp) <;> (with_reducible rfl)
            change wpTill _ _ _ _ _ _ _ _ (Act.put _ (some 34) _) _
            simp only [Act.put, List.setIfInBounds_toArray, List.set_cons_zero, List.set_cons_succ]
            refine till_takeP (i := 8) (v := ?_) [10, 9] (by kernel_rfl) (by kernel_rfl) rfl (by kernel_rfl) (by kernel_rfl) (by kernel_rfl) (fun _ _ _ h => h) (Or.inl ⟨by rfl, ?_⟩) hHeld ?_
            rotate_left
            · intro u hSu
              (go_simp) <;> (with_reducible rfl)
            change wpTill _ _ _ _ _ _ _ _ (Act.put _ (some 35) _) _
            simp only [Act.put, List.setIfInBounds_toArray, List.set_cons_zero, List.set_cons_succ]
            refine till_takeP (i := 9) (v := ?_) [10] (by kernel_rfl) (by kernel_rfl) rfl (by kernel_rfl) (by kernel_rfl) (by kernel_rfl) (fun _ _ _ h => h) (Or.inl ⟨by rfl, ?_⟩) hHeld ?_
            rotate_left
            · intro u hSu
              (go_simp) <;> (with_reducible rfl)
            change wpTill _ _ _ _ _ _ _ _ (Act.put _ (some 36) _) _
            simp only [Act.put, List.setIfInBounds_toArray, List.set_cons_zero, List.set_cons_succ]
            refine till_take (i := 10) (v := ?_) 10 (by kernel_rfl) (Or.inl rfl) (by kernel_rfl) rfl (by kernel_rfl) (by kernel_rfl) (by kernel_rfl) (fun _ _ _ h => h) (Or.inl ⟨by rfl, ?_⟩) hHeld ?_
            rotate_left
            · intro u hSu
              obtain ⟨r1, r2, r3⟩ := HQ.out u hSu
              (go_simp) <;> (with_reducible rfl)
            change wpTill _ _ _ _ _ _ _ _ (Act.put _ (some 37) _) _
            simp only [Act.put, List.setIfInBounds_toArray, List.set_cons_zero, List.set_cons_succ]
            refine till_last (by kernel_rfl) (by kernel_rfl) rfl (fun K hK => ?_)
            go_simp; go_at_call 16; refine (PV.out _ hHeld).mono ?_; rintro e v4 ⟨r, rfl, h4⟩; have H4 : Hid (StX w v4 p (actsV [] (z.take (i + 1)))) := h4; clear PV h4; refine hK.out _ _ ?_; refine NoPanic.normal ?_; clear hK K hHeld
            go_wp2
            go_roundw
            case rel => exact ⟨i + 1, by go_num, by omega, ⟨H4.out, HG.out⟩⟩
            case measure => simp [intOf]; omega
          · have H9 : Hid (o ≠ 0) := h9
            go_wp2_with (first | (go_at_call 15; refine CLG.out.mono ?_; rintro e v3 ⟨rfl, rfl⟩; clear CLG) | (go_at_call 17; refine (PT.out H9.out _ (Below.refl _ _)).mono ?_; rintro e v4 ⟨r, rfl, h4⟩; have H4 : Hid (StX w v4 p (actsV [] (z.take (i + 1)))) := h4; clear PT h4))
            go_roundw
            case rel => exact ⟨i + 1, by go_num, by omega, ⟨H4.out, HG.out⟩⟩
            case measure => simp [intOf]; omega
      · obtain rfl : i = N := by omega
        have HTK : Hid (z.take i = z) := List.take_of_length_le (by rw [HN.out]; exact Nat.le_refl _)
        rw [HTK.out] at HC
        have hms : (actsV [] z).length ≤ 600 := by
          have := acts_most z [] HC.out.2.2
          rw [HN.out] at this
          simp only [List.length_nil] at this
          omega
        go_wp2
        go_ret
        exact .inr ⟨p, rfl, HC.out.1, HC.out.2.1, hms⟩
end Go.Proofs.YtpnjcflfnoamoaaGreat

namespace Go.Proofs.YtpnjcflfnoamoaaGreat
open Go.RowKit
set_option linter.unusedVariables false

theorem storeB_nil : storeB [] = [0] := by kernel_rfl
theorem getS_nil : getS [0] = some [] := by
  have h := getS_back StoG.nil gdk_nil
  rwa [storeB_nil] at h
set_option maxHeartbeats 4000000 in
set_option maxRecDepth 4000 in
theorem cawake_any (w : World) :
    Calls Tryz.prog 6 #[] w fun e w' => e = .returned (.bool true) ∧ Below w.heap.size w w' := by
  have CN : Hid (∀ u, Calls Tryz.prog 19 #[] u fun e w' => ∃ p, e = .returned (.pointer (some ⟨p, 0, none⟩)) ∧ StX u w' p []) := fun u => xnew_any u
  have CP : Hid (∀ u p, StX w u p [] → Calls Tryz.prog 8 #[.pointer (some ⟨p, 0, none⟩)] u fun e w' => ∃ a c, e = .returned (.slice a 1 c) ∧ Bt w w' [0] a 1 c) := fun u p h => by
    refine (ckput_any h gdk_nil (Nat.zero_le _)).mono ?_
    rintro e w' ⟨a, m, c, rfl, h2⟩
    rw [storeB_nil] at h2
    have h3 : 1 = m := h2.len
    subst h3
    exact ⟨a, c, rfl, h2.base h.below⟩
  have CG : Hid (∀ u a c, Bt w u [0] a 1 c → Calls Tryz.prog 11 #[.slice a 1 c] u fun e w' => ∃ q, e = .returned (.tuple #[.pointer (some ⟨q, 0, none⟩), .int .i64 0]) ∧ StX w w' q [] ∧ Bt w w' [0] a 1 c) := fun u a c h => by
    refine (ckget_any a c 1 [0] u h.row rfl h.room (by omega)).mono ?_
    rintro e w' ⟨⟨q, M, e1, rfl, h2⟩ | ⟨e1, _⟩, hb⟩
    · rw [getS_nil] at e1
      cases e1
      exact ⟨q, rfl, h2.to h.below, h.past hb⟩
    · rw [getS_nil] at e1; cases e1
  have CK : Hid (∀ u p, StX w u p [] → Calls Tryz.prog 20 #[.pointer (some ⟨p, 0, none⟩)] u fun e w' => (∃ a' c', e = .returned (.slice a' 0 c')) ∧ StX w w' p []) := fun u p h => by
    refine (xkeys_any h).mono ?_
    rintro e w' ⟨⟨a', c', rfl, _, _⟩, _, h2⟩
    exact ⟨⟨a', c', rfl⟩, h2⟩
  have CS : Hid (∀ w1 u p q, StX w u p [] → StX w1 u q [] → Calls Tryz.prog 14 #[.pointer (some ⟨p, 0, none⟩), .pointer (some ⟨q, 0, none⟩)] u fun e w' => e = .returned (.bool true) ∧ Below w.heap.size w w') := fun w1 u p q h h' =>
    (cksame_any h h').mono fun e w' ⟨h1, h2⟩ => ⟨by rw [h1]; simp, h.below.trans (h2.mono h.below.size)⟩
  have HCV : Hid (∀ (u : World) a c, Row u a [0] → (convert 23 9 (.slice a 1 c)).run Tryz.prog u = .ok (.string ⟨#[0]⟩) u) := fun u a c h => str_of_row h c
  go_enter Tryz.func6, Tryz.ntmps6
  go_wp2_with (first
    | (have hgo := H5.out; clear hgo; go_at_call 14; refine (CS.out _ _ _ _ M5.out H5.out).mono ?_; rintro e w6 ⟨rfl, h6⟩; have H6 : Hid (Below w.heap.size w w6) := h6; clear h6 H5)
    | (have hgo := H4.out; clear hgo; go_at_call 19; refine (CN.out _).mono ?_; rintro e w5 ⟨r, rfl, h5⟩; have M5 : Hid (StX w w5 q []) := H4.out.past h5.below; have H5 : Hid (StX _ w5 r []) := h5; clear h5 H4)
    | (have hgo := H3.out; clear hgo; go_at_call 20; refine (CK.out _ _ H3.out).mono ?_; rintro e w4 ⟨⟨ak, ck, rfl⟩, h4⟩; have H4 : Hid (StX w w4 q []) := h4; clear h4 H3)
    | (have hgo := H2.out; clear hgo; go_at_call 11; refine (CG.out _ _ _ H2.out).mono ?_; rintro e w3 ⟨q, rfl, h3, h4⟩; have H3 : Hid (StX w w3 q []) := h3; have hcv := HCV.out _ _ c h4.row; clear h3 h4 H2 CG)
    | (have hgo := H1.out; clear hgo; go_at_call 8; refine (CP.out _ _ H1.out).mono ?_; rintro e w2 ⟨a, c, rfl, h2⟩; have H2 : Hid (Bt w w2 [0] a 1 c) := h2; clear h2 H1 CP)
    | (go_at_call 19; refine (CN.out _).mono ?_; rintro e w1 ⟨p, rfl, h1⟩; have H1 : Hid (StX w w1 p []) := h1; clear h1))
  go_ret
  exact ⟨rfl, H6.out⟩
end Go.Proofs.YtpnjcflfnoamoaaGreat

