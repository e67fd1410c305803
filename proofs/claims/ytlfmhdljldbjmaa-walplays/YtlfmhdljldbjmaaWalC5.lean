/-
  What Add of the landed logs answers and leaves.
-/
import Derived.Test.YtlfmhdljldbjmaaWalC4
namespace Go.Proofs.Ytlfmhdljldbjmaa
open Go.RowKit
set_option linter.unusedVariables false

theorem append_codes (S : DS) (s b : List Int) : (S.append s b).1 ≠ 4 ∧ ((S.append s b).1 ≠ 0 → (S.append s b).2 = S) := by
  unfold DS.append
  split
  · simp
  · split
    · simp
    · split
      · simp
      · cases findN S.fs s <;> simp
set_option maxHeartbeats 4000000 in
set_option maxRecDepth 4000 in
theorem wadd_any (B p b : Nat) (S : DS) (l : LS) (X Z : Foot) (a : Option Addr) (cap n : Nat) (R : List (List Int)) (w : World) (h : PD w B p b S l X Z) (hXB : ∀ k, X k → B ≤ k) (hBw : B ≤ w.heap.size) (hRn : R.length = n) (hR : ∀ u, Chg w u (fun k => X k ∨ Z k) → RowsOf u a cap R) (hfew : n ≤ 1000) (hz : sizeN S.fs ≤ 1048576) (hroom : 0 ≤ S.room ∧ S.room ≤ 1048576) (hfl : S.fs.length + 1 ≤ 1000) (hLn : l.L.length + n ≤ 1000000) :
    Calls Try.prog 12 #[.pointer (some ⟨p, 0, none⟩), .slice a n cap] w fun e w' => ∃ X' Z', e = .returned (.int .i64 (addL S l R).1) ∧ PD w' B p b (addL S l R).2.1 (addL S l R).2.2 X' Z' ∧ DidP w w' X Z X' Z' := by
  have CD : Hid (Calls Try.prog 39 #[.pointer (some ⟨p, 0, none⟩)] w fun e w' => e = .returned (.bool (offN S l)) ∧ Below w.heap.size w w') := wdone_any B p b S l X Z w h
  have HP : Hid (PD w B p b S l X Z) := h
  have HRO : Hid (∀ u, Chg w u (fun k => X k ∨ Z k) → RowsOf u a cap R) := hR
  have HRN : Hid (R.length = n) := hRn
  clear hR hRn
  cases ho : offN S l with
  | true =>
    rw [ho] at CD
    have e : addL S l R = (7, S, l) := by unfold addL; rw [if_pos ho]
    rw [e]
    clear h e
    go_enter Try.func12, Try.ntmps12
    go_wp2_with (go_at_call 39; refine CD.out.mono ?_; rintro e w1 ⟨rfl, h1⟩; have B1 : Hid (Below w.heap.size w w1) := h1; clear h1)
    go_ret
    exact ⟨X, Z, rfl, HP.out.past B1.out, DidP.stay HP.out B1.out⟩
  | false =>
    rw [ho] at CD
    have hdd : l.dead = false := by
      unfold offN at ho
      simp at ho
      exact ho.2
    cases hs : R.all (fun r => decide (r.length ≤ 8000)) with
    | false =>
      have e : addL S l R = (2, S, l) := by unfold addL; rw [if_neg (by rw [ho]; simp), if_pos hs]
      rw [e]
      have CF : Hid (∀ u, Below w.heap.size w u → Calls Try.prog 40 #[.slice a n cap] u fun e w' => e = .returned (.tuple #[.slice none 0 0, .int .i64 2]) ∧ Below u.heap.size u w') := fun u hb => wframed_long a cap n R u HRN.out (HRO.out u (Chg.of_below hb _)) hfew hs
      clear h e hs ho hdd
      go_enter Try.func12, Try.ntmps12
      go_wp2_with (first | (go_at_call 40; refine (CF.out _ B1.out).mono ?_; rintro e w2 ⟨rfl, h1⟩; have B2 : Hid (Below w1.heap.size w1 w2) := h1; clear h1) | (go_at_call 39; refine CD.out.mono ?_; rintro e w1 ⟨rfl, h1⟩; have B1 : Hid (Below w.heap.size w w1) := h1; clear h1))
      go_ret
      have B3 := B1.out.trans (B2.out.mono B1.out.size)
      exact ⟨X, Z, rfl, HP.out.past B3, DidP.stay HP.out B3⟩
    | true =>
      have hall : ∀ r ∈ R, r.length ≤ 8000 := fun r hr => by
        have := (List.all_eq_true.1 hs) r hr
        simpa using this
      have hnm := h.log.rep.name
      have hoff : S.off = false := by
        unfold offN at ho
        simp at ho
        exact ho.1.1
      have hnl : l.name.length ≤ 1000000 := by have := hnm; unfold mayN at this; simp at this; omega
      have e : addL S l R = if (S.append l.name (frames R)).1 = 0 then (0, (S.append l.name (frames R)).2, { l with L := l.L ++ R }) else ((S.append l.name (frames R)).1, S, { l with dead := true }) := by unfold addL; rw [if_neg (by rw [ho]; simp), if_neg (by rw [hs]; simp)]
      have CF : Hid (∀ u, Below w.heap.size w u → Calls Try.prog 40 #[.slice a n cap] u fun e w' => ∃ ax m cx, e = .returned (.tuple #[.slice ax m cx, .int .i64 0]) ∧ w'.ownsRow u.heap.size 5 1 (.slice ax m cx) m (bs (frames R)) ∧ Below u.heap.size u w' ∧ m ≤ n * 8012) := fun u hb => wframed_ok a cap n R u HRN.out (HRO.out u (Chg.of_below hb _)) hfew hall
      have HBY : Hid (By (frames R)) := frames_by _ (fun r hr => by
        obtain ⟨i, hi, e0⟩ := List.getElem_of_mem hr
        obtain ⟨_, _, _, _, _, hq⟩ := rows_far HRO.out hi
        have := (hq w (Chg.refl _ _)).2.bytes
        rw [show R.getD i [] = r from by simp [List.getD, hi, e0]] at this
        exact this)
      obtain ⟨c4, cS⟩ := append_codes S l.name (frames R)
      obtain ⟨E, hE⟩ : ∃ E, E = (S.append l.name (frames R)).1 := ⟨_, rfl⟩
      obtain ⟨S', hS'⟩ : ∃ S', S' = (S.append l.name (frames R)).2 := ⟨_, rfl⟩
      rw [← hE, ← hS'] at e cS
      rw [← hE] at c4
      have CP : Hid (∀ u u0 ax m cx, Below w.heap.size w u0 → u0.ownsRow w.heap.size 5 1 (.slice ax m cx) m (bs (frames R)) → m ≤ n * 8012 → Below u0.heap.size u0 u → Calls Try.prog 26 #[.pointer (some ⟨b, 0, none⟩), .string (strOfNums l.name), .slice ax m cx] u fun e w' => ∃ X', e = .returned (.int .i64 E) ∧ PD w' B p b S' l X' Z ∧ DidP w w' X Z X' Z) := fun u u0 ax m cx hb0 hown hml hb => by
        have hbu : Below w.heap.size w u := hb0.trans (hb.mono hb0.size)
        have hFM : (frames R).length = m := by have := hown.1; rw [bs_len] at this; omega
        refine (dappend_any b S X l.name (frames R) ax cx m u (HP.out.disk.past hbu) (may_by _ hnm) hnl (by omega) (by omega) (by omega) hFM ((own_row hown HBY.out).below hb (Nat.le_refl _)) (own_nil hown) (by omega)).mono ?_
        rintro e w' ⟨X', rfl, h1, h2⟩
        rw [← hE]
        rw [← hS'] at h1
        obtain ⟨k1, k2⟩ := (HP.out.past hbu).disk_step h1 h2
        exact ⟨X', rfl, k1, (DidP.stay HP.out hbu).trans k2⟩
      have HCC : Hid (∀ u, Below w.heap.size w u → u.cell? ⟨p, 0, none⟩ = some (.pointer (some ⟨b, 0, none⟩)) ∧ u.cell? ⟨p, 1, none⟩ = some (.string (strOfNums l.name))) := fun u hb => ⟨(HP.out.log.rep.past hb).c0, (HP.out.log.rep.past hb).c1⟩
      have KP : Hid (∀ {u : World} {T : DS} {Y : Foot}, PD u B p b T l Y Z → u.cell? ⟨p, 0, none⟩ = some (.pointer (some ⟨b, 0, none⟩)) ∧ u.cell? ⟨p, 1, none⟩ = some (.string (strOfNums l.name))) := fun h => ⟨h.log.rep.c0, h.log.rep.c1⟩
      have KD : Hid (∀ {u : World} {T : DS} {Y : Foot}, PD u B p b T { l with dead := true } Y Z → u.cell? ⟨p, 0, none⟩ = some (.pointer (some ⟨b, 0, none⟩)) ∧ u.cell? ⟨p, 1, none⟩ = some (.string (strOfNums l.name))) := fun h => ⟨h.log.rep.c0, h.log.rep.c1⟩
      by_cases hE0 : E = 0
      · rw [if_pos hE0] at e
        rw [e]
        rw [hE0] at CP
        have CH : Hid (∀ (u : World) (X' : Foot), PD u B p b S' l X' Z → DidP w u X Z X' Z → Calls Try.prog 41 #[.pointer (some ⟨p, 0, none⟩), .int .i64 0] u fun e w' => e = .returned (.int .i64 0) ∧ PD w' B p b S' l X' Z ∧ DidP w w' X Z X' Z) := fun u X' hp hd2 => (wheed_fine B p b S' l X' Z 0 u hp hdd (.inl rfl)).mono (by rintro e w' ⟨rfl, k1, k2⟩; exact ⟨rfl, k1, hd2.trans k2⟩)
        have CK : Hid (∀ (u : World) (X' : Foot), PD u B p b S' l X' Z → DidP w u X Z X' Z → Calls Try.prog 38 #[.pointer (some ⟨p, 0, none⟩), .slice a n cap] u fun e w' => e = .returned (.tuple #[]) ∧ ∃ Z', PD w' B p b S' { l with L := l.L ++ R } X' Z' ∧ DidP w w' X Z X' Z') := fun u X' hp hd2 => by
          refine (wkeep_any B p b S' l X' Z a cap n R u hp (Nat.le_trans hBw hd2.chg.size) HRN.out (fun v hv => HRO.out v (hd2.chg.trans hv (fun j hj hx => ?_))) hall hLn).mono (by rintro e w' ⟨rfl, Z', k1, k2⟩; exact ⟨rfl, Z', k1, hd2.trans k2⟩)
          rcases hx with hx | hx
          · rcases (hd2.nx j hx).1 with e | e
            · exact .inl e
            · omega
          · exact .inr hx
        obtain ⟨l', hl'⟩ : ∃ l', l' = ({ l with L := l.L ++ R } : LS) := ⟨_, rfl⟩
        rw [← hl'] at CK ⊢
        show Calls _ _ _ _ fun e w' => ∃ X' Z', e = .returned (.int .i64 0) ∧ PD w' B p b S' l' X' Z' ∧ DidP w w' X Z X' Z'
        clear h e hs ho hdd hall hnm hoff c4 cS hE hS' hE0 hl'
        go_enter Try.func12, Try.ntmps12
        go_wp2_with (first | (go_at_call 40; refine (CF.out _ B1.out).mono ?_; rintro e w2 ⟨ax, m, cx, rfl, h1, h2, h3⟩; have O2 : Hid (w2.ownsRow w.heap.size 5 1 (.slice ax m cx) m (bs (frames R))) := owns_base h1 B1.out.size; have B2 : Hid (Below w.heap.size w w2) := B1.out.trans (h2.mono B1.out.size); have M2 : Hid (m ≤ n * 8012) := h3; clear h1 h2 h3) | (go_at_call 39; refine CD.out.mono ?_; rintro e w1 ⟨rfl, h1⟩; have B1 : Hid (Below w.heap.size w w1) := h1; clear h1))
        go_region_held3 (fun u => u.cell? ⟨p, 0, none⟩ = some (.pointer (some ⟨b, 0, none⟩)) ∧ u.cell? ⟨p, 1, none⟩ = some (.string (strOfNums l.name))) (first | exact KP.out P4.out | exact KP.out P3.out | exact HCC.out _ B2.out.drew | exact HCC.out _ B2.out) (first | (go_at_call 26; refine (CP.out _ w2 ax m cx B2.out O2.out M2.out (by first | exact (Below.refl _ _).drew | exact (Below.refl _ _))).mono ?_; rintro e w3 ⟨X', rfl, h1, h2⟩; have P3 : Hid (PD w3 B p b S' l X' Z) := h1; have D3 : Hid (DidP w w3 X Z X' Z) := h2; clear h1 h2) | (go_at_call 41; refine (CH.out _ _ P3.out D3.out).mono ?_; rintro e w4 ⟨rfl, h1, h2⟩; have P4 : Hid (PD w4 B p b S' l X' Z) := h1; have D4 : Hid (DidP w w4 X Z X' Z) := h2; clear h1 h2))
        go_wp2_with (go_at_call 38; refine (CK.out _ _ P4.out D4.out).mono ?_; rintro e w5 ⟨rfl, Z', h1, h2⟩; have P5 : Hid (PD w5 B p b S' l' X' Z') := h1; have D5 : Hid (DidP w w5 X Z X' Z') := h2; clear h1 h2)
        go_ret
        exact ⟨X', Z', rfl, P5.out, D5.out⟩
      · rw [if_neg hE0] at e
        rw [e]
        have eS : S' = S := cS hE0
        rw [eS] at CP
        have CH : Hid (∀ (u : World) (X' : Foot), PD u B p b S l X' Z → DidP w u X Z X' Z → Calls Try.prog 41 #[.pointer (some ⟨p, 0, none⟩), .int .i64 E] u fun e w' => e = .returned (.int .i64 E) ∧ PD w' B p b S { l with dead := true } X' Z ∧ DidP w w' X Z X' Z) := fun u X' hp hd2 => (wheed_bad B p b S l X' Z E u hp hE0 c4).mono (by rintro e w' ⟨rfl, k1, k2⟩; exact ⟨rfl, k1, hd2.trans k2⟩)
        obtain ⟨l', hl'⟩ : ∃ l', l' = ({ l with dead := true } : LS) := ⟨_, rfl⟩
        rw [← hl'] at CH KD ⊢
        show Calls _ _ _ _ fun e w' => ∃ X' Z', e = .returned (.int .i64 E) ∧ PD w' B p b S l' X' Z' ∧ DidP w w' X Z X' Z'
        have bE : (E != 0) = true := by simpa using hE0
        clear h e hs ho hdd hall hnm hoff c4 cS hE hS' hl' eS
        go_enter Try.func12, Try.ntmps12
        go_wp2_with (first | (go_at_call 40; refine (CF.out _ B1.out).mono ?_; rintro e w2 ⟨ax, m, cx, rfl, h1, h2, h3⟩; have O2 : Hid (w2.ownsRow w.heap.size 5 1 (.slice ax m cx) m (bs (frames R))) := owns_base h1 B1.out.size; have B2 : Hid (Below w.heap.size w w2) := B1.out.trans (h2.mono B1.out.size); have M2 : Hid (m ≤ n * 8012) := h3; clear h1 h2 h3) | (go_at_call 39; refine CD.out.mono ?_; rintro e w1 ⟨rfl, h1⟩; have B1 : Hid (Below w.heap.size w w1) := h1; clear h1))
        go_region_held3 (fun u => u.cell? ⟨p, 0, none⟩ = some (.pointer (some ⟨b, 0, none⟩)) ∧ u.cell? ⟨p, 1, none⟩ = some (.string (strOfNums l.name))) (first | exact KD.out P4.out | exact KP.out P3.out | exact HCC.out _ B2.out.drew | exact HCC.out _ B2.out) (first | (go_at_call 26; refine (CP.out _ w2 ax m cx B2.out O2.out M2.out (by first | exact (Below.refl _ _).drew | exact (Below.refl _ _))).mono ?_; rintro e w3 ⟨X', rfl, h1, h2⟩; have P3 : Hid (PD w3 B p b S l X' Z) := h1; have D3 : Hid (DidP w w3 X Z X' Z) := h2; clear h1 h2) | (go_at_call 41; refine (CH.out _ _ P3.out D3.out).mono ?_; rintro e w4 ⟨rfl, h1, h2⟩; have P4 : Hid (PD w4 B p b S l' X' Z) := h1; have D4 : Hid (DidP w w4 X Z X' Z) := h2; clear h1 h2))
        go_wp2
        go_ret
        exact ⟨X', Z, rfl, P4.out, D4.out⟩
end Go.Proofs.Ytlfmhdljldbjmaa
