/-
  What done, heed, Len, Safe, Sync, Clear, At of the landed logs answer and leave.
-/
import Derived.Test.YtlfmhdljldbjmaaWalBase
import Derived.Deep.RegionHeld3
namespace Go.Proofs.Ytlfmhdljldbjmaa
open Go.RowKit
set_option linter.unusedVariables false

theorem wsync_code {S : DS} {s : List Int} (ho : S.off = false) (hm : mayN s = true) : (S.sync s).1 = 0 ∨ (S.sync s).1 = 4 := by
  unfold DS.sync DS.err
  rw [ho, hm]
  cases findN S.fs s <;> simp
theorem wcut_code {S : DS} {s : List Int} (ho : S.off = false) (hm : mayN s = true) : (S.cut s 0).1 = 0 ∨ (S.cut s 0).1 = 4 := by
  unfold DS.cut DS.err
  rw [ho, hm]
  cases hf : findN S.fs s with
  | none => simp
  | some i =>
    simp
    left
    rw [if_neg (by omega)]
theorem wlen_any (B p b : Nat) (S : DS) (l : LS) (X Z : Foot) (w : World) (h : PD w B p b S l X Z) :
    Calls Try.prog 13 #[.pointer (some ⟨p, 0, none⟩)] w fun e w' => e = .returned (.int .i64 (l.L.length : Nat)) ∧ Below w.heap.size w w' := by
  obtain ⟨a, c, k4, _⟩ := h.log.rep.c4
  clear h
  go_enter Try.func13, Try.ntmps13
  go_wp2
  go_ret
  exact ⟨rfl, Below.refl _ _⟩
theorem wsafe_any (B p b : Nat) (S : DS) (l : LS) (X Z : Foot) (w : World) (h : PD w B p b S l X Z) :
    Calls Try.prog 19 #[.pointer (some ⟨p, 0, none⟩)] w fun e w' => e = .returned (.int .i64 (l.safe : Nat)) ∧ Below w.heap.size w w' := by
  have k5 := h.log.rep.c5
  clear h
  go_enter Try.func19, Try.ntmps19
  go_wp2
  go_ret
  exact ⟨rfl, Below.refl _ _⟩
set_option maxHeartbeats 1000000 in
theorem wdone_any (B p b : Nat) (S : DS) (l : LS) (X Z : Foot) (w : World) (h : PD w B p b S l X Z) :
    Calls Try.prog 39 #[.pointer (some ⟨p, 0, none⟩)] w fun e w' => e = .returned (.bool (offN S l)) ∧ Below w.heap.size w w' := by
  have k0 := h.log.rep.c0
  have k2 := h.log.rep.c2
  have k3 := h.log.rep.c3
  have HC : Hid (∀ u, Below w.heap.size w u → u.cell? ⟨p, 0, none⟩ = some (.pointer (some ⟨b, 0, none⟩)) ∧ u.cell? ⟨p, 2, none⟩ = some (.int .i64 l.lives) ∧ u.cell? ⟨p, 3, none⟩ = some (.bool l.dead)) := fun u hb => ⟨(hb.cell (p := ⟨p, 0, none⟩) (lt_of_cell k0)).trans k0, (hb.cell (p := ⟨p, 2, none⟩) (lt_of_cell k2)).trans k2, (hb.cell (p := ⟨p, 3, none⟩) (lt_of_cell k3)).trans k3⟩
  have CP : Hid (∀ m, Calls Try.prog 59 #[.pointer (some ⟨b, 0, none⟩)] (w.drewN m) fun e w' => e = .returned (.bool (!S.off)) ∧ w' = w.drewN m) := fun m => dpower_any b S X (w.drewN m) (h.disk.past (below_drewN (Below.refl _ _) m))
  have CL : Hid (∀ m, Calls Try.prog 34 #[.pointer (some ⟨b, 0, none⟩)] (w.drewN m) fun e w' => e = .returned (.int .i64 S.lives) ∧ w' = w.drewN m) := fun m => dlives_any b S X (w.drewN m) (h.disk.past (below_drewN (Below.refl _ _) m))
  have HE : Hid (offN S l = (S.off || (S.lives != l.lives) || l.dead)) := rfl
  obtain ⟨R, hR⟩ : ∃ R, R = offN S l := ⟨_, rfl⟩
  rw [← hR] at HE ⊢
  clear h hR
  clear HC
  cases hdd : l.dead with
  | true =>
    rw [hdd] at k3
    obtain rfl : R = true := by rw [HE.out, hdd]; simp
    clear HE
    go_enter Try.func39, Try.ntmps39
    go_wp2
    go_quiet (fail)
    go_wp2
    go_ret
    exact ⟨rfl, below_drewN (Below.refl _ _) _⟩
  | false =>
    rw [hdd] at k3
    cases hof : S.off with
    | true =>
      rw [hof] at CP
      replace CP : Hid (∀ m, Calls Try.prog 59 #[.pointer (some ⟨b, 0, none⟩)] (w.drewN m) fun e w' => e = .returned (.bool false) ∧ w' = w.drewN m) := CP
      obtain rfl : R = true := by rw [HE.out, hof]; simp
      clear HE
      go_enter Try.func39, Try.ntmps39
      go_wp2
      go_quiet ((go_at_call 59; exact Calls.quiet_of_same (CP.out _)))
      go_wp2
      go_ret
      exact ⟨rfl, below_drewN (Below.refl _ _) _⟩
    | false =>
      rw [hof] at CP
      replace CP : Hid (∀ m, Calls Try.prog 59 #[.pointer (some ⟨b, 0, none⟩)] (w.drewN m) fun e w' => e = .returned (.bool true) ∧ w' = w.drewN m) := CP
      obtain rfl : R = (S.lives != l.lives) := by rw [HE.out, hof, hdd]; simp
      clear HE
      go_enter Try.func39, Try.ntmps39
      go_wp2
      go_quiet (first | (go_at_call 59; exact Calls.quiet_of_same (CP.out _)) | (go_at_call 34; exact Calls.quiet_of_same (CL.out _)))
      go_wp2
      go_ret
      exact ⟨rfl, below_drewN (Below.refl _ _) _⟩
theorem wheed_fine (B p b : Nat) (S : DS) (l : LS) (X Z : Foot) (E : Int) (w : World) (h : PD w B p b S l X Z) (hd : l.dead = false) (hE : E = 0 ∨ E = 4) :
    Calls Try.prog 41 #[.pointer (some ⟨p, 0, none⟩), .int .i64 E] w fun e w' => e = .returned (.int .i64 0) ∧ PD w' B p b S l X Z ∧ DidP w w' X Z X Z := by
  have HP : Hid (PD w B p b S l X Z) := h
  have k3 := h.log.rep.c3
  have f3 := h.log.rep.free 3
  have el : ({ l with dead := false } : LS) = l := by cases l; simp_all
  rw [hd] at k3
  clear h
  rcases hE with rfl | rfl
  · have r := HP.out.log_step (HP.out.log.rep.nowdone false)
    rw [el] at r
    have R : Hid (PD (w.setCell ⟨p, 3, none⟩ (.bool false)) B p b S l X Z ∧ DidP w (w.setCell ⟨p, 3, none⟩ (.bool false)) X Z X Z) := r
    clear r el
    go_enter Try.func41, Try.ntmps41
    go_wp2
    go_ret
    exact ⟨rfl, R.out.1, R.out.2⟩
  · clear el
    go_enter Try.func41, Try.ntmps41
    go_wp2
    go_ret
    exact ⟨rfl, HP.out, DidP.stay HP.out (Below.refl _ _)⟩
theorem wheed_bad (B p b : Nat) (S : DS) (l : LS) (X Z : Foot) (E : Int) (w : World) (h : PD w B p b S l X Z) (h0 : E ≠ 0) (h4 : E ≠ 4) :
    Calls Try.prog 41 #[.pointer (some ⟨p, 0, none⟩), .int .i64 E] w fun e w' => e = .returned (.int .i64 E) ∧ PD w' B p b S { l with dead := true } X Z ∧ DidP w w' X Z X Z := by
  have HP : Hid (PD w B p b S l X Z) := h
  have k3 := h.log.rep.c3
  have f3 := h.log.rep.free 3
  have b4 : (E == 4) = false := by simpa using h4
  have b0 : (E != 0) = true := by simpa using h0
  have R : Hid (PD (w.setCell ⟨p, 3, none⟩ (.bool true)) B p b S { l with dead := true } X Z ∧ DidP w (w.setCell ⟨p, 3, none⟩ (.bool true)) X Z X Z) := HP.out.log_step (HP.out.log.rep.nowdone true)
  clear h
  go_enter Try.func41, Try.ntmps41
  go_wp2
  go_ret
  exact ⟨rfl, R.out.1, R.out.2⟩
end Go.Proofs.Ytlfmhdljldbjmaa
