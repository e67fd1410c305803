/-
  What Sync and Clear of the document's own logs answer and leave.
-/
import Derived.Test.YtlfmhdljldbjmaaRefWal2
namespace Go.Proofs.Ytlfmhdljldbjmaa
open Go.RowKit
set_option linter.unusedVariables false

theorem done_off {S : DS} {l : LS} {dn : Bool} (h : doneN S l dn = false) : S.off = false := by
  unfold doneN at h
  cases ho : S.off with
  | false => rfl
  | true => rw [ho] at h; simp at h
theorem sync_code {S : DS} {s : List Int} (ho : S.off = false) (hm : mayN s = true) : (S.sync s).1 = 0 ∨ (S.sync s).1 = 4 := by
  unfold DS.sync DS.err
  rw [ho, hm]
  cases findN S.fs s <;> simp
theorem cut_code {S : DS} {s : List Int} (ho : S.off = false) (hm : mayN s = true) : (S.cut s 0).1 = 0 ∨ (S.cut s 0).1 = 4 := by
  unfold DS.cut DS.err
  rw [ho, hm]
  cases hf : findN S.fs s with
  | none => simp
  | some i =>
    simp
    left
    rw [if_neg (by omega)]
def syncD (S : DS) (l : LS) (dn : Bool) : Int × DS × LS := if doneN S l dn = true then (7, S, l) else (0, (S.sync l.name).2, { l with safe := l.L.length })
def clearD (S : DS) (l : LS) (dn : Bool) : Int × DS × LS := if doneN S l dn = true then (7, S, l) else (0, (S.cut l.name 0).2, { l with L := [], safe := 0 })
theorem WalR.cleared {u : World} {B p b : Nat} {l : LS} {dn : Bool} {Z : Foot} (h : WalR u B p b l dn Z) : WalR ((u.setCell ⟨p, 4, none⟩ (.slice none 0 0)).setCell ⟨p, 5, none⟩ (.int .i64 0)) B p b { l with L := [], safe := 0 } dn Z := by
  have oth : ∀ j, j ≠ 4 → j ≠ 5 → ((u.setCell ⟨p, 4, none⟩ (.slice none 0 0)).setCell ⟨p, 5, none⟩ (.int .i64 0)).cell? ⟨p, j, none⟩ = u.cell? ⟨p, j, none⟩ := fun j h2 h3 => (World.cell?_setCell_other _ _ _ _ (by intro e; injection e with _ e2; omega)).trans (World.cell?_setCell_other _ _ _ _ (by intro e; injection e with _ e2; omega))
  obtain ⟨a, c, e1, e2⟩ := h.c4
  have h5 : (u.setCell ⟨p, 4, none⟩ (.slice none 0 0)).cell? ⟨p, 5, none⟩ = some (.int .i64 (l.safe : Nat)) := (World.cell?_setCell_other _ _ _ _ (by intro e; injection e with _ e2; omega)).trans h.c5
  refine ⟨h.own, fun k x => by rw [World.size_setCell, World.size_setCell]; exact h.lt k x, h.lo, (oth 0 (by omega) (by omega)).trans h.c0, (oth 1 (by omega) (by omega)).trans h.c1, (oth 2 (by omega) (by omega)).trans h.c2, (oth 3 (by omega) (by omega)).trans h.c3, ⟨none, 0, ?_, ⟨[], World.ownsRow_nil _ _ _ _, (fun k e => by simp [Value.ownBlock] at e), fun r hr => absurd hr (Nat.not_lt_zero _)⟩⟩, World.cell?_setCell_same _ _ _ h5, fun j => by rw [World.frozen?_setCell, World.frozen?_setCell]; exact h.free j, Nat.zero_le _, h.name⟩
  exact (World.cell?_setCell_other _ _ _ _ (by intro e; injection e with _ e2; omega)).trans (World.cell?_setCell_same _ _ _ e1)
set_option maxHeartbeats 1000000 in
theorem rwsync_any (B p b : Nat) (S : DS) (l : LS) (dn : Bool) (X Z : Foot) (w : World) (h : WD w B p b S l dn X Z) :
    Calls Try.prog 22 #[.pointer (some ⟨p, 0, none⟩)] w fun e w' => ∃ X', e = .returned (.int .i64 (syncD S l dn).1) ∧ WD w' B p b (syncD S l dn).2.1 (syncD S l dn).2.2 (doneN S l dn) X' Z ∧ Did2 w w' X Z X' Z := by
  have CO : Hid (Calls Try.prog 47 #[.pointer (some ⟨p, 0, none⟩)] w fun e w' => e = .returned (.bool (doneN S l dn)) ∧ WD w' B p b S l (doneN S l dn) X Z ∧ Did2 w w' X Z X Z) := roff_wd B p b S l dn X Z w h
  cases hdn : doneN S l dn with
  | true =>
    have e : syncD S l dn = (7, S, l) := by unfold syncD; rw [if_pos hdn]
    rw [e]
    rw [hdn] at CO
    clear h e hdn
    go_enter Try.func22, Try.ntmps22
    go_wp2_with (go_at_call 47; refine CO.out.mono ?_; rintro e w1 ⟨rfl, h1, h2⟩; have H1 : Hid (WD w1 B p b S l true X Z) := h1; have H2 : Hid (Did2 w w1 X Z X Z) := h2; clear h1 h2)
    go_ret
    exact ⟨X, rfl, H1.out, H2.out⟩
  | false =>
    rw [hdn] at CO
    have hnm := h.log.name
    have hcode := sync_code (done_off hdn) hnm
    have CS : Hid (∀ u, WD u B p b S l false X Z → Calls Try.prog 46 #[.pointer (some ⟨b, 0, none⟩), .string (strOfNums l.name)] u fun e w' => e = .returned (.int .i64 (S.sync l.name).1) ∧ ∃ X', WD w' B p b (S.sync l.name).2 l false X' Z ∧ Did2 u w' X Z X' Z) := fun u hu => by
      have hnl : l.name.length ≤ 1000000 := by have := hnm; unfold mayN at this; simp at this; omega
      refine (rdsync_any b S X l.name u hu.disk (may_bytes _ hnm) hnl).mono ?_
      rintro e w' ⟨rfl, h1, h2⟩
      exact ⟨rfl, _, hu.disk_step h1 h2⟩
    have e : syncD S l dn = (0, (S.sync l.name).2, { l with safe := l.L.length }) := by unfold syncD; rw [if_neg (by rw [hdn]; simp)]
    rw [e]
    have HK : Hid (∀ u S' X', WD u B p b S' l false X' Z → u.cell? ⟨p, 0, none⟩ = some (.pointer (some ⟨b, 0, none⟩)) ∧ u.cell? ⟨p, 1, none⟩ = some (.string (strOfNums l.name))) := fun u S' X' hu => ⟨hu.log.c0, hu.log.c1⟩
    obtain ⟨E, hE⟩ : ∃ E, E = (S.sync l.name).1 := ⟨_, rfl⟩
    obtain ⟨S', hS'⟩ : ∃ S', S' = (S.sync l.name).2 := ⟨_, rfl⟩
    rw [← hE] at CS hcode
    rw [← hS'] at CS ⊢
    clear h e hdn hE hS' hnm
    rcases hcode with rfl | rfl
    · go_enter Try.func22, Try.ntmps22
      go_wp2_with (go_at_call 47; refine CO.out.mono ?_; rintro e w1 ⟨rfl, h1, h2⟩; have H1 : Hid (WD w1 B p b S l false X Z) := h1; have H2 : Hid (Did2 w w1 X Z X Z) := h2; clear h1 h2)
      have HP : Hid (∀ u, Below w1.heap.size w1 u → WD u B p b S l false X Z ∧ Did2 w1 u X Z X Z) := fun u hb => H1.out.past hb
      have HKS : Hid (∀ u, Below w1.heap.size w1 u → u.cell? ⟨p, 0, none⟩ = some (.pointer (some ⟨b, 0, none⟩)) ∧ u.cell? ⟨p, 1, none⟩ = some (.string (strOfNums l.name))) := fun u hb => HK.out u S X (HP.out u hb).1
      go_region_held3 (fun u => u.cell? ⟨p, 0, none⟩ = some (.pointer (some ⟨b, 0, none⟩)) ∧ u.cell? ⟨p, 1, none⟩ = some (.string (strOfNums l.name))) (first | exact HK.out _ _ _ H3.out | exact HKS.out _ (Below.refl _ _).drew) (first | (go_at_call 46; refine (CS.out _ (HP.out _ (Below.refl _ _).drew).1).mono ?_; rintro e w3 ⟨rfl, X3, h3, h4⟩; have H3 : Hid (WD w3 B p b S' l false X3 Z) := h3; have H4 : Hid (Did2 w w3 X Z X3 Z) := H2.out.trans ((HP.out _ (Below.refl _ _).drew).2.trans h4); clear h3 h4))
      obtain ⟨a4, c4, k4, _⟩ := H3.out.log.c4
      have k5 := H3.out.log.c5
      have f5 := H3.out.log.free 5
      go_wp2
      go_ret
      refine ⟨X3, rfl, ?_⟩
      have r := H3.out.log_step (l' := { l with safe := l.L.length }) (dn' := false) (Z' := Z) (H3.out.log.nowsafe l.L.length) (Did.same (Chg.set w3 ⟨p, 5, none⟩ _ H3.out.log.own) H3.out.log.lt)
      exact ⟨r.1, H4.out.trans r.2⟩
    · go_enter Try.func22, Try.ntmps22
      go_wp2_with (go_at_call 47; refine CO.out.mono ?_; rintro e w1 ⟨rfl, h1, h2⟩; have H1 : Hid (WD w1 B p b S l false X Z) := h1; have H2 : Hid (Did2 w w1 X Z X Z) := h2; clear h1 h2)
      have HP : Hid (∀ u, Below w1.heap.size w1 u → WD u B p b S l false X Z ∧ Did2 w1 u X Z X Z) := fun u hb => H1.out.past hb
      have HKS : Hid (∀ u, Below w1.heap.size w1 u → u.cell? ⟨p, 0, none⟩ = some (.pointer (some ⟨b, 0, none⟩)) ∧ u.cell? ⟨p, 1, none⟩ = some (.string (strOfNums l.name))) := fun u hb => HK.out u S X (HP.out u hb).1
      go_region_held3 (fun u => u.cell? ⟨p, 0, none⟩ = some (.pointer (some ⟨b, 0, none⟩)) ∧ u.cell? ⟨p, 1, none⟩ = some (.string (strOfNums l.name))) (first | exact HK.out _ _ _ H3.out | exact HKS.out _ (Below.refl _ _).drew) (first | (go_at_call 46; refine (CS.out _ (HP.out _ (Below.refl _ _).drew).1).mono ?_; rintro e w3 ⟨rfl, X3, h3, h4⟩; have H3 : Hid (WD w3 B p b S' l false X3 Z) := h3; have H4 : Hid (Did2 w w3 X Z X3 Z) := H2.out.trans ((HP.out _ (Below.refl _ _).drew).2.trans h4); clear h3 h4))
      obtain ⟨a4, c4, k4, _⟩ := H3.out.log.c4
      have k5 := H3.out.log.c5
      have f5 := H3.out.log.free 5
      go_wp2
      go_ret
      refine ⟨X3, rfl, ?_⟩
      have r := H3.out.log_step (l' := { l with safe := l.L.length }) (dn' := false) (Z' := Z) (H3.out.log.nowsafe l.L.length) (Did.same (Chg.set w3 ⟨p, 5, none⟩ _ H3.out.log.own) H3.out.log.lt)
      exact ⟨r.1, H4.out.trans r.2⟩
set_option maxHeartbeats 1000000 in
theorem rwclear_any (B p b : Nat) (S : DS) (l : LS) (dn : Bool) (X Z : Foot) (w : World) (h : WD w B p b S l dn X Z) (hz : sizeN S.fs ≤ 1099511627776) :
    Calls Try.prog 23 #[.pointer (some ⟨p, 0, none⟩)] w fun e w' => ∃ X', e = .returned (.int .i64 (clearD S l dn).1) ∧ WD w' B p b (clearD S l dn).2.1 (clearD S l dn).2.2 (doneN S l dn) X' Z ∧ Did2 w w' X Z X' Z := by
  have CO : Hid (Calls Try.prog 47 #[.pointer (some ⟨p, 0, none⟩)] w fun e w' => e = .returned (.bool (doneN S l dn)) ∧ WD w' B p b S l (doneN S l dn) X Z ∧ Did2 w w' X Z X Z) := roff_wd B p b S l dn X Z w h
  cases hdn : doneN S l dn with
  | true =>
    have e : clearD S l dn = (7, S, l) := by unfold clearD; rw [if_pos hdn]
    rw [e]
    rw [hdn] at CO
    clear h e hdn
    go_enter Try.func23, Try.ntmps23
    go_wp2_with (go_at_call 47; refine CO.out.mono ?_; rintro e w1 ⟨rfl, h1, h2⟩; have H1 : Hid (WD w1 B p b S l true X Z) := h1; have H2 : Hid (Did2 w w1 X Z X Z) := h2; clear h1 h2)
    go_ret
    exact ⟨X, rfl, H1.out, H2.out⟩
  | false =>
    rw [hdn] at CO
    have hnm := h.log.name
    have hcode := cut_code (done_off hdn) hnm
    have CS : Hid (∀ u, WD u B p b S l false X Z → Calls Try.prog 45 #[.pointer (some ⟨b, 0, none⟩), .string (strOfNums l.name), .int .i64 0] u fun e w' => e = .returned (.int .i64 (S.cut l.name 0).1) ∧ ∃ X', WD w' B p b (S.cut l.name 0).2 l false X' Z ∧ Did2 u w' X Z X' Z) := fun u hu => by
      have hnl : l.name.length ≤ 1000000 := by have := hnm; unfold mayN at this; simp at this; omega
      refine (rdcut_any b S X l.name 0 u hu.disk (may_bytes _ hnm) hnl hz).mono ?_
      rintro e w' ⟨X2, rfl, h1, h2⟩
      exact ⟨rfl, _, hu.disk_step h1 h2⟩
    have e : clearD S l dn = (0, (S.cut l.name 0).2, { l with L := [], safe := 0 }) := by unfold clearD; rw [if_neg (by rw [hdn]; simp)]
    rw [e]
    have HK : Hid (∀ u S' X', WD u B p b S' l false X' Z → u.cell? ⟨p, 0, none⟩ = some (.pointer (some ⟨b, 0, none⟩)) ∧ u.cell? ⟨p, 1, none⟩ = some (.string (strOfNums l.name))) := fun u S' X' hu => ⟨hu.log.c0, hu.log.c1⟩
    obtain ⟨E, hE⟩ : ∃ E, E = (S.cut l.name 0).1 := ⟨_, rfl⟩
    obtain ⟨S', hS'⟩ : ∃ S', S' = (S.cut l.name 0).2 := ⟨_, rfl⟩
    rw [← hE] at CS hcode
    rw [← hS'] at CS ⊢
    clear h e hdn hE hS' hnm
    rcases hcode with rfl | rfl
    · go_enter Try.func23, Try.ntmps23
      go_wp2_with (go_at_call 47; refine CO.out.mono ?_; rintro e w1 ⟨rfl, h1, h2⟩; have H1 : Hid (WD w1 B p b S l false X Z) := h1; have H2 : Hid (Did2 w w1 X Z X Z) := h2; clear h1 h2)
      have HP : Hid (∀ u, Below w1.heap.size w1 u → WD u B p b S l false X Z ∧ Did2 w1 u X Z X Z) := fun u hb => H1.out.past hb
      have HKS : Hid (∀ u, Below w1.heap.size w1 u → u.cell? ⟨p, 0, none⟩ = some (.pointer (some ⟨b, 0, none⟩)) ∧ u.cell? ⟨p, 1, none⟩ = some (.string (strOfNums l.name))) := fun u hb => HK.out u S X (HP.out u hb).1
      go_region_held3 (fun u => u.cell? ⟨p, 0, none⟩ = some (.pointer (some ⟨b, 0, none⟩)) ∧ u.cell? ⟨p, 1, none⟩ = some (.string (strOfNums l.name))) (first | exact HK.out _ _ _ H3.out | exact HKS.out _ (Below.refl _ _).drew) (first | (go_at_call 45; refine (CS.out _ (HP.out _ (Below.refl _ _).drew).1).mono ?_; rintro e w3 ⟨rfl, X3, h3, h4⟩; have H3 : Hid (WD w3 B p b S' l false X3 Z) := h3; have H4 : Hid (Did2 w w3 X Z X3 Z) := H2.out.trans ((HP.out _ (Below.refl _ _).drew).2.trans h4); clear h3 h4))
      obtain ⟨a4, c4, k4, _⟩ := H3.out.log.c4
      have k5 : (w3.setCell ⟨p, 4, none⟩ (.slice none 0 0)).cell? ⟨p, 5, none⟩ = some (.int .i64 (l.safe : Nat)) := (World.cell?_setCell_other _ _ _ _ (by intro e; injection e with _ e2; omega)).trans H3.out.log.c5
      have f4 := H3.out.log.free 4
      have f5 := H3.out.log.free 5
      go_wp2
      go_ret
      refine ⟨X3, rfl, ?_⟩
      have r := H3.out.log_step (l' := { l with L := [], safe := 0 }) (dn' := false) (Z' := Z) (H3.out.log.cleared) (Did.same ((Chg.set w3 ⟨p, 4, none⟩ _ H3.out.log.own).trans (Chg.set _ ⟨p, 5, none⟩ _ H3.out.log.own) (fun _ _ x => x)) H3.out.log.lt)
      exact ⟨r.1, H4.out.trans r.2⟩
    · go_enter Try.func23, Try.ntmps23
      go_wp2_with (go_at_call 47; refine CO.out.mono ?_; rintro e w1 ⟨rfl, h1, h2⟩; have H1 : Hid (WD w1 B p b S l false X Z) := h1; have H2 : Hid (Did2 w w1 X Z X Z) := h2; clear h1 h2)
      have HP : Hid (∀ u, Below w1.heap.size w1 u → WD u B p b S l false X Z ∧ Did2 w1 u X Z X Z) := fun u hb => H1.out.past hb
      have HKS : Hid (∀ u, Below w1.heap.size w1 u → u.cell? ⟨p, 0, none⟩ = some (.pointer (some ⟨b, 0, none⟩)) ∧ u.cell? ⟨p, 1, none⟩ = some (.string (strOfNums l.name))) := fun u hb => HK.out u S X (HP.out u hb).1
      go_region_held3 (fun u => u.cell? ⟨p, 0, none⟩ = some (.pointer (some ⟨b, 0, none⟩)) ∧ u.cell? ⟨p, 1, none⟩ = some (.string (strOfNums l.name))) (first | exact HK.out _ _ _ H3.out | exact HKS.out _ (Below.refl _ _).drew) (first | (go_at_call 45; refine (CS.out _ (HP.out _ (Below.refl _ _).drew).1).mono ?_; rintro e w3 ⟨rfl, X3, h3, h4⟩; have H3 : Hid (WD w3 B p b S' l false X3 Z) := h3; have H4 : Hid (Did2 w w3 X Z X3 Z) := H2.out.trans ((HP.out _ (Below.refl _ _).drew).2.trans h4); clear h3 h4))
      obtain ⟨a4, c4, k4, _⟩ := H3.out.log.c4
      have k5 : (w3.setCell ⟨p, 4, none⟩ (.slice none 0 0)).cell? ⟨p, 5, none⟩ = some (.int .i64 (l.safe : Nat)) := (World.cell?_setCell_other _ _ _ _ (by intro e; injection e with _ e2; omega)).trans H3.out.log.c5
      have f4 := H3.out.log.free 4
      have f5 := H3.out.log.free 5
      go_wp2
      go_ret
      refine ⟨X3, rfl, ?_⟩
      have r := H3.out.log_step (l' := { l with L := [], safe := 0 }) (dn' := false) (Z' := Z) (H3.out.log.cleared) (Did.same ((Chg.set w3 ⟨p, 4, none⟩ _ H3.out.log.own).trans (Chg.set _ ⟨p, 5, none⟩ _ H3.out.log.own) (fun _ _ x => x)) H3.out.log.lt)
      exact ⟨r.1, H4.out.trans r.2⟩
end Go.Proofs.Ytlfmhdljldbjmaa
