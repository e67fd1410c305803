/-
  What OpenWal of the document's own logs answers and leaves where the file is there.
-/
import Derived.Test.YtlfmhdljldbjmaaRefWal4
namespace Go.Proofs.Ytlfmhdljldbjmaa
open Go.RowKit
set_option linter.unusedVariables false

/-- A disk, a log on it, and records that wait to be its own. -/
structure WDR (u : World) (B p b : Nat) (S : DS) (l : LS) (X Z : Foot) (v : Value) (L : List (List Int)) : Prop where
  wd : WD u B p b S l false X Z
  recs : RecZ u B v L Z p
theorem WDR.disk_step {u u' : World} {B p b : Nat} {S S' : DS} {l : LS} {X X' Z : Foot} {v : Value} {L : List (List Int)} (h : WDR u B p b S l X Z v L) (hd : DiskR u' b S' X') (d : Did u u' X X') : WDR u' B p b S' l X' Z v L :=
  ⟨(h.wd.disk_step hd d).1, h.recs.kept (fun k z _ => d.chg.block k (h.wd.log.lt k z) (fun x => h.wd.apart k x z)) (fun _ x => x)⟩
set_option maxHeartbeats 2000000 in
theorem ropen_file (B b : Nat) (S : DS) (X : Foot) (s : List Int) (w : World) (h : DiskR w b S X) (hB : B ≤ w.heap.size) (ho : S.off = false) (hm : mayN s = true) (i : Nat) (hf : findN S.fs s = some i) (hz : sizeN S.fs ≤ 1000000) :
    Calls Try.prog 20 #[.pointer (some ⟨b, 0, none⟩), .string (strOfNums s)] w fun e w' => ∃ p X' Z, e = .returned (.tuple #[.pointer (some ⟨p, 0, none⟩), .int .i64 0]) ∧ WD w' B p b (S.opened s) (S.log s) false X' Z ∧ Did w w' X X' ∧ ∀ k, Z k → w.heap.size ≤ k := by
  have hs := may_bytes _ hm
  have hl : s.length ≤ 1000000 := by have := hm; unfold mayN at this; simp at this; omega
  have d2 := h.c2
  rw [ho] at d2
  have d3 := h.c3
  have CM : Hid (Calls Try.prog 43 #[.string (strOfNums s)] w fun e w' => e = .returned (.bool true) ∧ w' = w) := by rw [← hm]; exact rmay_any s w hs hl
  obtain ⟨V, hV⟩ : ∃ V, V = w.alloc (.cells #[.pointer (some ⟨b, 0, none⟩), .string (strOfNums s), .int .i64 S.lives, .bool false, .slice none 0 0, .int .i64 0] 51) := ⟨_, rfl⟩
  have HVB : Hid (Below w.heap.size w V) := by rw [hV]; exact (Below.refl _ _).alloc (Nat.le_refl _) _
  have hVs : V.heap.size = w.heap.size + 1 := by rw [hV]; simp
  have HWL : Hid (WalR V B w.heap.size b ⟨s, S.lives, false, [], 0⟩ false (fun k => k = w.heap.size)) := by rw [hV]; exact WalR.made w B b s S.lives 51 hB hm
  have er : S.err s = 0 := by unfold DS.err; rw [ho, hm, hf]; rfl
  obtain ⟨_, _, i', f, hf', hif, hfn⟩ := err_zero er
  obtain rfl : i' = i := by rw [hf] at hf'; injection hf' with e; exact e.symm
  have hDV : DiskR V b S X := h.past HVB.out
  have hfb : By f.b := h.good.bytes f (List.mem_of_getElem? hif)
  have hfz : f.b.length ≤ 1000000 := Nat.le_trans (size_at hif) hz
  obtain ⟨L, hL⟩ : ∃ L, L = (scanN f.b).1 := ⟨_, rfl⟩
  obtain ⟨us, hus⟩ : ∃ us, us = (scanN f.b).2.1 := ⟨_, rfl⟩
  obtain ⟨wh, hwh⟩ : ∃ wh, wh = (scanN f.b).2.2 := ⟨_, rfl⟩
  obtain ⟨s1, s2, s3, s4⟩ := scan_facts f.b.length f.b (Nat.le_refl _) hfb
  rw [← hus] at s1
  rw [← hL] at s4
  obtain ⟨M, hM⟩ : ∃ M, M = f.b.length := ⟨_, rfl⟩
  have CR : Hid (Calls Try.prog 30 #[.pointer (some ⟨b, 0, none⟩), .string (strOfNums s)] V fun e w' => ∃ a c, e = .returned (.tuple #[.slice a M c, .int .i64 0]) ∧ w' = V ∧ Row V a f.b ∧ M ≤ c) := by
    have e : S.read s = (0, f.b) := by unfold DS.read; rw [if_pos er, hf]; simp [file_at hif]
    have := rdread_any b S X s V hDV hs hl
    rw [e] at this
    rw [hM]
    exact this.mono (by rintro e w' ⟨a, c, rfl, rfl, hr⟩; exact ⟨a, c, rfl, rfl, hr.row, hr.le⟩)
  have CS : Hid (∀ a c, Row V a f.b → M ≤ c → Calls Try.prog 44 #[.slice a M c] V fun e w' => ∃ ax n cx Z, e = .returned (.tuple #[.slice ax n cx, .int .i64 (us : Nat), .bool wh]) ∧ L.length = n ∧ WDR w' B w.heap.size b S ⟨s, S.lives, false, [], 0⟩ X Z (.slice ax n cx) L ∧ Below V.heap.size V w' ∧ ∀ k, Z k → w.heap.size ≤ k) := fun a c hr hc => by
    refine (rscan_any a c f.b M V hM.symm hr hc (by omega)).mono ?_
    rintro e w' ⟨ax, n, cx, rfl, hown, hb⟩
    rw [← hus, ← hwh]
    rw [← hL] at hown
    have hZlt : ∀ k, (k = w.heap.size ∨ V.heap.size ≤ k ∧ k < w'.heap.size) → k < w'.heap.size := fun k hk => hk.elim (fun e => by have := hb.size; omega) (fun e => e.2)
    have hZlo : ∀ k, (k = w.heap.size ∨ V.heap.size ≤ k ∧ k < w'.heap.size) → w.heap.size ≤ k := fun k hk => hk.elim (fun e => by omega) (fun e => by omega)
    refine ⟨ax, n, cx, (fun k => k = w.heap.size ∨ V.heap.size ≤ k ∧ k < w'.heap.size), rfl, hown.len, ⟨⟨hDV.past hb, (HWL.out.past hb).wider (fun k x => .inl x) hZlt (fun k x => Nat.le_trans hB (hZlo k x)), fun k x z => ?_⟩, RecZ.of_own hown (by omega) (by omega) (fun k x1 x2 => .inr ⟨x1, x2⟩)⟩, hb, hZlo⟩
    have := h.lt k x
    have := hZlo k z
    omega
  have CC : Hid (∀ u Z v, WDR u B w.heap.size b S ⟨s, S.lives, false, [], 0⟩ X Z v L → Calls Try.prog 45 #[.pointer (some ⟨b, 0, none⟩), .string (strOfNums s), .int .i64 (us : Nat)] u fun e w' => ∃ E X4, e = .returned (.int .i64 E) ∧ WDR w' B w.heap.size b (S.cut s (us : Nat)).2 ⟨s, S.lives, false, [], 0⟩ X4 Z v L ∧ Did u w' X X4) := fun u Z v hu =>
    (rdcut_any b S X s (us : Nat) u hu.wd.disk hs hl (by omega)).mono (by rintro e w' ⟨X4, rfl, h1, h2⟩; exact ⟨_, X4, rfl, hu.disk_step h1 h2, h2⟩)
  have CY : Hid (∀ u S4 X4 Z v, WDR u B w.heap.size b S4 ⟨s, S.lives, false, [], 0⟩ X4 Z v L → Calls Try.prog 46 #[.pointer (some ⟨b, 0, none⟩), .string (strOfNums s)] u fun e w' => ∃ E, e = .returned (.int .i64 E) ∧ WDR w' B w.heap.size b (S4.sync s).2 ⟨s, S.lives, false, [], 0⟩ X4 Z v L ∧ Did u w' X4 X4) := fun u S4 X4 Z v hu =>
    (rdsync_any b S4 X4 s u hu.wd.disk hs hl).mono (by rintro e w' ⟨rfl, h1, h2⟩; exact ⟨_, rfl, hu.disk_step h1 h2, h2⟩)
  obtain ⟨o1, o2⟩ := opened_cut ho hm hf hif hfb
  rw [← hus] at o1
  rw [← hwh] at o2
  have HLG : Hid (S.log s = ⟨s, S.lives, false, L, L.length⟩) := by show _ = _; unfold DS.log; rw [hf]; simp only [file_at hif]; rw [hL]
  have HEND : Hid (∀ (u u0 : World) (X5 Z : Foot) (ax : Option Addr) (n cx : Nat) (S5 : DS), (∀ k, Z k → w.heap.size ≤ k) → S5 = S.opened s → L.length = n → WDR u B w.heap.size b S5 ⟨s, S.lives, false, [], 0⟩ X5 Z (.slice ax n cx) L → Did w u X X5 → WD ((u.setCell ⟨w.heap.size, 4, none⟩ (.slice ax n cx)).setCell ⟨w.heap.size, 5, none⟩ (.int .i64 (n : Int))) B w.heap.size b (S.opened s) (S.log s) false X5 Z ∧ Did w ((u.setCell ⟨w.heap.size, 4, none⟩ (.slice ax n cx)).setCell ⟨w.heap.size, 5, none⟩ (.int .i64 (n : Int))) X X5) := fun u u0 X5 Z ax n cx S5 hlo e5 hn hu hd => by
    have hlog := hu.wd.log.loaded hn hu.recs (by omega)
    have hc : Chg u ((u.setCell ⟨w.heap.size, 4, none⟩ (.slice ax n cx)).setCell ⟨w.heap.size, 5, none⟩ (.int .i64 (n : Int))) Z := (Chg.set u ⟨w.heap.size, 4, none⟩ _ hu.wd.log.own).trans (Chg.set _ ⟨w.heap.size, 5, none⟩ _ hu.wd.log.own) (fun _ _ x => x)
    have r := hu.wd.log_step hlog (Did.same hc hu.wd.log.lt)
    rw [HLG.out, ← e5, hn]
    exact ⟨r.1, ⟨hd.chg.trans hc (fun j hj hz => by have := hlo j hz; omega), fun k hk => ⟨(hd.new k hk).1, (r.2.nx k hk).2⟩⟩⟩
  have HVE : Hid (V = w.alloc (.cells #[.pointer (some ⟨b, 0, none⟩), .string (strOfNums s), .int .i64 S.lives, .bool false, .slice none 0 0, .int .i64 0] 51)) := hV
  have HD : Hid (DiskR w b S X) := h
  rw [hV] at CR
  have CR2 : Hid (Calls Try.prog 30 #[.pointer (some ⟨b, 0, none⟩), .string (strOfNums s)] (w.alloc (.cells #[.pointer (some ⟨b, 0, none⟩), .string (strOfNums s), .int .i64 S.lives, .bool false, .slice none 0 0, .int .i64 0] 51)) fun e w' => ∃ a c, e = .returned (.tuple #[.slice a M c, .int .i64 0]) ∧ w' = V ∧ Row V a f.b ∧ M ≤ c) := by rw [← hV] at CR; rw [← hV]; exact CR.out
  clear CR
  have CR := CR2
  clear CR2
  cases wh with
  | true =>
    have OEQ : Hid ((S.sync s).2 = S.opened s) := o2 rfl
    clear h ho hm hf er hV hDV hif hfn hf' hL hus hwh hM o1 o2 s1 s2 s3 s4 HVE
    go_enter Try.func20, Try.ntmps20
    go_wp2_with (first | (go_at_call 43; refine CM.out.mono ?_; rintro e wz ⟨rfl, hwz⟩; obtain rfl := hwz.symm; clear hwz) | (go_at_call 30; refine CR.out.mono ?_; rintro e wz ⟨a2, c2, rfl, hwz, hr2, hc2⟩; obtain rfl := hwz.symm; have R2 : Hid (Row V a2 f.b) := hr2; clear hwz hr2) | (go_at_call 44; refine (CS.out _ _ R2.out hc2).mono ?_; rintro e w3 ⟨ax, n, cx, Z3, rfl, hn, h1, h2, h3⟩; have W3 : Hid (WDR w3 B w.heap.size b S ⟨s, S.lives, false, [], 0⟩ X Z3 (.slice ax n cx) L) := h1; have B3 : Hid (Below V.heap.size V w3) := h2; have Z3L : Hid (∀ k, Z3 k → w.heap.size ≤ k) := h3; have N3 : Hid (L.length = n) := hn; clear h1 h2 h3 hn) | (go_at_call 46; refine (CY.out _ _ _ _ _ W3.out).mono ?_; rintro e w5 ⟨E5, rfl, h1, h2⟩; have W5 : Hid (WDR w5 B w.heap.size b (S.sync s).2 ⟨s, S.lives, false, [], 0⟩ X Z3 (.slice ax n cx) L) := h1; have D5 : Hid (Did w3 w5 X X) := h2; have k4 := h1.wd.log.c4; obtain ⟨a4, c4, k4, _⟩ := k4; have k5 : (w5.setCell ⟨w.heap.size, 4, none⟩ (.slice ax n cx)).cell? ⟨w.heap.size, 5, none⟩ = some (.int .i64 0) := (World.cell?_setCell_other _ _ _ _ (by intro e; injection e with _ e2; omega)).trans h1.wd.log.c5; have f4 := h1.wd.log.free 4; have f5 := h1.wd.log.free 5; clear h1 h2))
    go_returns
    have D3 : Did w w3 X X := Did.stay (HVB.out.trans (B3.out.mono HVB.out.size)) HD.out.lt
    obtain ⟨r1, r2⟩ := HEND.out w5 w5 X Z3 ax n cx _ Z3L.out OEQ.out N3.out W5.out (D3.trans D5.out)
    exact ⟨w.heap.size, X, Z3, rfl, r1, r2, Z3L.out⟩
  | false =>
    have OEQ : Hid (((S.cut s (us : Nat)).2.sync s).2 = S.opened s) := o1
    clear h ho hm hf er hV hDV hif hfn hf' hL hus hwh hM o1 o2 s1 s2 s3 s4 HVE
    go_enter Try.func20, Try.ntmps20
    go_wp2_with (first | (go_at_call 43; refine CM.out.mono ?_; rintro e wz ⟨rfl, hwz⟩; obtain rfl := hwz.symm; clear hwz) | (go_at_call 30; refine CR.out.mono ?_; rintro e wz ⟨a2, c2, rfl, hwz, hr2, hc2⟩; obtain rfl := hwz.symm; have R2 : Hid (Row V a2 f.b) := hr2; clear hwz hr2) | (go_at_call 44; refine (CS.out _ _ R2.out hc2).mono ?_; rintro e w3 ⟨ax, n, cx, Z3, rfl, hn, h1, h2, h3⟩; have W3 : Hid (WDR w3 B w.heap.size b S ⟨s, S.lives, false, [], 0⟩ X Z3 (.slice ax n cx) L) := h1; have B3 : Hid (Below V.heap.size V w3) := h2; have Z3L : Hid (∀ k, Z3 k → w.heap.size ≤ k) := h3; have N3 : Hid (L.length = n) := hn; clear h1 h2 h3 hn) | (go_at_call 45; refine (CC.out _ _ _ W3.out).mono ?_; rintro e w4 ⟨E4, X4, rfl, h1, h2⟩; have W4 : Hid (WDR w4 B w.heap.size b (S.cut s (us : Nat)).2 ⟨s, S.lives, false, [], 0⟩ X4 Z3 (.slice ax n cx) L) := h1; have D4 : Hid (Did w3 w4 X X4) := h2; clear h1 h2) | (go_at_call 46; refine (CY.out _ _ _ _ _ W4.out).mono ?_; rintro e w5 ⟨E5, rfl, h1, h2⟩; have W5 : Hid (WDR w5 B w.heap.size b ((S.cut s (us : Nat)).2.sync s).2 ⟨s, S.lives, false, [], 0⟩ X4 Z3 (.slice ax n cx) L) := h1; have D5 : Hid (Did w4 w5 X4 X4) := h2; have k4 := h1.wd.log.c4; obtain ⟨a4, c4, k4, _⟩ := k4; have k5 : (w5.setCell ⟨w.heap.size, 4, none⟩ (.slice ax n cx)).cell? ⟨w.heap.size, 5, none⟩ = some (.int .i64 0) := (World.cell?_setCell_other _ _ _ _ (by intro e; injection e with _ e2; omega)).trans h1.wd.log.c5; have f4 := h1.wd.log.free 4; have f5 := h1.wd.log.free 5; clear h1 h2))
    go_returns
    have D3 : Did w w3 X X := Did.stay (HVB.out.trans (B3.out.mono HVB.out.size)) HD.out.lt
    have D4c : Did w w4 X X4 := D3.trans D4.out
    obtain ⟨r1, r2⟩ := HEND.out w5 w5 X4 Z3 ax n cx _ Z3L.out OEQ.out N3.out W5.out (D4c.trans D5.out)
    exact ⟨w.heap.size, X4, Z3, rfl, r1, r2, Z3L.out⟩
end Go.Proofs.Ytlfmhdljldbjmaa
