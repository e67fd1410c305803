/-
  What Sync, Clear, At of the landed logs answer and leave.
-/
import Derived.Test.YtlfmhdljldbjmaaWalC1
namespace Go.Proofs.Ytlfmhdljldbjmaa
open Go.RowKit
set_option linter.unusedVariables false

set_option maxHeartbeats 1000000 in
theorem wsync_any (B p b : Nat) (S : DS) (l : LS) (X Z : Foot) (w : World) (h : PD w B p b S l X Z) :
    Calls Try.prog 17 #[.pointer (some ⟨p, 0, none⟩)] w fun e w' => ∃ X' Z', e = .returned (.int .i64 (syncL S l).1) ∧ PD w' B p b (syncL S l).2.1 (syncL S l).2.2 X' Z' ∧ DidP w w' X Z X' Z' := by
  have CD : Hid (Calls Try.prog 39 #[.pointer (some ⟨p, 0, none⟩)] w fun e w' => e = .returned (.bool (offN S l)) ∧ Below w.heap.size w w') := wdone_any B p b S l X Z w h
  have HP : Hid (PD w B p b S l X Z) := h
  cases ho : offN S l with
  | true =>
    rw [ho] at CD
    have e : syncL S l = (7, S, l) := by unfold syncL; rw [if_pos ho]
    rw [e]
    clear h e
    go_enter Try.func17, Try.ntmps17
    go_wp2_with (go_at_call 39; refine CD.out.mono ?_; rintro e w1 ⟨rfl, h1⟩; have B1 : Hid (Below w.heap.size w w1) := h1; clear h1)
    go_ret
    exact ⟨X, Z, rfl, HP.out.past B1.out, DidP.stay HP.out B1.out⟩
  | false =>
    rw [ho] at CD
    have hoff : S.off = false ∧ mayN l.name = true := by
      unfold offN at ho
      simp at ho
      exact ⟨ho.1.1, h.log.rep.name⟩
    have hdd : l.dead = false := by
      unfold offN at ho
      simp at ho
      exact ho.2
    have hnm := h.log.rep.name
    have HCS : Hid (∀ u, Below w.heap.size w u → Calls Try.prog 37 #[.pointer (some ⟨b, 0, none⟩), .string (strOfNums l.name)] u fun e w' => ∃ X', e = .returned (.int .i64 (S.sync l.name).1) ∧ PD w' B p b (S.sync l.name).2 l X' Z ∧ DidP w w' X Z X' Z) := fun u hb => by
      refine (dsync_any b S X l.name u (HP.out.disk.past hb) (may_by _ hnm) (by unfold mayN at hnm; simp at hnm; omega)).mono ?_
      rintro e w' ⟨X', rfl, a1, a2⟩
      obtain ⟨k1, k2⟩ := (HP.out.past hb).disk_step a1 a2
      exact ⟨X', rfl, k1, (DidP.stay HP.out hb).trans k2⟩
    have HCH : Hid (∀ (u : World) (X' : Foot) (E : Int), (E = 0 ∨ E = 4) → PD u B p b (S.sync l.name).2 l X' Z → DidP w u X Z X' Z → Calls Try.prog 41 #[.pointer (some ⟨p, 0, none⟩), .int .i64 E] u fun e w' => e = .returned (.int .i64 0) ∧ PD w' B p b (S.sync l.name).2 l X' Z ∧ DidP w w' X Z X' Z ∧ ∃ a c, w'.cell? ⟨p, 4, none⟩ = some (.slice a l.L.length c) ∧ w'.cell? ⟨p, 5, none⟩ = some (.int .i64 (l.safe : Nat)) ∧ w'.frozen? ⟨p, 5, none⟩ = false) := fun u X' E hE hp hd2 => by
      refine (wheed_fine B p b _ l X' Z E u hp hdd hE).mono ?_
      rintro e w' ⟨rfl, k1, k2⟩
      obtain ⟨a, c, k4, _⟩ := k1.log.rep.c4
      exact ⟨rfl, k1, hd2.trans k2, a, c, k4, k1.log.rep.c5, k1.log.rep.free 5⟩
    have HCC : Hid (∀ u, Below w.heap.size w u → u.cell? ⟨p, 0, none⟩ = some (.pointer (some ⟨b, 0, none⟩)) ∧ u.cell? ⟨p, 1, none⟩ = some (.string (strOfNums l.name))) := fun u hb => ⟨(HP.out.log.rep.past hb).c0, (HP.out.log.rep.past hb).c1⟩
    have hall : syncL S l = (0, (S.sync l.name).2, { l with safe := l.L.length }) ∧ ((S.sync l.name).1 = 0 ∨ (S.sync l.name).1 = 4) := by
      rcases wsync_code (s := l.name) hoff.1 hoff.2 with e0 | e0
      · exact ⟨by unfold syncL; rw [if_neg (by rw [ho]; simp), if_pos e0], .inl e0⟩
      · have e1 : (S.sync l.name).2 = S := by
          unfold DS.sync at e0 ⊢
          split
          · rename_i he
            rw [if_pos he] at e0
            cases hf : findN S.fs l.name <;> rw [hf] at e0 <;> simp at e0
          · rfl
        exact ⟨by unfold syncL; rw [if_neg (by rw [ho]; simp), if_neg (by rw [e0]; decide), if_pos e0, e1], .inr e0⟩
    obtain ⟨e, e0⟩ := hall
    rw [e]
    obtain ⟨E, hE⟩ : ∃ E, E = (S.sync l.name).1 := ⟨_, rfl⟩
    rw [← hE] at HCS e0
    clear hE
    have HE : Hid (∀ (w2 : World) (X' : Foot), PD w2 B p b (S.sync l.name).2 l X' Z → DidP w w2 X Z X' Z → PD (w2.setCell ⟨p, 5, none⟩ (.int .i64 (l.L.length : Nat))) B p b (S.sync l.name).2 { l with safe := l.L.length } X' Z ∧ DidP w (w2.setCell ⟨p, 5, none⟩ (.int .i64 (l.L.length : Nat))) X Z X' Z) := fun w2 X' h1 h2 => by
      obtain ⟨k1, k2⟩ := h1.log_step (o := 5) (l' := { l with safe := l.L.length }) (h1.log.rep.nowsafe l.L.length)
      exact ⟨k1, h2.trans k2⟩
    obtain ⟨S', hS'⟩ : ∃ S', S' = (S.sync l.name).2 := ⟨_, rfl⟩
    obtain ⟨l', hl'⟩ : ∃ l', l' = ({ l with safe := l.L.length } : LS) := ⟨_, rfl⟩
    obtain ⟨N, hN⟩ : ∃ N, N = l.L.length := ⟨_, rfl⟩
    rw [← hS'] at HCS HE HCH ⊢
    rw [← hN] at HCH HE
    rw [← hN] at hl'
    have el : ({ l with safe := l.L.length } : LS) = l' := by rw [← hN, hl']
    rw [← hl'] at HE
    rw [el]
    show Calls _ _ _ _ fun e w' => ∃ X' Z', e = .returned (.int .i64 0) ∧ PD w' B p b S' l' X' Z' ∧ DidP w w' X Z X' Z'
    clear h e hS' hl' hN el ho hnm hoff hdd
    rcases e0 with rfl | rfl
    all_goals
      go_enter Try.func17, Try.ntmps17
      have KP : Hid (∀ {u : World} {T : DS} {Y : Foot}, PD u B p b T l Y Z → u.cell? ⟨p, 0, none⟩ = some (.pointer (some ⟨b, 0, none⟩)) ∧ u.cell? ⟨p, 1, none⟩ = some (.string (strOfNums l.name))) := fun h => ⟨h.log.rep.c0, h.log.rep.c1⟩
      go_wp2_with (go_at_call 39; refine CD.out.mono ?_; rintro e w1 ⟨rfl, h1⟩; have B1 : Hid (Below w.heap.size w w1) := h1; have B1d : Hid (Below w.heap.size w w1.drew) := h1.drew; clear h1)
      go_region_held3 (fun u => u.cell? ⟨p, 0, none⟩ = some (.pointer (some ⟨b, 0, none⟩)) ∧ u.cell? ⟨p, 1, none⟩ = some (.string (strOfNums l.name))) (first | exact KP.out P3.out | exact KP.out P2.out | exact HCC.out _ B1d.out | exact HCC.out _ B1.out) (first | (go_at_call 37; refine (HCS.out _ (by first | exact B1d.out | exact B1.out)).mono ?_; rintro e w2 ⟨X', rfl, h1, h2⟩; have P2 : Hid (PD w2 B p b S' l X' Z) := h1; have D2 : Hid (DidP w w2 X Z X' Z) := h2; clear h1 h2) | (go_at_call 41; refine (HCH.out _ _ _ (by first | exact .inl rfl | exact .inr rfl) P2.out D2.out).mono ?_; rintro e w3 ⟨rfl, h1, h2, a, c, k4, k5, f5⟩; have P3 : Hid (PD w3 B p b S' l X' Z) := h1; have D3 : Hid (DidP w w3 X Z X' Z) := h2; clear h1 h2))
      go_wp2
      go_ret
      obtain ⟨k1, k2⟩ := HE.out w3 X' P3.out D3.out
      exact ⟨X', Z, rfl, k1, k2⟩
set_option maxHeartbeats 1000000 in
theorem wclear_any (B p b : Nat) (S : DS) (l : LS) (X Z : Foot) (w : World) (h : PD w B p b S l X Z) (hz : sizeN S.fs ≤ 1048576) :
    Calls Try.prog 15 #[.pointer (some ⟨p, 0, none⟩)] w fun e w' => ∃ X' Z', e = .returned (.int .i64 (clearL S l).1) ∧ PD w' B p b (clearL S l).2.1 (clearL S l).2.2 X' Z' ∧ DidP w w' X Z X' Z' := by
  have CD : Hid (Calls Try.prog 39 #[.pointer (some ⟨p, 0, none⟩)] w fun e w' => e = .returned (.bool (offN S l)) ∧ Below w.heap.size w w') := wdone_any B p b S l X Z w h
  have HP : Hid (PD w B p b S l X Z) := h
  cases ho : offN S l with
  | true =>
    rw [ho] at CD
    have e : clearL S l = (7, S, l) := by unfold clearL; rw [if_pos ho]
    rw [e]
    clear h e
    go_enter Try.func15, Try.ntmps15
    go_wp2_with (go_at_call 39; refine CD.out.mono ?_; rintro e w1 ⟨rfl, h1⟩; have B1 : Hid (Below w.heap.size w w1) := h1; clear h1)
    go_ret
    exact ⟨X, Z, rfl, HP.out.past B1.out, DidP.stay HP.out B1.out⟩
  | false =>
    rw [ho] at CD
    have hoff : S.off = false ∧ mayN l.name = true := by
      unfold offN at ho
      simp at ho
      exact ⟨ho.1.1, h.log.rep.name⟩
    have hdd : l.dead = false := by
      unfold offN at ho
      simp at ho
      exact ho.2
    have hnm := h.log.rep.name
    have HCS : Hid (∀ u, Below w.heap.size w u → Calls Try.prog 36 #[.pointer (some ⟨b, 0, none⟩), .string (strOfNums l.name), .int .i64 0] u fun e w' => ∃ X', e = .returned (.int .i64 (S.cut l.name 0).1) ∧ PD w' B p b (S.cut l.name 0).2 l X' Z ∧ DidP w w' X Z X' Z) := fun u hb => by
      refine (dkcut_any b S X l.name 0 u (HP.out.disk.past hb) (may_by _ hnm) (by unfold mayN at hnm; simp at hnm; omega) (by omega)).mono ?_
      rintro e w' ⟨X', rfl, a1, a2⟩
      obtain ⟨k1, k2⟩ := (HP.out.past hb).disk_step a1 a2
      exact ⟨X', rfl, k1, (DidP.stay HP.out hb).trans k2⟩
    have HCH : Hid (∀ (u : World) (X' : Foot) (E : Int), (E = 0 ∨ E = 4) → PD u B p b (S.cut l.name 0).2 l X' Z → DidP w u X Z X' Z → Calls Try.prog 41 #[.pointer (some ⟨p, 0, none⟩), .int .i64 E] u fun e w' => e = .returned (.int .i64 0) ∧ PD w' B p b (S.cut l.name 0).2 l X' Z ∧ DidP w w' X Z X' Z ∧ ∃ a c, w'.cell? ⟨p, 4, none⟩ = some (.slice a l.L.length c) ∧ (w'.setCell ⟨p, 4, none⟩ (.slice none 0 0)).cell? ⟨p, 5, none⟩ = some (.int .i64 (l.safe : Nat)) ∧ w'.frozen? ⟨p, 4, none⟩ = false ∧ w'.frozen? ⟨p, 5, none⟩ = false) := fun u X' E hE hp hd2 => by
      refine (wheed_fine B p b _ l X' Z E u hp hdd hE).mono ?_
      rintro e w' ⟨rfl, k1, k2⟩
      obtain ⟨a, c, k4, _⟩ := k1.log.rep.c4
      exact ⟨rfl, k1, hd2.trans k2, a, c, k4, (set_other _ _ _ _ _ (by omega)).trans k1.log.rep.c5, k1.log.rep.free 4, k1.log.rep.free 5⟩
    have HCC : Hid (∀ u, Below w.heap.size w u → u.cell? ⟨p, 0, none⟩ = some (.pointer (some ⟨b, 0, none⟩)) ∧ u.cell? ⟨p, 1, none⟩ = some (.string (strOfNums l.name))) := fun u hb => ⟨(HP.out.log.rep.past hb).c0, (HP.out.log.rep.past hb).c1⟩
    have hall : clearL S l = (0, (S.cut l.name 0).2, { l with L := [], safe := 0 }) ∧ ((S.cut l.name 0).1 = 0 ∨ (S.cut l.name 0).1 = 4) := by
      rcases wcut_code (s := l.name) hoff.1 hoff.2 with e0 | e0
      · exact ⟨by unfold clearL; rw [if_neg (by rw [ho]; simp), if_pos e0], .inl e0⟩
      · have e1 : (S.cut l.name 0).2 = S := by
          unfold DS.cut at e0 ⊢
          split
          · rename_i he
            rw [if_pos he] at e0
            cases hf : findN S.fs l.name with
            | none => rfl
            | some j =>
              rw [hf] at e0
              simp only at e0
              split at e0 <;> simp at e0
          · rfl
        exact ⟨by unfold clearL; rw [if_neg (by rw [ho]; simp), if_neg (by rw [e0]; decide), if_pos e0, e1], .inr e0⟩
    obtain ⟨e, e0⟩ := hall
    rw [e]
    obtain ⟨E, hE⟩ : ∃ E, E = (S.cut l.name 0).1 := ⟨_, rfl⟩
    rw [← hE] at HCS e0
    clear hE
    have HE : Hid (∀ (w2 : World) (X' : Foot), PD w2 B p b (S.cut l.name 0).2 l X' Z → DidP w w2 X Z X' Z → PD ((w2.setCell ⟨p, 4, none⟩ (.slice none 0 0)).setCell ⟨p, 5, none⟩ (.int .i64 0)) B p b (S.cut l.name 0).2 { l with L := [], safe := 0 } X' Z ∧ DidP w ((w2.setCell ⟨p, 4, none⟩ (.slice none 0 0)).setCell ⟨p, 5, none⟩ (.int .i64 0)) X Z X' Z) := fun w2 X' h1 h2 => by
      obtain ⟨k1, k2⟩ := h1.log_step2 (l' := { l with L := [], safe := 0 }) h1.log.rep.cleared
      exact ⟨k1, h2.trans k2⟩
    obtain ⟨S', hS'⟩ : ∃ S', S' = (S.cut l.name 0).2 := ⟨_, rfl⟩
    obtain ⟨l', hl'⟩ : ∃ l', l' = ({ l with L := [], safe := 0 } : LS) := ⟨_, rfl⟩
    obtain ⟨N, hN⟩ : ∃ N, N = l.L.length := ⟨_, rfl⟩
    rw [← hS'] at HCS HE HCH ⊢
    rw [← hN] at HCH
    have el : ({ l with L := [], safe := 0 } : LS) = l' := hl'.symm
    rw [el] at HE ⊢
    show Calls _ _ _ _ fun e w' => ∃ X' Z', e = .returned (.int .i64 0) ∧ PD w' B p b S' l' X' Z' ∧ DidP w w' X Z X' Z'
    clear h e hS' hl' hN el ho hnm hoff hdd
    rcases e0 with rfl | rfl
    all_goals
      go_enter Try.func15, Try.ntmps15
      have KP : Hid (∀ {u : World} {T : DS} {Y : Foot}, PD u B p b T l Y Z → u.cell? ⟨p, 0, none⟩ = some (.pointer (some ⟨b, 0, none⟩)) ∧ u.cell? ⟨p, 1, none⟩ = some (.string (strOfNums l.name))) := fun h => ⟨h.log.rep.c0, h.log.rep.c1⟩
      go_wp2_with (go_at_call 39; refine CD.out.mono ?_; rintro e w1 ⟨rfl, h1⟩; have B1 : Hid (Below w.heap.size w w1) := h1; have B1d : Hid (Below w.heap.size w w1.drew) := h1.drew; clear h1)
      go_region_held3 (fun u => u.cell? ⟨p, 0, none⟩ = some (.pointer (some ⟨b, 0, none⟩)) ∧ u.cell? ⟨p, 1, none⟩ = some (.string (strOfNums l.name))) (first | exact KP.out P3.out | exact KP.out P2.out | exact HCC.out _ B1d.out | exact HCC.out _ B1.out) (first | (go_at_call 36; refine (HCS.out _ (by first | exact B1d.out | exact B1.out)).mono ?_; rintro e w2 ⟨X', rfl, h1, h2⟩; have P2 : Hid (PD w2 B p b S' l X' Z) := h1; have D2 : Hid (DidP w w2 X Z X' Z) := h2; clear h1 h2) | (go_at_call 41; refine (HCH.out _ _ _ (by first | exact .inl rfl | exact .inr rfl) P2.out D2.out).mono ?_; rintro e w3 ⟨rfl, h1, h2, a, c, k4, k5, f4, f5⟩; have P3 : Hid (PD w3 B p b S' l X' Z) := h1; have D3 : Hid (DidP w w3 X Z X' Z) := h2; clear h1 h2))
      go_wp2
      go_ret
      obtain ⟨k1, k2⟩ := HE.out w3 X' P3.out D3.out
      exact ⟨X', Z, rfl, k1, k2⟩
set_option maxHeartbeats 1000000 in
theorem wat_out (B p b : Nat) (S : DS) (l : LS) (X Z : Foot) (n : Int) (w : World) (h : PD w B p b S l X Z) (hn : offN S l = true ∨ n < 0 ∨ (l.L.length : Int) ≤ n) :
    Calls Try.prog 14 #[.pointer (some ⟨p, 0, none⟩), .int .i64 n] w fun e w' => ∃ c X' Z', e = .returned (.tuple #[.slice none 0 c, .int .i64 (atL S l n).1]) ∧ PD w' B p b S l X' Z' ∧ DidP w w' X Z X' Z' := by
  have CD : Hid (Calls Try.prog 39 #[.pointer (some ⟨p, 0, none⟩)] w fun e w' => e = .returned (.bool (offN S l)) ∧ Below w.heap.size w w') := wdone_any B p b S l X Z w h
  have HP : Hid (PD w B p b S l X Z) := h
  cases ho : offN S l with
  | true =>
    rw [ho] at CD
    have e : (atL S l n).1 = 7 := by unfold atL; rw [if_pos ho]
    rw [e]
    clear h e hn
    go_enter Try.func14, Try.ntmps14
    go_wp2_with (go_at_call 39; refine CD.out.mono ?_; rintro e w1 ⟨rfl, h1⟩; have B1 : Hid (Below w.heap.size w w1) := h1; clear h1)
    go_returns
    exact ⟨0, X, Z, rfl, HP.out.past B1.out, DidP.stay HP.out B1.out⟩
  | false =>
    rw [ho] at CD hn
    have hn2 : n < 0 ∨ (l.L.length : Int) ≤ n := by rcases hn with e | e; cases e; exact e
    have e : (atL S l n).1 = 4 := by unfold atL; rw [if_neg (by rw [ho]; simp), if_pos hn2]
    rw [e]
    obtain ⟨N, hN⟩ : ∃ N, N = l.L.length := ⟨_, rfl⟩
    have HC : Hid (∀ u, Below w.heap.size w u → ∃ a c, u.cell? ⟨p, 4, none⟩ = some (.slice a N c)) := fun u hb => by
      obtain ⟨a, c, k4, _⟩ := (HP.out.log.rep.past hb).c4
      rw [hN]; exact ⟨a, c, k4⟩
    rw [← hN] at hn2
    clear h e hn hN
    by_cases hn0 : n < 0
    · have b1 : decide (n < 0) = true := decide_eq_true hn0
      go_enter Try.func14, Try.ntmps14
      go_wp2_with (go_at_call 39; refine CD.out.mono ?_; rintro e w1 ⟨rfl, h1⟩; have B1 : Hid (Below w.heap.size w w1) := h1; obtain ⟨a4, c4, k4⟩ := HC.out w1 h1; clear h1)
      go_returns
      exact ⟨0, X, Z, rfl, HP.out.past B1.out, DidP.stay HP.out B1.out⟩
    · have b1 : decide (n < 0) = false := decide_eq_false hn0
      have b2 : decide ((N : Int) ≤ n) = true := decide_eq_true (by omega)
      go_enter Try.func14, Try.ntmps14
      go_wp2_with (go_at_call 39; refine CD.out.mono ?_; rintro e w1 ⟨rfl, h1⟩; have B1 : Hid (Below w.heap.size w w1) := h1; obtain ⟨a4, c4, k4⟩ := HC.out w1 h1; clear h1)
      go_returns
      exact ⟨0, X, Z, rfl, HP.out.past B1.out, DidP.stay HP.out B1.out⟩
set_option maxHeartbeats 1000000 in
set_option maxRecDepth 4000 in
theorem wat_in (B p b : Nat) (S : DS) (l : LS) (X Z : Foot) (n : Nat) (w : World) (h : PD w B p b S l X Z) (ho : offN S l = false) (hn : n < l.L.length) :
    Calls Try.prog 14 #[.pointer (some ⟨p, 0, none⟩), .int .i64 (n : Int)] w fun e w' => ∃ a c, e = .returned (.tuple #[.slice a (l.L.getD n []).length c, .int .i64 0]) ∧ Below w.heap.size w w' ∧ Row w' a (l.L.getD n []) ∧ (l.L.getD n []).length ≤ c ∧ (a = none → c = 0) ∧ (∀ g, a = some g → ∃ cur fr, w'.heap[g.block]? = some (.cells cur 5 fr)) ∧ (∀ g, a = some g → Z g.block ∨ w.heap.size ≤ g.block) := by
  have CD : Hid (Calls Try.prog 39 #[.pointer (some ⟨p, 0, none⟩)] w fun e w' => e = .returned (.bool (offN S l)) ∧ Below w.heap.size w w') := wdone_any B p b S l X Z w h
  have HP : Hid (PD w B p b S l X Z) := h
  rw [ho] at CD
  obtain ⟨R, hR⟩ : ∃ R, R = l.L.getD n [] := ⟨_, rfl⟩
  obtain ⟨m, hm⟩ : ∃ m, m = R.length := ⟨_, rfl⟩
  obtain ⟨N, hN⟩ : ∃ N, N = l.L.length := ⟨_, rfl⟩
  have hfew := h.log.rep.few
  have hRm : R ∈ l.L := by rw [hR]; simp [List.getD, hn]
  have hRg := h.log.rep.good R hRm
  have HC : Hid (∀ u, Below w.heap.size w u → ∃ g c, u.cell? ⟨p, 4, none⟩ = some (.slice (some ⟨g, 0, none⟩) N c) ∧ u.cell? ⟨g, n, none⟩ = some (.string (strOfNums R)) ∧ N ≤ c ∧ ∃ d W, (convert 9 31 (.string (strOfNums R))).run Try.prog u = .ok (.slice (some ⟨u.heap.size, 0, none⟩) m d) W ∧ Below u.heap.size u W ∧ Row W (some ⟨u.heap.size, 0, none⟩) R ∧ m ≤ d ∧ ∃ cur fr, W.heap[u.heap.size]? = some (.cells cur 5 fr)) := fun u hb => by
    obtain ⟨a, c, k4, hz⟩ := (HP.out.log.rep.past hb).c4
    rcases hz.own.2 with ⟨_, e0⟩ | ⟨g, cap, cur, ev, _, _, hle, _⟩
    · omega
    injection ev with ev1 ev2 ev3
    subst ev1; subst ev3
    have hk := own_cell hz.own n (.string (strOfNums R)) (by rw [hR]; simp [strs, List.getD, hn])
    have hcv := conv_text R hRg.2 u
    rw [← hm] at hcv
    exact ⟨g, c, by rw [hN]; exact k4, hk, by rw [hN]; exact hle, hcv⟩
  rw [← hN] at hn hfew
  rw [← hR, ← hm]
  have b1 : decide ((n : Int) < 0) = false := decide_eq_false (by omega)
  have b2 : decide ((N : Int) ≤ (n : Int)) = false := decide_eq_false (by omega)
  clear h hR hm hN ho hRm hRg
  go_enter Try.func14, Try.ntmps14
  go_wp2_with (go_at_call 39; refine CD.out.mono ?_; rintro e w1 ⟨rfl, h1⟩; have B1 : Hid (Below w.heap.size w w1) := h1; obtain ⟨g4, c4, k4, k5, k6, d4, W4, hcv, h2, h3, h4, h5⟩ := HC.out w1 h1; have B2 : Hid (Below w1.heap.size w1 W4) := h2; have R4 : Hid (Row W4 (some ⟨w1.heap.size, 0, none⟩) R) := h3; have D4 : Hid (m ≤ d4) := h4; have Q4 : Hid (∃ cur fr, W4.heap[w1.heap.size]? = some (.cells cur 5 fr)) := h5; clear h1 h2 h3 h4 h5)
  go_returns
  exact ⟨_, _, rfl, B1.out.trans (B2.out.mono B1.out.size), R4.out, D4.out, fun e => (by cases e), fun g e => (by injection e with e; subst e; exact Q4.out), fun g e => (by injection e with e; subst e; exact .inr B1.out.size)⟩
end Go.Proofs.Ytlfmhdljldbjmaa
