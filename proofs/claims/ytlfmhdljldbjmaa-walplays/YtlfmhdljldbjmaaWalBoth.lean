/-
  The program's disk and log beside the document's own, made by one call: what each call on either side leaves of both. Over the shapes of wal's contracts (WalC).
-/
import Derived.Test.YtlfmhdljldbjmaaWalPlay
import Derived.Test.YtlfmhdljldbjmaaRefDisk9
import Derived.Test.YtlfmhdljldbjmaaRefWal7
import Derived.Test.YtlfmhdljldbjmaaWActs
namespace Go.Proofs.Ytlfmhdljldbjmaa
open Go.RowKit
set_option linter.unusedVariables false

/-! Plain: where both sides agree. -/
def logS : List Int := [108, 111, 103]
/-- What both sides have in common: the disk S, the log l; dn: the document's own word for a log that is done; i: how many calls there were. -/
structure Agr (S : DS) (l : LS) (dn : Bool) (room : Int) (i : Nat) : Prop where
  d1 : dn = true → offN S l = true
  d2 : l.dead = true → dn = true
  lv : l.lives ≤ S.lives
  l0 : 1 ≤ S.lives
  li : S.lives ≤ 1 + (i : Int)
  name : l.name = logS
  rm : S.room = room
  size : (sizeN S.fs : Int) ≤ room
  few : S.fs.length ≤ i
  len : l.L.length ≤ 5000 + 6 * i
theorem Agr.mono {S : DS} {l : LS} {dn : Bool} {room : Int} {i j : Nat} (h : Agr S l dn room i) (hj : i ≤ j) : Agr S l dn room j := ⟨h.d1, h.d2, h.lv, h.l0, by have := h.li; omega, h.name, h.rm, h.size, by have := h.few; omega, by have := h.len; omega⟩
theorem Agr.done {S : DS} {l : LS} {dn : Bool} {room : Int} {i : Nat} (h : Agr S l dn room i) : doneN S l dn = offN S l := by
  cases hd : dn with
  | true => rw [h.d1 hd]; simp [doneN]
  | false =>
    have : l.dead = false := by
      cases hx : l.dead with
      | false => rfl
      | true => have := h.d2 hx; rw [hd] at this; cases this
    simp [doneN, offN, this]
theorem Agr.asked {S : DS} {l : LS} {dn : Bool} {room : Int} {i : Nat} (h : Agr S l dn room i) : Agr S l (doneN S l dn) room i :=
  ⟨fun e => by rw [← h.done]; exact e, fun e => by rw [h.done]; simp [offN, e], h.lv, h.l0, h.li, h.name, h.rm, h.size, h.few, h.len⟩
theorem may_log' : mayN logS = true := by decide
theorem off_false {S : DS} {l : LS} (h : offN S l = false) : S.off = false ∧ S.lives = l.lives ∧ l.dead = false := by
  unfold offN at h
  simp at h
  exact ⟨h.1.1, h.1.2, h.2⟩
theorem append_fail {S : DS} {s b : List Int} (h : (S.append s b).1 ≠ 0) : (S.append s b).2 = S := by
  unfold DS.append at h ⊢
  split
  · rfl
  · split
    · rfl
    · split
      · rfl
      · rename_i h1 h2 h3
        rw [if_neg h1, if_neg h2, if_neg h3] at h
        cases hf : findN S.fs s with
        | none => rw [hf] at h; exact absurd rfl h
        | some i => rw [hf] at h; exact absurd rfl h
theorem all_iff (R : List (List Int)) : R.all (fun r => decide (r.length ≤ 8000)) = false ↔ ¬ ∀ r ∈ R, r.length ≤ 8000 := by
  rw [← Bool.not_eq_true, List.all_eq_true]
  simp
theorem add_same {S : DS} {l : LS} {dn : Bool} {room : Int} {i : Nat} (h : Agr S l dn room i) (R : List (List Int)) : (addD S l dn R).1 = (addL S l R).1 ∧ (addD S l dn R).2.1 = (addL S l R).2.1 ∧ (addD S l dn R).2.2.1 = (addL S l R).2.2 := by
  unfold addD addL
  rw [h.done]
  by_cases h1 : offN S l = true
  · rw [if_pos h1, if_pos h1]; exact ⟨rfl, rfl, rfl⟩
  · rw [if_neg h1, if_neg h1]
    by_cases h2 : ∀ r ∈ R, r.length ≤ 8000
    · rw [if_neg (fun e => e h2), if_neg (fun e => ((all_iff R).1 e) h2)]
      by_cases h3 : (S.append l.name (frames R)).1 = 0
      · rw [if_pos h3, if_pos h3]; exact ⟨rfl, rfl, rfl⟩
      · rw [if_neg h3, if_neg h3]; exact ⟨rfl, append_fail h3, rfl⟩
    · rw [if_pos h2, if_pos ((all_iff R).2 h2)]; exact ⟨rfl, rfl, rfl⟩
theorem append_agr {S : DS} {l : LS} {dn : Bool} {room : Int} {i : Nat} (h : Agr S l dn room i) (s b : List Int) : Agr (S.append s b).2 l dn room (i + 1) := by
  have h' := h.mono (Nat.le_succ i)
  unfold DS.append
  split
  · exact h'
  · split
    · exact h'
    · split
      · exact h'
      · rename_i h1 h2 h3
        cases hf : findN S.fs s with
        | none =>
          refine ⟨h.d1, h.d2, h.lv, h.l0, h'.li, h.name, h.rm, ?_, ?_, h'.len⟩
          · show ((sizeN (layN ⟨s, b, 0⟩ S.fs) : Nat) : Int) ≤ room
            rw [lay_size, ← h.rm]
            show ((b.length + sizeN S.fs : Nat) : Int) ≤ S.room
            omega
          · show (layN ⟨s, b, 0⟩ S.fs).length ≤ i + 1
            rw [lay_len]
            have := h.few; omega
        | some j =>
          obtain ⟨f, hj, hn⟩ := find_file _ _ _ hf
          refine ⟨h.d1, h.d2, h.lv, h.l0, h'.li, h.name, h.rm, ?_, ?_, h'.len⟩
          · show ((sizeN (setF S.fs j { fileAt S.fs j with b := (fileAt S.fs j).b ++ b }) : Nat) : Int) ≤ room
            rw [file_at' hj, ← h.rm]
            show ((sizeN (setF S.fs j { f with b := f.b ++ b }) : Nat) : Int) ≤ S.room
            have := setF_size (f' := { f with b := f.b ++ b }) hj
            simp only [List.length_append] at this
            omega
          · show (setF S.fs j _).length ≤ i + 1
            rw [setF_length]
            have := h.few; omega
theorem add_agr {S : DS} {l : LS} {dn : Bool} {room : Int} {i : Nat} (h : Agr S l dn room i) (R : List (List Int)) (hR : R.length ≤ 6) : Agr (addL S l R).2.1 (addL S l R).2.2 (addD S l dn R).2.2.2 room (i + 1) := by
  have h' := h.mono (Nat.le_succ i)
  by_cases h1 : offN S l = true
  · have e1 : addL S l R = (7, S, l) := by unfold addL; rw [if_pos h1]
    have e2 : addD S l dn R = (7, S, l, true) := by unfold addD; rw [h.done, if_pos h1]
    rw [e1, e2]
    exact ⟨fun _ => h1, fun _ => rfl, h'.lv, h'.l0, h'.li, h'.name, h'.rm, h'.size, h'.few, h'.len⟩
  · obtain ⟨_, _, hdead⟩ := off_false (by simpa using h1)
    by_cases h2 : ∀ r ∈ R, r.length ≤ 8000
    · have ha := append_agr h l.name (frames R)
      by_cases h3 : (S.append l.name (frames R)).1 = 0
      · have e1 : addL S l R = (0, (S.append l.name (frames R)).2, { l with L := l.L ++ R }) := by unfold addL; rw [if_neg h1, if_neg (fun e => ((all_iff R).1 e) h2), if_pos h3]
        have e2 : addD S l dn R = (0, (S.append l.name (frames R)).2, { l with L := l.L ++ R }, false) := by unfold addD; rw [h.done, if_neg h1, if_neg (fun e => e h2), if_pos h3]
        rw [e1, e2]
        refine ⟨(fun e => by cases e), (fun e => ?_), ha.lv, ha.l0, ha.li, ha.name, ha.rm, ha.size, ha.few, by show (l.L ++ R).length ≤ _; rw [List.length_append]; have := h.len; omega⟩
        have e' : l.dead = true := e
        rw [hdead] at e'; cases e'
      · have e1 : addL S l R = ((S.append l.name (frames R)).1, S, { l with dead := true }) := by unfold addL; rw [if_neg h1, if_neg (fun e => ((all_iff R).1 e) h2), if_neg h3]
        have e2 : addD S l dn R = ((S.append l.name (frames R)).1, (S.append l.name (frames R)).2, { l with dead := true }, true) := by unfold addD; rw [h.done, if_neg h1, if_neg (fun e => e h2), if_neg h3]
        rw [e1, e2]
        exact ⟨fun _ => by simp [offN], fun _ => rfl, h'.lv, h'.l0, h'.li, h'.name, h'.rm, h'.size, h'.few, h'.len⟩
    · have e1 : addL S l R = (2, S, l) := by unfold addL; rw [if_neg h1, if_pos ((all_iff R).2 h2)]
      have e2 : addD S l dn R = (2, S, l, false) := by unfold addD; rw [h.done, if_neg h1, if_pos h2]
      rw [e1, e2]
      refine ⟨(fun e => by cases e), (fun e => ?_), h'.lv, h'.l0, h'.li, h'.name, h'.rm, h'.size, h'.few, h'.len⟩
      have e' : l.dead = true := e
      rw [hdead] at e'; cases e'
theorem sync_keeps (S : DS) (s : List Int) : (S.sync s).2.off = S.off ∧ (S.sync s).2.lives = S.lives ∧ (S.sync s).2.room = S.room ∧ (S.sync s).2.fs.length = S.fs.length ∧ sizeN (S.sync s).2.fs = sizeN S.fs := by
  unfold DS.sync
  split
  · cases hf : findN S.fs s with
    | none => exact ⟨rfl, rfl, rfl, rfl, rfl⟩
    | some i =>
      obtain ⟨f, hi, _⟩ := find_file _ _ _ hf
      refine ⟨rfl, rfl, rfl, setF_length _ _ _, ?_⟩
      show sizeN (setF S.fs i { fileAt S.fs i with safe := (fileAt S.fs i).b.length }) = _
      rw [file_at' hi]
      have := setF_size (f' := { f with safe := f.b.length }) hi
      simp at this
      exact this
  · exact ⟨rfl, rfl, rfl, rfl, rfl⟩
theorem cut_keeps (S : DS) (s : List Int) (n : Int) : (S.cut s n).2.off = S.off ∧ (S.cut s n).2.lives = S.lives ∧ (S.cut s n).2.room = S.room ∧ (S.cut s n).2.fs.length = S.fs.length ∧ sizeN (S.cut s n).2.fs ≤ sizeN S.fs := by
  unfold DS.cut
  split
  · cases hf : findN S.fs s with
    | none => exact ⟨rfl, rfl, rfl, rfl, Nat.le_refl _⟩
    | some i =>
      obtain ⟨f, hi, _⟩ := find_file _ _ _ hf
      simp only
      split
      · exact ⟨rfl, rfl, rfl, rfl, Nat.le_refl _⟩
      · refine ⟨rfl, rfl, rfl, setF_length _ _ _, ?_⟩
        show sizeN (setF S.fs i { fileAt S.fs i with b := (fileAt S.fs i).b.take n.toNat, safe := min (fileAt S.fs i).safe n.toNat }) ≤ _
        rw [file_at' hi]
        show sizeN (setF S.fs i { f with b := f.b.take n.toNat, safe := min f.safe n.toNat }) ≤ _
        have := setF_size (f' := { f with b := f.b.take n.toNat, safe := min f.safe n.toNat }) hi
        simp only [List.length_take] at this
        omega
  · exact ⟨rfl, rfl, rfl, rfl, Nat.le_refl _⟩
theorem sync_same {S : DS} {l : LS} {dn : Bool} {room : Int} {i : Nat} (h : Agr S l dn room i) : syncD S l dn = syncL S l := by
  unfold syncD syncL
  rw [h.done]
  by_cases h1 : offN S l = true
  · rw [if_pos h1, if_pos h1]
  · rw [if_neg h1, if_neg h1]
    obtain ⟨ho, _, _⟩ := off_false (by simpa using h1)
    rcases sync_code (s := l.name) ho (by rw [h.name]; exact may_log') with e | e
    · rw [if_pos e]
    · rw [if_neg (by rw [e]; decide), if_pos e]
      have : (S.sync l.name).2 = S := by
        unfold DS.sync at e ⊢
        split
        · rename_i he
          rw [if_pos he] at e
          cases hf : findN S.fs l.name <;> rw [hf] at e <;> simp at e
        · rfl
      rw [this]
theorem clear_same {S : DS} {l : LS} {dn : Bool} {room : Int} {i : Nat} (h : Agr S l dn room i) : clearD S l dn = clearL S l := by
  unfold clearD clearL
  rw [h.done]
  by_cases h1 : offN S l = true
  · rw [if_pos h1, if_pos h1]
  · rw [if_neg h1, if_neg h1]
    obtain ⟨ho, _, _⟩ := off_false (by simpa using h1)
    rcases cut_code (s := l.name) ho (by rw [h.name]; exact may_log') with e | e
    · rw [if_pos e]
    · rw [if_neg (by rw [e]; decide), if_pos e]
      have : (S.cut l.name 0).2 = S := by
        unfold DS.cut at e ⊢
        split
        · rename_i he
          rw [if_pos he] at e
          cases hf : findN S.fs l.name with
          | none => rfl
          | some j =>
            rw [hf] at e
            simp only at e
            split at e <;> simp at e
        · rfl
      rw [this]
theorem sync_agr {S : DS} {l : LS} {dn : Bool} {room : Int} {i : Nat} (h : Agr S l dn room i) : Agr (syncL S l).2.1 (syncL S l).2.2 (doneN S l dn) room i := by
  rw [← sync_same h]
  have ha := h.asked
  unfold syncD
  by_cases h1 : doneN S l dn = true
  · rw [if_pos h1]; exact ha
  · rw [if_neg h1]
    obtain ⟨k1, k2, k3, k4, k5⟩ := sync_keeps S l.name
    exact ⟨fun e => absurd e h1, ha.d2, by show l.lives ≤ (S.sync l.name).2.lives; rw [k2]; exact h.lv, by show 1 ≤ (S.sync l.name).2.lives; rw [k2]; exact h.l0, by show (S.sync l.name).2.lives ≤ _; rw [k2]; exact h.li, h.name, by show (S.sync l.name).2.room = _; rw [k3]; exact h.rm, by show ((sizeN (S.sync l.name).2.fs : Nat) : Int) ≤ _; rw [k5]; exact h.size, by show (S.sync l.name).2.fs.length ≤ _; rw [k4]; exact h.few, h.len⟩
theorem clear_agr {S : DS} {l : LS} {dn : Bool} {room : Int} {i : Nat} (h : Agr S l dn room i) : Agr (clearL S l).2.1 (clearL S l).2.2 (doneN S l dn) room i := by
  rw [← clear_same h]
  have ha := h.asked
  unfold clearD
  by_cases h1 : doneN S l dn = true
  · rw [if_pos h1]; exact ha
  · rw [if_neg h1]
    obtain ⟨k1, k2, k3, k4, k5⟩ := cut_keeps S l.name 0
    exact ⟨fun e => absurd e h1, ha.d2, by show l.lives ≤ (S.cut l.name 0).2.lives; rw [k2]; exact h.lv, by show 1 ≤ (S.cut l.name 0).2.lives; rw [k2]; exact h.l0, by show (S.cut l.name 0).2.lives ≤ _; rw [k2]; exact h.li, h.name, by show (S.cut l.name 0).2.room = _; rw [k3]; exact h.rm, by show ((sizeN (S.cut l.name 0).2.fs : Nat) : Int) ≤ _; have := h.size; omega, by show (S.cut l.name 0).2.fs.length ≤ _; rw [k4]; exact h.few, Nat.zero_le _⟩
theorem crash_agr {S : DS} {l : LS} {dn : Bool} {room : Int} {i : Nat} (h : Agr S l dn room i) (hg : S.Good) (k t : Int) : Agr (S.crash k t) l dn room i :=
  ⟨fun _ => by simp [offN, DS.crash], h.d2, h.lv, h.l0, h.li, h.name, h.rm, by
    have h1 := mix_size' k.toNat t (fun _ => false) S.fs hg.safe
    rw [mix_end k.toNat t (fun _ => false) S.fs (fun _ => rfl)] at h1
    show ((sizeN (S.fs.map (crashF k.toNat t)) : Nat) : Int) ≤ room
    have := h.size
    omega, by show (S.fs.map _).length ≤ i; rw [List.length_map]; exact h.few, h.len⟩
theorem on_agr {S : DS} {l : LS} {dn : Bool} {room : Int} {i : Nat} (h : Agr S l dn room i) : Agr S.on l dn room (i + 1) := by
  have h' := h.mono (Nat.le_succ i)
  have hne : (S.on.lives != l.lives) = true := by
    show (S.lives + 1 != l.lives) = true
    have := h.lv
    simp; omega
  exact ⟨fun _ => by simp [offN, hne], h.d2, by show l.lives ≤ S.lives + 1; have := h.lv; omega, by show 1 ≤ S.lives + 1; have := h.l0; omega, by show S.lives + 1 ≤ 1 + ((i + 1 : Nat) : Int); have := h.li; omega, h.name, h.rm, h.size, h'.few, h'.len⟩
theorem open_agr {S : DS} {room : Int} {i : Nat} (hg : S.Good) (hr : S.room = room) (hs : (sizeN S.fs : Int) ≤ room) (hr5 : room ≤ 5000) (hf : S.fs.length ≤ i) (h0 : 1 ≤ S.lives) (hl : S.lives ≤ 1 + (i : Int)) : Agr (S.opened logS) (S.log logS) false room i := by
  cases hfi : findN S.fs logS with
  | none =>
    have e1 : S.opened logS = S := by unfold DS.opened; rw [hfi]
    have e2 : S.log logS = ⟨logS, S.lives, false, [], 0⟩ := by unfold DS.log; rw [hfi]
    rw [e1, e2]
    exact ⟨(fun e => by cases e), (fun e => by cases e), Int.le_refl _, h0, hl, rfl, hr, hs, hf, Nat.zero_le _⟩
  | some j =>
    obtain ⟨f, hj, hn⟩ := find_file _ _ _ hfi
    have hm := List.mem_of_getElem? hj
    obtain ⟨s1, _, _, s4⟩ := scan_facts f.b.length f.b (Nat.le_refl _) (hg.bytes f hm)
    have e1 : S.opened logS = { S with fs := setF S.fs j { f with b := f.b.take (scanN f.b).2.1, safe := (scanN f.b).2.1 } } := by unfold DS.opened; rw [hfi]; simp only [file_at' hj]
    have e2 : S.log logS = ⟨logS, S.lives, false, (scanN f.b).1, (scanN f.b).1.length⟩ := by unfold DS.log; rw [hfi]; simp only [file_at' hj]
    rw [e1, e2]
    have hz := setF_size (f' := { f with b := f.b.take (scanN f.b).2.1, safe := (scanN f.b).2.1 }) hj
    simp only [List.length_take] at hz
    have hb := size_one hm
    refine ⟨(fun e => by cases e), (fun e => by cases e), Int.le_refl _, h0, hl, rfl, hr, ?_, ?_, ?_⟩
    · show ((sizeN (setF S.fs j _) : Nat) : Int) ≤ room
      omega
    · show (setF S.fs j _).length ≤ i
      rw [setF_length]; exact hf
    · show (scanN f.b).1.length ≤ 5000 + 6 * i
      omega
end Go.Proofs.Ytlfmhdljldbjmaa
