/-
  The document's own logs with their disks; what At, Sync, Clear of a log answer and leave.
-/
import Derived.Test.YtlfmhdljldbjmaaRefWal
import Derived.Test.YtlfmhdljldbjmaaRefDisk9
namespace Go.Proofs.Ytlfmhdljldbjmaa
open Go.RowKit
set_option linter.unusedVariables false

/-- A disk and a log on it, apart. -/
structure WD (u : World) (B p b : Nat) (S : DS) (l : LS) (dn : Bool) (X Z : Foot) : Prop where
  disk : DiskR u b S X
  log : WalR u B p b l dn Z
  apart : ∀ k, X k → Z k → False
structure Did2 (u u' : World) (X Z X' Z' : Foot) : Prop where
  chg : Chg u u' (fun k => X k ∨ Z k)
  nx : ∀ k, X' k → (X k ∨ u.heap.size ≤ k) ∧ k < u'.heap.size
  nz : ∀ k, Z' k → (Z k ∨ u.heap.size ≤ k) ∧ k < u'.heap.size
theorem Did2.trans {u u' u'' : World} {X Z X' Z' X'' Z'' : Foot} (h : Did2 u u' X Z X' Z') (k : Did2 u' u'' X' Z' X'' Z'') : Did2 u u'' X Z X'' Z'' := by
  refine ⟨h.chg.trans k.chg (fun j hj hx => ?_), fun j hj => ⟨?_, (k.nx j hj).2⟩, fun j hj => ⟨?_, (k.nz j hj).2⟩⟩
  · rcases hx with hx | hx
    · rcases (h.nx j hx).1 with e | e
      · exact .inl e
      · omega
    · rcases (h.nz j hx).1 with e | e
      · exact .inr e
      · omega
  · rcases (k.nx j hj).1 with e | e
    · exact (h.nx j e).1
    · exact .inr (Nat.le_trans h.chg.size e)
  · rcases (k.nz j hj).1 with e | e
    · exact (h.nz j e).1
    · exact .inr (Nat.le_trans h.chg.size e)
theorem WD.disk_step {u u' : World} {B p b : Nat} {S S' : DS} {l : LS} {dn : Bool} {X X' Z : Foot} (h : WD u B p b S l dn X Z) (hd : DiskR u' b S' X') (d : Did u u' X X') : WD u' B p b S' l dn X' Z ∧ Did2 u u' X Z X' Z := by
  have hfar : ∀ k, Z k → ¬ X k := fun k z x => h.apart k x z
  refine ⟨⟨hd, h.log.kept d.chg.size (fun k z => d.chg.block k (h.log.lt k z) (hfar k z)), fun k x z => ?_⟩, d.chg.mono (fun k _ x => .inl x), d.new, fun k z => ⟨.inl z, Nat.lt_of_lt_of_le (h.log.lt k z) d.chg.size⟩⟩
  rcases (d.new k x).1 with e | e
  · exact h.apart k e z
  · have := h.log.lt k z; omega
theorem WD.log_step {u u' : World} {B p b : Nat} {S : DS} {l l' : LS} {dn dn' : Bool} {X Z Z' : Foot} (h : WD u B p b S l dn X Z) (hd : WalR u' B p b l' dn' Z') (d : Did u u' Z Z') : WD u' B p b S l' dn' X Z' ∧ Did2 u u' X Z X Z' := by
  have hfar : ∀ k, X k → ¬ Z k := fun k x z => h.apart k x z
  refine ⟨⟨h.disk.kept d.chg.size (fun k x => d.chg.block k (h.disk.lt k x) (hfar k x)), hd, fun k x z => ?_⟩, d.chg.mono (fun k _ x => .inr x), fun k x => ⟨.inl x, Nat.lt_of_lt_of_le (h.disk.lt k x) d.chg.size⟩, d.new⟩
  rcases (d.new k z).1 with e | e
  · exact h.apart k x e
  · have := h.disk.lt k x; omega
theorem Did2.below {u u' : World} {X Z : Foot} (hb : Below u.heap.size u u') (hX : ∀ k, X k → k < u.heap.size) (hZ : ∀ k, Z k → k < u.heap.size) : Did2 u u' X Z X Z :=
  ⟨Chg.of_below hb _, fun k x => ⟨.inl x, Nat.lt_of_lt_of_le (hX k x) hb.size⟩, fun k x => ⟨.inl x, Nat.lt_of_lt_of_le (hZ k x) hb.size⟩⟩
theorem WD.past {u u' : World} {B p b : Nat} {S : DS} {l : LS} {dn : Bool} {X Z : Foot} (h : WD u B p b S l dn X Z) (hb : Below u.heap.size u u') : WD u' B p b S l dn X Z ∧ Did2 u u' X Z X Z := ⟨⟨h.disk.past hb, h.log.past hb, h.apart⟩, Did2.below hb h.disk.lt h.log.lt⟩
theorem roff_wd (B p b : Nat) (S : DS) (l : LS) (dn : Bool) (X Z : Foot) (w : World) (h : WD w B p b S l dn X Z) :
    Calls Try.prog 47 #[.pointer (some ⟨p, 0, none⟩)] w fun e w' => e = .returned (.bool (doneN S l dn)) ∧ WD w' B p b S l (doneN S l dn) X Z ∧ Did2 w w' X Z X Z :=
  (roff_any B p b S l dn X Z w h.disk h.log).mono (by
    rintro e w' ⟨rfl, h1, h2⟩
    exact ⟨rfl, h.log_step h1 (Did.same (h2.mono (fun k _ e => by rw [e]; exact h.log.own)) h.log.lt)⟩)
def atD (S : DS) (l : LS) (dn : Bool) (n : Int) : Int × List Int := if doneN S l dn = true then (7, []) else if n < 0 ∨ (l.L.length : Int) ≤ n then (4, []) else (0, l.L.getD n.toNat [])
set_option maxHeartbeats 1000000 in
theorem rat_any (B p b : Nat) (S : DS) (l : LS) (dn : Bool) (X Z : Foot) (n : Int) (w : World) (h : WD w B p b S l dn X Z) :
    Calls Try.prog 28 #[.pointer (some ⟨p, 0, none⟩), .int .i64 n] w fun e w' => ∃ a c, e = .returned (.tuple #[.slice a (atD S l dn n).2.length c, .int .i64 (atD S l dn n).1]) ∧ WD w' B p b S l (doneN S l dn) X Z ∧ Did2 w w' X Z X Z ∧ RowX w' a c (atD S l dn n).2 Z := by
  have CO : Hid (Calls Try.prog 47 #[.pointer (some ⟨p, 0, none⟩)] w fun e w' => e = .returned (.bool (doneN S l dn)) ∧ WD w' B p b S l (doneN S l dn) X Z ∧ Did2 w w' X Z X Z) := roff_wd B p b S l dn X Z w h
  cases hdn : doneN S l dn with
  | true =>
    have e : atD S l dn n = (7, []) := by unfold atD; rw [if_pos hdn]
    rw [e]
    rw [hdn] at CO
    clear h e hdn
    go_enter Try.func28, Try.ntmps28
    go_wp2_with (go_at_call 47; refine CO.out.mono ?_; rintro e w1 ⟨rfl, h1, h2⟩; have H1 : Hid (WD w1 B p b S l true X Z) := h1; have H2 : Hid (Did2 w w1 X Z X Z) := h2; clear h1 h2)
    go_returns
    exact ⟨none, 0, rfl, H1.out, H2.out, Row.nil _ _, Nat.le_refl _, fun _ => rfl, .inl rfl⟩
  | false =>
    rw [hdn] at CO
    have e : atD S l dn n = if n < 0 ∨ (l.L.length : Int) ≤ n then (4, []) else (0, l.L.getD n.toNat []) := by unfold atD; rw [if_neg (by rw [hdn]; simp)]
    rw [e]
    have hfew := h.log.few
    obtain ⟨M, hM⟩ : ∃ M, M = l.L.length := ⟨_, rfl⟩
    have HM : Hid (M = l.L.length) := hM
    rw [← hM] at hfew ⊢
    have HCL : Hid (∀ u, WD u B p b S l false X Z → ∃ a c, u.cell? ⟨p, 4, none⟩ = some (.slice a M c) ∧ RecZ u B (.slice a M c) l.L Z p) := fun u hu => by rw [hM]; exact hu.log.c4
    clear h e hdn hM
    by_cases hbad : n < 0 ∨ (M : Int) ≤ n
    · rw [if_pos hbad]
      by_cases hn0 : n < 0
      · have b1 : decide (n < 0) = true := decide_eq_true hn0
        go_enter Try.func28, Try.ntmps28
        go_wp2_with (go_at_call 47; refine CO.out.mono ?_; rintro e w1 ⟨rfl, h1, h2⟩; have H1 : Hid (WD w1 B p b S l false X Z) := h1; have H2 : Hid (Did2 w w1 X Z X Z) := h2; clear h1 h2)
        go_returns
        exact ⟨none, 0, rfl, H1.out, H2.out, Row.nil _ _, Nat.le_refl _, fun _ => rfl, .inl rfl⟩
      · have b1 : decide (n < 0) = false := decide_eq_false hn0
        have b2 : decide ((M : Int) ≤ n) = true := decide_eq_true (by omega)
        go_enter Try.func28, Try.ntmps28
        go_wp2_with (go_at_call 47; refine CO.out.mono ?_; rintro e w1 ⟨rfl, h1, h2⟩; have H1 : Hid (WD w1 B p b S l false X Z) := h1; have H2 : Hid (Did2 w w1 X Z X Z) := h2; obtain ⟨a, c, k4, _⟩ := HCL.out w1 h1; clear h1 h2)
        go_returns
        exact ⟨none, 0, rfl, H1.out, H2.out, Row.nil _ _, Nat.le_refl _, fun _ => rfl, .inl rfl⟩
    · rw [if_neg hbad]
      obtain ⟨m, rfl⟩ : ∃ m : Nat, n = m := ⟨n.toNat, by omega⟩
      have em : (m : Int).toNat = m := by omega
      rw [em]
      have hml : m < M := by omega
      have b1 : decide ((m : Int) < 0) = false := decide_eq_false (by omega)
      have b2 : decide ((M : Int) ≤ (m : Int)) = false := decide_eq_false (by omega)
      have HAT : Hid (∀ u, WD u B p b S l false X Z → ∃ g c x d, u.cell? ⟨p, 4, none⟩ = some (.slice (some ⟨g, 0, none⟩) M c) ∧ u.cell? ⟨g, m, none⟩ = some (.slice x (l.L.getD m []).length d) ∧ RowX u x d (l.L.getD m []) Z) := fun u hu => by
        obtain ⟨a, c, k4, hz⟩ := HCL.out u hu
        obtain ⟨vs, h1, h2, h3⟩ := hz.own
        obtain ⟨x, d, e1, e2, e3⟩ := h3 m (by rw [← HM.out]; exact hml)
        rcases h1.2 with ⟨_, e0⟩ | ⟨g, cap, cur, ev, _⟩
        · have := HM.out; omega
        injection ev with ev1 ev2 ev3
        subst ev1; subst ev3
        refine ⟨g, c, x, d, k4, ?_, e2.row, e2.le, e2.nil, .inr (fun ad ha => (e3 ad ha).1)⟩
        have := own_cell (by rw [← HM.out] at h1; exact h1) m _ e1
        exact this
      obtain ⟨RL, hRL⟩ : ∃ RL, RL = (l.L.getD m []) := ⟨_, rfl⟩
      rw [← hRL] at HAT ⊢
      obtain ⟨rl, hrl⟩ : ∃ rl, rl = RL.length := ⟨_, rfl⟩
      show Calls _ _ _ _ fun e w' => ∃ a c, e = .returned (.tuple #[.slice a RL.length c, .int .i64 0]) ∧ WD w' B p b S l false X Z ∧ Did2 w w' X Z X Z ∧ RowX w' a c RL Z
      rw [← hrl] at HAT ⊢
      clear hRL hrl em hbad
      go_enter Try.func28, Try.ntmps28
      go_wp2_with (go_at_call 47; refine CO.out.mono ?_; rintro e w1 ⟨rfl, h1, h2⟩; have H1 : Hid (WD w1 B p b S l false X Z) := h1; have H2 : Hid (Did2 w w1 X Z X Z) := h2; obtain ⟨g, c, x, d, k4, k5, k6⟩ := HAT.out w1 h1; have H6 : Hid (RowX w1 x d RL Z) := k6; clear h1 h2 k6)
      go_returns
      exact ⟨x, d, rfl, H1.out, H2.out, H6.out⟩
end Go.Proofs.Ytlfmhdljldbjmaa
