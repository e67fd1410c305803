/-
  The program's disk and log beside the document's own: Append, Open, Len, Safe, At, Read.
-/
import Derived.Test.YtlfmhdljldbjmaaWalDuo
namespace Go.Proofs.Ytlfmhdljldbjmaa
open Go.RowKit
set_option linter.unusedVariables false

theorem append_turn (S : DS) (s zs : List Int) : (S.append s zs).2.off = S.off ∧ (S.append s zs).2.lives = S.lives := by
  unfold DS.append
  split
  · exact ⟨rfl, rfl⟩
  · split
    · exact ⟨rfl, rfl⟩
    · split
      · exact ⟨rfl, rfl⟩
      · cases findN S.fs s <;> exact ⟨rfl, rfl⟩
theorem Duo.agr_good {sd : Option (Nat × Obj)} {w u : World} {p b q c : Nat} {S : DS} {l : LS} {S2 : DS} {l2 : LS} {dn : Bool} (h : Duo sd w u p b q c S l S2 l2 dn) : S.Good := by
  obtain ⟨X, Z, X2, Z2, h⟩ := h
  exact h.pd.disk.good
/-- A list of bytes that lies outside the document's blocks. -/
structure RowOut (u : World) (a : Option Addr) (zs : List Int) (X2 Z2 : Foot) : Prop where
  row : Row u a zs
  out : ∀ ad, a = some ad → ¬ (X2 ad.block ∨ Z2 ad.block)
theorem RowOut.kept {u u' : World} {a : Option Addr} {zs : List Int} {X2 Z2 : Foot} (h : RowOut u a zs X2 Z2) (hc : Chg u u' (fun k => X2 k ∨ Z2 k)) : RowOut u' a zs X2 Z2 := by
  refine ⟨⟨h.row.1, h.row.2.imp id ?_⟩, h.out⟩
  rintro ⟨bb, off, e, hx⟩
  exact ⟨bb, off, e, fun j hj => (cell_kept (hc.block bb (lt_of_cell (hx j hj)) (h.out _ e)) _).trans (hx j hj)⟩
section
variable (sd : Option (Nat × Obj)) (w u : World) (p b q c : Nat) (S : DS) (l : LS) (S2 : DS) (l2 : LS) (dn : Bool)
theorem du_append (s zs : List Int) (a : Option Addr) (cc n : Nat) (room : Int) (i : Nat) (h : Duo sd w u p b q c S l S2 l2 dn) (hA : Agr S l dn room i) (hr : 0 ≤ room ∧ room ≤ 5000) (hi : i ≤ 200) (hs : By s) (hl : s.length ≤ 1000) (hn : zs.length = n) (hb : n ≤ 1000) (hrow : Row w a zs) (hnil : a = none → n = 0 ∧ cc = 0) :
    Calls Try.prog 26 #[.pointer (some ⟨b, 0, none⟩), .string (strOfNums s), .slice a n cc] u fun e w' => e = .returned (.int .i64 (S.append s zs).1) ∧ Duo sd w w' p b q c (S.append s zs).2 l S2 l2 dn := by
  obtain ⟨X, Z, X2, Z2, h⟩ := h
  have hsz := hA.size
  have hrm := hA.rm
  have hfw := hA.few
  refine (dappend_any b S X s zs a cc n u h.pd.disk hs (by omega) (by omega) (by omega) (by omega) hn (hrow.below h.below (Nat.le_refl _)) hnil (by omega)).mono ?_
  rintro e w' ⟨X', rfl, a1, a2⟩
  exact ⟨rfl, X', Z, X2, Z2, h.disk a1 a2 hA.lv (.inl (append_turn S s zs))⟩
theorem du_rappend (s zs : List Int) (a : Option Addr) (cc n : Nat) (room : Int) (i : Nat) (h : Duo sd w u p b q c S2 l2 S l dn) (hA : Agr S l dn room i) (hr : 0 ≤ room ∧ room ≤ 5000) (hi : i ≤ 200) (hs : By s) (hl : s.length ≤ 1000) (hn : zs.length = n) (hb : n ≤ 1000) (hrow : Row w a zs) (hnil : a = none → n = 0 ∧ cc = 0) :
    Calls Try.prog 27 #[.pointer (some ⟨c, 0, none⟩), .string (strOfNums s), .slice a n cc] u fun e w' => e = .returned (.int .i64 (S.append s zs).1) ∧ Duo sd w w' p b q c S2 l2 (S.append s zs).2 l dn := by
  obtain ⟨X, Z, X2, Z2, h⟩ := h
  have hsz := hA.size
  have hrm := hA.rm
  have hfw := hA.few
  refine (rdappend_any c S X2 s zs a cc n u h.wd.disk hs (by omega) (by omega) (by omega) (by omega) hn (hrow.below h.below (Nat.le_refl _)) hnil (by omega)).mono ?_
  rintro e w' ⟨X', rfl, a1, a2⟩
  exact ⟨rfl, X, Z, X', Z2, h.disk2 a1 a2⟩
theorem du_open (room : Int) (i : Nat) (h : Duo sd w u p b q c S l S2 l2 dn) (hA : Agr S l dn room i) (hr : room ≤ 5000) (ho : S.off = false) :
    Calls Try.prog 11 #[.pointer (some ⟨b, 0, none⟩), .string ⟨#[108, 111, 103]⟩] u fun e w' => ∃ p', e = .returned (.tuple #[.pointer (some ⟨p', 0, none⟩), .int .i64 0]) ∧ Duo sd w w' p' b q c (S.opened logS) (S.log logS) S2 l2 dn := by
  obtain ⟨X, Z, X2, Z2, h⟩ := h
  have hsz := hA.size
  refine (wopen_ok w.heap.size b S X logS u h.pd.disk h.below.size ho may_log' (by omega)).mono ?_
  rintro e w' ⟨p', X', Z', rfl, a1, a2, a3⟩
  exact ⟨p', rfl, X', Z', X2, Z2, h.prog a1 (a2.chg.mono (fun k _ x => .inl x)) (fun k x => (a2.new k x).1) (fun k x => .inr (a3 k x))⟩
theorem du_ropen (room : Int) (i : Nat) (h : Duo sd w u p b q c S2 l2 S l dn) (hA : Agr S l dn room i) (hr : room ≤ 5000) (ho : S.off = false) :
    Calls Try.prog 20 #[.pointer (some ⟨c, 0, none⟩), .string ⟨#[108, 111, 103]⟩] u fun e w' => ∃ q', e = .returned (.tuple #[.pointer (some ⟨q', 0, none⟩), .int .i64 0]) ∧ Duo sd w w' p b q' c S2 l2 (S.opened logS) (S.log logS) false := by
  obtain ⟨X, Z, X2, Z2, h⟩ := h
  have hsz := hA.size
  cases hf : findN S.fs logS with
  | none =>
    refine (ropen_none w.heap.size c S X2 logS u h.wd.disk h.below.size ho may_log' hf).mono ?_
    rintro e w' ⟨q', Z', rfl, a1, a2, a3⟩
    exact ⟨q', rfl, X, Z, X2, Z', h.doc a1 (Chg.of_below a2 _) (fun k x => .inl x) (fun k x => .inr (a3 k x))⟩
  | some j =>
    refine (ropen_file w.heap.size c S X2 logS u h.wd.disk h.below.size ho may_log' j hf (by omega)).mono ?_
    rintro e w' ⟨q', X', Z', rfl, a1, a2, a3⟩
    exact ⟨q', rfl, X, Z, X', Z', h.doc a1 (a2.chg.mono (fun k _ x => .inl x)) (fun k x => (a2.new k x).1) (fun k x => .inr (a3 k x))⟩
theorem du_openoff (h : Duo sd w u p b q c S l S2 l2 dn) (hlv : l.lives ≤ S.lives) (ho : S.off = true) :
    Calls Try.prog 11 #[.pointer (some ⟨b, 0, none⟩), .string ⟨#[108, 111, 103]⟩] u fun e w' => e = .returned (.tuple #[.pointer none, .int .i64 7]) ∧ Duo sd w w' p b q c S l S2 l2 dn := by
  obtain ⟨X, Z, X2, Z2, h⟩ := h
  refine (wopen_off b S X logS u h.pd.disk ho (may_by _ may_log') (by decide)).mono ?_
  rintro e w' ⟨rfl, X', a1, a2⟩
  exact ⟨rfl, X', Z, X2, Z2, h.disk a1 a2 hlv (.inl ⟨rfl, rfl⟩)⟩
theorem du_ropenoff (h : Duo sd w u p b q c S2 l2 S l dn) (ho : S.off = true) :
    Calls Try.prog 20 #[.pointer (some ⟨c, 0, none⟩), .string ⟨#[108, 111, 103]⟩] u fun e w' => e = .returned (.tuple #[.pointer none, .int .i64 7]) ∧ Duo sd w w' p b q c S2 l2 S l dn := by
  have hh := h
  obtain ⟨X, Z, X2, Z2, h⟩ := h
  refine (ropen_off c S X2 logS u h.wd.disk ho).mono ?_
  rintro e w' ⟨rfl, rfl⟩
  exact ⟨rfl, hh⟩
theorem du_len (h : Duo sd w u p b q c S l S2 l2 dn) :
    Calls Try.prog 13 #[.pointer (some ⟨p, 0, none⟩)] u fun e w' => e = .returned (.int .i64 (l.L.length : Nat)) ∧ Duo sd w w' p b q c S l S2 l2 dn := by
  obtain ⟨X, Z, X2, Z2, h⟩ := h
  exact (wlen_any _ p b S l X Z u h.pd).mono (by rintro e w' ⟨rfl, a1⟩; exact ⟨rfl, X, Z, X2, Z2, h.past a1⟩)
theorem du_safe (h : Duo sd w u p b q c S l S2 l2 dn) :
    Calls Try.prog 19 #[.pointer (some ⟨p, 0, none⟩)] u fun e w' => e = .returned (.int .i64 (l.safe : Nat)) ∧ Duo sd w w' p b q c S l S2 l2 dn := by
  obtain ⟨X, Z, X2, Z2, h⟩ := h
  exact (wsafe_any _ p b S l X Z u h.pd).mono (by rintro e w' ⟨rfl, a1⟩; exact ⟨rfl, X, Z, X2, Z2, h.past a1⟩)
/-- What the document's log shows of itself. -/
theorem Duo.shows {sd : Option (Nat × Obj)} {w u : World} {p b q c : Nat} {S : DS} {l : LS} {S2 : DS} {l2 : LS} {dn : Bool} (h : Duo sd w u p b q c S l S2 l2 dn) : (∃ a cc, u.cell? ⟨q, 4, none⟩ = some (.slice a l2.L.length cc)) ∧ u.cell? ⟨q, 5, none⟩ = some (.int .i64 (l2.safe : Nat)) := by
  obtain ⟨X, Z, X2, Z2, h⟩ := h
  obtain ⟨a, cc, e, _⟩ := h.wd.log.c4
  exact ⟨⟨a, cc, e⟩, h.wd.log.c5⟩
theorem du_at (n : Int) (h : Duo sd w u p b q c S l S2 l2 dn) :
    Calls Try.prog 14 #[.pointer (some ⟨p, 0, none⟩), .int .i64 n] u fun e w' => ∃ a cc X Z X2 Z2, e = .returned (.tuple #[.slice a (atL S l n).2.length cc, .int .i64 (atL S l n).1]) ∧ DuoI sd w w' p b q c S l S2 l2 dn X Z X2 Z2 ∧ RowOut w' a (atL S l n).2 X2 Z2 := by
  obtain ⟨X, Z, X2, Z2, h⟩ := h
  by_cases hin : offN S l = false ∧ 0 ≤ n ∧ n < (l.L.length : Int)
  · obtain ⟨h1, h2, h3⟩ := hin
    obtain ⟨N, rfl⟩ : ∃ N : Nat, n = (N : Int) := ⟨n.toNat, by omega⟩
    have e : atL S l (N : Int) = (0, l.L.getD N []) := by unfold atL; rw [if_neg (by rw [h1]; simp), if_neg (by omega)]; rfl
    rw [e]
    refine (wat_in _ p b S l X Z N u h.pd h1 (by omega)).mono ?_
    rintro e w' ⟨a, cc, rfl, a1, a2, a3, a4, a5, a6⟩
    refine ⟨a, cc, X, Z, X2, Z2, rfl, h.past a1, a2, fun ad ha y => ?_⟩
    rcases a6 ad ha with x | x
    · exact h.far _ (.inr x) y
    · have := h.wd.lt _ y; omega
  · have hout : offN S l = true ∨ n < 0 ∨ (l.L.length : Int) ≤ n := by
      cases ho : offN S l with
      | true => exact .inl rfl
      | false =>
        right
        rcases Int.lt_or_le n 0 with h' | h'
        · exact .inl h'
        · rcases Int.lt_or_le n (l.L.length : Int) with h'' | h''
          · exact absurd ⟨ho, h', h''⟩ hin
          · exact .inr h''
    have e : (atL S l n).2 = [] := by
      unfold atL
      rcases hout with x | x
      · rw [if_pos x]
      · by_cases ho : offN S l = true
        · rw [if_pos ho]
        · rw [if_neg ho, if_pos x]
    rw [e]
    refine (wat_out _ p b S l X Z n u h.pd hout).mono ?_
    rintro e w' ⟨cc, X', Z', rfl, a1, a2⟩
    exact ⟨none, cc, X', Z', X2, Z2, rfl, h.did a1 a2, Row.nil _ _, fun ad ha => by cases ha⟩
theorem at_same {S : DS} {l : LS} {dn : Bool} {room : Int} {i : Nat} (h : Agr S l dn room i) (n : Int) : atD S l dn n = atL S l n := by
  unfold atD atL
  rw [h.done]
theorem du_rat (n : Int) (room : Int) (i : Nat) (X Z X2 Z2 : Foot) (a : Option Addr) (zs : List Int) (h : DuoI sd w u p b q c S2 l2 S l dn X Z X2 Z2) (hA : Agr S l dn room i) (hr : RowOut u a zs X2 Z2) :
    Calls Try.prog 28 #[.pointer (some ⟨q, 0, none⟩), .int .i64 n] u fun e w' => ∃ a2 cc, e = .returned (.tuple #[.slice a2 (atL S l n).2.length cc, .int .i64 (atL S l n).1]) ∧ Duo sd w w' p b q c S2 l2 S l (doneN S l dn) ∧ Row w' a zs ∧ Row w' a2 (atL S l n).2 := by
  have hc := rat_any w.heap.size q c S l dn X2 Z2 n u h.wd
  rw [at_same hA] at hc
  refine hc.mono ?_
  rintro e w' ⟨a2, cc, rfl, a1, d, hx⟩
  exact ⟨a2, cc, rfl, ⟨X, Z, X2, Z2, h.did2 a1 d⟩, (hr.kept d.chg).row, hx.row⟩
theorem du_read (room : Int) (i : Nat) (h : Duo sd w u p b q c S l S2 l2 dn) (hA : Agr S l dn room i) (hr : room ≤ 5000) :
    Calls Try.prog 29 #[.pointer (some ⟨b, 0, none⟩), .string ⟨#[108, 111, 103]⟩] u fun e w' => ∃ a cc, e = .returned (.tuple #[.slice a (S.read logS).2.length cc, .int .i64 (S.read logS).1]) ∧ Duo sd w w' p b q c S l S2 l2 dn ∧ Row w' a (S.read logS).2 := by
  have hg := h.agr_good
  obtain ⟨X, Z, X2, Z2, h⟩ := h
  have hsz := hA.size
  refine (dread_any b S X logS u h.pd.disk (may_by _ may_log') (by decide) (by omega)).mono ?_
  rintro e w' ⟨a, cc, rfl, a1, a2⟩
  refine ⟨a, cc, rfl, ⟨X, Z, X2, Z2, h.past a2⟩, own_row a1 ?_⟩
  intro z hz
  unfold DS.read at hz
  split at hz
  · cases hf : findN S.fs logS with
    | none => rw [hf] at hz; simp at hz
    | some j =>
      obtain ⟨f, hj, _⟩ := find_file _ _ _ hf
      rw [hf] at hz
      simp only [file_at' hj] at hz
      exact hg.bytes f (List.mem_of_getElem? hj) z hz
  · simp at hz
theorem du_rread (room : Int) (i : Nat) (a : Option Addr) (zs : List Int) (h : Duo sd w u p b q c S2 l2 S l dn) (hr : Row u a zs) :
    Calls Try.prog 30 #[.pointer (some ⟨c, 0, none⟩), .string ⟨#[108, 111, 103]⟩] u fun e w' => ∃ a2 cc, e = .returned (.tuple #[.slice a2 (S.read logS).2.length cc, .int .i64 (S.read logS).1]) ∧ Duo sd w w' p b q c S2 l2 S l dn ∧ Row w' a zs ∧ Row w' a2 (S.read logS).2 := by
  have hh := h
  obtain ⟨X, Z, X2, Z2, h⟩ := h
  refine (rdread_any c S X2 logS u h.wd.disk (may_by _ may_log') (by decide)).mono ?_
  rintro e w' ⟨a2, cc, rfl, rfl, hx⟩
  exact ⟨a2, cc, rfl, hh, hr, hx.row⟩
end
end Go.Proofs.Ytlfmhdljldbjmaa
