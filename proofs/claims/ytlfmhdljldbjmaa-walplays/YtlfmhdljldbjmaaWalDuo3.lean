/-
  The program's disk and log beside the document's own: how both begin.
-/
import Derived.Test.YtlfmhdljldbjmaaWalDuo2
namespace Go.Proofs.Ytlfmhdljldbjmaa
open Go.RowKit
set_option linter.unusedVariables false

/-- A log of the program's is open, the document's disk lies beside it. -/
def Half (w u : World) (p b c : Nat) (room : Int) : Prop := ∃ X Z, PD u w.heap.size p b (newDS room) ⟨logS, 1, false, [], 0⟩ X Z ∧ DiskR u c (newDS room) (fun k => k = c) ∧ Below w.heap.size w u ∧ (∀ k, X k → w.heap.size ≤ k) ∧ w.heap.size ≤ c ∧ ¬ (X c ∨ Z c)
theorem new_disk (u : World) (room : Int) (hr : 0 ≤ room) : DiskR (u.alloc (.cells #[.int .i64 room, .slice none 0 0, .bool false, .int .i64 1] 41)) u.heap.size (newDS room) (fun k => k = u.heap.size) := by
  have hnew : (u.alloc (.cells #[.int .i64 room, .slice none 0 0, .bool false, .int .i64 1] 41)).heap[u.heap.size]? = some (.cells #[.int .i64 room, .slice none 0 0, .bool false, .int .i64 1] 41 (0, 0)) := heap_alloc_new u _
  have hs : (u.alloc (.cells #[.int .i64 room, .slice none 0 0, .bool false, .int .i64 1] 41)).heap.size = u.heap.size + 1 := by simp
  generalize u.alloc (.cells #[.int .i64 room, .slice none 0 0, .bool false, .int .i64 1] 41) = v at hnew hs
  refine ⟨rfl, fun k e => by omega, ?_, ?_, ?_, fun j => ?_, .inl ⟨?_, rfl⟩, ⟨fun f hf => (by cases hf), fun f hf => (by cases hf), fun f hf => (by cases hf)⟩, Nat.zero_le _⟩
  all_goals simp [World.cell?, World.frozen?, hnew, newDS]
theorem opened_start (room : Int) : (newDS room).opened logS = newDS room ∧ (newDS room).log logS = ⟨logS, 1, false, [], 0⟩ := ⟨rfl, rfl⟩
theorem du_start1 (w u : World) (b : Nat) (X : Foot) (room : Int) (h : DT w u b (newDS room) X) (hr : 0 ≤ room) :
    Calls Try.prog 11 #[.pointer (some ⟨b, 0, none⟩), .string ⟨#[108, 111, 103]⟩] (u.alloc (.cells #[.int .i64 room, .slice none 0 0, .bool false, .int .i64 1] 41)) fun e w' => ∃ p, e = .returned (.tuple #[.pointer (some ⟨p, 0, none⟩), .int .i64 0]) ∧ Half w w' p b u.heap.size room := by
  have hb : Below u.heap.size u (u.alloc (.cells #[.int .i64 room, .slice none 0 0, .bool false, .int .i64 1] 41)) := (Below.refl _ _).alloc (Nat.le_refl _) _
  have hd := new_disk u room hr
  have hs : (u.alloc (.cells #[.int .i64 room, .slice none 0 0, .bool false, .int .i64 1] 41)).heap.size = u.heap.size + 1 := by simp
  generalize u.alloc (.cells #[.int .i64 room, .slice none 0 0, .bool false, .int .i64 1] 41) = v at hb hd hs ⊢
  have hv := h.past hb
  refine (wopen_ok w.heap.size b (newDS room) X logS v hv.disk hv.below.size rfl may_log' (by simp [newDS, sizeN])).mono ?_
  rintro e w' ⟨p, X', Z, rfl, a1, a2, a3⟩
  rw [(opened_start room).1, (opened_start room).2] at a1
  have hr := hv.did a1.disk a2
  have hXc : ¬ X u.heap.size := fun x => by have := h.disk.lt _ x; omega
  refine ⟨p, rfl, X', Z, a1, hd.kept a2.chg.size (fun k e => ?_), hr.below, hr.lo, h.below.size, fun x => ?_⟩
  · subst e; exact a2.chg.block _ (by omega) hXc
  · rcases x with x | x
    · rcases (a2.new _ x).1 with y | y
      · exact hXc y
      · omega
    · have := a3 _ x; omega
theorem du_start2 (w u : World) (p b c : Nat) (room : Int) (h : Half w u p b c room) :
    Calls Try.prog 20 #[.pointer (some ⟨c, 0, none⟩), .string ⟨#[108, 111, 103]⟩] u fun e w' => ∃ q, e = .returned (.tuple #[.pointer (some ⟨q, 0, none⟩), .int .i64 0]) ∧ Duo none w w' p b q c (newDS room) ⟨logS, 1, false, [], 0⟩ (newDS room) ⟨logS, 1, false, [], 0⟩ false := by
  obtain ⟨X, Z, h1, h2, h3, h4, h5, h6⟩ := h
  refine (ropen_none w.heap.size c (newDS room) (fun k => k = c) logS u h2 h3.size rfl may_log' rfl).mono ?_
  rintro e w' ⟨q, Z2, rfl, a1, a2, a3⟩
  rw [(opened_start room).1, (opened_start room).2] at a1
  refine ⟨q, rfl, X, Z, fun k => k = c, Z2, h1.kept a2.size (fun k x => a2.block k (h1.lt k x)), a1, h3.trans (a2.mono h3.size), h4, fun k e => by rw [e]; exact h5, fun k x y => ?_, fun xb o e => by cases e⟩
  rcases y with y | y
  · rw [y] at x; exact h6 x
  · have := h1.lt k x; have := a3 k y; omega
theorem start_agr (room : Int) (hr : 0 ≤ room) : Agr (newDS room) ⟨logS, 1, false, [], 0⟩ false room 0 :=
  ⟨(fun e => by cases e), (fun e => by cases e), Int.le_refl _, Int.le_refl _, by show (1 : Int) ≤ 1 + ((0 : Nat) : Int); simp, rfl, rfl, by simp [newDS, sizeN]; exact hr, Nat.zero_le _, Nat.zero_le _⟩
theorem Duo.free {sd : Option (Nat × Obj)} {w u : World} {p b q c : Nat} {S : DS} {l : LS} {S2 : DS} {l2 : LS} {dn : Bool} (h : Duo sd w u p b q c S l S2 l2 dn) : Duo none w u p b q c S l S2 l2 dn := by
  obtain ⟨X, Z, X2, Z2, h⟩ := h
  exact ⟨X, Z, X2, Z2, h.pd, h.wd, h.below, h.lo, h.lo2, h.far, fun xb o e => by cases e⟩
theorem Duo.below {sd : Option (Nat × Obj)} {w u : World} {p b q c : Nat} {S : DS} {l : LS} {S2 : DS} {l2 : LS} {dn : Bool} (h : Duo sd w u p b q c S l S2 l2 dn) : Below w.heap.size w u := by
  obtain ⟨X, Z, X2, Z2, h⟩ := h
  exact h.below
theorem Duo.past {sd : Option (Nat × Obj)} {w u u' : World} {p b q c : Nat} {S : DS} {l : LS} {S2 : DS} {l2 : LS} {dn : Bool} (h : Duo sd w u p b q c S l S2 l2 dn) (hb : Below u.heap.size u u') : Duo sd w u' p b q c S l S2 l2 dn := by
  obtain ⟨X, Z, X2, Z2, h⟩ := h
  exact ⟨X, Z, X2, Z2, h.past hb⟩
/-- Len and Safe leave what the document's log shows of itself. -/
theorem du_len3 {sd : Option (Nat × Obj)} (w u : World) (p b q c : Nat) (S : DS) (l : LS) (dn : Bool) (v4 v5 : Value) (h : Duo sd w u p b q c S l S l dn) (h4 : u.cell? ⟨q, 4, none⟩ = some v4) (h5 : u.cell? ⟨q, 5, none⟩ = some v5) :
    Calls Try.prog 13 #[.pointer (some ⟨p, 0, none⟩)] u fun e w' => e = .returned (.int .i64 (l.L.length : Nat)) ∧ Duo sd w w' p b q c S l S l dn ∧ w'.cell? ⟨q, 4, none⟩ = some v4 ∧ w'.cell? ⟨q, 5, none⟩ = some v5 := by
  obtain ⟨X, Z, X2, Z2, h⟩ := h
  exact (wlen_any _ p b S l X Z u h.pd).mono (by rintro e w' ⟨rfl, a1⟩; exact ⟨rfl, ⟨X, Z, X2, Z2, h.past a1⟩, (a1.cell (p := ⟨q, 4, none⟩) (lt_of_cell h4)).trans h4, (a1.cell (p := ⟨q, 5, none⟩) (lt_of_cell h5)).trans h5⟩)
theorem du_safe3 {sd : Option (Nat × Obj)} (w u : World) (p b q c : Nat) (S : DS) (l : LS) (dn : Bool) (v4 v5 : Value) (h : Duo sd w u p b q c S l S l dn) (h4 : u.cell? ⟨q, 4, none⟩ = some v4) (h5 : u.cell? ⟨q, 5, none⟩ = some v5) :
    Calls Try.prog 19 #[.pointer (some ⟨p, 0, none⟩)] u fun e w' => e = .returned (.int .i64 (l.safe : Nat)) ∧ Duo sd w w' p b q c S l S l dn ∧ w'.cell? ⟨q, 4, none⟩ = some v4 ∧ w'.cell? ⟨q, 5, none⟩ = some v5 := by
  obtain ⟨X, Z, X2, Z2, h⟩ := h
  exact (wsafe_any _ p b S l X Z u h.pd).mono (by rintro e w' ⟨rfl, a1⟩; exact ⟨rfl, ⟨X, Z, X2, Z2, h.past a1⟩, (a1.cell (p := ⟨q, 4, none⟩) (lt_of_cell h4)).trans h4, (a1.cell (p := ⟨q, 5, none⟩) (lt_of_cell h5)).trans h5⟩)
/-- Both, and what the document's log shows. -/
structure LenD (sd : Option (Nat × Obj)) (w u : World) (p b q c : Nat) (S : DS) (l : LS) (dn : Bool) (v4 v5 : Value) : Prop where
  duo : Duo sd w u p b q c S l S l dn
  c4 : u.cell? ⟨q, 4, none⟩ = some v4
  c5 : u.cell? ⟨q, 5, none⟩ = some v5
/-- An act in a block of its own, beside both. -/
abbrev actO (op n y : Int) (s : List Int) (xa : Option Addr) (m xc : Nat) (la : Option Addr) (ln lc : Nat) : Obj := .cells #[.int .i64 op, .int .i64 n, .int .u8 y, .string (strOfNums s), .slice xa m xc, .slice la ln lc] 47 (0, 0)
theorem Duo.act {sd : Option (Nat × Obj)} {w u : World} {p b q c : Nat} {S : DS} {l : LS} {S2 : DS} {l2 : LS} {dn : Bool} (h : Duo sd w u p b q c S l S2 l2 dn) (op n y : Int) (s : List Int) (xa : Option Addr) (m xc : Nat) (la : Option Addr) (ln lc : Nat) :
    Duo (some (u.heap.size, actO op n y s xa m xc la ln lc)) w (u.alloc (.cells #[.int .i64 op, .int .i64 n, .int .u8 y, .string (strOfNums s), .slice xa m xc, .slice la ln lc] 47)) p b q c S l S2 l2 dn := by
  obtain ⟨X, Z, X2, Z2, h⟩ := h
  exact ⟨X, Z, X2, Z2, h.beside ((Below.refl _ _).alloc (Nat.le_refl _) _) _ _ (heap_alloc_new u _) (Nat.le_refl _)⟩
/-- What is read of it. -/
structure ActX (u : World) (xb : Nat) (op n y : Int) (s : List Int) (xa : Option Addr) (m xc : Nat) (la : Option Addr) (ln lc : Nat) : Prop where
  c0 : u.cell? ⟨xb, 0, none⟩ = some (.int .i64 op)
  c1 : u.cell? ⟨xb, 1, none⟩ = some (.int .i64 n)
  c2 : u.cell? ⟨xb, 2, none⟩ = some (.int .u8 y)
  c3 : u.cell? ⟨xb, 3, none⟩ = some (.string (strOfNums s))
  c4 : u.cell? ⟨xb, 4, none⟩ = some (.slice xa m xc)
  c5 : u.cell? ⟨xb, 5, none⟩ = some (.slice la ln lc)
theorem Duo.actx {w u : World} {p b q c xb : Nat} {S : DS} {l : LS} {S2 : DS} {l2 : LS} {dn : Bool} {op n y : Int} {s : List Int} {xa : Option Addr} {m xc : Nat} {la : Option Addr} {ln lc : Nat} (h : Duo (some (xb, actO op n y s xa m xc la ln lc)) w u p b q c S l S2 l2 dn) : ActX u xb op n y s xa m xc la ln lc := by
  obtain ⟨X, Z, X2, Z2, h⟩ := h
  have hk := (h.side xb _ rfl).1
  exact ⟨by simp [World.cell?, hk], by simp [World.cell?, hk], by simp [World.cell?, hk], by simp [World.cell?, hk], by simp [World.cell?, hk], by simp [World.cell?, hk]⟩
end Go.Proofs.Ytlfmhdljldbjmaa
