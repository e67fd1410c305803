/-
  Stretches that a store tells, side by side.
-/
import Derived.Test.YtfaojmognbgnfaaStoL4
namespace Go.Proofs.Ytfaojmognbgnfaa
open Go.RowKit
set_option linter.unusedVariables false

/-- Three keys and a stamp in boxes. -/
structure KsB (w u : World) (a m b : List Int) (t n : Int) : Prop where
  a : KeyAt u w.heap.size 0 a
  m : KeyAt u (w.heap.size + 1) 0 m
  b : KeyAt u (w.heap.size + 1 + 1) 0 b
  c0 : u.cell? ⟨w.heap.size + 1 + 1 + 1, 0, none⟩ = some (.int .i64 t)
  c1 : u.cell? ⟨w.heap.size + 1 + 1 + 1, 1, none⟩ = some (.int .u8 n)
theorem KsB.made (w : World) {a m b : List Int} (ha : Ky a) (hm : Ky m) (hb : Ky b) (t n : Int) (T T' : TypeId) : KsB w ((((w.alloc (.cells (kcs a) T)).alloc (.cells (kcs m) T)).alloc (.cells (kcs b) T)).alloc (.cells #[.int .i64 t, .int .u8 n] T')) a m b t n := by
  obtain ⟨u1, h1⟩ : ∃ u, u = w.alloc (.cells (kcs a) T) := ⟨_, rfl⟩
  obtain ⟨u2, h2⟩ : ∃ u, u = u1.alloc (.cells (kcs m) T) := ⟨_, rfl⟩
  obtain ⟨u3, h3⟩ : ∃ u, u = u2.alloc (.cells (kcs b) T) := ⟨_, rfl⟩
  have e1 : u1.heap.size = w.heap.size + 1 := by rw [h1]; simp
  have e2 : u2.heap.size = w.heap.size + 1 + 1 := by rw [h2, World.size_alloc, e1]
  have e3 : u3.heap.size = w.heap.size + 1 + 1 + 1 := by rw [h3, World.size_alloc, e2]
  have k1 : KeyAt u1 w.heap.size 0 a := by rw [h1]; exact KeyAt.made w T a ha
  have k2 : KeyAt u2 (w.heap.size + 1) 0 m := by rw [h2, ← e1]; exact KeyAt.made u1 T m hm
  have k3 : KeyAt u3 (w.heap.size + 1 + 1) 0 b := by rw [h3, ← e2]; exact KeyAt.made u2 T b hb
  have b2 : Below u1.heap.size u1 u2 := by rw [h2]; exact (Below.refl _ _).alloc (Nat.le_refl _) _
  have b3 : Below u2.heap.size u2 u3 := by rw [h3]; exact (Below.refl _ _).alloc (Nat.le_refl _) _
  have b4 : Below u3.heap.size u3 (u3.alloc (.cells #[.int .i64 t, .int .u8 n] T')) := (Below.refl _ _).alloc (Nat.le_refl _) _
  have f0 := range_made u3 [.int .i64 t, .int .u8 n] T' 0 _ rfl
  have f1 := range_made u3 [.int .i64 t, .int .u8 n] T' 1 _ rfl
  rw [e3] at f0 f1
  rw [← h1, ← h2, ← h3]
  exact ⟨((k1.past b2).past b3).past b4, (k2.past b3).past b4, k3.past b4, f0, f1⟩
theorem KsB.past {w u u' : World} {a m b : List Int} {t n : Int} (h : KsB w u a m b t n) (hb : Below u.heap.size u u') : KsB w u' a m b t n :=
  ⟨h.a.past hb, h.m.past hb, h.b.past hb, (hb.cell (p := ⟨w.heap.size + 1 + 1 + 1, 0, none⟩) (cell_lt h.c0)).trans h.c0, (hb.cell (p := ⟨w.heap.size + 1 + 1 + 1, 1, none⟩) (cell_lt h.c0)).trans h.c1⟩
/-- Items that lie in a list all new since U. -/
structure ScA (U u : World) (a : Option Addr) (N c : Nat) (R : List Itm) : Prop where
  own : OwnB 41 17 U u (.slice a N c) N (R.flatMap encI)
  len : R.length = N
  oks : ∀ x ∈ R, ItmOk x
theorem ScA.past {U u u' : World} {a : Option Addr} {N c : Nat} {R : List Itm} (h : ScA U u a N c R) (hb : Below u.heap.size u u') : ScA U u' a N c R := ⟨h.own.past hb, h.len, h.oks⟩
theorem ScA.itms {U u : World} {a : Option Addr} {N c : Nat} {R : List Itm} (h : ScA U u a N c R) : ItmsAt u a R ∧ N ≤ c := by
  obtain ⟨a', c', e1, e2, e3⟩ := own_itms h.own.own h.len h.oks
  injection e1 with e4 e5 e6
  rw [e4, e6]
  exact ⟨e3, e2⟩
theorem xscan_own {w U u : World} {p : Nat} {L : List Ver} (h : StX w u p L) (hU : Below U.heap.size U u) (a b : List Int) (ha : Ky a) (hb : Ky b) (t n : Int) (R : List Itm) (hR : R = scanV L a b t n) (N : Nat) (hN : R.length = N) :
    Calls Try.prog 13 #[.pointer (some ⟨p, 0, none⟩), kv a, kv b, .agg #[.int .i64 t, .int .u8 n], .int .i64 300] u fun e w' => ∃ a' c', e = .returned (.slice a' N c') ∧ ScA U w' a' N c' R ∧ Below u.heap.size u w' := by
  have hs := h.sto
  obtain ⟨X, h1, _⟩ := h
  have hc := sscan_own p L X a b ha hb t n 300 (by omega) u h1
  rw [scan_all300 hs, ← hR, hN] at hc
  refine hc.mono ?_
  rintro e w' ⟨⟨a', c', e1, e2, e3, e4⟩, hbl⟩
  exact ⟨a', c', e1, ⟨⟨own_down e4 hU.size, hU.trans (hbl.mono hU.size)⟩, hN, e2.oks⟩, hbl⟩
/-- Two stretches are put side by side. -/
theorem step_side {U u : World} {ops : Array Oper} {o : Oper} {a : Act} {K : Act → World → Prop} {Q : Exit → Act → World → Prop} {X : Prop} (hgd : o.guard = none) (s x : Operand)
    (ho : o.op = .call { callee := .builtin .append, args := #[s, x], argTypes := #[35, 35] }) {a1 a2 : Option Addr} {N1 N2 c1 c2 : Nat} {R1 R2 : List Itm} (h1 : ScA U u a1 N1 c1 R1) (h2 : ScA U u a2 N2 c2 R2) (hs : a.eval s = .slice a1 N1 c1) (hx : a.eval x = .slice a2 N2 c2)
    (N : Nat) (hN : N1 + N2 = N) (hle : N ≤ 1000000) (R : List Itm) (hR : R1 ++ R2 = R) (h : ∀ a' c' w', ScA U w' a' N c' R → K (a.put o.dst (.slice a' N c')) w') :
    if Region.wanted o (yielded ops a.tmps) = true then Oper.wp Try.prog o a u K Q else X := by
  have hl : (R2.flatMap encI).length = N2 * 17 := h2.own.own.1
  have hlie : Lies u a2 (R2.flatMap encI) := by
    have h9 := h2.own.own
    rcases h9.2 with ⟨e1, e2⟩ | ⟨g, cap, cur, e1, _⟩
    · injection e1 with e3 _ _
      rw [e3]
      exact lies_none _ _
    · injection e1 with e3 _ e5
      rw [e3] at h9 ⊢
      exact own_lies h9
  refine step_own itmEl (w0 := U) hgd s x ho (.slice a1 N1 c1) N1 (R1.flatMap encI) (R2.flatMap encI) hs h1.own a2 N2 c2 hx hl hlie ?_ ?_ N hN hle (R.flatMap encI) (by rw [← hR, List.flatMap_append]) ?_
  · intro v hv
    obtain ⟨y, hy, hv⟩ := List.mem_flatMap.1 hv
    exact encI_one y v hv
  · intro e
    rcases h2.own.own.2 with ⟨e1, e2⟩ | ⟨g, cap, cur, e1, _⟩
    · injection e1 with _ e4 e5; exact ⟨e2, e5⟩
    · injection e1 with e3 _ _; rw [e] at e3; cases e3
  · intro a' c' w' hown hg
    refine h a' c' w' ⟨hown, ?_, fun x hx => ?_⟩
    · rw [← hR, List.length_append, h1.len, h2.len, hN]
    · rw [← hR] at hx
      rcases List.mem_append.1 hx with hx | hx
      · exact h1.oks x hx
      · exact h2.oks x hx
end Go.Proofs.Ytfaojmognbgnfaa
