/-
  A landed table beside the document's own, and beside blocks that stay as they are.
-/
import Derived.Test.YthgkbabikeknlaaPrepL3
import Derived.Test.YthgkbabikeknlaaRefPrep6
import Derived.Deep.CutBlock
import Derived.Deep.DeepCutAuto
namespace Go.Proofs.Ythgkbabikeknlaa
open Go.RowKit
set_option linter.unusedVariables false

/-- The document's table in q has no block of X. -/
def FarT (u : World) (q : Nat) (M : List EntM) (X : Foot) : Prop := ¬ X q ∧ (∀ v, u.cell? ⟨q, 0, none⟩ = some v → ∀ g, v.ownBlock = some g → ¬ X g) ∧ ∀ x ∈ M, x.e.l ≠ [] → ∀ b o, x.a = some ⟨b, o, none⟩ → ¬ X b
theorem TabR.rowlt {u : World} {B q : Nat} {M : List EntM} (h : TabR u B q M) : ∀ v, u.cell? ⟨q, 0, none⟩ = some v → ∀ g, v.ownBlock = some g → g < u.heap.size := fun v hv g hg => by
  obtain ⟨a, c, h1, h2, _⟩ := h.list
  rw [h1] at hv
  injection hv with hv
  rw [← hv] at hg
  exact (h2.lt g hg).2
theorem TabR.keptX {u u' : World} {B q : Nat} {M : List EntM} {X : Foot} (h : TabR u B q M) (hf : FarT u q M X) (hc : Chg u u' X) : TabR u' B q M := by
  obtain ⟨a, c, h1, h2, h3⟩ := h.list
  have hq := hc.block q h.lt hf.1
  exact ⟨Nat.lt_of_lt_of_le h.lt hc.size, h.lo, ⟨a, c, (cell_kept hq 0).trans h1, row_keptT h2 (fun k e => hc.block k (h2.lt k e).2 (hf.2.1 _ h1 k e)), h3⟩, (frozen_kept hq 0).trans h.free, fun x hx => (h.wrs x hx).kept (fun hl b o e => hc.block b ((h.wrs x hx).wr.blt hl e) (hf.2.2 x hx hl b o e)), h.far, h.few⟩
/-- The landed table in p, the document's in q, since W; the blocks of F are no part of either. -/
def DuoP (W u : World) (p q : Nat) (M M2 : List EntM) (F : Foot) : Prop := ∃ X, PTab u p M X ∧ TabR u W.heap.size q M2 ∧ FarT u q M2 X ∧ (∀ x ∈ M, x.e.l ≠ [] → ∀ b o, x.a = some ⟨b, o, none⟩ → b ≠ q) ∧ Below W.heap.size W u ∧ (∀ k, X k → W.heap.size ≤ k) ∧ ∀ k, F k → k < u.heap.size ∧ ¬ X k ∧ k ≠ q
theorem DuoP.below {W u : World} {p q : Nat} {M M2 : List EntM} {F : Foot} (h : DuoP W u p q M M2 F) : Below W.heap.size W u := by obtain ⟨X, _, _, _, _, h, _⟩ := h; exact h
theorem DuoP.ptab {W u : World} {p q : Nat} {M M2 : List EntM} {F : Foot} (h : DuoP W u p q M M2 F) : ∃ X, PTab u p M X := by obtain ⟨X, h, _⟩ := h; exact ⟨X, h⟩
theorem DuoP.tabr {W u : World} {p q : Nat} {M M2 : List EntM} {F : Foot} (h : DuoP W u p q M M2 F) : TabR u W.heap.size q M2 := by obtain ⟨X, _, h, _⟩ := h; exact h
theorem DuoP.past {W u u' : World} {p q : Nat} {M M2 : List EntM} {F : Foot} (h : DuoP W u p q M M2 F) (hb : Below u.heap.size u u') : DuoP W u' p q M M2 F := by
  obtain ⟨X, h1, h2, h3, h4, h5, h6, h7⟩ := h
  exact ⟨X, h1.past hb, h2.past hb, ⟨h3.1, fun v hv => h3.2.1 v ((hb.cell (p := ⟨q, 0, none⟩) h2.lt).symm.trans hv), h3.2.2⟩, h4, h5.trans (hb.mono h5.size), h6, fun k hk => ⟨Nat.lt_of_lt_of_le (h7 k hk).1 hb.size, (h7 k hk).2⟩⟩
theorem DuoP.less {W u : World} {p q : Nat} {M M2 : List EntM} {F G : Foot} (h : DuoP W u p q M M2 F) (hG : ∀ k, G k → F k) : DuoP W u p q M M2 G := by
  obtain ⟨X, h1, h2, h3, h4, h5, h6, h7⟩ := h
  exact ⟨X, h1, h2, h3, h4, h5, h6, fun k hk => h7 k (hG k hk)⟩
/-- What is new since is no part of either. -/
theorem DuoP.more {W u u' : World} {p q : Nat} {M M2 : List EntM} {F G : Foot} (h : DuoP W u p q M M2 F) (hb : Below u.heap.size u u') (hG : ∀ k, G k → F k ∨ u.heap.size ≤ k ∧ k < u'.heap.size) : DuoP W u' p q M M2 G := by
  obtain ⟨X, h1, h2, h3, h4, h5, h6, h7⟩ := h
  refine ⟨X, h1.past hb, h2.past hb, ⟨h3.1, fun v hv => h3.2.1 v ((hb.cell (p := ⟨q, 0, none⟩) h2.lt).symm.trans hv), h3.2.2⟩, h4, h5.trans (hb.mono h5.size), h6, fun k hk => ?_⟩
  rcases hG k hk with e | e
  · exact ⟨Nat.lt_of_lt_of_le (h7 k e).1 hb.size, (h7 k e).2⟩
  · refine ⟨e.2, fun hx => ?_, fun hq => ?_⟩
    · have := h1.lt k hx; omega
    · have := h2.lt; omega
/-- The landed table turns. -/
theorem DuoP.turnP {W u : World} {p q : Nat} {M M2 : List EntM} {F : Foot} (h : DuoP W u p q M M2 F) : ∃ X, PTab u p M X ∧ ∀ u' M' X', PTab u' p M' X' → Did u u' X X' → NewW u M M' → DuoP W u' p q M' M2 F ∧ ∀ k, F k → u'.heap[k]? = u.heap[k]? := by
  obtain ⟨X, h1, h2, h3, h4, h5, h6, h7⟩ := h
  refine ⟨X, h1, fun u' M' X' j1 j2 j3 => ⟨⟨X', j1, h2.keptX h3 j2.chg, ⟨fun hx => ?_, fun v hv g hg hx => ?_, fun x hx hl b o e hX => ?_⟩, fun x hx hl b o e => ?_, h5.trans (j2.chg.below h5.size h6), fun k hk => ?_, fun k hk => ⟨Nat.lt_of_lt_of_le (h7 k hk).1 j2.chg.size, fun hx => ?_, (h7 k hk).2.2⟩⟩, fun k hk => j2.chg.block k (h7 k hk).1 (h7 k hk).2.1⟩⟩
  · rcases (j2.new q hx).1 with e | e
    · exact h3.1 e
    · have := h2.lt; omega
  · rw [cell_kept (j2.chg.block q h2.lt h3.1) 0] at hv
    rcases (j2.new g hx).1 with e | e
    · exact h3.2.1 v hv g hg e
    · have := h2.rowlt v hv g hg; omega
  · rcases (j2.new b hX).1 with e2 | e2
    · exact h3.2.2 x hx hl b o e e2
    · have := (h2.wrs x hx).wr.blt hl e; omega
  · rcases j3 x hx with e2 | e2
    · exact h4 x e2 hl b o e
    · have := e2 hl b o e
      have := h2.lt
      omega
  · rcases (j2.new k hk).1 with e | e
    · exact h6 k e
    · exact Nat.le_trans h5.size e
  · rcases (j2.new k hx).1 with e | e
    · exact (h7 k hk).2.1 e
    · have := (h7 k hk).1; omega
/-- The document's table turns. -/
theorem DuoP.turnR {W u u' : World} {p q : Nat} {M M2 M' : List EntM} {F : Foot} (h : DuoP W u p q M M2 F) (j1 : TabR u' W.heap.size q M') (j2 : Chg u u' (fun k => k = q)) (j3 : RowedT u u' q) (j4 : NewW u M2 M') : DuoP W u' p q M M' F ∧ ∀ k, F k → u'.heap[k]? = u.heap[k]? := by
  obtain ⟨X, h1, h2, h3, h4, h5, h6, h7⟩ := h
  have hX : ∀ k, X k → k ≠ q := fun k hk e => h3.1 (e ▸ hk)
  refine ⟨⟨X, h1.kept j2.size (fun k hk => j2.block k (h1.lt k hk) (hX k hk)) (fun x hx hl b o e => j2.block b ((h1.wrs x hx).wr.blt hl e) (h4 x hx hl b o e)), j1, ⟨h3.1, fun v hv g hg hx => ?_, fun x hx hl b o e hXb => ?_⟩, h4, h5.trans (j2.below h5.size (fun k hk => by rw [hk]; exact h2.lo)), h6, fun k hk => ⟨Nat.lt_of_lt_of_le (h7 k hk).1 j2.size, (h7 k hk).2⟩⟩, fun k hk => j2.block k (h7 k hk).1 (h7 k hk).2.2⟩
  · rcases j3 v hv g hg with e | ⟨v0, e1, e2⟩
    · have := h1.lt g hx; omega
    · exact h3.2.1 v0 e1 g e2 hx
  · rcases j4 x hx with e2 | e2
    · exact h3.2.2 x e2 hl b o e hXb
    · have := e2 hl b o e
      have := h1.lt b hXb
      omega
theorem duop_new {W v : World} {p : Nat} (h : PX W v p []) : DuoP W (v.alloc (.cells #[.slice none 0 0] 51)) p v.heap.size [] [] noFoot := by
  obtain ⟨X, h1, h2, h3⟩ := h
  have hb : Below v.heap.size v (v.alloc (.cells #[.slice none 0 0] 51)) := (Below.refl _ _).alloc (Nat.le_refl _) _
  have hc : (v.alloc (.cells #[.slice none 0 0] 51)).cell? ⟨v.heap.size, 0, none⟩ = some (.slice none 0 0) := by rw [World.cell?_alloc_new]; rfl
  refine ⟨X, h1.past hb, ⟨by simp, h2.size, ⟨none, 0, hc, World.ownsRow_nil _ _ _ _, fun k e => by cases e⟩, World.frozen?_alloc_new _ _ _ _, fun x hx => by simp at hx, fun x hx => by simp at hx, by simp⟩, ⟨fun hx => ?_, fun x hx g hg => ?_, fun x hx => by simp at hx⟩, fun x hx => by simp at hx, h2.trans (hb.mono h2.size), h3, fun k hk => hk.elim⟩
  · have := h1.lt _ hx; omega
  · rw [hc] at hx
    injection hx with hx
    rw [← hx] at hg
    cases hg
/-- An act in a box. -/
structure XP (u : World) (xb : Nat) (op id s m t n : Int) (a : Option Addr) (N c : Nat) : Prop where
  c0 : u.cell? ⟨xb, 0, none⟩ = some (.int .i64 op)
  c1 : u.cell? ⟨xb, 1, none⟩ = some (.int .i64 id)
  c2 : u.cell? ⟨xb, 2, none⟩ = some (.int .i64 s)
  c3 : u.cell? ⟨xb, 3, none⟩ = some (.int .u8 m)
  c4 : u.cell? ⟨xb, 4, none⟩ = some (.int .i64 t)
  c5 : u.cell? ⟨xb, 5, none⟩ = some (.int .u8 n)
  c6 : u.cell? ⟨xb, 6, none⟩ = some (.slice a N c)
theorem XP.kept {u u' : World} {xb : Nat} {op id s m t n : Int} {a : Option Addr} {N c : Nat} (h : XP u xb op id s m t n a N c) (hk : u'.heap[xb]? = u.heap[xb]?) : XP u' xb op id s m t n a N c :=
  ⟨(cell_kept hk 0).trans h.c0, (cell_kept hk 1).trans h.c1, (cell_kept hk 2).trans h.c2, (cell_kept hk 3).trans h.c3, (cell_kept hk 4).trans h.c4, (cell_kept hk 5).trans h.c5, (cell_kept hk 6).trans h.c6⟩
theorem XP.past {u u' : World} {xb : Nat} {op id s m t n : Int} {a : Option Addr} {N c : Nat} (h : XP u xb op id s m t n a N c) (hb : Below u.heap.size u u') : XP u' xb op id s m t n a N c := h.kept (hb.block xb (cell_lt h.c0))
theorem XP.made (w : World) (T : TypeId) (op id s m t n : Int) (a : Option Addr) (N c : Nat) : XP (w.alloc (.cells #[.int .i64 op, .int .i64 id, .int .i64 s, .int .u8 m, .int .i64 t, .int .u8 n, .slice a N c] T)) w.heap.size op id s m t n a N c := by
  refine ⟨?_, ?_, ?_, ?_, ?_, ?_, ?_⟩ <;> (rw [World.cell?_alloc_new]; rfl)
/-- A round: both tables, the act. -/
structure RndP (W u : World) (p q xb : Nat) (M M2 : List EntM) (op id s m t n : Int) (a : Option Addr) (N c : Nat) : Prop where
  duo : DuoP W u p q M M2 (fun k => k = xb)
  box : XP u xb op id s m t n a N c
theorem RndP.past {W u u' : World} {p q xb : Nat} {M M2 : List EntM} {op id s m t n : Int} {a : Option Addr} {N c : Nat} (h : RndP W u p q xb M M2 op id s m t n a N c) (hb : Below u.heap.size u u') : RndP W u' p q xb M M2 op id s m t n a N c := ⟨h.duo.past hb, h.box.past hb⟩
theorem DuoP.round {W u : World} {p q : Nat} {M M2 : List EntM} {F : Foot} (h : DuoP W u p q M M2 F) (op id s m t n : Int) (a : Option Addr) (N c : Nat) (T : TypeId) : RndP W (u.alloc (.cells #[.int .i64 op, .int .i64 id, .int .i64 s, .int .u8 m, .int .i64 t, .int .u8 n, .slice a N c] T)) p q u.heap.size M M2 op id s m t n a N c :=
  ⟨h.more ((Below.refl _ _).alloc (Nat.le_refl _) _) (fun k e => .inr ⟨by rw [e]; exact Nat.le_refl _, by rw [e]; simp⟩), XP.made u T op id s m t n a N c⟩
theorem qadd_p {W u : World} {p q xb : Nat} {M M2 : List EntM} {op id s m t n : Int} {a : Option Addr} {N c : Nat} (h : RndP W u p q xb M M2 op id s m t n a N c) (l : List Wrt) (hl : l.length = N) (he : EntW u ⟨(⟨id, s, m, t, n, l⟩ : Ent), a, c⟩) :
    Calls Try.prog 8 #[.pointer (some ⟨p, 0, none⟩), .agg #[.int .i64 id, .int .i64 s, .int .u8 m, .int .i64 t, .int .u8 n, .slice a N c]] u fun e w' => e = .returned (.int .i64 (addT (ents M) (⟨id, s, m, t, n, l⟩ : Ent)).1) ∧ ∃ M', ents M' = (addT (ents M) (⟨id, s, m, t, n, l⟩ : Ent)).2 ∧ RndP W w' p q xb M' M2 op id s m t n a N c := by
  obtain ⟨X, j1, j2⟩ := h.duo.turnP
  refine (padd_any p M X id s m t n a N c l u j1 hl he).mono ?_
  rintro e w' ⟨rfl, M', X', k1, k2, k3, k4⟩
  obtain ⟨m1, m2⟩ := j2 w' M' X' k2 k3 k4
  exact ⟨rfl, M', k1, m1, h.box.kept (m2 xb rfl)⟩
theorem qadd_r {W u : World} {p q xb : Nat} {M M2 : List EntM} {op id s m t n : Int} {a : Option Addr} {N c : Nat} (h : RndP W u p q xb M M2 op id s m t n a N c) (l : List Wrt) (hl : l.length = N) (hM : M2.length ≤ 100) (he : EntW u ⟨(⟨id, s, m, t, n, l⟩ : Ent), a, c⟩) :
    Calls Try.prog 21 #[.pointer (some ⟨q, 0, none⟩), .agg #[.int .i64 id, .int .i64 s, .int .u8 m, .int .i64 t, .int .u8 n, .slice a N c]] u fun e w' => e = .returned (.int .i64 (addT (ents M2) (⟨id, s, m, t, n, l⟩ : Ent)).1) ∧ ∃ M', ents M' = (addT (ents M2) (⟨id, s, m, t, n, l⟩ : Ent)).2 ∧ RndP W w' p q xb M M' op id s m t n a N c := by
  refine (radd_any W.heap.size q M2 id s m t n a N c l u h.duo.tabr h.duo.below.size hM hl he).mono ?_
  rintro e w' ⟨rfl, M', k1, k2, k3, k4, k5⟩
  obtain ⟨m1, m2⟩ := h.duo.turnR k2 k3 k4 k5
  exact ⟨rfl, M', k1, m1, h.box.kept (m2 xb rfl)⟩
/-- Where an entry's writes lie. -/
def wb (x : EntM) : Foot := fun k => x.e.l ≠ [] ∧ ∃ o, x.a = some ⟨k, o, none⟩
theorem EntW.keptB {u u' : World} {x : EntM} (h : EntW u x) (hk : ∀ k, wb x k → u'.heap[k]? = u.heap[k]?) : EntW u' x := h.kept (fun hl b o e => hk b ⟨hl, o, e⟩)
theorem wb_zero (k : Nat) : ¬ wb zeroE k := fun h => h.1 rfl
theorem qdrop_p {W u : World} {p q : Nat} {M M2 : List EntM} {F : Foot} (h : DuoP W u p q M M2 F) (id : Int) :
    Calls Try.prog 15 #[.pointer (some ⟨p, 0, none⟩), .int .i64 id] u fun e w' => e = .returned (.tuple #[ev (orE (hasM M id)), .bool (hasM M id).isSome]) ∧ DuoP W w' p q (dropM M id) M2 (fun k => F k ∨ wb (orE (hasM M id)) k) ∧ EntW w' (orE (hasM M id)) ∧ ∀ k, F k → w'.heap[k]? = u.heap[k]? := by
  have hF : DuoP W u p q M M2 (fun k => F k ∨ wb (orE (hasM M id)) k) := by
    obtain ⟨X, h1, h2, h3, h4, h5, h6, h7⟩ := h
    refine ⟨X, h1, h2, h3, h4, h5, h6, fun k hk => ?_⟩
    rcases hk with e | e
    · exact h7 k e
    · cases hx : hasM M id with
      | none => rw [hx] at e; exact absurd e (wb_zero k)
      | some x =>
        rw [hx] at e
        obtain ⟨hl, o, ho⟩ := e
        have hm : x ∈ M := List.mem_of_find?_eq_some hx
        exact ⟨(h1.wrs x hm).wr.blt hl ho, h1.far x hm hl k o ho, h4 x hm hl k o ho⟩
  obtain ⟨X, j1, j2⟩ := hF.turnP
  refine (pdrop_any p M X id u j1).mono ?_
  rintro e w' ⟨rfl, k1, k2, k3⟩
  obtain ⟨m1, m2⟩ := j2 w' _ X k1 k2 (fun x hx => .inl (List.mem_filter.1 hx).1)
  exact ⟨rfl, m1, k3, fun k hk => m2 k (.inl hk)⟩
theorem qdrop_r {W u : World} {p q : Nat} {M M2 : List EntM} {F : Foot} (h : DuoP W u p q M M2 F) (id : Int) :
    Calls Try.prog 22 #[.pointer (some ⟨q, 0, none⟩), .int .i64 id] u fun e w' => e = .returned (.tuple #[ev (orE (hasM M2 id)), .bool (hasM M2 id).isSome]) ∧ DuoP W w' p q M (dropM M2 id) F ∧ EntW w' (orE (hasM M2 id)) ∧ ∀ k, F k → w'.heap[k]? = u.heap[k]? := by
  refine (rdrop_any W.heap.size q M2 id u h.tabr h.below.size).mono ?_
  rintro e w' ⟨rfl, k1, k2, k3⟩
  obtain ⟨m1, m2⟩ := h.turnR k1 k2 k3 (fun x hx => .inl (List.mem_filter.1 hx).1)
  refine ⟨rfl, m1, ?_, m2⟩
  cases hx : hasM M2 id with
  | none => exact entW_zero _
  | some x =>
    have hm : x ∈ M2 := List.mem_of_find?_eq_some hx
    exact (h.tabr.wrs x hm).kept (fun hl b o e => k2.block b ((h.tabr.wrs x hm).wr.blt hl e) (h.tabr.far x hm hl b o e))
theorem same_ev {A B : EntM} (u : World) (he : A.e = B.e) (hA : EntW u A) (hB : EntW u B) :
    Calls Try.prog 23 #[ev A, ev B] u fun e w' => e = .returned (.bool true) ∧ Below u.heap.size u w' := by
  obtain ⟨e, a, c⟩ := A
  obtain ⟨e', a', c'⟩ := B
  obtain rfl : e = e' := he
  exact rsamee_yes e.id e.s e.m e.t e.n a a' e.l.length c c' e.l u rfl hA.room hB.room hA.few hA.wr hB.wr
theorem lent_ev (A : EntM) (u : World) : Calls Try.prog 20 #[ev A] u fun e w' => e = .returned (ev A) ∧ Below u.heap.size u w' := lent_any A.e.id A.e.s A.e.m A.e.t A.e.n A.a A.e.l.length A.c u
/-- What two tables of like entries answer alike. -/
theorem like_has {M M2 : List EntM} (h : ents M = ents M2) (id : Int) : (orE (hasM M id)).e = (orE (hasM M2 id)).e ∧ (hasM M id).isSome = (hasM M2 id).isSome := by
  have e : (hasM M id).map (·.e) = (hasM M2 id).map (·.e) := by rw [hasM_e, hasM_e, h]
  cases h1 : hasM M id with
  | none =>
    cases h2 : hasM M2 id with
    | none => exact ⟨rfl, rfl⟩
    | some y => rw [h1, h2] at e; cases e
  | some x =>
    cases h2 : hasM M2 id with
    | none => rw [h1, h2] at e; cases e
    | some y => rw [h1, h2] at e; exact ⟨Option.some.inj e, rfl⟩
theorem like_hold {M M2 : List EntM} (h : ents M = ents M2) (k : List Int) : (orE (holdM M k)).e = (orE (holdM M2 k)).e ∧ (holdM M k).isSome = (holdM M2 k).isSome := by
  have e : (holdM M k).map (·.e) = (holdM M2 k).map (·.e) := by rw [holdM_e, holdM_e, h]
  cases h1 : holdM M k with
  | none =>
    cases h2 : holdM M2 k with
    | none => exact ⟨rfl, rfl⟩
    | some y => rw [h1, h2] at e; cases e
  | some x =>
    cases h2 : holdM M2 k with
    | none => rw [h1, h2] at e; cases e
    | some y => rw [h1, h2] at e; exact ⟨Option.some.inj e, rfl⟩
theorem like_drop {M M2 : List EntM} (h : ents M = ents M2) (id : Int) : ents (dropM M id) = ents (dropM M2 id) := by rw [dropM_e, dropM_e, h]
/-- The key and the stamp that came in, in their boxes. -/
structure KpB (w u : World) (k : List Int) (t n : Int) : Prop where
  key : KeyAt u w.heap.size 0 k
  c0 : u.cell? ⟨w.heap.size + 1, 0, none⟩ = some (.int .i64 t)
  c1 : u.cell? ⟨w.heap.size + 1, 1, none⟩ = some (.int .u8 n)
theorem KpB.past {w u u' : World} {k : List Int} {t n : Int} (h : KpB w u k t n) (hb : Below u.heap.size u u') : KpB w u' k t n :=
  ⟨h.key.past hb, (hb.cell (p := ⟨w.heap.size + 1, 0, none⟩) (cell_lt h.c0)).trans h.c0, (hb.cell (p := ⟨w.heap.size + 1, 1, none⟩) (cell_lt h.c0)).trans h.c1⟩
theorem KpB.made (w : World) {k : List Int} (hk : Ky k) (t n : Int) (T T' : TypeId) : KpB w ((w.alloc (.cells (kcs k) T)).alloc (.cells #[.int .i64 t, .int .u8 n] T')) k t n := by
  have e : ∀ o, ((w.alloc (.cells (kcs k) T)).alloc (.cells #[.int .i64 t, .int .u8 n] T')).cell? ⟨w.heap.size + 1, o, none⟩ = (#[.int .i64 t, .int .u8 n] : Array Value)[o]? := fun o => by
    have := World.cell?_alloc_new (w.alloc (.cells (kcs k) T)) #[.int .i64 t, .int .u8 n] T' o
    rw [World.size_alloc] at this
    exact this
  exact ⟨(KeyAt.made w T k hk).past ((Below.refl _ _).alloc (Nat.le_refl _) _), e 0, e 1⟩
/-- A stamp in a box. -/
structure StB3 (u : World) (b : Nat) (t n : Int) : Prop where
  c0 : u.cell? ⟨b, 0, none⟩ = some (.int .i64 t)
  c1 : u.cell? ⟨b, 1, none⟩ = some (.int .u8 n)
theorem StB3.made (u : World) (T : TypeId) (t n : Int) : StB3 (u.alloc (.cells #[.int .i64 t, .int .u8 n] T)) u.heap.size t n := ⟨by rw [World.cell?_alloc_new]; rfl, by rw [World.cell?_alloc_new]; rfl⟩
theorem StB3.past {u u' : World} {b : Nat} {t n : Int} (h : StB3 u b t n) (hb : Below u.heap.size u u') : StB3 u' b t n :=
  ⟨(hb.cell (p := ⟨b, 0, none⟩) (cell_lt h.c0)).trans h.c0, (hb.cell (p := ⟨b, 1, none⟩) (cell_lt h.c0)).trans h.c1⟩
end Go.Proofs.Ythgkbabikeknlaa
