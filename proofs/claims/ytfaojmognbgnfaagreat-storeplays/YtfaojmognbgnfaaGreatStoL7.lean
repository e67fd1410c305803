/-
  A landed store beside the document's own, and beside blocks that stay as they are.
-/
import Derived.Test.YtfaojmognbgnfaaGreatStoL6
import Derived.Test.YtfaojmognbgnfaaGreatStoL5
import Derived.Test.YtfaojmognbgnfaaGreatRs
import Derived.Test.YtfaojmognbgnfaaGreatRefSto4
import Derived.Deep.CutBlock
import Derived.Deep.DeepCutAuto
namespace Go.Proofs.YtfaojmognbgnfaaGreat
open Go.RowKit
set_option linter.unusedVariables false

/-- The document's store in q has no block of X. -/
def FarQ (u : World) (q : Nat) (X : Foot) : Prop := ¬ X q ∧ ∀ v, u.cell? ⟨q, 0, none⟩ = some v → ∀ g, v.ownBlock = some g → ¬ X g
theorem StoreR.rowlt {u : World} {B q : Nat} {M : List Ver} (h : StoreR u B q M) : ∀ v, u.cell? ⟨q, 0, none⟩ = some v → ∀ g, v.ownBlock = some g → g < u.heap.size := fun v hv g hg => by
  obtain ⟨a, c, h1, h2, _⟩ := h.list
  rw [h1] at hv
  injection hv with hv
  rw [← hv] at hg
  exact (h2.lt g hg).2
theorem StoreR.keptX {u u' : World} {B q : Nat} {M : List Ver} {X : Foot} (h : StoreR u B q M) (hf : FarQ u q X) (hc : Chg u u' X) : StoreR u' B q M := by
  obtain ⟨a, c, h1, h2, h3⟩ := h.list
  have hq := hc.block q h.lt hf.1
  exact ⟨Nat.lt_of_lt_of_le h.lt hc.size, h.lo, ⟨a, c, (cell_kept hq 0).trans h1, row_kept h2 (fun k e => hc.block k (h2.lt k e).2 (hf.2 _ h1 k e)), h3⟩, (frozen_kept hq 0).trans h.free, h.oks, h.few⟩
/-- The landed store in p, the document's in q, since W; the blocks of F are no part of either. -/
def Duo (W u : World) (p q : Nat) (L M : List Ver) (F : Foot) : Prop := ∃ X, StD u p L X ∧ StoreR u W.heap.size q M ∧ FarQ u q X ∧ Below W.heap.size W u ∧ (∀ k, X k → W.heap.size ≤ k) ∧ ∀ k, F k → k < u.heap.size ∧ ¬ X k ∧ k ≠ q
theorem Duo.below {W u : World} {p q : Nat} {L M : List Ver} {F : Foot} (h : Duo W u p q L M F) : Below W.heap.size W u := by obtain ⟨X, _, _, _, h, _⟩ := h; exact h
theorem Duo.stx {W u : World} {p q : Nat} {L M : List Ver} {F : Foot} (h : Duo W u p q L M F) : StX W u p L := by obtain ⟨X, h1, _, _, h2, h3, _⟩ := h; exact ⟨X, h1, h2, h3⟩
theorem Duo.store {W u : World} {p q : Nat} {L M : List Ver} {F : Foot} (h : Duo W u p q L M F) : StoreR u W.heap.size q M := by obtain ⟨X, _, h, _⟩ := h; exact h
theorem Duo.past {W u u' : World} {p q : Nat} {L M : List Ver} {F : Foot} (h : Duo W u p q L M F) (hb : Below u.heap.size u u') : Duo W u' p q L M F := by
  obtain ⟨X, h1, h2, h3, h4, h5, h6⟩ := h
  exact ⟨X, h1.past hb, h2.past hb, ⟨h3.1, fun v hv => h3.2 v ((hb.cell (p := ⟨q, 0, none⟩) h2.lt).symm.trans hv)⟩, h4.trans (hb.mono h4.size), h5, fun k hk => ⟨Nat.lt_of_lt_of_le (h6 k hk).1 hb.size, (h6 k hk).2⟩⟩
theorem Duo.less {W u : World} {p q : Nat} {L M : List Ver} {F G : Foot} (h : Duo W u p q L M F) (hG : ∀ k, G k → F k) : Duo W u p q L M G := by
  obtain ⟨X, h1, h2, h3, h4, h5, h6⟩ := h
  exact ⟨X, h1, h2, h3, h4, h5, fun k hk => h6 k (hG k hk)⟩
theorem Duo.keep {W u : World} {p q : Nat} {L M : List Ver} {F : Foot} (h : Duo W u p q L M F) (o : Obj) : Duo W (u.alloc o) p q L M (fun k => k = u.heap.size) := by
  have hb : Below u.heap.size u (u.alloc o) := (Below.refl _ _).alloc (Nat.le_refl _) o
  obtain ⟨X, h1, h2, h3, h4, h5, h6⟩ := h.past hb
  obtain ⟨X', j1, j2, j3, j4, j5, j6⟩ := h
  refine ⟨X', j1.past hb, h2, ⟨j3.1, fun v hv => j3.2 v ((hb.cell (p := ⟨q, 0, none⟩) j2.lt).symm.trans hv)⟩, h4, j5, fun k hk => ?_⟩
  subst hk
  refine ⟨by simp, fun hx => ?_, ?_⟩
  · have := j1.lt _ hx; omega
  · have := j2.lt; omega
/-- The landed store turns. -/
theorem Duo.turnS {W u : World} {p q : Nat} {L M : List Ver} {F : Foot} (h : Duo W u p q L M F) : ∃ X, StD u p L X ∧ (∀ k, X k → W.heap.size ≤ k) ∧ ∀ u' L' X', StD u' p L' X' → Did u u' X X' → Duo W u' p q L' M F ∧ ∀ k, F k → u'.heap[k]? = u.heap[k]? := by
  obtain ⟨X, h1, h2, h3, h4, h5, h6⟩ := h
  refine ⟨X, h1, h5, fun u' L' X' j1 j2 => ⟨⟨X', j1, h2.keptX h3 j2.chg, ⟨fun hx => ?_, fun v hv g hg hx => ?_⟩, h4.trans (j2.chg.below h4.size h5), fun k hk => ?_, fun k hk => ⟨Nat.lt_of_lt_of_le (h6 k hk).1 j2.chg.size, fun hx => ?_, (h6 k hk).2.2⟩⟩, fun k hk => j2.chg.block k (h6 k hk).1 (h6 k hk).2.1⟩⟩
  · rcases (j2.new q hx).1 with e | e
    · exact h3.1 e
    · have := h2.lt; omega
  · rw [cell_kept (j2.chg.block q h2.lt h3.1) 0] at hv
    rcases (j2.new g hx).1 with e | e
    · exact h3.2 v hv g hg e
    · have := h2.rowlt v hv g hg; omega
  · rcases (j2.new k hk).1 with e | e
    · exact h5 k e
    · exact Nat.le_trans h4.size e
  · rcases (j2.new k hx).1 with e | e
    · exact (h6 k hk).2.1 e
    · have := (h6 k hk).1; omega
/-- The document's store turns. -/
theorem Duo.turnR {W u u' : World} {p q : Nat} {L M M' : List Ver} {F : Foot} (h : Duo W u p q L M F) (j1 : StoreR u' W.heap.size q M') (j2 : Chg u u' (fun k => k = q)) (j3 : Rowed u u' q) : Duo W u' p q L M' F ∧ ∀ k, F k → u'.heap[k]? = u.heap[k]? := by
  obtain ⟨X, h1, h2, h3, h4, h5, h6⟩ := h
  have hX : ∀ k, X k → k ≠ q := fun k hk e => h3.1 (e ▸ hk)
  refine ⟨⟨X, h1.kept j2.size (fun k hk => j2.block k (h1.lt k hk) (hX k hk)), j1, ⟨h3.1, fun v hv g hg hx => ?_⟩, h4.trans (j2.below h4.size (fun k hk => by rw [hk]; exact h2.lo)), h5, fun k hk => ⟨Nat.lt_of_lt_of_le (h6 k hk).1 j2.size, (h6 k hk).2⟩⟩, fun k hk => j2.block k (h6 k hk).1 (h6 k hk).2.2⟩
  rcases j3 v hv g hg with e | ⟨v0, e1, e2⟩
  · have := h1.lt g hx; omega
  · exact h3.2 v0 e1 g e2 hx
theorem duo_new {W v : World} {p : Nat} (h : StX W v p []) : Duo W (v.alloc (.cells #[.slice none 0 0] 33)) p v.heap.size [] [] noFoot := by
  obtain ⟨X, h1, h2, h3⟩ := h
  have hb : Below v.heap.size v (v.alloc (.cells #[.slice none 0 0] 33)) := (Below.refl _ _).alloc (Nat.le_refl _) _
  have hc : (v.alloc (.cells #[.slice none 0 0] 33)).cell? ⟨v.heap.size, 0, none⟩ = some (.slice none 0 0) := by rw [World.cell?_alloc_new]; rfl
  refine ⟨X, h1.past hb, ⟨by simp, h2.size, ⟨none, 0, hc, World.ownsRow_nil _ _ _ _, fun k e => by cases e⟩, World.frozen?_alloc_new _ _ _ _, fun V hV => by simp at hV, by simp⟩, ⟨fun hx => ?_, fun x hx g hg => ?_⟩, h2.trans (hb.mono h2.size), h3, fun k hk => hk.elim⟩
  · have := h1.lt _ hx; omega
  · rw [hc] at hx
    injection hx with hx
    rw [← hx] at hg
    cases hg
/-- An act in a box. -/
structure XF (u : World) (xb : Nat) (op t n : Int) (a : Option Addr) (N c : Nat) : Prop where
  c0 : u.cell? ⟨xb, 0, none⟩ = some (.int .i64 op)
  c1 : u.cell? ⟨xb, 1, none⟩ = some (.int .i64 t)
  c2 : u.cell? ⟨xb, 2, none⟩ = some (.int .u8 n)
  c3 : u.cell? ⟨xb, 3, none⟩ = some (.slice a N c)
theorem XF.past {u u' : World} {xb : Nat} {op t n : Int} {a : Option Addr} {N c : Nat} (h : XF u xb op t n a N c) (hb : Below u.heap.size u u') : XF u' xb op t n a N c :=
  ⟨(hb.cell (p := ⟨xb, 0, none⟩) (cell_lt h.c0)).trans h.c0, (hb.cell (p := ⟨xb, 1, none⟩) (cell_lt h.c0)).trans h.c1, (hb.cell (p := ⟨xb, 2, none⟩) (cell_lt h.c0)).trans h.c2, (hb.cell (p := ⟨xb, 3, none⟩) (cell_lt h.c0)).trans h.c3⟩
theorem XF.kept {u u' : World} {xb : Nat} {op t n : Int} {a : Option Addr} {N c : Nat} (h : XF u xb op t n a N c) (hk : u'.heap[xb]? = u.heap[xb]?) : XF u' xb op t n a N c :=
  ⟨(cell_kept hk 0).trans h.c0, (cell_kept hk 1).trans h.c1, (cell_kept hk 2).trans h.c2, (cell_kept hk 3).trans h.c3⟩
/-- A round: both stores, the act. -/
structure RndS (W u : World) (p q xb : Nat) (L M : List Ver) (op t n : Int) (a : Option Addr) (N c : Nat) : Prop where
  duo : Duo W u p q L M (fun k => k = xb)
  box : XF u xb op t n a N c
theorem RndS.past {W u u' : World} {p q xb : Nat} {L M : List Ver} {op t n : Int} {a : Option Addr} {N c : Nat} (h : RndS W u p q xb L M op t n a N c) (hb : Below u.heap.size u u') : RndS W u' p q xb L M op t n a N c := ⟨h.duo.past hb, h.box.past hb⟩
theorem Duo.round {W u : World} {p q : Nat} {L M : List Ver} {F : Foot} (h : Duo W u p q L M F) (op t n : Int) (a : Option Addr) (N c : Nat) (T : TypeId) : RndS W (u.alloc (.cells #[.int .i64 op, .int .i64 t, .int .u8 n, .slice a N c] T)) p q u.heap.size L M op t n a N c :=
  ⟨h.keep _, ⟨by rw [World.cell?_alloc_new]; rfl, by rw [World.cell?_alloc_new]; rfl, by rw [World.cell?_alloc_new]; rfl, by rw [World.cell?_alloc_new]; rfl⟩⟩
theorem qapply_s {W u : World} {p q xb : Nat} {L M : List Ver} {op t n : Int} {a : Option Addr} {N cap : Nat} (h : RndS W u p q xb L M op t n a N cap) (hn : 0 ≤ n ∧ n ≤ 255) (l : List Wrt) (hl : l.length = N) (hc : N ≤ cap) (hN : N ≤ 1000000) (hat : WrtsAt W a l) :
    Calls Tryz.prog 7 #[.pointer (some ⟨p, 0, none⟩), .agg #[.int .i64 t, .int .u8 n], .slice a N cap] u fun e w' => e = .returned (.int .i64 (applyV L t n l).1) ∧ RndS W w' p q xb (applyV L t n l).2 M op t n a N cap := by
  obtain ⟨X, j1, j2, j3⟩ := h.duo.turnS
  refine (sapply_any p L X t n hn a N cap l u j1 hl hc hN (hat.past h.duo.below) (wrts_far hat j2)).mono ?_
  rintro e w' ⟨rfl, X', k1, k2⟩
  obtain ⟨m1, m2⟩ := j3 w' _ X' k1 k2
  exact ⟨rfl, m1, h.box.kept (m2 xb rfl)⟩
theorem qapply_r {W u : World} {p q xb : Nat} {L M : List Ver} {op t n : Int} {a : Option Addr} {N cap : Nat} (h : RndS W u p q xb L M op t n a N cap) (hn : 0 ≤ n ∧ n ≤ 255) (l : List Wrt) (hl : l.length = N) (hc : N ≤ cap) (hN : N ≤ 1000000) (hM : M.length ≤ 10000) (hat : WrtsAt W a l) :
    Calls Tryz.prog 8 #[.pointer (some ⟨q, 0, none⟩), .agg #[.int .i64 t, .int .u8 n], .slice a N cap] u fun e w' => e = .returned (.int .i64 (applyV M t n l).1) ∧ RndS W w' p q xb L (applyV M t n l).2 op t n a N cap := by
  refine (rapply10_any W.heap.size q M t n hn a N cap l hl hc hN u h.duo.store h.duo.below.size (by omega) (hat.past h.duo.below)).mono ?_
  rintro e w' ⟨rfl, k1, k2, k3⟩
  obtain ⟨m1, m2⟩ := h.duo.turnR k1 k2 k3
  exact ⟨rfl, m1, h.box.kept (m2 xb rfl)⟩
theorem qtrim_s {W u : World} {p q xb : Nat} {L M : List Ver} {op t n : Int} {a : Option Addr} {N cap : Nat} (h : RndS W u p q xb L M op t n a N cap) :
    Calls Tryz.prog 9 #[.pointer (some ⟨p, 0, none⟩), .agg #[.int .i64 t, .int .u8 n]] u fun e w' => e = .returned (.int .i64 ((L.length : Int) - ((restV L t n).length : Int))) ∧ RndS W w' p q xb (restV L t n) M op t n a N cap := by
  obtain ⟨X, j1, j2, j3⟩ := h.duo.turnS
  refine (strim_any p L X t n u j1).mono ?_
  rintro e w' ⟨rfl, X', k1, k2⟩
  obtain ⟨m1, m2⟩ := j3 w' _ X' k1 k2
  exact ⟨rfl, m1, h.box.kept (m2 xb rfl)⟩
theorem qtrim_r {W u : World} {p q xb : Nat} {L M : List Ver} {op t n : Int} {a : Option Addr} {N cap : Nat} (h : RndS W u p q xb L M op t n a N cap) :
    Calls Tryz.prog 10 #[.pointer (some ⟨q, 0, none⟩), .agg #[.int .i64 t, .int .u8 n]] u fun e w' => e = .returned (.int .i64 ((M.length : Int) - ((restV M t n).length : Int))) ∧ RndS W w' p q xb L (restV M t n) op t n a N cap := by
  refine (rtrim10_row W.heap.size q M t n u h.duo.store h.duo.below.size).mono ?_
  rintro e w' ⟨rfl, k1, k2, k3⟩
  obtain ⟨m1, m2⟩ := h.duo.turnR k1 k2 k3
  exact ⟨rfl, m1, h.box.kept (m2 xb rfl)⟩
theorem qcopy {W u : World} {p q : Nat} {L M : List Ver} {F : Foot} (h : Duo W u p q L M F) :
    Calls Tryz.prog 11 #[.pointer (some ⟨p, 0, none⟩)] u fun e w' => ∃ p', e = .returned (.pointer (some ⟨p', 0, none⟩)) ∧ Duo W w' p' q L M noFoot := by
  obtain ⟨X, h1, h2, h3, h4, h5, h6⟩ := h
  refine (scopy_any p L X u h1).mono ?_
  rintro e w' ⟨p', Z, rfl, e2, e3, e4⟩
  refine ⟨p', rfl, Z, e2, h2.past e3, ⟨fun hx => ?_, fun v hv g hg hx => ?_⟩, h4.trans (e3.mono h4.size), fun k hk => Nat.le_trans h4.size (e4 k hk), fun k hk => hk.elim⟩
  · have := e4 q hx; have := h2.lt; omega
  · rw [e3.cell (p := ⟨q, 0, none⟩) h2.lt] at hv
    have := e4 g hx
    have := h2.rowlt v hv g hg
    omega
/-- Two stamps in boxes. -/
structure StB2 (u : World) (b : Nat) (t n : Int) : Prop where
  c0 : u.cell? ⟨b, 0, none⟩ = some (.int .i64 t)
  c1 : u.cell? ⟨b, 1, none⟩ = some (.int .u8 n)
theorem StB2.made (u : World) (T : TypeId) (t n : Int) : StB2 (u.alloc (.cells #[.int .i64 t, .int .u8 n] T)) u.heap.size t n := ⟨by rw [World.cell?_alloc_new]; rfl, by rw [World.cell?_alloc_new]; rfl⟩
theorem StB2.past {u u' : World} {b : Nat} {t n : Int} (h : StB2 u b t n) (hb : Below u.heap.size u u') : StB2 u' b t n :=
  ⟨(hb.cell (p := ⟨b, 0, none⟩) (cell_lt h.c0)).trans h.c0, (hb.cell (p := ⟨b, 1, none⟩) (cell_lt h.c0)).trans h.c1⟩
end Go.Proofs.YtfaojmognbgnfaaGreat
