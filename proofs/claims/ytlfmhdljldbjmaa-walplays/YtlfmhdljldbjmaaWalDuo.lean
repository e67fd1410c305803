/-
  The program's disk and log beside the document's own in one memory: what each call leaves of both.
-/
import Derived.Test.YtlfmhdljldbjmaaWalBoth
namespace Go.Proofs.Ytlfmhdljldbjmaa
open Go.RowKit
set_option linter.unusedVariables false

theorem PD.kept {u u' : World} {B p b : Nat} {S : DS} {l : LS} {X Z : Foot} (h : PD u B p b S l X Z) (hs : u.heap.size ≤ u'.heap.size) (hk : ∀ k, X k ∨ Z k → u'.heap[k]? = u.heap[k]?) : PD u' B p b S l X Z := ⟨h.disk.kept hs (fun k x => hk k (.inl x)), h.log.kept hs (fun k x => hk k (.inr x)), h.apart⟩
theorem WD.kept {u u' : World} {B p b : Nat} {S : DS} {l : LS} {dn : Bool} {X Z : Foot} (h : WD u B p b S l dn X Z) (hs : u.heap.size ≤ u'.heap.size) (hk : ∀ k, X k ∨ Z k → u'.heap[k]? = u.heap[k]?) : WD u' B p b S l dn X Z := ⟨h.disk.kept hs (fun k x => hk k (.inl x)), h.log.kept hs (fun k x => hk k (.inr x)), h.apart⟩
theorem PD.lt {u : World} {B p b : Nat} {S : DS} {l : LS} {X Z : Foot} (h : PD u B p b S l X Z) : ∀ k, X k ∨ Z k → k < u.heap.size := fun k x => x.elim (h.disk.lt k) (h.log.lt k)
theorem WD.lt {u : World} {B p b : Nat} {S : DS} {l : LS} {dn : Bool} {X Z : Foot} (h : WD u B p b S l dn X Z) : ∀ k, X k ∨ Z k → k < u.heap.size := fun k x => x.elim (h.disk.lt k) (h.log.lt k)
/-- Both, with their blocks. -/
structure DuoI (sd : Option (Nat × Obj)) (w u : World) (p b q c : Nat) (S : DS) (l : LS) (S2 : DS) (l2 : LS) (dn : Bool) (X Z X2 Z2 : Foot) : Prop where
  pd : PD u w.heap.size p b S l X Z
  wd : WD u w.heap.size q c S2 l2 dn X2 Z2
  below : Below w.heap.size w u
  lo : ∀ k, X k → w.heap.size ≤ k
  lo2 : ∀ k, X2 k → w.heap.size ≤ k
  far : ∀ k, (X k ∨ Z k) → (X2 k ∨ Z2 k) → False
  side : ∀ xb o, sd = some (xb, o) → u.heap[xb]? = some o ∧ ¬ (X xb ∨ Z xb) ∧ ¬ (X2 xb ∨ Z2 xb)
/-- Both. -/
def Duo (sd : Option (Nat × Obj)) (w u : World) (p b q c : Nat) (S : DS) (l : LS) (S2 : DS) (l2 : LS) (dn : Bool) : Prop := ∃ X Z X2 Z2, DuoI sd w u p b q c S l S2 l2 dn X Z X2 Z2
section
variable {sd : Option (Nat × Obj)} {w u u' : World} {p b q c : Nat} {S : DS} {l : LS} {S2 : DS} {l2 : LS} {dn : Bool} {X Z X2 Z2 : Foot}
theorem DuoI.loP (h : DuoI sd w u p b q c S l S2 l2 dn X Z X2 Z2) : ∀ k, X k ∨ Z k → w.heap.size ≤ k := fun k x => x.elim (h.lo k) (h.pd.log.lo k)
theorem DuoI.loW (h : DuoI sd w u p b q c S l S2 l2 dn X Z X2 Z2) : ∀ k, X2 k ∨ Z2 k → w.heap.size ≤ k := fun k x => x.elim (h.lo2 k) (h.wd.log.lo k)
theorem DuoI.prog (h : DuoI sd w u p b q c S l S2 l2 dn X Z X2 Z2) {p' : Nat} {S' : DS} {l' : LS} {X' Z' : Foot} (h1 : PD u' w.heap.size p' b S' l' X' Z') (hc : Chg u u' (fun k => X k ∨ Z k)) (nx : ∀ k, X' k → X k ∨ u.heap.size ≤ k) (nz : ∀ k, Z' k → Z k ∨ u.heap.size ≤ k) :
    DuoI sd w u' p' b q c S' l' S2 l2 dn X' Z' X2 Z2 := by
  refine ⟨h1, h.wd.kept hc.size (fun k x => hc.block k (h.wd.lt k x) (fun y => h.far k y x)), h.below.trans (hc.below h.below.size h.loP), fun k x => ?_, h.lo2, fun k x y => ?_, fun xb o e => ?_⟩
  · rcases nx k x with e | e
    · exact h.lo k e
    · exact Nat.le_trans h.below.size e
  · have hl := h.wd.lt k y
    rcases x with x | x
    · rcases nx k x with e | e
      · exact h.far k (.inl e) y
      · omega
    · rcases nz k x with e | e
      · exact h.far k (.inr e) y
      · omega
  · obtain ⟨s1, s2, s3⟩ := h.side xb o e
    have hl : xb < u.heap.size := (Array.getElem?_eq_some_iff.1 s1).1
    refine ⟨(hc.block xb hl s2).trans s1, fun y => ?_, s3⟩
    rcases y with y | y
    · rcases nx xb y with z | z
      · exact s2 (.inl z)
      · omega
    · rcases nz xb y with z | z
      · exact s2 (.inr z)
      · omega
theorem DuoI.doc (h : DuoI sd w u p b q c S l S2 l2 dn X Z X2 Z2) {q' : Nat} {S' : DS} {l' : LS} {dn' : Bool} {X' Z' : Foot} (h1 : WD u' w.heap.size q' c S' l' dn' X' Z') (hc : Chg u u' (fun k => X2 k ∨ Z2 k)) (nx : ∀ k, X' k → X2 k ∨ u.heap.size ≤ k) (nz : ∀ k, Z' k → Z2 k ∨ u.heap.size ≤ k) :
    DuoI sd w u' p b q' c S l S' l' dn' X Z X' Z' := by
  refine ⟨h.pd.kept hc.size (fun k x => hc.block k (h.pd.lt k x) (fun y => h.far k x y)), h1, h.below.trans (hc.below h.below.size h.loW), h.lo, fun k x => ?_, fun k x y => ?_, fun xb o e => ?_⟩
  · rcases nx k x with e | e
    · exact h.lo2 k e
    · exact Nat.le_trans h.below.size e
  · have hl := h.pd.lt k x
    rcases y with y | y
    · rcases nx k y with e | e
      · exact h.far k x (.inl e)
      · omega
    · rcases nz k y with e | e
      · exact h.far k x (.inr e)
      · omega
  · obtain ⟨s1, s2, s3⟩ := h.side xb o e
    have hl : xb < u.heap.size := (Array.getElem?_eq_some_iff.1 s1).1
    refine ⟨(hc.block xb hl s3).trans s1, s2, fun y => ?_⟩
    rcases y with y | y
    · rcases nx xb y with z | z
      · exact s3 (.inl z)
      · omega
    · rcases nz xb y with z | z
      · exact s3 (.inr z)
      · omega
theorem DuoI.past (h : DuoI sd w u p b q c S l S2 l2 dn X Z X2 Z2) (hb : Below u.heap.size u u') : DuoI sd w u' p b q c S l S2 l2 dn X Z X2 Z2 :=
  ⟨h.pd.kept hb.size (fun k x => hb.block k (h.pd.lt k x)), h.wd.kept hb.size (fun k x => hb.block k (h.wd.lt k x)), h.below.trans (hb.mono h.below.size), h.lo, h.lo2, h.far, fun xb o e => ⟨(hb.block xb (Array.getElem?_eq_some_iff.1 (h.side xb o e).1).1).trans (h.side xb o e).1, (h.side xb o e).2⟩⟩
theorem DuoI.did (h : DuoI sd w u p b q c S l S2 l2 dn X Z X2 Z2) {S' : DS} {l' : LS} {X' Z' : Foot} (h1 : PD u' w.heap.size p b S' l' X' Z') (d : DidP u u' X Z X' Z') : DuoI sd w u' p b q c S' l' S2 l2 dn X' Z' X2 Z2 := h.prog h1 d.chg (fun k x => (d.nx k x).1) (fun k x => (d.nz k x).1)
theorem DuoI.did2 (h : DuoI sd w u p b q c S l S2 l2 dn X Z X2 Z2) {S' : DS} {l' : LS} {dn' : Bool} {X' Z' : Foot} (h1 : WD u' w.heap.size q c S' l' dn' X' Z') (d : Did2 u u' X2 Z2 X' Z') : DuoI sd w u' p b q c S l S' l' dn' X Z X' Z' := h.doc h1 d.chg (fun k x => (d.nx k x).1) (fun k x => (d.nz k x).1)
/-- The program's disk alone has turned. -/
theorem DuoI.disk (h : DuoI sd w u p b q c S l S2 l2 dn X Z X2 Z2) {S' : DS} {X' : Foot} (h1 : DiskD u' b S' X') (d : Did u u' X X') (hl : l.lives ≤ S.lives) (ht : (S'.off = S.off ∧ S'.lives = S.lives) ∨ (S'.off = true ∧ S'.lives = S.lives) ∨ (S'.off = false ∧ S'.lives = S.lives + 1)) : DuoI sd w u' p b q c S' l S2 l2 dn X' Z X2 Z2 := by
  refine h.prog ⟨h1, (h.pd.log.kept d.chg.size (fun k z => d.chg.block k (h.pd.log.lt k z) (fun x => h.pd.apart k x z))).turn hl ht, fun k x z => ?_⟩ (d.chg.mono (fun k _ x => .inl x)) (fun k x => (d.new k x).1) (fun k x => .inl x)
  rcases (d.new k x).1 with e | e
  · exact h.pd.apart k e z
  · have := h.pd.log.lt k z; omega
/-- A new block beside both. -/
theorem DuoI.beside (h : DuoI sd w u p b q c S l S2 l2 dn X Z X2 Z2) (hb : Below u.heap.size u u') (xb : Nat) (o : Obj) (hx : u'.heap[xb]? = some o) (hn : u.heap.size ≤ xb) : DuoI (some (xb, o)) w u' p b q c S l S2 l2 dn X Z X2 Z2 := by
  have k := h.past hb
  refine ⟨k.pd, k.wd, k.below, k.lo, k.lo2, k.far, fun y o' e => ?_⟩
  injection e with e
  injection e with e1 e2
  subst e1 e2
  exact ⟨hx, fun y => by have := h.pd.lt _ y; omega, fun y => by have := h.wd.lt _ y; omega⟩
/-- The document's disk alone has turned. -/
theorem DuoI.disk2 (h : DuoI sd w u p b q c S l S2 l2 dn X Z X2 Z2) {S' : DS} {X' : Foot} (h1 : DiskR u' c S' X') (d : Did u u' X2 X') : DuoI sd w u' p b q c S l S' l2 dn X Z X' Z2 := by
  obtain ⟨k1, k2⟩ := h.wd.disk_step h1 d
  exact h.did2 k1 k2
end
section
variable (sd : Option (Nat × Obj)) (w u : World) (p b q c : Nat) (S : DS) (l : LS) (S2 : DS) (l2 : LS) (dn : Bool)
theorem du_add (a : Option Addr) (cap n : Nat) (R : List (List Int)) (room : Int) (i : Nat) (h : Duo sd w u p b q c S l S2 l2 dn) (hA : Agr S l dn room i) (hr : 0 ≤ room ∧ room ≤ 5000) (hi : i ≤ 200) (hRn : R.length = n) (hn : n ≤ 6) (hR : RowsOf w a cap R) :
    Calls Try.prog 12 #[.pointer (some ⟨p, 0, none⟩), .slice a n cap] u fun e w' => e = .returned (.int .i64 (addL S l R).1) ∧ Duo sd w w' p b q c (addL S l R).2.1 (addL S l R).2.2 S2 l2 dn := by
  obtain ⟨X, Z, X2, Z2, h⟩ := h
  have hsz := hA.size
  have hrm := hA.rm
  have hfw := hA.few
  have hln := hA.len
  refine (wadd_any w.heap.size p b S l X Z a cap n R u h.pd h.lo h.below.size hRn (fun u' hc => hR.below (h.below.trans (hc.below h.below.size h.loP)) (Nat.le_refl _)) (by omega) (by omega) (by omega) (by omega) (by omega)).mono ?_
  rintro e w' ⟨X', Z', rfl, a1, a2⟩
  exact ⟨rfl, X', Z', X2, Z2, h.did a1 a2⟩
theorem du_radd (a : Option Addr) (cap n : Nat) (R : List (List Int)) (room : Int) (i : Nat) (h : Duo sd w u p b q c S2 l2 S l dn) (hA : Agr S l dn room i) (hr : 0 ≤ room ∧ room ≤ 5000) (hi : i ≤ 200) (hRn : R.length = n) (hn : n ≤ 6) (hR : RowsOf w a cap R) :
    Calls Try.prog 21 #[.pointer (some ⟨q, 0, none⟩), .slice a n cap] u fun e w' => e = .returned (.int .i64 (addL S l R).1) ∧ Duo sd w w' p b q c S2 l2 (addL S l R).2.1 (addL S l R).2.2 (addD S l dn R).2.2.2 := by
  obtain ⟨X, Z, X2, Z2, h⟩ := h
  have hsz := hA.size
  have hrm := hA.rm
  have hfw := hA.few
  have hln := hA.len
  obtain ⟨e1, e2, e3⟩ := add_same hA R
  have hc := radd_any w.heap.size q c S l dn X2 Z2 a cap n R u h.wd h.lo2 h.below.size hRn (fun u' hb => hR.below (h.below.trans hb) (Nat.le_refl _)) (fun ad ha hne => by
    rcases hR.cells with e | ⟨bb, off, e, hcell⟩
    · exact absurd e hne
    · rw [e] at ha
      injection ha with ha
      rw [← ha]
      have hpos : 0 < R.length := List.length_pos_iff.2 hne
      obtain ⟨x, cc, h1, _⟩ := hcell 0 hpos
      exact cell_lt h1) (by omega) (by omega) (by omega) (by omega) (by omega)
  rw [e1, e2, e3] at hc
  refine hc.mono ?_
  rintro e w' ⟨X', Z', rfl, a1, a2⟩
  exact ⟨rfl, X, Z, X', Z', h.did2 a1 a2⟩
theorem du_sync (h : Duo sd w u p b q c S l S2 l2 dn) :
    Calls Try.prog 17 #[.pointer (some ⟨p, 0, none⟩)] u fun e w' => e = .returned (.int .i64 (syncL S l).1) ∧ Duo sd w w' p b q c (syncL S l).2.1 (syncL S l).2.2 S2 l2 dn := by
  obtain ⟨X, Z, X2, Z2, h⟩ := h
  refine (wsync_any w.heap.size p b S l X Z u h.pd).mono ?_
  rintro e w' ⟨X', Z', rfl, a1, a2⟩
  exact ⟨rfl, X', Z', X2, Z2, h.did a1 a2⟩
theorem du_rsync (room : Int) (i : Nat) (h : Duo sd w u p b q c S2 l2 S l dn) (hA : Agr S l dn room i) :
    Calls Try.prog 22 #[.pointer (some ⟨q, 0, none⟩)] u fun e w' => e = .returned (.int .i64 (syncL S l).1) ∧ Duo sd w w' p b q c S2 l2 (syncL S l).2.1 (syncL S l).2.2 (doneN S l dn) := by
  obtain ⟨X, Z, X2, Z2, h⟩ := h
  have hc := rwsync_any w.heap.size q c S l dn X2 Z2 u h.wd
  rw [sync_same hA] at hc
  refine hc.mono ?_
  rintro e w' ⟨X', rfl, a1, a2⟩
  exact ⟨rfl, X, Z, X', Z2, h.did2 a1 a2⟩
theorem du_clear (room : Int) (i : Nat) (h : Duo sd w u p b q c S l S2 l2 dn) (hA : Agr S l dn room i) (hr : room ≤ 5000) :
    Calls Try.prog 15 #[.pointer (some ⟨p, 0, none⟩)] u fun e w' => e = .returned (.int .i64 (clearL S l).1) ∧ Duo sd w w' p b q c (clearL S l).2.1 (clearL S l).2.2 S2 l2 dn := by
  obtain ⟨X, Z, X2, Z2, h⟩ := h
  have hsz := hA.size
  refine (wclear_any w.heap.size p b S l X Z u h.pd (by omega)).mono ?_
  rintro e w' ⟨X', Z', rfl, a1, a2⟩
  exact ⟨rfl, X', Z', X2, Z2, h.did a1 a2⟩
theorem du_rclear (room : Int) (i : Nat) (h : Duo sd w u p b q c S2 l2 S l dn) (hA : Agr S l dn room i) (hr : room ≤ 5000) :
    Calls Try.prog 23 #[.pointer (some ⟨q, 0, none⟩)] u fun e w' => e = .returned (.int .i64 (clearL S l).1) ∧ Duo sd w w' p b q c S2 l2 (clearL S l).2.1 (clearL S l).2.2 (doneN S l dn) := by
  obtain ⟨X, Z, X2, Z2, h⟩ := h
  have hsz := hA.size
  have hc := rwclear_any w.heap.size q c S l dn X2 Z2 u h.wd (by omega)
  rw [clear_same hA] at hc
  refine hc.mono ?_
  rintro e w' ⟨X', rfl, a1, a2⟩
  exact ⟨rfl, X, Z, X', Z2, h.did2 a1 a2⟩
theorem du_crash (k t room : Int) (i : Nat) (h : Duo sd w u p b q c S l S2 l2 dn) (hA : Agr S l dn room i) (hr : room ≤ 5000) (hk0 : -9223372036854775808 ≤ k) (hk1 : k ≤ 9223372036854775807) (ht : 0 ≤ t ∧ t ≤ 255) :
    Calls Try.prog 16 #[.pointer (some ⟨b, 0, none⟩), .int .i64 k, .int .u8 t] u fun e w' => e = .returned (.tuple #[]) ∧ Duo sd w w' p b q c (S.crash k t) l S2 l2 dn := by
  obtain ⟨X, Z, X2, Z2, h⟩ := h
  have hsz := hA.size
  refine (dkcrash_any b S X k t u h.pd.disk (by omega) hk0 hk1 ht).mono ?_
  rintro e w' ⟨rfl, X', a1, a2⟩
  exact ⟨rfl, X', Z, X2, Z2, h.disk a1 a2 hA.lv (.inr (.inl ⟨rfl, rfl⟩))⟩
theorem du_rcrash (k t room : Int) (i : Nat) (h : Duo sd w u p b q c S2 l2 S l dn) (hA : Agr S l dn room i) (hr : room ≤ 5000) (hk0 : -9223372036854775808 ≤ k) (hk1 : k ≤ 9223372036854775807) (ht : 0 ≤ t ∧ t ≤ 255) :
    Calls Try.prog 24 #[.pointer (some ⟨c, 0, none⟩), .int .i64 k, .int .u8 t] u fun e w' => e = .returned (.tuple #[]) ∧ Duo sd w w' p b q c S2 l2 (S.crash k t) l dn := by
  obtain ⟨X, Z, X2, Z2, h⟩ := h
  have hsz := hA.size
  refine (rcrash_any c S X2 k t u h.wd.disk (by omega) hk0 hk1 ht).mono ?_
  rintro e w' ⟨rfl, X', a1, a2⟩
  exact ⟨rfl, X, Z, X', Z2, h.disk2 a1 a2⟩
theorem du_on (room : Int) (i : Nat) (h : Duo sd w u p b q c S l S2 l2 dn) (hA : Agr S l dn room i) (hi : i ≤ 200) :
    Calls Try.prog 18 #[.pointer (some ⟨b, 0, none⟩)] u fun e w' => e = .returned (.tuple #[]) ∧ Duo sd w w' p b q c S.on l S2 l2 dn := by
  obtain ⟨X, Z, X2, Z2, h⟩ := h
  have h1 := hA.li
  have h2 := hA.l0
  refine (dkon_any b S X u h.pd.disk (by omega) (by omega)).mono ?_
  rintro e w' ⟨rfl, X', a1, a2⟩
  exact ⟨rfl, X', Z, X2, Z2, h.disk a1 a2 hA.lv (.inr (.inr ⟨rfl, rfl⟩))⟩
theorem du_ron (room : Int) (i : Nat) (h : Duo sd w u p b q c S2 l2 S l dn) (hA : Agr S l dn room i) (hi : i ≤ 200) :
    Calls Try.prog 25 #[.pointer (some ⟨c, 0, none⟩)] u fun e w' => e = .returned (.tuple #[]) ∧ Duo sd w w' p b q c S2 l2 S.on l dn := by
  obtain ⟨X, Z, X2, Z2, h⟩ := h
  have h1 := hA.li
  have h2 := hA.l0
  refine (ron_any c S X2 u h.wd.disk (by omega) (by omega)).mono ?_
  rintro e w' ⟨rfl, a1, a2⟩
  exact ⟨rfl, X, Z, X2, Z2, h.disk2 a1 a2⟩
end
end Go.Proofs.Ytlfmhdljldbjmaa
