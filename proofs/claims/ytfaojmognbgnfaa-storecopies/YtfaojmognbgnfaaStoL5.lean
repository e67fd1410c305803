/-
  A store of the call's own beside the document's; a copy that goes its own way.
-/
import Derived.Test.YtfaojmognbgnfaaStoL3
import Derived.Test.YtfaojmognbgnfaaStoL4
namespace Go.Proofs.Ytfaojmognbgnfaa
open Go.RowKit
set_option linter.unusedVariables false

theorem StoreR.keptB {u u' : World} {B p : Nat} {L : List Ver} (h : StoreR u B p L) (hs : u.heap.size ≤ u'.heap.size) (hk : ∀ k, B ≤ k → k < u.heap.size → u'.heap[k]? = u.heap[k]?) : StoreR u' B p L := by
  obtain ⟨a, c, h1, h2, h3⟩ := h.list
  have hp := hk p h.lo h.lt
  refine ⟨Nat.lt_of_lt_of_le h.lt hs, h.lo, ⟨a, c, (cell_kept hp 0).trans h1, ⟨h2.1, ?_⟩, h3⟩, (frozen_kept hp 0).trans h.free, h.oks, h.few⟩
  rcases h2.2 with e | ⟨g, cap, cur, e1, e2, e3, e4⟩
  · exact .inl e
  · refine .inr ⟨g, cap, cur, e1, e2, (hk g e2 ?_).trans e3, e4⟩
    exact (Array.getElem?_eq_some_iff.1 e3).1
theorem xsto_any {w u : World} {p : Nat} {L : List Ver} (h : StX w u p L) :
    Calls Try.prog 19 #[.pointer (some ⟨p, 0, none⟩)] u fun e w' => ∃ q, e = .returned (.pointer (some ⟨q, 0, none⟩)) ∧ StoreR w' u.heap.size q L ∧ Below u.heap.size u w' := by
  obtain ⟨X, h1, _⟩ := h
  exact lsto_any p L X u h1
/-- A copy: its blocks are all new. -/
theorem xcopy_any {w u : World} {p : Nat} {L : List Ver} (h : StX w u p L) :
    Calls Try.prog 26 #[.pointer (some ⟨p, 0, none⟩)] u fun e w' => ∃ q, e = .returned (.pointer (some ⟨q, 0, none⟩)) ∧ StX u w' q L := by
  obtain ⟨X, h1, _⟩ := h
  exact (scopy_any p L X u h1).mono fun e w' ⟨q, Z, e1, e2, e3, e4⟩ => ⟨q, e1, Z, e2, e3, e4⟩
/-- Apply keeps what came behind the store. -/
theorem xapply_kept {w u u1 : World} {p : Nat} {L : List Ver} (h : StX w u p L) (hb : Below u.heap.size u u1) (t n : Int) (hn : 0 ≤ n ∧ n ≤ 255) (a : Option Addr) (N cap : Nat) (l : List Wrt) (hl : l.length = N) (hc : N ≤ cap) (hN : N ≤ 1000000) (hat : WrtsAt w a l) :
    Calls Try.prog 10 #[.pointer (some ⟨p, 0, none⟩), .agg #[.int .i64 t, .int .u8 n], .slice a N cap] u1 fun e w' => e = .returned (.int .i64 (applyV L t n l).1) ∧ StX w w' p (applyV L t n l).2 ∧ u1.heap.size ≤ w'.heap.size ∧ ∀ k, u.heap.size ≤ k → k < u1.heap.size → w'.heap[k]? = u1.heap[k]? := by
  obtain ⟨X, h1, h2, h3⟩ := h
  have h2' : Below w.heap.size w u1 := h2.trans (hb.mono h2.size)
  refine (sapply_any p L X t n hn a N cap l u1 (h1.past hb) hl hc hN (hat.past h2') (wrts_far hat h3)).mono ?_
  rintro e w' ⟨rfl, X', j1, j2⟩
  refine ⟨rfl, ⟨X', j1, h2'.trans (j2.chg.below h2'.size h3), fun k hk => (j2.new k hk).1.elim (h3 k) (fun e => Nat.le_trans h2'.size e)⟩, j2.chg.size, fun k hk hk2 => j2.chg.block k hk2 (fun hx => ?_)⟩
  have := h1.lt k hx
  omega
theorem rsame_is (p q : Nat) (L M : List Ver) (w : World) (h : StoreL w p L) (h' : StoreL w q M) (he : L = M) :
    Calls Try.prog 20 #[.pointer (some ⟨p, 0, none⟩), .pointer (some ⟨q, 0, none⟩)] w fun e w' => e = .returned (.bool true) ∧ Below w.heap.size w w' := by
  subst he
  exact (rsame10_any p q L L w h h').mono fun e w' ⟨h1, h2⟩ => ⟨by rw [h1]; simp, h2⟩
/-- What was applied is told at its time. -/
theorem get_here {L : List Ver} (h : OrdK L) {t n : Int} {l : List Wrt} (h0 : (applyV L t n l).1 = 0) {W : Wrt} (hW : W ∈ l) : getV (applyV L t n l).2 W.k t n = (if W.g = true then none else some W.v) ∧ (W.g = true → W.v = []) := by
  obtain ⟨e1, e2, e3, e4, e5, _⟩ := apply_ok h0
  obtain ⟨_, hp, _⟩ := may_w (n := n) e4 e5
  constructor
  · unfold getV
    rw [e1, run_here l L h e2 e3 hp W hW]
    rfl
  · intro hg
    unfold mayW at e5
    simp only [Bool.and_eq_true, List.all_eq_true] at e5
    have := (e5.1.2 W hW).2
    rw [hg] at this
    simpa using this
theorem len_all {L : List Ver} {t n : Int} {l : List Wrt} (h0 : (applyV L t n l).1 = 0) : (applyV L t n l).2.length = L.length + l.length := by
  obtain ⟨e1, e2, e3, _⟩ := apply_ok h0
  rw [e1]
  exact run_len l L e2 e3
end Go.Proofs.Ytfaojmognbgnfaa
