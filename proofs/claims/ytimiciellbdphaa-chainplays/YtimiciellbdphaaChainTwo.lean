/-
  Two chains of the call's own; a store of the document's made of a list.
-/
import Derived.Test.YtimiciellbdphaaChainKeep
namespace Go.Proofs.Ytimiciellbdphaa
open Go.RowKit
set_option linter.unusedVariables false

def Ch2 (w u : World) (p : Nat) (L : List Ver) (q : Nat) (M : List Ver) : Prop := ∃ X Y, ChD u p L X ∧ ChD u q M Y ∧ Below w.heap.size w u ∧ (∀ k, X k → w.heap.size ≤ k) ∧ (∀ k, Y k → w.heap.size ≤ k) ∧ ∀ k, X k → ¬ Y k
theorem Ch2.swap {w u : World} {p q : Nat} {L M : List Ver} (h : Ch2 w u p L q M) : Ch2 w u q M p L := by
  obtain ⟨X, Y, h1, h2, h3, h4, h5, h6⟩ := h
  exact ⟨Y, X, h2, h1, h3, h5, h4, fun k hy hx => h6 k hx hy⟩
theorem Ch2.below {w u : World} {p q : Nat} {L M : List Ver} (h : Ch2 w u p L q M) : Below w.heap.size w u := by obtain ⟨X, Y, _, _, h, _⟩ := h; exact h
theorem Ch2.past {w u u' : World} {p q : Nat} {L M : List Ver} (h : Ch2 w u p L q M) (hb : Below u.heap.size u u') : Ch2 w u' p L q M := by
  obtain ⟨X, Y, h1, h2, h3, h4, h5, h6⟩ := h
  exact ⟨X, Y, h1.past hb, h2.past hb, h3.trans (hb.mono h3.size), h4, h5, h6⟩
theorem Ch2.one {w u : World} {p q : Nat} {L M : List Ver} (h : Ch2 w u p L q M) : ChW w u p L := by
  obtain ⟨X, Y, h1, h2, h3, h4, h5, h6⟩ := h
  exact ⟨X, h1, h3, h4⟩
theorem new2_any {w u : World} {p : Nat} {L : List Ver} (h : ChW w u p L) :
    Calls Try.prog 9 #[] u fun e w' => ∃ q, e = .returned (.pointer (some ⟨q, 0, none⟩)) ∧ Ch2 w w' p L q [] := by
  obtain ⟨X, h1, h2, h3⟩ := h
  exact (cnew_any u).mono fun e w' ⟨q, Y, e1, c, hb, hY⟩ => ⟨q, e1, X, Y, h1.past hb, c, h2.trans (hb.mono h2.size), h3, fun k hk => Nat.le_trans h2.size (hY k hk), fun k hx hy => by have := h1.lt k hx; have := hY k hy; omega⟩
theorem put2_any {w u : World} {p q : Nat} {L M : List Ver} (h : Ch2 w u p L q M) {V : Ver} (hV : VerIn V) :
    Calls Try.prog 10 #[.pointer (some ⟨p, 0, none⟩), cvv V] u fun e w' => e = .returned (.int .i64 (putV L V).1) ∧ Ch2 w w' p (putV L V).2 q M := by
  obtain ⟨X, Y, h1, h2, h3, h4, h5, h6⟩ := h
  refine (cput_any p L X V hV u h1).mono ?_
  rintro e w' ⟨e1, X', c, d⟩
  refine ⟨e1, X', Y, c, h2.kept d.chg.size (fun k hy => d.chg.block k (h2.lt k hy) (fun hx => h6 k hx hy)), h3.trans (d.chg.below h3.size h4), fun k hk => (d.new k hk).1.elim (h4 k) (fun e => Nat.le_trans h3.size e), h5, fun k hx hy => ?_⟩
  rcases (d.new k hx).1 with e | e
  · exact h6 k e hy
  · have := h2.lt k hy; omega
theorem store_made {u : World} {B : Nat} {a : Option Addr} {c n : Nat} {L : List Ver} (hn : L.length = n) (ho : u.ownsRow B 47 20 (.slice a n c) n (L.flatMap encV)) (hB : B ≤ u.heap.size) (hok : OkL L) (hf : L.length ≤ 1000000) (T : TypeId) : StoreR (u.alloc (.cells #[.slice a n c] T)) B u.heap.size L := by
  subst hn
  have hb : Below u.heap.size u (u.alloc (.cells #[.slice a L.length c] T)) := (Below.refl _ _).alloc (Nat.le_refl _) _
  refine ⟨by simp, hB, ⟨a, c, ?_, own_below ho hb (Nat.le_refl _), fun k hk => ?_⟩, World.frozen?_alloc_new _ _ _ _, hok, hf⟩
  · rw [World.cell?_alloc_new]; rfl
  · have := (ho.lt k hk).2
    omega
open Classical in
theorem same_yes (p q : Nat) (L M : List Ver) (w : World) (h : StoreL w p L) (h' : StoreL w q M) (he : L = M) :
    Calls Try.prog 24 #[.pointer (some ⟨p, 0, none⟩), .pointer (some ⟨q, 0, none⟩)] w fun e w' => e = .returned (.bool true) ∧ Below w.heap.size w w' := by
  have := rsame10_any p q L M w h h'
  rw [decide_eq_true he] at this
  exact this
theorem chn_ok {L : List Ver} (h : Chn L) : OkL L := fun X hX => (chn_mem h hX).1
end Go.Proofs.Ytimiciellbdphaa
