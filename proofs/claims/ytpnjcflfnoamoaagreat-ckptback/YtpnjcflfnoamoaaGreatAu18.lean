/-
  Regions whose last operation waits for the others by way of others: who comes first may be taken first.
  Lists of versions cut in two; one version as a list.
  One version more (hourglassref10: Store.Put).
  Two versions held against one another.
-/
import Derived.Test.YtpnjcflfnoamoaaGreatAu33
import Derived.Test.YtpnjcflfnoamoaaGreatAu28
import Derived.Deep.Slices
import Derived.Laws.StructEq
namespace Go.Proofs.YtpnjcflfnoamoaaGreat
open Go Go.RowKit
set_option linter.unusedVariables false

section
variable {P : Program} {ops : Array Oper} {Q : Exit → Act → World → Prop} {md : Region.Mode} {S : World → Prop} {z : Nat}
/-- Number z waits for number i by way of others: z for the first, each for the next, the last for i. -/
def chainW (md : Region.Mode) (ops : Array Oper) : Nat → Nat → List Nat → Bool
  | z, i, [] => waits md ops z i
  | z, i, k :: r => waits md ops z k && chainW md ops k i r
theorem chain_free {i j : Nat} {oj : Oper} {l : Array Bool} (hi : l.getD i false = false) (hoj : ops[j]? = some oj) (hall : ∀ e ∈ oj.after, Region.binds md e = true → l.getD e.on false = true) : ∀ (ps : List Nat) (z : Nat), chainW md ops z i ps = true → (∀ k ∈ ps, l.getD k false = false) → j ≠ z ∧ ∀ k ∈ ps, j ≠ k
  | [], z, hc, _ => by
    refine ⟨fun e => ?_, fun k hk => by simp at hk⟩
    subst e
    have := waits_listed hc hoj hall
    rw [hi] at this; cases this
  | k :: r, z, hc, hu => by
    unfold chainW at hc
    simp only [Bool.and_eq_true] at hc
    obtain ⟨h1, h2⟩ := chain_free hi hoj hall r k hc.2 (fun k' hk' => hu k' (List.mem_cons_of_mem _ hk'))
    refine ⟨fun e => ?_, fun k' hk' => ?_⟩
    · subst e
      have := waits_listed hc.1 hoj hall
      rw [hu k (by simp)] at this; cases this
    · rcases List.mem_cons.1 hk' with rfl | hk'
      · exact h1
      · exact h2 k' hk'
theorem till_firstP {i : Nat} {oi : Oper} {v : Value} (ps : List Nat) (hz : chainW md ops z i ps = true) (hi : ops[i]? = some oi) (hsel : ∀ (j : Nat) (o : Oper) cs b, ops[j]? = some o → o.op ≠ .select cs b) (hQ : ∀ c a w, Q (.panic c) (a.put oi.dst v) w → Q (.panic c) a w) :
    ∀ (n : Nat) (l : Array Bool) (a : Act) (w : World), (∀ j oj, ops[j]? = some oj → j ≠ i → l.getD j true = false → (∀ e ∈ oj.after, Region.binds md e = true → e.on ≠ i) → oi.apart ops oj = true) →
      (∀ k ∈ ps, l.getD k false = false) → i ∈ Region.ready md ops l → YieldsIf P ops S oi v a → S w → wpTill P md ops Q S z n (l.setIfInBounds i true) (a.put oi.dst v) w → wpTill P md ops Q S z (n + 1) l a w := by
  intro n
  induction n with
  | zero =>
    intro l a w _ _ hr hy hS H
    refine ⟨fun h => (by rw [h] at hr; cases hr), fun j hj => ?_⟩
    by_cases hji : j = i
    · rw [hji]; exact hy.wpOp hi hS ⟨fun _ => hS, H⟩
    · have h0 := ready_mono hj hji
      rw [H.1] at h0
      cases h0
  | succ n ih =>
    intro l a w hfree hkl hr hy hS H
    refine ⟨fun h => (by rw [h] at hr; cases hr), fun j hj => ?_⟩
    by_cases hji : j = i
    · rw [hji]; exact hy.wpOp hi hS ⟨fun _ => hS, H⟩
    · obtain ⟨hun, oj, hoj, hall⟩ := mem_ready.1 hj
      have hiu : l.getD i false = false := by
        have h0 := (mem_ready.1 hr).1
        rcases Nat.lt_or_ge i l.size with h' | h'
        · simp [h'] at h0 ⊢; exact h0
        · simp [Array.getElem?_eq_none h']
      have hnot : ∀ e ∈ oj.after, Region.binds md e = true → e.on ≠ i := fun e he hb heq => by
        have h1 := hall e he hb
        rw [heq, hiu] at h1
        cases h1
      have h2 := wpOp_putIf hoj (hfree j oj hoj hji hun hnot) (fun cs b => hsel i oi cs b hi) (fun cs b => hsel j oj cs b hoj) hQ hy (H.2 j (ready_mono hj hji))
      have hfree' : ∀ k ok, ops[k]? = some ok → k ≠ i → (l.setIfInBounds j true).getD k true = false → (∀ e ∈ ok.after, Region.binds md e = true → e.on ≠ i) → oi.apart ops ok = true := fun k ok hk hki hu hno => by
        refine hfree k ok hk hki ?_ hno
        by_cases hjk : j = k
        · rw [← hjk]; exact hun
        · rw [getD_set_ne true hjk] at hu; exact hu
      have hri := ready_mono hr (Ne.symm hji)
      obtain ⟨hjz, hjps⟩ := chain_free hiu hoj hall ps z hz hkl
      have hkl' : ∀ k ∈ ps, (l.setIfInBounds j true).getD k false = false := fun k hk => by rw [getD_set_ne false (hjps k hk)]; exact hkl k hk
      have hcomm : (l.setIfInBounds i true).setIfInBounds j true = (l.setIfInBounds j true).setIfInBounds i true := Array.setIfInBounds_comm _ _ (Ne.symm hji)
      refine wpOp_mono (fun a' w' h3 => ?_) h2
      rw [hcomm] at h3
      have hS' := h3.2.1 hjz
      exact ⟨fun _ => hS', ih (l.setIfInBounds j true) a' w' hfree' hkl' hri h3.1 hS' h3.2.2⟩
/-- Take number i first, whom z waits for by way of others. -/
theorem till_takeP {i : Nat} {oi : Oper} {v : Value} {n : Nat} {l : Array Bool} {a : Act} {w : World} (ps : List Nat) (hz : chainW md ops z i ps = true) (hkl : ps.all (fun k => !(l.getD k false)) = true) (hi : ops[i]? = some oi) (hs : Region.noSelect ops = true) (hf : Region.free md ops l i = true) (hr : (Region.ready md ops l).contains i = true)
    (hQ : ∀ c a w, Q (.panic c) (a.put oi.dst v) w → Q (.panic c) a w) (hy : YieldsIf P ops S oi v a) (hS : S w) (h : wpTill P md ops Q S z n (l.setIfInBounds i true) (a.put oi.dst v) w) : wpTill P md ops Q S z (n + 1) l a w :=
  till_firstP ps hz hi (Region.noSelect_spec hs) hQ n l a w (Region.free_spec hi hf) (fun k hk => by simpa using List.all_eq_true.1 hkl k hk) (by simpa using hr) hy hS h
end
end Go.Proofs.YtpnjcflfnoamoaaGreat

namespace Go.Proofs.YtpnjcflfnoamoaaGreat
open Go.RowKit
set_option linter.unusedVariables false

end Go.Proofs.YtpnjcflfnoamoaaGreat

namespace Go.Proofs.YtpnjcflfnoamoaaGreat
open Go.RowKit
set_option linter.unusedVariables false

/-- The store's list has turned. -/
theorem StoreR.turn {w u : World} {B p : Nat} {L L' : List Ver} {a : Option Addr} {c n : Nat} (h : StoreR w B p L) (hb : Below w.heap.size w u) (hn : L'.length = n) (ho : u.ownsRow w.heap.size 67 20 (.slice a n c) n (L'.flatMap encV)) (hB : B ≤ w.heap.size) (hok : OkL L') (hf : n ≤ 1000000) :
    StoreR (u.setCell ⟨p, 0, none⟩ (.slice a n c)) B p L' ∧ Chg w (u.setCell ⟨p, 0, none⟩ (.slice a n c)) (fun k => k = p) := by
  subst hn
  obtain ⟨a0, c0, h1, _, _⟩ := h.list
  have hp := (hb.cell (p := ⟨p, 0, none⟩) h.lt).trans h1
  have hne : ∀ k, (Value.slice a L'.length c).ownBlock = some k → k ≠ p := fun k e => by have := (ho.lt k e).1; have := h.lt; omega
  refine ⟨⟨by rw [World.size_setCell]; exact Nat.lt_of_lt_of_le h.lt hb.size, h.lo, ⟨a, c, World.cell?_setCell_same _ _ _ hp, ?_, hne⟩, by rw [World.frozen?_setCell]; exact (hb.frozen (p := ⟨p, 0, none⟩) h.lt).trans h.free, hok, hf⟩, (Chg.of_below hb _).trans (Chg.set u ⟨p, 0, none⟩ _ (X := fun k => k = p) rfl) (fun _ _ x => x)⟩
  obtain ⟨hl, h0 | ⟨g, cap, cur, hv, hg, hh, r⟩⟩ := ho
  · exact ⟨hl, .inl h0⟩
  · refine ⟨hl, .inr ⟨g, cap, cur, hv, Nat.le_trans hB hg, ?_, r⟩⟩
    rw [Below.heap_setCell _ ⟨p, 0, none⟩ _ g (fun e => by have := h.lt; have e' : g = p := e; omega)]
    exact hh
end Go.Proofs.YtpnjcflfnoamoaaGreat

namespace Go.Proofs.YtpnjcflfnoamoaaGreat
open Go.RowKit
set_option linter.unusedVariables false

/-- A store that is only read: its list's cell, each version of it. -/
structure StoreL (u : World) (p : Nat) (L : List Ver) : Prop where
  cell : ∃ a c, L.length ≤ c ∧ (∀ v, Below u.heap.size u v → v.cell? ⟨p, 0, none⟩ = some (.slice a L.length c)) ∧ (L = [] ∨ ∃ g, a = some ⟨g, 0, none⟩ ∧ ∀ v, Below u.heap.size u v → ∀ i V, L[i]? = some V → VerAt v g (i * 20) V)
  oks : OkL L
  few : L.length ≤ 1000000
theorem StoreR.looks {u : World} {B p : Nat} {L : List Ver} (h : StoreR u B p L) : StoreL u p L := by
  obtain ⟨a, c, h1, h2, h3⟩ := h.open
  exact ⟨⟨a, c, h1, h2, h3.imp id (fun ⟨g, e1, _, _, e4⟩ => ⟨g, e1, e4⟩)⟩, h.oks, h.few⟩
theorem StoreL.past {u u' : World} {p : Nat} {L : List Ver} (h : StoreL u p L) (hb : Below u.heap.size u u') : StoreL u' p L := by
  obtain ⟨a, c, h1, h2, h3⟩ := h.cell
  exact ⟨⟨a, c, h1, fun v hv => h2 v (hb.trans (hv.mono hb.size)), h3.imp id (fun ⟨g, e1, e4⟩ => ⟨g, e1, fun v hv => e4 v (hb.trans (hv.mono hb.size))⟩)⟩, h.oks, h.few⟩
end Go.Proofs.YtpnjcflfnoamoaaGreat

