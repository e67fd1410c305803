/-
  Regions whose last operation waits for the others by way of others: who comes first may be taken first.
  Lists of versions cut in two; one version as a list.
  One version more (hourglassref10: Store.Put).
-/
import Derived.Test.YtpnjcflfnoamoaaGreatAu32
import Derived.Test.YtpnjcflfnoamoaaGreatAu28
import Derived.Deep.Slices
namespace Go.Proofs.YtpnjcflfnoamoaaGreat
open Go Go.RowKit
set_option linter.unusedVariables false

section
variable {P : Program} {ops : Array Oper} {Q : Exit → Act → World → Prop} {md : Region.Mode} {S : World → Prop} {z : Nat}
/-- Number z waits for number i by way of others: z for the first, each for the next, the last for i. -/
def chainW (md : Region.Mode) (ops : Array Oper) : Nat → Nat → List Nat → Bool
  | z, i, [] => waits md ops z i
  | z, i, k :: r => waits md ops z k && chainW md ops k i r
theorem chain_free {i j : Nat} {oj : Oper} {l : Array Bool} (hi : l.getD i false = false) (hoj : ops[j]? = some oj) (hall : ∀ e ∈ oj.after, Region.binds md e = true → l.getD e.on false = true) : ∀ (ps : List Nat) (z : Nat), chainW md ops z i ps = true → (∀ k ∈ ps, l.getD k false = false) → j ≠ z ∧ ∀ k ∈ ps, j ≠ k
  | [], z, hc, _ => by
    refine ⟨fun e => ?_, fun k hk => by simp at hk⟩
    subst e
    have := waits_listed hc hoj hall
    rw [hi] at this; cases this
  | k :: r, z, hc, hu => by
    unfold chainW at hc
    simp only [Bool.and_eq_true] at hc
    obtain ⟨h1, h2⟩ := chain_free hi hoj hall r k hc.2 (fun k' hk' => hu k' (List.mem_cons_of_mem _ hk'))
    refine ⟨fun e => ?_, fun k' hk' => ?_⟩
    · subst e
      have := waits_listed hc.1 hoj hall
      rw [hu k (by simp)] at this; cases this
    · rcases List.mem_cons.1 hk' with rfl | hk'
      · exact h1
      · exact h2 k' hk'
theorem till_firstP {i : Nat} {oi : Oper} {v : Value} (ps : List Nat) (hz : chainW md ops z i ps = true) (hi : ops[i]? = some oi) (hsel : ∀ (j : Nat) (o : Oper) cs b, ops[j]? = some o → o.op ≠ .select cs b) (hQ : ∀ c a w, Q (.panic c) (a.put oi.dst v) w → Q (.panic c) a w) :
    ∀ (n : Nat) (l : Array Bool) (a : Act) (w : World), (∀ j oj, ops[j]? = some oj → j ≠ i → l.getD j true = false → (∀ e ∈ oj.after, Region.binds md e = true → e.on ≠ i) → oi.apart ops oj = true) →
      (∀ k ∈ ps, l.getD k false = false) → i ∈ Region.ready md ops l → YieldsIf P ops S oi v a → S w → wpTill P md ops Q S z n (l.setIfInBounds i true) (a.put oi.dst v) w → wpTill P md ops Q S z (n + 1) l a w := by
  intro n
  induction n with
  | zero =>
    intro l a w _ _ hr hy hS H
    refine ⟨fun h => (by rw [h] at hr; cases hr), fun j hj => ?_⟩
    by_cases hji : j = i
    · rw [hji]; exact hy.wpOp hi hS ⟨fun _ => hS, H⟩
    · have h0 := ready_mono hj hji
      rw [H.1] at h0
      cases h0
  | succ n ih =>
    intro l a w hfree hkl hr hy hS H
    refine ⟨fun h => (by rw [h] at hr; cases hr), fun j hj => ?_⟩
    by_cases hji : j = i
    · rw [hji]; exact hy.wpOp hi hS ⟨fun _ => hS, H⟩
    · obtain ⟨hun, oj, hoj, hall⟩ := mem_ready.1 hj
      have hiu : l.getD i false = false := by
        have h0 := (mem_ready.1 hr).1
        rcases Nat.lt_or_ge i l.size with h' | h'
        · simp [h'] at h0 ⊢; exact h0
        · simp [Array.getElem?_eq_none h']
      have hnot : ∀ e ∈ oj.after, Region.binds md e = true → e.on ≠ i := fun e he hb heq => by
        have h1 := hall e he hb
        rw [heq, hiu] at h1
        cases h1
      have h2 := wpOp_putIf hoj (hfree j oj hoj hji hun hnot) (fun cs b => hsel i oi cs b hi) (fun cs b => hsel j oj cs b hoj) hQ hy (H.2 j (ready_mono hj hji))
      have hfree' : ∀ k ok, ops[k]? = some ok → k ≠ i → (l.setIfInBounds j true).getD k true = false → (∀ e ∈ ok.after, Region.binds md e = true → e.on ≠ i) → oi.apart ops ok = true := fun k ok hk hki hu hno => by
        refine hfree k ok hk hki ?_ hno
        by_cases hjk : j = k
        · rw [← hjk]; exact hun
        · rw [getD_set_ne true hjk] at hu; exact hu
      have hri := ready_mono hr (Ne.symm hji)
      obtain ⟨hjz, hjps⟩ := chain_free hiu hoj hall ps z hz hkl
      have hkl' : ∀ k ∈ ps, (l.setIfInBounds j true).getD k false = false := fun k hk => by rw [getD_set_ne false (hjps k hk)]; exact hkl k hk
      have hcomm : (l.setIfInBounds i true).setIfInBounds j true = (l.setIfInBounds j true).setIfInBounds i true := Array.setIfInBounds_comm _ _ (Ne.symm hji)
      refine wpOp_mono (fun a' w' h3 => ?_) h2
      rw [hcomm] at h3
      have hS' := h3.2.1 hjz
      exact ⟨fun _ => hS', ih (l.setIfInBounds j true) a' w' hfree' hkl' hri h3.1 hS' h3.2.2⟩
/-- Take number i first, whom z waits for by way of others. -/
theorem till_takeP {i : Nat} {oi : Oper} {v : Value} {n : Nat} {l : Array Bool} {a : Act} {w : World} (ps : List Nat) (hz : chainW md ops z i ps = true) (hkl : ps.all (fun k => !(l.getD k false)) = true) (hi : ops[i]? = some oi) (hs : Region.noSelect ops = true) (hf : Region.free md ops l i = true) (hr : (Region.ready md ops l).contains i = true)
    (hQ : ∀ c a w, Q (.panic c) (a.put oi.dst v) w → Q (.panic c) a w) (hy : YieldsIf P ops S oi v a) (hS : S w) (h : wpTill P md ops Q S z n (l.setIfInBounds i true) (a.put oi.dst v) w) : wpTill P md ops Q S z (n + 1) l a w :=
  till_firstP ps hz hi (Region.noSelect_spec hs) hQ n l a w (Region.free_spec hi hf) (fun k hk => by simpa using List.all_eq_true.1 hkl k hk) (by simpa using hr) hy hS h
end
end Go.Proofs.YtpnjcflfnoamoaaGreat

namespace Go.Proofs.YtpnjcflfnoamoaaGreat
open Go.RowKit
set_option linter.unusedVariables false

theorem run_build_ver (w : World) (V : Ver) (hk : Ky V.k) :
    (Instr.buildSlice 63 1 #[(0, vv V)]).run Tryz.prog w = .ok (.slice (some ⟨w.heap.size, 0, none⟩) 1 1) (w.alloc (.cells (encV V).toArray 67)) := by
  have hl := enc_len hk
  have hf : Instr.fill (fun i => some (i * 20, 20)) (encV zeroV).toArray [(0, vv V)] = some (encV V).toArray := by
    rw [fill_step _ (encV zeroV) 0 0 20 (encV V) rfl hl (by rw [enc_len zeroV_ky]; omega)]
    show some _ = some _
    congr 2
    rw [List.drop_eq_nil_of_le (by rw [enc_len zeroV_ky]; omega)]
    simp
  simp [Instr.buildSlice, run_underlying Tryz.underlying63]
  generalize hz : Array.map _ (Array.range 20) = Z
  have hz2 : Z = (encV zeroV).toArray := by rw [← hz]; kernel_rfl
  rw [hz2, hf]
  simp [newRow]
theorem step_build_ver {w : World} {ops : Array Oper} {o : Oper} {a : Act} {K : Act → World → Prop} {Q : Exit → Act → World → Prop} {E : Prop} (hgd : o.guard = none) (x : Operand) (ho : o.op = .buildSlice 63 1 #[(0, x)]) (V : Ver) (hk : Ky V.k) (hx : a.eval x = vv V)
    (h : K (a.put o.dst (.slice (some ⟨w.heap.size, 0, none⟩) 1 1)) (w.alloc (.cells (encV V).toArray 67))) : if Region.wanted o (yielded ops a.tmps) = true then Oper.wp Tryz.prog o a w K Q else E := by
  have hw : Region.wanted o (yielded ops a.tmps) = true := by simp [Region.wanted, hgd]
  rw [if_pos hw]
  have hrun := run_build_ver w V hk
  unfold Oper.wp
  simp [execOp, ho, hx, hrun, Result.andThen]
  exact h
end Go.Proofs.YtpnjcflfnoamoaaGreat

namespace Go.Proofs.YtpnjcflfnoamoaaGreat
open Go.RowKit
set_option linter.unusedVariables false

theorem info_verl (V : Ver) (h : Ky V.k) : (Tryz.prog.info? 67).map (·.size) = some (encV V).length := by rw [info_ver, enc_len h]
/-- The store's list has turned. -/
theorem StoreR.turn {w u : World} {B p : Nat} {L L' : List Ver} {a : Option Addr} {c n : Nat} (h : StoreR w B p L) (hb : Below w.heap.size w u) (hn : L'.length = n) (ho : u.ownsRow w.heap.size 67 20 (.slice a n c) n (L'.flatMap encV)) (hB : B ≤ w.heap.size) (hok : OkL L') (hf : n ≤ 1000000) :
    StoreR (u.setCell ⟨p, 0, none⟩ (.slice a n c)) B p L' ∧ Chg w (u.setCell ⟨p, 0, none⟩ (.slice a n c)) (fun k => k = p) := by
  subst hn
  obtain ⟨a0, c0, h1, _, _⟩ := h.list
  have hp := (hb.cell (p := ⟨p, 0, none⟩) h.lt).trans h1
  have hne : ∀ k, (Value.slice a L'.length c).ownBlock = some k → k ≠ p := fun k e => by have := (ho.lt k e).1; have := h.lt; omega
  refine ⟨⟨by rw [World.size_setCell]; exact Nat.lt_of_lt_of_le h.lt hb.size, h.lo, ⟨a, c, World.cell?_setCell_same _ _ _ hp, ?_, hne⟩, by rw [World.frozen?_setCell]; exact (hb.frozen (p := ⟨p, 0, none⟩) h.lt).trans h.free, hok, hf⟩, (Chg.of_below hb _).trans (Chg.set u ⟨p, 0, none⟩ _ (X := fun k => k = p) rfl) (fun _ _ x => x)⟩
  obtain ⟨hl, h0 | ⟨g, cap, cur, hv, hg, hh, r⟩⟩ := ho
  · exact ⟨hl, .inl h0⟩
  · refine ⟨hl, .inr ⟨g, cap, cur, hv, Nat.le_trans hB hg, ?_, r⟩⟩
    rw [Below.heap_setCell _ ⟨p, 0, none⟩ _ g (fun e => by have := h.lt; have e' : g = p := e; omega)]
    exact hh
end Go.Proofs.YtpnjcflfnoamoaaGreat

