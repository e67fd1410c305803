/-
  Regions that draw their order and whose last operation writes what the others read: what holds behind every operation is asked as long as one is left.
  Regions that draw their order and one of whose operations writes what the others ahead of it read: what holds behind every operation is asked until that one has come.
-/
import Derived.Test.YtcppihpehipelaaProg
import Derived.WalkKit
import Derived.Deep.RegionHeld3
namespace Go.Proofs.Ytcppihpehipelaa
open Go Go.RowKit
set_option linter.unusedVariables false

section
variable {P : Program} {ops : Array Oper} {Q : Exit → Act → World → Prop} {md : Region.Mode} {S : World → Prop} {z : Nat}
/-- Whatever order is picked from here on; S holds behind each operation but number z. -/
def wpTill (P : Program) (md : Region.Mode) (ops : Array Oper) (Q : Exit → Act → World → Prop) (S : World → Prop) (z : Nat) : Nat → Array Bool → Act → World → Prop
  | 0, l, a, w => Region.ready md ops l = [] ∧ Q .normal a w
  | n + 1, l, a, w => (Region.ready md ops l = [] → Q .normal a w) ∧
    ∀ i ∈ Region.ready md ops l, wpOp P ops Q i (fun a' w' => (i ≠ z → S w') ∧ wpTill P md ops Q S z n (l.setIfInBounds i true) a' w') a w
theorem till_any : ∀ (n : Nat) (l : Array Bool) (a : Act) (w : World), wpTill P md ops Q S z n l a w → wpAny P md ops Q n l a w
  | 0, _, _, _, h => h
  | n + 1, _, _, _, h => ⟨h.1, fun i hi => wpOp_mono (fun a' w' h' => till_any n _ a' w' h'.2) (h.2 i hi)⟩
/-- Does number z wait for number i? -/
def waits (md : Region.Mode) (ops : Array Oper) (z i : Nat) : Bool := match ops[z]? with | none => false | some o => o.after.any fun e => Region.binds md e && e.on == i
theorem waits_listed {z i : Nat} {oz : Oper} {l : Array Bool} (h : waits md ops z i = true) (ho : ops[z]? = some oz) (hall : ∀ e ∈ oz.after, Region.binds md e = true → l.getD e.on false = true) : l.getD i false = true := by
  unfold waits at h
  rw [ho] at h
  simp only [Array.any_eq_true] at h
  obtain ⟨k, hk, hb⟩ := h
  simp at hb
  have := hall oz.after[k] (Array.getElem_mem hk) hb.1
  rw [hb.2] at this
  exact this
theorem till_first {i k : Nat} {oi : Oper} {v : Value} (hz : waits md ops z k = true) (hki : k = i ∨ waits md ops k i = true) (hi : ops[i]? = some oi) (hsel : ∀ (j : Nat) (o : Oper) cs b, ops[j]? = some o → o.op ≠ .select cs b) (hQ : ∀ c a w, Q (.panic c) (a.put oi.dst v) w → Q (.panic c) a w) :
    ∀ (n : Nat) (l : Array Bool) (a : Act) (w : World), (∀ j oj, ops[j]? = some oj → j ≠ i → l.getD j true = false → (∀ e ∈ oj.after, Region.binds md e = true → e.on ≠ i) → oi.apart ops oj = true) →
      l.getD k false = false → i ∈ Region.ready md ops l → YieldsIf P ops S oi v a → S w → wpTill P md ops Q S z n (l.setIfInBounds i true) (a.put oi.dst v) w → wpTill P md ops Q S z (n + 1) l a w := by
  intro n
  induction n with
  | zero =>
    intro l a w _ _ hr hy hS H
    refine ⟨fun h => (by rw [h] at hr; cases hr), fun j hj => ?_⟩
    by_cases hji : j = i
    · rw [hji]; exact hy.wpOp hi hS ⟨fun _ => hS, H⟩
    · have h0 := ready_mono hj hji
      rw [H.1] at h0
      cases h0
  | succ n ih =>
    intro l a w hfree hkl hr hy hS H
    refine ⟨fun h => (by rw [h] at hr; cases hr), fun j hj => ?_⟩
    by_cases hji : j = i
    · rw [hji]; exact hy.wpOp hi hS ⟨fun _ => hS, H⟩
    · obtain ⟨hun, oj, hoj, hall⟩ := mem_ready.1 hj
      have hnot : ∀ e ∈ oj.after, Region.binds md e = true → e.on ≠ i := fun e he hb heq => by
        have h1 := hall e he hb
        have h0 := (mem_ready.1 hr).1
        rw [heq] at h1
        rcases Nat.lt_or_ge i l.size with h' | h'
        · simp [h'] at h0 h1; rw [h0] at h1; cases h1
        · simp [Array.getElem?_eq_none h'] at h1
      have h2 := wpOp_putIf hoj (hfree j oj hoj hji hun hnot) (fun cs b => hsel i oi cs b hi) (fun cs b => hsel j oj cs b hoj) hQ hy (H.2 j (ready_mono hj hji))
      have hfree' : ∀ k ok, ops[k]? = some ok → k ≠ i → (l.setIfInBounds j true).getD k true = false → (∀ e ∈ ok.after, Region.binds md e = true → e.on ≠ i) → oi.apart ops ok = true := fun k ok hk hki hu hno => by
        refine hfree k ok hk hki ?_ hno
        by_cases hjk : j = k
        · rw [← hjk]; exact hun
        · rw [getD_set_ne true hjk] at hu; exact hu
      have hri := ready_mono hr (Ne.symm hji)
      have hjz : j ≠ z := fun e => by
        subst e
        have := waits_listed hz hoj hall
        rw [hkl] at this; cases this
      have hjk : j ≠ k := fun e => by
        rcases hki with e2 | e2
        · exact hji (e.trans e2)
        · subst e
          have h1 := waits_listed e2 hoj hall
          have h0 := (mem_ready.1 hr).1
          rcases Nat.lt_or_ge i l.size with h' | h'
          · simp [h'] at h0 h1; rw [h0] at h1; cases h1
          · simp [Array.getElem?_eq_none h'] at h1
      have hkl' : (l.setIfInBounds j true).getD k false = false := by rw [getD_set_ne false hjk]; exact hkl
      have hcomm : (l.setIfInBounds i true).setIfInBounds j true = (l.setIfInBounds j true).setIfInBounds i true := Array.setIfInBounds_comm _ _ (Ne.symm hji)
      refine wpOp_mono (fun a' w' h3 => ?_) h2
      rw [hcomm] at h3
      have hS' := h3.2.1 hjz
      exact ⟨fun _ => hS', ih (l.setIfInBounds j true) a' w' hfree' hkl' hri h3.1 hS' h3.2.2⟩
/-- Take number i first. -/
theorem till_take {i : Nat} {oi : Oper} {v : Value} {n : Nat} {l : Array Bool} {a : Act} {w : World} (k : Nat) (hz : waits md ops z k = true) (hki : k = i ∨ waits md ops k i = true) (hkl : l.getD k false = false) (hi : ops[i]? = some oi) (hs : Region.noSelect ops = true) (hf : Region.free md ops l i = true) (hr : (Region.ready md ops l).contains i = true)
    (hQ : ∀ c a w, Q (.panic c) (a.put oi.dst v) w → Q (.panic c) a w) (hy : YieldsIf P ops S oi v a) (hS : S w) (h : wpTill P md ops Q S z n (l.setIfInBounds i true) (a.put oi.dst v) w) : wpTill P md ops Q S z (n + 1) l a w :=
  till_first hz hki hi (Region.noSelect_spec hs) hQ n l a w (Region.free_spec hi hf) hkl (by simpa using hr) hy hS h
/-- Each of those that may come up comes up. -/
def AllTill (P : Program) (md : Region.Mode) (ops : Array Oper) (Q : Exit → Act → World → Prop) (S : World → Prop) (z : Nat) (n : Nat) (l : Array Bool) (a : Act) (w : World) (rs : List Nat) : Prop :=
  ∀ i ∈ rs, wpOp P ops Q i (fun a' w' => (i ≠ z → S w') ∧ wpTill P md ops Q S z n (l.setIfInBounds i true) a' w') a w
theorem AllTill.nil {n : Nat} {l : Array Bool} {a : Act} {w : World} : AllTill P md ops Q S z n l a w [] := fun _ h => by cases h
theorem AllTill.cons {n : Nat} {l : Array Bool} {a : Act} {w : World} {i : Nat} {o : Oper} {rs : List Nat} (ho : ops[i]? = some o)
    (h : ∀ K : Act → World → Prop, Hid (∀ a w, S w → (S w → wpTill P md ops Q S z n (l.setIfInBounds i true) a w) → K a w) → if Region.wanted o (yielded ops a.tmps) = true then Oper.wp P o a w K Q else K (a.put o.dst undef) w)
    (hs : AllTill P md ops Q S z n l a w rs) : AllTill P md ops Q S z n l a w (i :: rs) := fun j hj => by
  rcases List.mem_cons.1 hj with rfl | hj
  · exact wpOp_step ho (fun K hK => h K (fun a w hS hW => hK a w ⟨fun _ => hS, hW hS⟩))
  · exact hs j hj
theorem till_ready {rs : List Nat} {n : Nat} {l : Array Bool} {a : Act} {w : World} (hr : Region.ready md ops l = rs) (hne : rs ≠ []) (h : AllTill P md ops Q S z n l a w rs) : wpTill P md ops Q S z (n + 1) l a w := ⟨fun h0 => absurd (hr ▸ h0) hne, hr ▸ h⟩
/-- The last one: nothing is asked behind it but the end. -/
theorem till_last {n : Nat} {l : Array Bool} {a : Act} {w : World} {o : Oper} (hr : Region.ready md ops l = [z]) (hr' : Region.ready md ops (l.setIfInBounds z true) = []) (ho : ops[z]? = some o)
    (h : ∀ K : Act → World → Prop, Hid (∀ a w, Q .normal a w → K a w) → if Region.wanted o (yielded ops a.tmps) = true then Oper.wp P o a w K Q else K (a.put o.dst undef) w) : wpTill P md ops Q S z (n + 1) l a w := by
  refine ⟨(fun h0 => by rw [hr] at h0; cases h0), fun i hi => ?_⟩
  rw [hr] at hi
  obtain rfl : i = z := by simpa using hi
  refine wpOp_step ho (fun K hK => h K (fun a w hq => hK a w ⟨fun hne => absurd rfl hne, ?_⟩))
  cases n with
  | zero => exact ⟨hr', hq⟩
  | succ n => exact ⟨fun _ => hq, by rw [hr']; simp⟩
theorem region_till {id : Nat} {a : Act} {w : World} (z : Nat) (S : World → Prop) (hm : P.follows .mixedOrders = true) (hS : S w.drew) (h : S w.drew → wpTill P .any ops Q S z ops.size (Array.replicate ops.size false) a w.drew) : (Code.region id ops true).wp P Q a w :=
  wp_region_any hm (till_any _ _ _ _ (h hS))
end
end Go.Proofs.Ytcppihpehipelaa

namespace Go.Proofs.Ytcppihpehipelaa
open Go Go.RowKit
set_option linter.unusedVariables false

section
variable {P : Program} {ops : Array Oper} {Q : Exit → Act → World → Prop} {md : Region.Mode} {S : World → Prop} {z : Nat}
/-- Whatever order is picked from here on; S holds behind each operation that comes ahead of number z. -/
def wpUp (P : Program) (md : Region.Mode) (ops : Array Oper) (Q : Exit → Act → World → Prop) (S : World → Prop) (z : Nat) : Nat → Array Bool → Act → World → Prop
  | 0, l, a, w => Region.ready md ops l = [] ∧ Q .normal a w
  | n + 1, l, a, w => (Region.ready md ops l = [] → Q .normal a w) ∧
    ∀ i ∈ Region.ready md ops l, wpOp P ops Q i (fun a' w' => (l.getD z false = false → i ≠ z → S w') ∧ wpUp P md ops Q S z n (l.setIfInBounds i true) a' w') a w
theorem up_any : ∀ (n : Nat) (l : Array Bool) (a : Act) (w : World), wpUp P md ops Q S z n l a w → wpAny P md ops Q n l a w
  | 0, _, _, _, h => h
  | n + 1, _, _, _, h => ⟨h.1, fun i hi => wpOp_mono (fun a' w' h' => up_any n _ a' w' h'.2) (h.2 i hi)⟩
/-- Number z waits for number i, by way of others that have not come. -/
def reachW (md : Region.Mode) (ops : Array Oper) (l : Array Bool) : Nat → Nat → Nat → Bool
  | 0, _, _ => false
  | f + 1, z, i => waits md ops z i || (List.range ops.size).any fun k => !(l.getD k false) && waits md ops z k && reachW md ops l f k i
theorem reach_on {i j : Nat} {oj : Oper} {l : Array Bool} (hi : l.getD i false = false) (hoj : ops[j]? = some oj) (hall : ∀ e ∈ oj.after, Region.binds md e = true → l.getD e.on false = true) : ∀ (f z : Nat), reachW md ops l f z i = true → j ≠ z ∧ reachW md ops (l.setIfInBounds j true) f z i = true
  | 0, z, h => by simp [reachW] at h
  | f + 1, z, h => by
    unfold reachW at h ⊢
    simp only [Bool.or_eq_true, List.any_eq_true, Bool.and_eq_true, Bool.not_eq_true'] at h ⊢
    rcases h with h | ⟨k, hk, ⟨h1, h2⟩, h3⟩
    · refine ⟨fun e => ?_, .inl h⟩
      subst e
      have := waits_listed h hoj hall
      rw [hi] at this; cases this
    · obtain ⟨h4, h5⟩ := reach_on hi hoj hall f k h3
      refine ⟨fun e => ?_, .inr ⟨k, hk, ⟨by rw [getD_set_ne false h4]; exact h1, h2⟩, h5⟩⟩
      subst e
      have := waits_listed h2 hoj hall
      rw [h1] at this; cases this
theorem up_first {i : Nat} {oi : Oper} {v : Value} (f : Nat) (hiz : i ≠ z) (hi : ops[i]? = some oi) (hsel : ∀ (j : Nat) (o : Oper) cs b, ops[j]? = some o → o.op ≠ .select cs b) (hQ : ∀ c a w, Q (.panic c) (a.put oi.dst v) w → Q (.panic c) a w) :
    ∀ (n : Nat) (l : Array Bool) (a : Act) (w : World), (∀ j oj, ops[j]? = some oj → j ≠ i → l.getD j true = false → (∀ e ∈ oj.after, Region.binds md e = true → e.on ≠ i) → oi.apart ops oj = true) →
      reachW md ops l f z i = true → l.getD z false = false → i ∈ Region.ready md ops l → YieldsIf P ops S oi v a → S w → wpUp P md ops Q S z n (l.setIfInBounds i true) (a.put oi.dst v) w → wpUp P md ops Q S z (n + 1) l a w := by
  intro n
  induction n with
  | zero =>
    intro l a w _ _ _ hr hy hS H
    refine ⟨fun h => (by rw [h] at hr; cases hr), fun j hj => ?_⟩
    by_cases hji : j = i
    · rw [hji]; exact hy.wpOp hi hS ⟨fun _ _ => hS, H⟩
    · have h0 := ready_mono hj hji
      rw [H.1] at h0
      cases h0
  | succ n ih =>
    intro l a w hfree hre hzl hr hy hS H
    refine ⟨fun h => (by rw [h] at hr; cases hr), fun j hj => ?_⟩
    by_cases hji : j = i
    · rw [hji]; exact hy.wpOp hi hS ⟨fun _ _ => hS, H⟩
    · obtain ⟨hun, oj, hoj, hall⟩ := mem_ready.1 hj
      have hiu : l.getD i false = false := by
        have h0 := (mem_ready.1 hr).1
        rcases Nat.lt_or_ge i l.size with h' | h'
        · simp [h'] at h0 ⊢; exact h0
        · simp [Array.getElem?_eq_none h']
      have hnot : ∀ e ∈ oj.after, Region.binds md e = true → e.on ≠ i := fun e he hb heq => by
        have h1 := hall e he hb
        rw [heq, hiu] at h1
        cases h1
      have h2 := wpOp_putIf hoj (hfree j oj hoj hji hun hnot) (fun cs b => hsel i oi cs b hi) (fun cs b => hsel j oj cs b hoj) hQ hy (H.2 j (ready_mono hj hji))
      have hfree' : ∀ k ok, ops[k]? = some ok → k ≠ i → (l.setIfInBounds j true).getD k true = false → (∀ e ∈ ok.after, Region.binds md e = true → e.on ≠ i) → oi.apart ops ok = true := fun k ok hk hki hu hno => by
        refine hfree k ok hk hki ?_ hno
        by_cases hjk : j = k
        · rw [← hjk]; exact hun
        · rw [getD_set_ne true hjk] at hu; exact hu
      have hri := ready_mono hr (Ne.symm hji)
      obtain ⟨hjz, hre'⟩ := reach_on hiu hoj hall f z hre
      have hzl' : (l.setIfInBounds j true).getD z false = false := by rw [getD_set_ne false hjz]; exact hzl
      have hcomm : (l.setIfInBounds i true).setIfInBounds j true = (l.setIfInBounds j true).setIfInBounds i true := Array.setIfInBounds_comm _ _ (Ne.symm hji)
      refine wpOp_mono (fun a' w' h3 => ?_) h2
      rw [hcomm] at h3
      have hS' := h3.2.1 (by rw [getD_set_ne false hiz]; exact hzl) hjz
      exact ⟨fun _ _ => hS', ih (l.setIfInBounds j true) a' w' hfree' hre' hzl' hri h3.1 hS' h3.2.2⟩
/-- Take number i first, whom z waits for. -/
theorem up_take {i : Nat} {oi : Oper} {v : Value} {n : Nat} {l : Array Bool} {a : Act} {w : World} (hz : reachW md ops l 16 z i = true) (hzl : l.getD z false = false) (hiz : (i == z) = false) (hi : ops[i]? = some oi) (hs : Region.noSelect ops = true) (hf : Region.free md ops l i = true) (hr : (Region.ready md ops l).contains i = true)
    (hQ : ∀ c a w, Q (.panic c) (a.put oi.dst v) w → Q (.panic c) a w) (hy : YieldsIf P ops S oi v a) (hS : S w) (h : wpUp P md ops Q S z n (l.setIfInBounds i true) (a.put oi.dst v) w) : wpUp P md ops Q S z (n + 1) l a w :=
  up_first 16 (by simpa using hiz) hi (Region.noSelect_spec hs) hQ n l a w (Region.free_spec hi hf) hz hzl (by simpa using hr) hy hS h
/-- Each of those that may come up comes up. -/
def AllUp (P : Program) (md : Region.Mode) (ops : Array Oper) (Q : Exit → Act → World → Prop) (S : World → Prop) (z : Nat) (n : Nat) (l : Array Bool) (a : Act) (w : World) (rs : List Nat) : Prop :=
  ∀ i ∈ rs, wpOp P ops Q i (fun a' w' => (l.getD z false = false → i ≠ z → S w') ∧ wpUp P md ops Q S z n (l.setIfInBounds i true) a' w') a w
theorem AllUp.nil {n : Nat} {l : Array Bool} {a : Act} {w : World} : AllUp P md ops Q S z n l a w [] := fun _ h => by cases h
theorem AllUp.cons {n : Nat} {l : Array Bool} {a : Act} {w : World} {i : Nat} {o : Oper} {rs : List Nat} (ho : ops[i]? = some o)
    (h : ∀ K : Act → World → Prop, Hid (∀ a w, S w → (S w → wpUp P md ops Q S z n (l.setIfInBounds i true) a w) → K a w) → if Region.wanted o (yielded ops a.tmps) = true then Oper.wp P o a w K Q else K (a.put o.dst undef) w)
    (hs : AllUp P md ops Q S z n l a w rs) : AllUp P md ops Q S z n l a w (i :: rs) := fun j hj => by
  rcases List.mem_cons.1 hj with rfl | hj
  · exact wpOp_step ho (fun K hK => h K (fun a w hS hW => hK a w ⟨fun _ _ => hS, hW hS⟩))
  · exact hs j hj
/-- Number z itself: nothing is asked behind it. -/
theorem AllUp.that {n : Nat} {l : Array Bool} {a : Act} {w : World} {o : Oper} {rs : List Nat} (ho : ops[z]? = some o)
    (h : ∀ K : Act → World → Prop, Hid (∀ a w, wpUp P md ops Q S z n (l.setIfInBounds z true) a w → K a w) → if Region.wanted o (yielded ops a.tmps) = true then Oper.wp P o a w K Q else K (a.put o.dst undef) w)
    (hs : AllUp P md ops Q S z n l a w rs) : AllUp P md ops Q S z n l a w (z :: rs) := fun j hj => by
  rcases List.mem_cons.1 hj with rfl | hj
  · exact wpOp_step ho (fun K hK => h K (fun a w hW => hK a w ⟨fun _ hne => absurd rfl hne, hW⟩))
  · exact hs j hj
theorem up_ready {rs : List Nat} {n : Nat} {l : Array Bool} {a : Act} {w : World} (hr : Region.ready md ops l = rs) (hne : rs ≠ []) (h : AllUp P md ops Q S z n l a w rs) : wpUp P md ops Q S z (n + 1) l a w := ⟨fun h0 => absurd (hr ▸ h0) hne, hr ▸ h⟩
/-- Behind z: one that reads no memory. -/
theorem up_after {i : Nat} {oi : Oper} {v : Value} {n : Nat} {l : Array Bool} {a : Act} {w : World} (hr : Region.ready md ops l = [i]) (hzl : l.getD z false = true) (hi : ops[i]? = some oi) (hy : YieldsIf P ops (fun _ => True) oi v a) (h : wpUp P md ops Q S z n (l.setIfInBounds i true) (a.put oi.dst v) w) : wpUp P md ops Q S z (n + 1) l a w := by
  refine ⟨fun h0 => (by rw [hr] at h0; cases h0), fun j hj => ?_⟩
  rw [hr] at hj
  obtain rfl : j = i := by simpa using hj
  exact hy.wpOp hi trivial ⟨fun h0 => (by rw [hzl] at h0; cases h0), h⟩
theorem up_done {n : Nat} {l : Array Bool} {a : Act} {w : World} (hr : Region.ready md ops l = []) (h : Q .normal a w) : wpUp P md ops Q S z n l a w := by
  cases n with
  | zero => exact ⟨hr, h⟩
  | succ n => exact ⟨fun _ => h, by rw [hr]; simp⟩
theorem region_up {id : Nat} {a : Act} {w : World} (z : Nat) (S : World → Prop) (hm : P.follows .mixedOrders = true) (hS : S w.drew) (h : S w.drew → wpUp P .any ops Q S z ops.size (Array.replicate ops.size false) a w.drew) : (Code.region id ops true).wp P Q a w :=
  wp_region_any hm (up_any _ _ _ _ (h hS))
end
end Go.Proofs.Ytcppihpehipelaa

