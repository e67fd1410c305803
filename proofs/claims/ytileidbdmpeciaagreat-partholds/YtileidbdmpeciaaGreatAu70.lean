/-
  The landed tables in memory (package prep: Table): entries of six cells each in a block of their own, each with a list of writes that lies elsewhere and stays as it is.
  Regions that draw their order and whose last operation writes what the others read: what holds behind every operation is asked as long as one is left.
-/
import Derived.Test.YtileidbdmpeciaaGreatAu80
import Derived.Test.YtileidbdmpeciaaGreatProg
import Derived.WalkKit
import Derived.Deep.RegionHeld3
namespace Go.Proofs.YtileidbdmpeciaaGreat
open Go.RowKit
set_option linter.unusedVariables false

theorem info_pent : (Tryz.prog.info? 31).map (·.size) = some 6 := by kernel_rfl
theorem pentEl : ElT 107 31 6 64 := ElT.mk' (z := ev zeroE) Tryz.underlying107 (by kernel_rfl) (by kernel_rfl) (by decide) (by decide)
set_option maxRecDepth 100000 in
theorem pent_zero : ∀ i z, Tryz.prog.info? 31 = some i → i.zero = some z → ∀ u ∈ z.cells, u.oneCell' = true := by
  intro i z hi hz u hu
  have h : (Tryz.prog.info? 31).map (fun i => i.zero) = some (some (ev zeroE)) := by kernel_rfl
  rw [hi] at h
  simp at h
  rw [hz] at h
  injection h with h
  subst h
  exact encE_one zeroE u (by simpa [Value.cells, encE] using hu)
theorem wpList_load_pent (d : Tmp) {ops : Array Oper} {rest : List Oper} {op : Oper} {a : Act} {w : World} {Q : Exit → Act → World → Prop} (hd : op.dst = some d) (hw : Region.wanted op (yielded ops a.tmps) = true) (x : Operand) (ho : op.op = .load 31 x)
    (b o : Nat) (hx : a.eval x = .pointer (some ⟨b, o, none⟩)) (X : EntM) (hat : EntAt w b o X)
    (h : wpList Tryz.prog ops Q rest (a.put op.dst (ev X)) w) : wpList Tryz.prog ops Q (op :: rest) a w :=
  wpList_step fun K hK => by
    rw [if_pos hw]
    exact wp_load_mid 31 x ho b o hx (encE X) _ hat.lies.range Tryz.underlying31 rfl (by rw [info_pent, encE_len]) (hK _ _ h)
theorem wpList_store_pent (d : Operand) {ops : Array Oper} {rest : List Oper} {op : Oper} {a : Act} {w : World} {Q : Exit → Act → World → Prop} (hgd : op.guard = none) (y : Operand) (ho : op.op = .store 31 d y)
    (b : Nat) (X X' : EntM) (hx : a.eval d = .pointer (some ⟨b, 0, none⟩)) (hy : a.eval y = ev X') (hat : EntMine w b X)
    (h : ∀ u, u = w.setCells b 0 (encE X') → wpList Tryz.prog ops Q rest (a.put op.dst undef) u) : wpList Tryz.prog ops Q (op :: rest) a w := by
  refine wpList_store_mid hgd 31 d y ho b 0 (encE X').toArray hx hy (by rw [show (encE X').toArray.size = 6 from rfl]; exact hat.there) (by rw [info_pent]; rfl) (encE_all X') ?_
  exact h _ rfl
theorem results_pent {fn : Func} {c t : Tmp} (h : fn.results = #[.cell c 31, .tmp t]) (tmps : Array Value) (w : World) (b : Nat) (x : EntM) (hp : tmps.getD c undef = .pointer (some ⟨b, 0, none⟩)) (hat : EntAt w b 0 x) :
    (results fn tmps).run Tryz.prog w = .ok (.tuple #[ev x, tmps.getD t undef]) w := by
  have hl := run_loadVar_mid (P := Tryz.prog) w b 0 31 (encE x) _ hat.lies.range Tryz.underlying31 rfl (by rw [info_pent, encE_len])
  unfold results
  rw [h]
  simp only [List.mapM_toArray, List.mapM_cons, List.mapM_nil, hp]
  simp [asAddr, hl]
theorem results_pent1 {fn : Func} {c : Tmp} (h : fn.results = #[.cell c 31]) (tmps : Array Value) (w : World) (b : Nat) (x : EntM) (hp : tmps.getD c undef = .pointer (some ⟨b, 0, none⟩)) (hat : EntAt w b 0 x) :
    (results fn tmps).run Tryz.prog w = .ok (ev x) w := by
  have hl := run_loadVar_mid (P := Tryz.prog) w b 0 31 (encE x) _ hat.lies.range Tryz.underlying31 rfl (by rw [info_pent, encE_len])
  unfold results
  rw [h]
  simp only [List.mapM_toArray, List.mapM_cons, List.mapM_nil, hp]
  simp [asAddr, hl]
theorem encEs_len (M : List EntM) : (M.flatMap encE).length = M.length * 6 := by
  induction M with
  | nil => rfl
  | cons x M ih => rw [List.flatMap_cons, List.length_append, ih, encE_len, List.length_cons]; omega
theorem encEs_take (M : List EntM) (k : Nat) : (M.flatMap encE).take (k * 6) = (M.take k).flatMap encE := flat_take M k (fun x _ => encE_len x)
theorem encEs_drop (M : List EntM) (k : Nat) : (M.flatMap encE).drop (k * 6) = (M.drop k).flatMap encE := flat_drop M k (fun x _ => encE_len x)
/-- A cell that is written as it was: nothing has turned. -/
theorem set_self {w : World} {b o : Nat} {v : Value} (h : w.cell? ⟨b, o, none⟩ = some v) : w.setCell ⟨b, o, none⟩ v = w := by
  obtain ⟨heap, tape, drawn, os, output⟩ := w
  unfold World.setCell
  congr 1
  apply Array.ext_getElem?
  intro i
  rw [Array.getElem?_modify]
  split
  · rename_i e
    subst e
    unfold World.cell? at h
    simp only at h
    split at h
    · rename_i c el fz hc
      rw [hc]
      simp at h
      simp only [Option.map_some, Option.isSome_none, Bool.false_eq_true, if_false]
      congr 2
      obtain ⟨ho, hv⟩ := Array.getElem?_eq_some_iff.1 h
      rw [Array.setIfInBounds, dif_pos ho, ← hv]
      exact Array.set_getElem_self ho
    · cases h
  · rfl
/-- A list of entries in a block of its own. -/
abbrev PRow (u : World) (v : Value) (M : List EntM) : Prop := u.ownsRow 0 31 6 v M.length (M.flatMap encE)
theorem PRow.ent {u : World} {a : Option Addr} {c : Nat} {M : List EntM} (h : PRow u (.slice a M.length c) M) {i : Nat} {x : EntM} (hx : M[i]? = some x) : ∃ g, a = some ⟨g, 0, none⟩ ∧ g < u.heap.size ∧ EntAt u g (i * 6) x := by
  rcases h.2 with ⟨e1, e2⟩ | ⟨g, cap, cur, e1, hg, hh, e5, e6, e7, e8⟩
  · rw [List.eq_nil_of_length_eq_zero e2] at hx
    simp at hx
  · cases e1
    have hlt := (Array.getElem?_eq_some_iff.1 hh).1
    have hl : Lies u (some ⟨g, 0, none⟩) (M.flatMap encE) := own_lies h
    have he := hl.el (size := 6) (fun y _ => encE_len y) hx
    rw [Nat.zero_add] at he
    exact ⟨g, rfl, hlt, ⟨he⟩⟩
/-- A table in block p; what of it may turn are the blocks of X: p and the list's own. -/
structure PTab (u : World) (p : Nat) (M : List EntM) (X : Foot) : Prop where
  own : X p
  lt : ∀ k, X k → k < u.heap.size
  list : ∃ a c, u.cell? ⟨p, 0, none⟩ = some (.slice a M.length c) ∧ PRow u (.slice a M.length c) M ∧ ∀ k, (Value.slice a M.length c).ownBlock = some k → X k ∧ k ≠ p
  free : u.frozen? ⟨p, 0, none⟩ = false
  wrs : ∀ x ∈ M, EntW u x
  far : ∀ x ∈ M, x.e.l ≠ [] → ∀ b o, x.a = some ⟨b, o, none⟩ → ¬ X b
  tab : TabK (ents M)
theorem prow_kept {u u' : World} {v : Value} {M : List EntM} (h : PRow u v M) (hk : ∀ k, v.ownBlock = some k → u'.heap[k]? = u.heap[k]?) : PRow u' v M := row_keptT h hk
theorem PTab.few {u : World} {p : Nat} {M : List EntM} {X : Foot} (h : PTab u p M X) : M.length ≤ 100 := by
  have := h.tab.few
  rwa [List.length_map] at this
theorem PTab.kept {u u' : World} {p : Nat} {M : List EntM} {X : Foot} (h : PTab u p M X) (hs : u.heap.size ≤ u'.heap.size) (hk : ∀ k, X k → u'.heap[k]? = u.heap[k]?) (hw : ∀ x ∈ M, x.e.l ≠ [] → ∀ b o, x.a = some ⟨b, o, none⟩ → u'.heap[b]? = u.heap[b]?) : PTab u' p M X := by
  obtain ⟨a, c, h1, h2, h3⟩ := h.list
  exact ⟨h.own, fun k hk => Nat.lt_of_lt_of_le (h.lt k hk) hs, ⟨a, c, (cell_kept (hk p h.own) 0).trans h1, prow_kept h2 (fun k e => hk k (h3 k e).1), h3⟩, (frozen_kept (hk p h.own) 0).trans h.free, fun x hx => (h.wrs x hx).kept (hw x hx), h.far, h.tab⟩
theorem PTab.past {u u' : World} {p : Nat} {M : List EntM} {X : Foot} (h : PTab u p M X) (hb : Below u.heap.size u u') : PTab u' p M X :=
  h.kept hb.size (fun k x => hb.block k (h.lt k x)) (fun x hx hl b o e => hb.block b ((h.wrs x hx).wr.blt hl e))
/-- The list's cell, and each entry of it, in every world behind. -/
theorem PTab.open {u : World} {p : Nat} {M : List EntM} {X : Foot} (h : PTab u p M X) : ∃ a c, M.length ≤ c ∧ c ≤ maxLen ∧ (a = none → M = [] ∧ c = 0) ∧ (∀ v, Below u.heap.size u v → v.cell? ⟨p, 0, none⟩ = some (.slice a M.length c) ∧ PRow v (.slice a M.length c) M) ∧ (∀ i x, M[i]? = some x → ∃ g, a = some ⟨g, 0, none⟩ ∧ Hid (∀ v, Below u.heap.size u v → EntAt v g (i * 6) x)) ∧ ∀ k, (Value.slice a M.length c).ownBlock = some k → X k ∧ k ≠ p := by
  obtain ⟨a, c, h1, h2, h3⟩ := h.list
  have hb : ∀ v, Below u.heap.size u v → v.cell? ⟨p, 0, none⟩ = some (.slice a M.length c) ∧ PRow v (.slice a M.length c) M := fun v hb =>
    ⟨(hb.cell (p := ⟨p, 0, none⟩) (h.lt p h.own)).trans h1, own_below h2 hb (Nat.le_refl _)⟩
  have hc : M.length ≤ c ∧ c ≤ maxLen ∧ (a = none → M = [] ∧ c = 0) := by
    rcases h2.2 with ⟨e1, e2⟩ | ⟨g, cap, cur, e1, _, hh, e5, e6, _⟩
    · have hn := List.eq_nil_of_length_eq_zero e2
      subst hn
      cases e1
      exact ⟨Nat.le_refl _, Nat.zero_le _, fun _ => ⟨rfl, rfl⟩⟩
    · cases e1
      exact ⟨e5, e6, fun h => (by cases h)⟩
  refine ⟨a, c, hc.1, hc.2.1, hc.2.2, hb, fun i x hx => ?_, h3⟩
  obtain ⟨g, e, _, _⟩ := h2.ent hx
  refine ⟨g, e, fun v hv => ?_⟩
  obtain ⟨g', e', _, hat⟩ := (hb v hv).2.ent hx
  rw [e] at e'
  injection e' with e'
  injection e' with e'
  subst e'
  exact hat
set_option maxHeartbeats 1000000 in
theorem pnew_any (w : World) :
    Calls Tryz.prog 41 #[] w fun e w' => ∃ p X, e = .returned (.pointer (some ⟨p, 0, none⟩)) ∧ PTab w' p [] X ∧ Below w.heap.size w w' ∧ ∀ k, X k → w.heap.size ≤ k := by
  have H : Hid (PTab (w.alloc (.cells #[.slice none 0 0] 141)) w.heap.size [] (fun k => k = w.heap.size)) := by
    refine ⟨rfl, fun k hk => by rw [hk]; simp, ⟨none, 0, ?_, World.ownsRow_nil _ _ _ _, fun k hk => by cases hk⟩, World.frozen?_alloc_new _ _ _ _, fun x hx => by simp at hx, fun x hx => by simp at hx, TabK.nil⟩
    rw [World.cell?_alloc_new]
    rfl
  go_enter Tryz.func41, Tryz.ntmps41
  go_wp2
  go_ret
  exact ⟨_, _, rfl, H.out, (Below.refl _ _).alloc (Nat.le_refl _) _, fun k hk => by rw [hk]; exact Nat.le_refl _⟩
end Go.Proofs.YtileidbdmpeciaaGreat

namespace Go.Proofs.YtileidbdmpeciaaGreat
open Go Go.RowKit
set_option linter.unusedVariables false

section
variable {P : Program} {ops : Array Oper} {Q : Exit → Act → World → Prop} {md : Region.Mode} {S : World → Prop} {z : Nat}
/-- Whatever order is picked from here on; S holds behind each operation but number z. -/
def wpTill (P : Program) (md : Region.Mode) (ops : Array Oper) (Q : Exit → Act → World → Prop) (S : World → Prop) (z : Nat) : Nat → Array Bool → Act → World → Prop
  | 0, l, a, w => Region.ready md ops l = [] ∧ Q .normal a w
  | n + 1, l, a, w => (Region.ready md ops l = [] → Q .normal a w) ∧
    ∀ i ∈ Region.ready md ops l, wpOp P ops Q i (fun a' w' => (i ≠ z → S w') ∧ wpTill P md ops Q S z n (l.setIfInBounds i true) a' w') a w
theorem till_any : ∀ (n : Nat) (l : Array Bool) (a : Act) (w : World), wpTill P md ops Q S z n l a w → wpAny P md ops Q n l a w
  | 0, _, _, _, h => h
  | n + 1, _, _, _, h => ⟨h.1, fun i hi => wpOp_mono (fun a' w' h' => till_any n _ a' w' h'.2) (h.2 i hi)⟩
/-- Does number z wait for number i? -/
def waits (md : Region.Mode) (ops : Array Oper) (z i : Nat) : Bool := match ops[z]? with | none => false | some o => o.after.any fun e => Region.binds md e && e.on == i
theorem waits_listed {z i : Nat} {oz : Oper} {l : Array Bool} (h : waits md ops z i = true) (ho : ops[z]? = some oz) (hall : ∀ e ∈ oz.after, Region.binds md e = true → l.getD e.on false = true) : l.getD i false = true := by
  unfold waits at h
  rw [ho] at h
  simp only [Array.any_eq_true] at h
  obtain ⟨k, hk, hb⟩ := h
  simp at hb
  have := hall oz.after[k] (Array.getElem_mem hk) hb.1
  rw [hb.2] at this
  exact this
theorem till_first {i k : Nat} {oi : Oper} {v : Value} (hz : waits md ops z k = true) (hki : k = i ∨ waits md ops k i = true) (hi : ops[i]? = some oi) (hsel : ∀ (j : Nat) (o : Oper) cs b, ops[j]? = some o → o.op ≠ .select cs b) (hQ : ∀ c a w, Q (.panic c) (a.put oi.dst v) w → Q (.panic c) a w) :
    ∀ (n : Nat) (l : Array Bool) (a : Act) (w : World), (∀ j oj, ops[j]? = some oj → j ≠ i → l.getD j true = false → (∀ e ∈ oj.after, Region.binds md e = true → e.on ≠ i) → oi.apart ops oj = true) →
      l.getD k false = false → i ∈ Region.ready md ops l → YieldsIf P ops S oi v a → S w → wpTill P md ops Q S z n (l.setIfInBounds i true) (a.put oi.dst v) w → wpTill P md ops Q S z (n + 1) l a w := by
  intro n
  induction n with
  | zero =>
    intro l a w _ _ hr hy hS H
    refine ⟨fun h => (by rw [h] at hr; cases hr), fun j hj => ?_⟩
    by_cases hji : j = i
    · rw [hji]; exact hy.wpOp hi hS ⟨fun _ => hS, H⟩
    · have h0 := ready_mono hj hji
      rw [H.1] at h0
      cases h0
  | succ n ih =>
    intro l a w hfree hkl hr hy hS H
    refine ⟨fun h => (by rw [h] at hr; cases hr), fun j hj => ?_⟩
    by_cases hji : j = i
    · rw [hji]; exact hy.wpOp hi hS ⟨fun _ => hS, H⟩
    · obtain ⟨hun, oj, hoj, hall⟩ := mem_ready.1 hj
      have hnot : ∀ e ∈ oj.after, Region.binds md e = true → e.on ≠ i := fun e he hb heq => by
        have h1 := hall e he hb
        have h0 := (mem_ready.1 hr).1
        rw [heq] at h1
        rcases Nat.lt_or_ge i l.size with h' | h'
        · simp [h'] at h0 h1; rw [h0] at h1; cases h1
        · simp [Array.getElem?_eq_none h'] at h1
      have h2 := wpOp_putIf hoj (hfree j oj hoj hji hun hnot) (fun cs b => hsel i oi cs b hi) (fun cs b => hsel j oj cs b hoj) hQ hy (H.2 j (ready_mono hj hji))
      have hfree' : ∀ k ok, ops[k]? = some ok → k ≠ i → (l.setIfInBounds j true).getD k true = false → (∀ e ∈ ok.after, Region.binds md e = true → e.on ≠ i) → oi.apart ops ok = true := fun k ok hk hki hu hno => by
        refine hfree k ok hk hki ?_ hno
        by_cases hjk : j = k
        · rw [← hjk]; exact hun
        · rw [getD_set_ne true hjk] at hu; exact hu
      have hri := ready_mono hr (Ne.symm hji)
      have hjz : j ≠ z := fun e => by
        subst e
        have := waits_listed hz hoj hall
        rw [hkl] at this; cases this
      have hjk : j ≠ k := fun e => by
        rcases hki with e2 | e2
        · exact hji (e.trans e2)
        · subst e
          have h1 := waits_listed e2 hoj hall
          have h0 := (mem_ready.1 hr).1
          rcases Nat.lt_or_ge i l.size with h' | h'
          · simp [h'] at h0 h1; rw [h0] at h1; cases h1
          · simp [Array.getElem?_eq_none h'] at h1
      have hkl' : (l.setIfInBounds j true).getD k false = false := by rw [getD_set_ne false hjk]; exact hkl
      have hcomm : (l.setIfInBounds i true).setIfInBounds j true = (l.setIfInBounds j true).setIfInBounds i true := Array.setIfInBounds_comm _ _ (Ne.symm hji)
      refine wpOp_mono (fun a' w' h3 => ?_) h2
      rw [hcomm] at h3
      have hS' := h3.2.1 hjz
      exact ⟨fun _ => hS', ih (l.setIfInBounds j true) a' w' hfree' hkl' hri h3.1 hS' h3.2.2⟩
/-- Take number i first. -/
theorem till_take {i : Nat} {oi : Oper} {v : Value} {n : Nat} {l : Array Bool} {a : Act} {w : World} (k : Nat) (hz : waits md ops z k = true) (hki : k = i ∨ waits md ops k i = true) (hkl : l.getD k false = false) (hi : ops[i]? = some oi) (hs : Region.noSelect ops = true) (hf : Region.free md ops l i = true) (hr : (Region.ready md ops l).contains i = true)
    (hQ : ∀ c a w, Q (.panic c) (a.put oi.dst v) w → Q (.panic c) a w) (hy : YieldsIf P ops S oi v a) (hS : S w) (h : wpTill P md ops Q S z n (l.setIfInBounds i true) (a.put oi.dst v) w) : wpTill P md ops Q S z (n + 1) l a w :=
  till_first hz hki hi (Region.noSelect_spec hs) hQ n l a w (Region.free_spec hi hf) hkl (by simpa using hr) hy hS h
/-- Each of those that may come up comes up. -/
def AllTill (P : Program) (md : Region.Mode) (ops : Array Oper) (Q : Exit → Act → World → Prop) (S : World → Prop) (z : Nat) (n : Nat) (l : Array Bool) (a : Act) (w : World) (rs : List Nat) : Prop :=
  ∀ i ∈ rs, wpOp P ops Q i (fun a' w' => (i ≠ z → S w') ∧ wpTill P md ops Q S z n (l.setIfInBounds i true) a' w') a w
theorem AllTill.nil {n : Nat} {l : Array Bool} {a : Act} {w : World} : AllTill P md ops Q S z n l a w [] := fun _ h => by cases h
theorem AllTill.cons {n : Nat} {l : Array Bool} {a : Act} {w : World} {i : Nat} {o : Oper} {rs : List Nat} (ho : ops[i]? = some o)
    (h : ∀ K : Act → World → Prop, Hid (∀ a w, S w → (S w → wpTill P md ops Q S z n (l.setIfInBounds i true) a w) → K a w) → if Region.wanted o (yielded ops a.tmps) = true then Oper.wp P o a w K Q else K (a.put o.dst undef) w)
    (hs : AllTill P md ops Q S z n l a w rs) : AllTill P md ops Q S z n l a w (i :: rs) := fun j hj => by
  rcases List.mem_cons.1 hj with rfl | hj
  · exact wpOp_step ho (fun K hK => h K (fun a w hS hW => hK a w ⟨fun _ => hS, hW hS⟩))
  · exact hs j hj
theorem till_ready {rs : List Nat} {n : Nat} {l : Array Bool} {a : Act} {w : World} (hr : Region.ready md ops l = rs) (hne : rs ≠ []) (h : AllTill P md ops Q S z n l a w rs) : wpTill P md ops Q S z (n + 1) l a w := ⟨fun h0 => absurd (hr ▸ h0) hne, hr ▸ h⟩
/-- The last one: nothing is asked behind it but the end. -/
theorem till_last {n : Nat} {l : Array Bool} {a : Act} {w : World} {o : Oper} (hr : Region.ready md ops l = [z]) (hr' : Region.ready md ops (l.setIfInBounds z true) = []) (ho : ops[z]? = some o)
    (h : ∀ K : Act → World → Prop, Hid (∀ a w, Q .normal a w → K a w) → if Region.wanted o (yielded ops a.tmps) = true then Oper.wp P o a w K Q else K (a.put o.dst undef) w) : wpTill P md ops Q S z (n + 1) l a w := by
  refine ⟨(fun h0 => by rw [hr] at h0; cases h0), fun i hi => ?_⟩
  rw [hr] at hi
  obtain rfl : i = z := by simpa using hi
  refine wpOp_step ho (fun K hK => h K (fun a w hq => hK a w ⟨fun hne => absurd rfl hne, ?_⟩))
  cases n with
  | zero => exact ⟨hr', hq⟩
  | succ n => exact ⟨fun _ => hq, by rw [hr']; simp⟩
theorem region_till {id : Nat} {a : Act} {w : World} (z : Nat) (S : World → Prop) (hm : P.follows .mixedOrders = true) (hS : S w.drew) (h : S w.drew → wpTill P .any ops Q S z ops.size (Array.replicate ops.size false) a w.drew) : (Code.region id ops true).wp P Q a w :=
  wp_region_any hm (till_any _ _ _ _ (h hS))
end
end Go.Proofs.YtileidbdmpeciaaGreat

