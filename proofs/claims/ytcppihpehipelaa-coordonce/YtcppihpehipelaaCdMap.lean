/-
  Maps from numbers to pointers at whole blocks: what a look-up, a store and a range over one of them give. No function of the program is named here.
-/
import Derived.Test.YtcppihpehipelaaAu54
namespace Go.Proofs.Ytcppihpehipelaa
open Go.RowKit
open Go.Maps (Keyed)
set_option linter.unusedVariables false

theorem ikey_inv {key : Value} {kl : Lit} (h : keyOf Try.prog 2 key = some kl) : ∃ x, key = .int .i64 x ∧ kl = .int .i64 x ∧ I64 x := by
  obtain ⟨x, e, h, h2⟩ := Maps.keyOf_int_inv Try.underlying2 h
  refine ⟨x, e, h, ?_⟩
  simp [Lit.wf] at h2
  unfold I64
  exact ⟨h2.1, h2.2⟩
theorem isame_key (x y : Int) : (Lit.int .i64 x).sameKey (Lit.int .i64 y) = decide (x = y) := by
  by_cases h : x = y
  · subst h; rw [WideAt.sameKey_self (ilit_key x)]; simp
  · rw [Maps.sameKey_ne (fun e => h (by injection e))]; simp [h]
/-- Block m holds a map of c entries: at number x a pointer at the block G x. -/
def PMapI (u : World) (m c : Nat) (G : Int → Option Nat) : Prop :=
  ∃ D : DataW Unit, u.ownsMap Try.prog 2 ptrE m c D ∧ Maps.size D = c ∧ ∀ x, I64 x → ∀ z, D.atKey (.int .i64 x) z = ptrD z (G x)
theorem ihas_at {D : DataW Unit} {x : Int} {o : Option Nat} (h : ∀ z, D.atKey (.int .i64 x) z = ptrD z o) : Maps.has D (.int .i64 x) = o.isSome := by
  cases o with
  | none => exact Maps.has_false_of_atKey h
  | some g => exact Maps.has_true_of_atKey h
theorem PMapI.lt {u : World} {m c : Nat} {G : Int → Option Nat} (h : PMapI u m c G) : m < u.heap.size := by obtain ⟨D, h1, _⟩ := h; exact h1.lt
theorem PMapI.kept {u u' : World} {m c : Nat} {G : Int → Option Nat} (h : PMapI u m c G) (hb : u'.heap[m]? = u.heap[m]?) : PMapI u' m c G := by
  obtain ⟨D, ⟨es, clock, h1, h2⟩, h3⟩ := h
  exact ⟨D, ⟨es, clock, hb.trans h1, h2⟩, h3⟩
theorem PMapI.made (u : World) : PMapI (u.alloc (.map #[] 0)) u.heap.size 0 (fun _ => none) :=
  ⟨.map [], World.ownsMap_made _ _ _ _, rfl, fun _ _ _ => rfl⟩
theorem ipowns_size {u : World} {m n : Nat} {D : DataW Unit} (h : u.ownsMap Try.prog 2 ptrE m n D) : u.ownsMap Try.prog 2 ptrE m (Maps.size D) D := by
  obtain ⟨es, clock, h1, h2, h3, rfl⟩ := h
  exact ⟨es, clock, h1, h2, by simp [Maps.size, length_sorted], rfl⟩
/-- 'm[k]'. -/
theorem PMapI.look {u : World} {m c : Nat} {G : Int → Option Nat} (h : PMapI u m c G) {t e : TypeId} (ht : Try.prog.underlying t = some (.map 2 e)) (hz : (zeroValue e).run Try.prog u = .ok (.pointer none) u) {k : Int} (hk : I64 k) :
    (Instr.lookup t (.map (some m)) (.int .i64 k) false).run Try.prog u = .ok (ptrV (G k)) u := by
  obtain ⟨D, h1, _, h3⟩ := h
  obtain ⟨v, ps, hrun, hv⟩ := h1.lookup iLaw ht hz (zd := .nil) (zp := []) rfl (ikey_mk hk)
  obtain ⟨o, rfl, hq⟩ := ptrE_inv hv
  have hz2 := congrArg Prod.fst hq
  have e1 := ptrD_inj ((h3 k hk .nil).symm.trans hz2)
  subst e1
  exact hrun
/-- What a store lays at a number. -/
def putGI (G : Int → Option Nat) (k : Int) (o : Option Nat) : Int → Option Nat := fun x => if x = k then o else G x
/-- 'm[k] = v'. -/
theorem PMapI.store {u : World} {m c : Nat} {G : Int → Option Nat} (h : PMapI u m c G) (hc : c ≤ 1000000) {t e : TypeId} (ht : Try.prog.underlying t = some (.map 2 e)) {k : Int} (hk : I64 k) (g : Nat) :
    ∃ u', (Instr.mapUpdate t (.map (some m)) (.int .i64 k) (.pointer (some ⟨g, 0, none⟩))).run Try.prog u = .ok () u' ∧ PMapI u' m (if (G k).isSome then c else c + 1) (putGI G k (some g)) ∧ u.mapTurned u' m := by
  obtain ⟨D, h1, h2, h3⟩ := h
  obtain ⟨u', hrun, h4, h5⟩ := h1.store iLaw ht (by unfold maxLen; omega) (ikey_mk hk) (val := .pointer (some ⟨g, 0, none⟩)) (d := .lit (.int .i64 (g : Int))) (ps := []) rfl
  refine ⟨u', hrun, ?_, h5⟩
  have hs : Maps.size (D.put (.int .i64 k) (.lit (.int .i64 (g : Int)))) = if (G k).isSome then c else c + 1 := by rw [Maps.size_put (h1.tidy iLaw), ihas_at (h3 k hk), h2]
  rw [← hs]
  refine ⟨_, ipowns_size h4, rfl, fun x hx z => ?_⟩
  by_cases e : x = k
  · subst e; rw [Maps.atKey_put_same h1.isMap (ilit_key x)]; unfold putGI; rw [if_pos rfl]; rfl
  · rw [Maps.atKey_put_other (fun e' => e (by injection e'))]; unfold putGI; rw [if_neg e]; exact h3 x hx z
/-- A range over such a map under way: r the iterator's block, left x: is the entry at x still to come? -/
def PRangeI (u : World) (m r c : Nat) (G : Int → Option Nat) (left : Int → Bool) (cnt : Nat) : Prop :=
  ∃ (D : DataW Unit) (L : Lit → Bool), u.ranges Try.prog 2 ptrE m r c D L cnt ∧ Maps.size D = c ∧ (∀ x, I64 x → ∀ z, D.atKey (.int .i64 x) z = ptrD z (G x)) ∧ ∀ x, I64 x → left x = L (.int .i64 x)
theorem PRangeI.map {u : World} {m r c cnt : Nat} {G : Int → Option Nat} {left : Int → Bool} (h : PRangeI u m r c G left cnt) : PMapI u m c G := by
  obtain ⟨D, L, h1, h2, h3, _⟩ := h
  exact ⟨D, h1.owns, h2, h3⟩
theorem PRangeI.lt {u : World} {m r c cnt : Nat} {G : Int → Option Nat} {left : Int → Bool} (h : PRangeI u m r c G left cnt) : r < u.heap.size := by obtain ⟨D, L, h1, _⟩ := h; exact h1.lt
theorem PRangeI.left_eq {u : World} {m r c cnt : Nat} {G : Int → Option Nat} {left : Int → Bool} (h : PRangeI u m r c G left cnt) : u.rangeLeft m r = cnt := by obtain ⟨D, L, h1, _⟩ := h; exact h1.left_eq
theorem PRangeI.kept {u u' : World} {m r c cnt : Nat} {G : Int → Option Nat} {left : Int → Bool} (h : PRangeI u m r c G left cnt) (hm : u'.heap[m]? = u.heap[m]?) (hr : u'.heap[r]? = u.heap[r]?) : PRangeI u' m r c G left cnt := by
  obtain ⟨D, L, ⟨es, clock, since, seen, c0, hb, F, hs, hD, hr', rest⟩, h2⟩ := h
  exact ⟨D, L, ⟨es, clock, since, seen, c0, hm.trans hb, F, hs, hD, hr.trans hr', rest⟩, h2⟩
theorem wpList_range_ptrI {w : World} {ops : Array Oper} {rest : List Oper} {o : Oper} {a : Act} {Q : Exit → Act → World → Prop} (hg : o.guard = none) (m : Operand) (t : TypeId) (hop : o.op = Op.range t m) (e : TypeId) (ht : Try.prog.underlying t = some (.map 2 e)) (b c : Nat) (G : Int → Option Nat)
    (hm : a.eval m = .map (some b)) (h : PMapI w b c G)
    (hK : ∀ w', PRangeI w' b w.heap.size c G (fun x => (G x).isSome) c → Below w.heap.size w w' → w'.heap.size = w.heap.size + 1 → wpList Try.prog ops Q rest (a.put o.dst (.pointer (some ⟨w.heap.size, 0, none⟩))) w') : wpList Try.prog ops Q (o :: rest) a w := by
  obtain ⟨D, h1, h2, h3⟩ := h
  refine wpList_range_own w hg m t hop 2 e iLaw ht ptrE b c D hm h1 ?_
  intro w' hr hgr hs
  rw [h2] at hr
  exact hK w' ⟨D, _, hr, h2, h3, fun x hx => (ihas_at (h3 x hx)).symm⟩ ⟨hgr.os, hgr.tape, hgr.output, hgr.size, fun k hk => hgr.block k hk (by simp)⟩ hs
theorem wpList_next_ptrI {w : World} {ops : Array Oper} {rest : List Oper} {o : Oper} {a : Act} {Q : Exit → Act → World → Prop} (hg : o.guard = none) (it : Operand) (hop : o.op = Op.next it false) (b r c : Nat) (G : Int → Option Nat) (left : Int → Bool) (cnt : Nat)
    (hit : a.eval it = .pointer (some ⟨r, 0, none⟩)) (h : PRangeI w b r c G left cnt)
    (hDone : (∀ x, I64 x → left x = false) → wpList Try.prog ops Q rest (a.put o.dst (.tuple #[.bool false])) w)
    (hMore : ∀ (x : Int) (g : Nat) (w' : World) (cnt' : Nat), I64 x → left x = true → G x = some g → PRangeI w' b r c G (fun z => left z && !decide (z = x)) cnt' → cnt' < cnt → Chg w w' (fun k => k = r) → w'.heap.size = w.heap.size →
      (Instr.entry (.pointer (some ⟨r, 0, none⟩))).run Try.prog w' = .ok (.tuple #[.int .i64 x, .pointer (some ⟨g, 0, none⟩)]) w' → wpList Try.prog ops Q rest (a.put o.dst (.tuple #[.bool true, .int .i64 x, .pointer (some ⟨g, 0, none⟩)])) w') :
    wpList Try.prog ops Q (o :: rest) a w := by
  obtain ⟨D, L, h1, h2, h3, h4⟩ := h
  refine wpList_next_ranges w hg it hop 2 iLaw ptrE (Value.int .i64) ptrV (fun key kl hk => by obtain ⟨x, e, _⟩ := ikey_inv hk; exact ⟨x, e⟩) (fun v y hv => by obtain ⟨x, e, _⟩ := ptrE_inv hv; exact ⟨x, e⟩) b r c D L cnt hit h1 (fun _ hl => hDone (fun x hx => by rw [h4 x hx, hl])) ?_
  intro x q kl y w' cnt' hkey hlk hv hat hrg hlt hgr hsz hen
  obtain ⟨x', ex, rfl, hx⟩ := ikey_inv hkey
  injection ex with _ ex
  subst ex
  obtain ⟨q', eq, rfl⟩ := ptrE_inv hv
  have e1 : ∀ z, ptrD z (G x) = ptrD .nil q' := fun z => (h3 x hx z).symm.trans (hat z)
  have e2 : q' = q := by cases q <;> cases q' <;> simp [ptrV] at eq <;> first | rfl | rw [eq]
  subst e2
  obtain ⟨g, hg1, hg2⟩ : ∃ g, G x = some g ∧ q' = some g := by
    cases hG : G x with
    | none =>
      rw [hG] at e1
      have a1 := e1 .nil
      have a2 := e1 (.lit (.bool true))
      rw [← a1] at a2
      cases a2
    | some g =>
      rw [hG] at e1
      refine ⟨g, rfl, ?_⟩
      exact (ptrD_inj (e1 .nil)).symm
  subst hg2
  refine hMore x g w' cnt' hx (by rw [h4 x hx]; exact hlk) hg1 ⟨D, _, hrg, h2, h3, fun z hz => ?_⟩ hlt (Chg.of_grown hgr (fun k e => (Option.some.inj e).symm)) hsz hen
  show (left z && !decide (z = x)) = _
  rw [isame_key, h4 z hz]
end Go.Proofs.Ytcppihpehipelaa
