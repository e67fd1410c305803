/-
  Maps from texts to pointers at whole blocks: what a look-up, a store, a delete and a range over one of them give. No function of the program is named here.
  Maps from numbers to numbers, made by the call: what a look-up and a store of one of them give. No function of the program is named here.
  Maps from numbers to pointers at whole blocks: what a look-up, a store and a range over one of them give. No function of the program is named here.
-/
import Derived.Test.YtcppihpehipelaaFoot
import Derived.Maps.RangeWalk
namespace Go.Proofs.Ytcppihpehipelaa
open Go.RowKit
open Go.Maps (Keyed)
set_option linter.unusedVariables false

/-- How a pointer at a whole block reads: as the block's number. -/
def ptrE (v : Value) : Option (DataW Unit × List MemPlace) :=
  match v with
  | .pointer none => some (.nil, [])
  | .pointer (some ⟨g, 0, none⟩) => some (.lit (.int .i64 (g : Int)), [])
  | _ => none
def ptrV : Option Nat → Value
  | none => .pointer none
  | some g => .pointer (some ⟨g, 0, none⟩)
def ptrD (z : DataW Unit) : Option Nat → DataW Unit
  | none => z
  | some g => .lit (.int .i64 (g : Int))
theorem ptrE_inv {v : Value} {z : DataW Unit × List MemPlace} (h : ptrE v = some z) : ∃ o, v = ptrV o ∧ z = (ptrD .nil o, []) := by
  unfold ptrE at h
  split at h
  · injection h with h; exact ⟨none, rfl, h.symm⟩
  · rename_i g; injection h with h; exact ⟨some g, rfl, h.symm⟩
  · cases h
theorem ptrD_inj {o o' : Option Nat} (h : ptrD .nil o = ptrD .nil o') : o = o' := by
  cases o <;> cases o' <;> simp [ptrD] at h
  · rfl
  · rename_i a b; have : a = b := by omega
    rw [this]
/-- A text as a key. -/
def kyL (x : ByteArray) : Lit := .string x.data.toList
theorem kyL_inj {x y : ByteArray} (h : kyL x = kyL y) : x = y := by
  unfold kyL at h
  injection h with h
  exact ByteArray.ext (Array.toList_inj.1 h)
theorem kyL_key (x : ByteArray) : WideAt.IsKeyLit (kyL x) := trivial
theorem kyLaw : Keyed Try.prog 9 := Maps.string_keyed Try.underlying9
theorem key_mk (x : ByteArray) (h : x.size ≤ 1000000) : keyOf Try.prog 9 (.string x) = some (kyL x) := WideMaps.keyOf_string_mk Try.underlying9 (by unfold maxLen; omega)
/-- Block m holds a map of c entries: at text x a pointer at the block G x. -/
def PMap (u : World) (m c : Nat) (G : ByteArray → Option Nat) : Prop :=
  ∃ D : DataW Unit, u.ownsMap Try.prog 9 ptrE m c D ∧ Maps.size D = c ∧ ∀ x z, D.atKey (kyL x) z = ptrD z (G x)
theorem has_at {D : DataW Unit} {x : ByteArray} {o : Option Nat} (h : ∀ z, D.atKey (kyL x) z = ptrD z o) : Maps.has D (kyL x) = o.isSome := by
  cases o with
  | none => exact Maps.has_false_of_atKey h
  | some g => exact Maps.has_true_of_atKey h
theorem PMap.lt {u : World} {m c : Nat} {G : ByteArray → Option Nat} (h : PMap u m c G) : m < u.heap.size := by obtain ⟨D, h1, _⟩ := h; exact h1.lt
theorem PMap.kept {u u' : World} {m c : Nat} {G : ByteArray → Option Nat} (h : PMap u m c G) (hb : u'.heap[m]? = u.heap[m]?) : PMap u' m c G := by
  obtain ⟨D, ⟨es, clock, h1, h2⟩, h3⟩ := h
  exact ⟨D, ⟨es, clock, hb.trans h1, h2⟩, h3⟩
theorem PMap.made (u : World) : PMap (u.alloc (.map #[] 0)) u.heap.size 0 (fun _ => none) :=
  ⟨.map [], World.ownsMap_made _ _ _ _, rfl, fun _ _ => rfl⟩
/-- As many as there are. -/
theorem owns_size {u : World} {m n : Nat} {D : DataW Unit} (h : u.ownsMap Try.prog 9 ptrE m n D) : u.ownsMap Try.prog 9 ptrE m (Maps.size D) D := by
  obtain ⟨es, clock, h1, h2, h3, rfl⟩ := h
  exact ⟨es, clock, h1, h2, by simp [Maps.size, length_sorted], rfl⟩
theorem PMap.of {u : World} {m n : Nat} {D : DataW Unit} {G : ByteArray → Option Nat} (h : u.ownsMap Try.prog 9 ptrE m n D) (ha : ∀ x z, D.atKey (kyL x) z = ptrD z (G x)) : PMap u m (Maps.size D) G := ⟨D, owns_size h, rfl, ha⟩

/-- 'm[k]'. -/
theorem PMap.look {u : World} {m c : Nat} {G : ByteArray → Option Nat} (h : PMap u m c G) {t e : TypeId} (ht : Try.prog.underlying t = some (.map 9 e)) (hz : (zeroValue e).run Try.prog u = .ok (.pointer none) u) (k : ByteArray) (hk : k.size ≤ 1000000) :
    (Instr.lookup t (.map (some m)) (.string k) false).run Try.prog u = .ok (ptrV (G k)) u := by
  obtain ⟨D, h1, _, h3⟩ := h
  obtain ⟨v, ps, hrun, hv⟩ := h1.lookup kyLaw ht hz (zd := .nil) (zp := []) rfl (key_mk k hk)
  obtain ⟨o, rfl, hq⟩ := ptrE_inv hv
  have hz2 := congrArg Prod.fst hq
  have e1 := ptrD_inj ((h3 k .nil).symm.trans hz2)
  subst e1
  exact hrun
/-- What a store lays at a key. -/
def putG (G : ByteArray → Option Nat) (k : ByteArray) (o : Option Nat) : ByteArray → Option Nat := fun x => if x = k then o else G x
theorem putG_same (G : ByteArray → Option Nat) (k : ByteArray) (o : Option Nat) : putG G k o k = o := if_pos rfl
theorem putG_other {G : ByteArray → Option Nat} {k x : ByteArray} {o : Option Nat} (h : x ≠ k) : putG G k o x = G x := if_neg h
theorem turned_chg {u u' : World} {m : Nat} (h : u.mapTurned u' m) {X : Foot} (hX : X m) : Chg u u' X := Chg.of_grown h.grown (fun k e => by injection e with e; subst e; exact hX)
/-- 'm[k] = v'. -/
theorem PMap.store {u : World} {m c : Nat} {G : ByteArray → Option Nat} (h : PMap u m c G) (hc : c ≤ 1000000) {t e : TypeId} (ht : Try.prog.underlying t = some (.map 9 e)) (k : ByteArray) (hk : k.size ≤ 1000000) (g : Nat) :
    ∃ u', (Instr.mapUpdate t (.map (some m)) (.string k) (.pointer (some ⟨g, 0, none⟩))).run Try.prog u = .ok () u' ∧ PMap u' m (if (G k).isSome then c else c + 1) (putG G k (some g)) ∧ u.mapTurned u' m := by
  obtain ⟨D, h1, h2, h3⟩ := h
  obtain ⟨u', hrun, h4, h5⟩ := h1.store kyLaw ht (by unfold maxLen; omega) (key_mk k hk) (val := .pointer (some ⟨g, 0, none⟩)) (d := .lit (.int .i64 (g : Int))) (ps := []) rfl
  refine ⟨u', hrun, ?_, h5⟩
  have hs : Maps.size (D.put (kyL k) (.lit (.int .i64 (g : Int)))) = if (G k).isSome then c else c + 1 := by rw [Maps.size_put (h1.tidy kyLaw), has_at (h3 k), h2]
  rw [← hs]
  refine PMap.of h4 (fun x z => ?_)
  by_cases e : x = k
  · subst e; rw [Maps.atKey_put_same h1.isMap (kyL_key x), putG_same]; rfl
  · rw [Maps.atKey_put_other (fun e' => e (kyL_inj e')), putG_other e]; exact h3 x z
/-- 'delete(m, k)'. -/
theorem PMap.drop {u : World} {m c : Nat} {G : ByteArray → Option Nat} (h : PMap u m c G) {t e : TypeId} (ht : Try.prog.underlying t = some (.map 9 e)) (k : ByteArray) (hk : k.size ≤ 1000000) (ty : TypeId) :
    ∃ u', (Builtin.delete_ #[t, 9] ty #[.map (some m), .string k]).run Try.prog u = .ok (.tuple #[]) u' ∧ PMap u' m (if (G k).isSome then c - 1 else c) (putG G k none) ∧ u.mapTurned u' m := by
  obtain ⟨D, h1, h2, h3⟩ := h
  obtain ⟨u', hrun, h4, h5⟩ := h1.drop kyLaw ht (key_mk k hk) ty
  refine ⟨u', hrun, ?_, h5⟩
  have hs : Maps.size (D.del (kyL k)) = if (G k).isSome then c - 1 else c := by
    have := Maps.size_del (k := kyL k) (h1.tidy kyLaw)
    rw [has_at (h3 k), h2] at this
    split at this <;> rename_i hh <;> simp [hh] <;> omega
  rw [← hs]
  refine PMap.of h4 (fun x z => ?_)
  by_cases e : x = k
  · subst e; rw [Maps.atKey_del_same, putG_same]; rfl
  · rw [Maps.atKey_del_other (fun e' => e (kyL_inj e')), putG_other e]; exact h3 x z
/-- A range over such a map under way: r the iterator's block, left x: is the entry at x still to come? -/
def PRange (u : World) (m r c : Nat) (G : ByteArray → Option Nat) (left : ByteArray → Bool) (cnt : Nat) : Prop :=
  ∃ (D : DataW Unit) (L : Lit → Bool), u.ranges Try.prog 9 ptrE m r c D L cnt ∧ Maps.size D = c ∧ (∀ x z, D.atKey (kyL x) z = ptrD z (G x)) ∧ ∀ x, left x = L (kyL x)
theorem PRange.map {u : World} {m r c cnt : Nat} {G : ByteArray → Option Nat} {left : ByteArray → Bool} (h : PRange u m r c G left cnt) : PMap u m c G := by
  obtain ⟨D, L, h1, h2, h3, _⟩ := h
  exact ⟨D, h1.owns, h2, h3⟩
theorem PRange.lt {u : World} {m r c cnt : Nat} {G : ByteArray → Option Nat} {left : ByteArray → Bool} (h : PRange u m r c G left cnt) : r < u.heap.size := by obtain ⟨D, L, h1, _⟩ := h; exact h1.lt
theorem PRange.left_eq {u : World} {m r c cnt : Nat} {G : ByteArray → Option Nat} {left : ByteArray → Bool} (h : PRange u m r c G left cnt) : u.rangeLeft m r = cnt := by obtain ⟨D, L, h1, _⟩ := h; exact h1.left_eq
theorem PRange.kept {u u' : World} {m r c cnt : Nat} {G : ByteArray → Option Nat} {left : ByteArray → Bool} (h : PRange u m r c G left cnt) (hm : u'.heap[m]? = u.heap[m]?) (hr : u'.heap[r]? = u.heap[r]?) : PRange u' m r c G left cnt := by
  obtain ⟨D, L, ⟨es, clock, since, seen, c0, hb, F, hs, hD, hr', rest⟩, h2⟩ := h
  exact ⟨D, L, ⟨es, clock, since, seen, c0, hm.trans hb, F, hs, hD, hr.trans hr', rest⟩, h2⟩
end Go.Proofs.Ytcppihpehipelaa

namespace Go.Proofs.Ytcppihpehipelaa
open Go.RowKit
open Go.Maps (Keyed)
set_option linter.unusedVariables false

def I64 (x : Int) : Prop := -9223372036854775808 ≤ x ∧ x ≤ 9223372036854775807
/-- How a number reads. -/
def intE (v : Value) : Option (DataW Unit × List MemPlace) :=
  match v with
  | .int .i64 g => some (.lit (.int .i64 g), [])
  | _ => none
def intD (z : DataW Unit) : Option Int → DataW Unit
  | none => z
  | some g => .lit (.int .i64 g)
theorem intE_inv {v : Value} {z : DataW Unit × List MemPlace} (h : intE v = some z) : ∃ g, v = .int .i64 g ∧ z = (.lit (.int .i64 g), []) := by
  unfold intE at h
  split at h
  · rename_i g; injection h with h; exact ⟨g, rfl, h.symm⟩
  · cases h
theorem iLaw : Keyed Try.prog 2 := Maps.int_keyed Try.underlying2
theorem ikey_mk {x : Int} (h : I64 x) : keyOf Try.prog 2 (.int .i64 x) = some (.int .i64 x) := Maps.keyOf_int_mk Try.underlying2 (by
  have h1 := h.1
  have h2 := h.2
  simp [Lit.wf]
  exact ⟨h1, h2⟩)
theorem ilit_key (x : Int) : WideAt.IsKeyLit (.int .i64 x) := trivial
/-- Block m holds a map of c entries: at x the number G x. -/
def OMap (u : World) (m c : Nat) (G : Int → Option Int) : Prop :=
  ∃ D : DataW Unit, u.ownsMap Try.prog 2 intE m c D ∧ Maps.size D ≤ c ∧ ∀ x, I64 x → ∀ z, D.atKey (.int .i64 x) z = intD z (G x)
theorem OMap.lt {u : World} {m c : Nat} {G : Int → Option Int} (h : OMap u m c G) : m < u.heap.size := by obtain ⟨D, h1, _⟩ := h; exact h1.lt
theorem OMap.kept {u u' : World} {m c : Nat} {G : Int → Option Int} (h : OMap u m c G) (hb : u'.heap[m]? = u.heap[m]?) : OMap u' m c G := by
  obtain ⟨D, ⟨es, clock, h1, h2⟩, h3⟩ := h
  exact ⟨D, ⟨es, clock, hb.trans h1, h2⟩, h3⟩
theorem OMap.made (u : World) : OMap (u.alloc (.map #[] 0)) u.heap.size 0 (fun _ => none) :=
  ⟨.map [], World.ownsMap_made _ _ _ _, Nat.le_refl _, fun _ _ _ => rfl⟩
theorem OMap.more {u : World} {m c c' : Nat} {G : Int → Option Int} (h : OMap u m c G) (hc : c ≤ c') : OMap u m c' G := by
  obtain ⟨D, h1, h2, h3⟩ := h
  exact ⟨D, h1.mono hc, Nat.le_trans h2 hc, h3⟩
theorem OMap.congr {u : World} {m c : Nat} {G G' : Int → Option Int} (h : OMap u m c G) (hG : ∀ x, I64 x → G x = G' x) : OMap u m c G' := by
  obtain ⟨D, h1, h2, h3⟩ := h
  exact ⟨D, h1, h2, fun x hx z => by rw [← hG x hx]; exact h3 x hx z⟩
theorem zero_int (u : World) : (zeroValue 3).run Try.prog u = .ok (.int .i64 0) u := by kernel_rfl
theorem iowns_size {u : World} {m n : Nat} {D : DataW Unit} (h : u.ownsMap Try.prog 2 intE m n D) : u.ownsMap Try.prog 2 intE m (Maps.size D) D := by
  obtain ⟨es, clock, h1, h2, h3, rfl⟩ := h
  exact ⟨es, clock, h1, h2, by simp [Maps.size, length_sorted], rfl⟩
/-- 'm[k]'. -/
theorem OMap.look {u : World} {m c : Nat} {G : Int → Option Int} (h : OMap u m c G) {t : TypeId} (ht : Try.prog.underlying t = some (.map 2 3)) {k : Int} (hk : I64 k) :
    (Instr.lookup t (.map (some m)) (.int .i64 k) false).run Try.prog u = .ok (.int .i64 ((G k).getD 0)) u := by
  obtain ⟨D, h1, _, h3⟩ := h
  obtain ⟨v, ps, hrun, hv⟩ := h1.lookup iLaw ht (zero_int u) (zd := .lit (.int .i64 0)) (zp := []) rfl (ikey_mk hk)
  obtain ⟨g, rfl, hq⟩ := intE_inv hv
  have hz2 : D.atKey (.int .i64 k) (.lit (.int .i64 0)) = .lit (.int .i64 g) := congrArg Prod.fst hq
  rw [h3 k hk] at hz2
  have e : (G k).getD 0 = g := by
    cases hG : G k with
    | none => rw [hG] at hz2; simp [intD] at hz2; exact hz2
    | some y => rw [hG] at hz2; simp [intD] at hz2; exact hz2
  rw [e]
  exact hrun
/-- What a store lays at a number. -/
def putI2 (G : Int → Option Int) (k : Int) (o : Option Int) : Int → Option Int := fun x => if x = k then o else G x
/-- 'm[k] = v'. -/
theorem OMap.store {u : World} {m c : Nat} {G : Int → Option Int} (h : OMap u m c G) (hc : c ≤ 1000000) {t : TypeId} (ht : Try.prog.underlying t = some (.map 2 3)) {k : Int} (hk : I64 k) (g : Int) :
    ∃ u', (Instr.mapUpdate t (.map (some m)) (.int .i64 k) (.int .i64 g)).run Try.prog u = .ok () u' ∧ OMap u' m (if (G k).isSome then c else c + 1) (putI2 G k (some g)) ∧ u.mapTurned u' m := by
  obtain ⟨D, h1, h2, h3⟩ := h
  obtain ⟨u', hrun, h4, h5⟩ := h1.store iLaw ht (by unfold maxLen; omega) (ikey_mk hk) (val := .int .i64 g) (d := .lit (.int .i64 g)) (ps := []) rfl
  have hh : Maps.has D (.int .i64 k) = (G k).isSome := by
    cases hG : G k with
    | none => exact Maps.has_false_of_atKey (fun z => by rw [h3 k hk, hG]; rfl)
    | some y => exact Maps.has_true_of_atKey (fun z => by rw [h3 k hk, hG]; rfl)
  have hs : Maps.size (D.put (.int .i64 k) (.lit (.int .i64 g))) ≤ if (G k).isSome then c else c + 1 := by
    rw [Maps.size_put (h1.tidy iLaw), hh]
    split <;> omega
  refine ⟨u', hrun, ⟨_, (iowns_size h4).mono hs, hs, fun x hx z => ?_⟩, h5⟩
  by_cases e : x = k
  · subst e; rw [Maps.atKey_put_same h1.isMap (ilit_key x)]; unfold putI2; rw [if_pos rfl]; rfl
  · rw [Maps.atKey_put_other (fun e' => e (by injection e'))]; unfold putI2; rw [if_neg e]; exact h3 x hx z
end Go.Proofs.Ytcppihpehipelaa

namespace Go.Proofs.Ytcppihpehipelaa
open Go.RowKit
open Go.Maps (Keyed)
set_option linter.unusedVariables false

theorem ikey_inv {key : Value} {kl : Lit} (h : keyOf Try.prog 2 key = some kl) : ∃ x, key = .int .i64 x ∧ kl = .int .i64 x ∧ I64 x := by
  obtain ⟨x, e, h, h2⟩ := Maps.keyOf_int_inv Try.underlying2 h
  refine ⟨x, e, h, ?_⟩
  simp [Lit.wf] at h2
  unfold I64
  exact ⟨h2.1, h2.2⟩
theorem isame_key (x y : Int) : (Lit.int .i64 x).sameKey (Lit.int .i64 y) = decide (x = y) := by
  by_cases h : x = y
  · subst h; rw [WideAt.sameKey_self (ilit_key x)]; simp
  · rw [Maps.sameKey_ne (fun e => h (by injection e))]; simp [h]
/-- Block m holds a map of c entries: at number x a pointer at the block G x. -/
def PMapI (u : World) (m c : Nat) (G : Int → Option Nat) : Prop :=
  ∃ D : DataW Unit, u.ownsMap Try.prog 2 ptrE m c D ∧ Maps.size D = c ∧ ∀ x, I64 x → ∀ z, D.atKey (.int .i64 x) z = ptrD z (G x)
theorem ihas_at {D : DataW Unit} {x : Int} {o : Option Nat} (h : ∀ z, D.atKey (.int .i64 x) z = ptrD z o) : Maps.has D (.int .i64 x) = o.isSome := by
  cases o with
  | none => exact Maps.has_false_of_atKey h
  | some g => exact Maps.has_true_of_atKey h
theorem PMapI.lt {u : World} {m c : Nat} {G : Int → Option Nat} (h : PMapI u m c G) : m < u.heap.size := by obtain ⟨D, h1, _⟩ := h; exact h1.lt
theorem PMapI.kept {u u' : World} {m c : Nat} {G : Int → Option Nat} (h : PMapI u m c G) (hb : u'.heap[m]? = u.heap[m]?) : PMapI u' m c G := by
  obtain ⟨D, ⟨es, clock, h1, h2⟩, h3⟩ := h
  exact ⟨D, ⟨es, clock, hb.trans h1, h2⟩, h3⟩
theorem PMapI.made (u : World) : PMapI (u.alloc (.map #[] 0)) u.heap.size 0 (fun _ => none) :=
  ⟨.map [], World.ownsMap_made _ _ _ _, rfl, fun _ _ _ => rfl⟩
theorem ipowns_size {u : World} {m n : Nat} {D : DataW Unit} (h : u.ownsMap Try.prog 2 ptrE m n D) : u.ownsMap Try.prog 2 ptrE m (Maps.size D) D := by
  obtain ⟨es, clock, h1, h2, h3, rfl⟩ := h
  exact ⟨es, clock, h1, h2, by simp [Maps.size, length_sorted], rfl⟩
/-- 'm[k]'. -/
theorem PMapI.look {u : World} {m c : Nat} {G : Int → Option Nat} (h : PMapI u m c G) {t e : TypeId} (ht : Try.prog.underlying t = some (.map 2 e)) (hz : (zeroValue e).run Try.prog u = .ok (.pointer none) u) {k : Int} (hk : I64 k) :
    (Instr.lookup t (.map (some m)) (.int .i64 k) false).run Try.prog u = .ok (ptrV (G k)) u := by
  obtain ⟨D, h1, _, h3⟩ := h
  obtain ⟨v, ps, hrun, hv⟩ := h1.lookup iLaw ht hz (zd := .nil) (zp := []) rfl (ikey_mk hk)
  obtain ⟨o, rfl, hq⟩ := ptrE_inv hv
  have hz2 := congrArg Prod.fst hq
  have e1 := ptrD_inj ((h3 k hk .nil).symm.trans hz2)
  subst e1
  exact hrun
/-- What a store lays at a number. -/
def putGI (G : Int → Option Nat) (k : Int) (o : Option Nat) : Int → Option Nat := fun x => if x = k then o else G x
/-- 'm[k] = v'. -/
theorem PMapI.store {u : World} {m c : Nat} {G : Int → Option Nat} (h : PMapI u m c G) (hc : c ≤ 1000000) {t e : TypeId} (ht : Try.prog.underlying t = some (.map 2 e)) {k : Int} (hk : I64 k) (g : Nat) :
    ∃ u', (Instr.mapUpdate t (.map (some m)) (.int .i64 k) (.pointer (some ⟨g, 0, none⟩))).run Try.prog u = .ok () u' ∧ PMapI u' m (if (G k).isSome then c else c + 1) (putGI G k (some g)) ∧ u.mapTurned u' m := by
  obtain ⟨D, h1, h2, h3⟩ := h
  obtain ⟨u', hrun, h4, h5⟩ := h1.store iLaw ht (by unfold maxLen; omega) (ikey_mk hk) (val := .pointer (some ⟨g, 0, none⟩)) (d := .lit (.int .i64 (g : Int))) (ps := []) rfl
  refine ⟨u', hrun, ?_, h5⟩
  have hs : Maps.size (D.put (.int .i64 k) (.lit (.int .i64 (g : Int)))) = if (G k).isSome then c else c + 1 := by rw [Maps.size_put (h1.tidy iLaw), ihas_at (h3 k hk), h2]
  rw [← hs]
  refine ⟨_, ipowns_size h4, rfl, fun x hx z => ?_⟩
  by_cases e : x = k
  · subst e; rw [Maps.atKey_put_same h1.isMap (ilit_key x)]; unfold putGI; rw [if_pos rfl]; rfl
  · rw [Maps.atKey_put_other (fun e' => e (by injection e'))]; unfold putGI; rw [if_neg e]; exact h3 x hx z
/-- A range over such a map under way: r the iterator's block, left x: is the entry at x still to come? -/
def PRangeI (u : World) (m r c : Nat) (G : Int → Option Nat) (left : Int → Bool) (cnt : Nat) : Prop :=
  ∃ (D : DataW Unit) (L : Lit → Bool), u.ranges Try.prog 2 ptrE m r c D L cnt ∧ Maps.size D = c ∧ (∀ x, I64 x → ∀ z, D.atKey (.int .i64 x) z = ptrD z (G x)) ∧ ∀ x, I64 x → left x = L (.int .i64 x)
theorem PRangeI.map {u : World} {m r c cnt : Nat} {G : Int → Option Nat} {left : Int → Bool} (h : PRangeI u m r c G left cnt) : PMapI u m c G := by
  obtain ⟨D, L, h1, h2, h3, _⟩ := h
  exact ⟨D, h1.owns, h2, h3⟩
theorem PRangeI.lt {u : World} {m r c cnt : Nat} {G : Int → Option Nat} {left : Int → Bool} (h : PRangeI u m r c G left cnt) : r < u.heap.size := by obtain ⟨D, L, h1, _⟩ := h; exact h1.lt
theorem PRangeI.left_eq {u : World} {m r c cnt : Nat} {G : Int → Option Nat} {left : Int → Bool} (h : PRangeI u m r c G left cnt) : u.rangeLeft m r = cnt := by obtain ⟨D, L, h1, _⟩ := h; exact h1.left_eq
theorem PRangeI.kept {u u' : World} {m r c cnt : Nat} {G : Int → Option Nat} {left : Int → Bool} (h : PRangeI u m r c G left cnt) (hm : u'.heap[m]? = u.heap[m]?) (hr : u'.heap[r]? = u.heap[r]?) : PRangeI u' m r c G left cnt := by
  obtain ⟨D, L, ⟨es, clock, since, seen, c0, hb, F, hs, hD, hr', rest⟩, h2⟩ := h
  exact ⟨D, L, ⟨es, clock, since, seen, c0, hm.trans hb, F, hs, hD, hr.trans hr', rest⟩, h2⟩
theorem wpList_range_ptrI {w : World} {ops : Array Oper} {rest : List Oper} {o : Oper} {a : Act} {Q : Exit → Act → World → Prop} (hg : o.guard = none) (m : Operand) (t : TypeId) (hop : o.op = Op.range t m) (e : TypeId) (ht : Try.prog.underlying t = some (.map 2 e)) (b c : Nat) (G : Int → Option Nat)
    (hm : a.eval m = .map (some b)) (h : PMapI w b c G)
    (hK : ∀ w', PRangeI w' b w.heap.size c G (fun x => (G x).isSome) c → Below w.heap.size w w' → w'.heap.size = w.heap.size + 1 → wpList Try.prog ops Q rest (a.put o.dst (.pointer (some ⟨w.heap.size, 0, none⟩))) w') : wpList Try.prog ops Q (o :: rest) a w := by
  obtain ⟨D, h1, h2, h3⟩ := h
  refine wpList_range_own w hg m t hop 2 e iLaw ht ptrE b c D hm h1 ?_
  intro w' hr hgr hs
  rw [h2] at hr
  exact hK w' ⟨D, _, hr, h2, h3, fun x hx => (ihas_at (h3 x hx)).symm⟩ ⟨hgr.os, hgr.tape, hgr.output, hgr.size, fun k hk => hgr.block k hk (by simp)⟩ hs
theorem wpList_next_ptrI {w : World} {ops : Array Oper} {rest : List Oper} {o : Oper} {a : Act} {Q : Exit → Act → World → Prop} (hg : o.guard = none) (it : Operand) (hop : o.op = Op.next it false) (b r c : Nat) (G : Int → Option Nat) (left : Int → Bool) (cnt : Nat)
    (hit : a.eval it = .pointer (some ⟨r, 0, none⟩)) (h : PRangeI w b r c G left cnt)
    (hDone : (∀ x, I64 x → left x = false) → wpList Try.prog ops Q rest (a.put o.dst (.tuple #[.bool false])) w)
    (hMore : ∀ (x : Int) (g : Nat) (w' : World) (cnt' : Nat), I64 x → left x = true → G x = some g → PRangeI w' b r c G (fun z => left z && !decide (z = x)) cnt' → cnt' < cnt → Chg w w' (fun k => k = r) → w'.heap.size = w.heap.size →
      (Instr.entry (.pointer (some ⟨r, 0, none⟩))).run Try.prog w' = .ok (.tuple #[.int .i64 x, .pointer (some ⟨g, 0, none⟩)]) w' → wpList Try.prog ops Q rest (a.put o.dst (.tuple #[.bool true, .int .i64 x, .pointer (some ⟨g, 0, none⟩)])) w') :
    wpList Try.prog ops Q (o :: rest) a w := by
  obtain ⟨D, L, h1, h2, h3, h4⟩ := h
  refine wpList_next_ranges w hg it hop 2 iLaw ptrE (Value.int .i64) ptrV (fun key kl hk => by obtain ⟨x, e, _⟩ := ikey_inv hk; exact ⟨x, e⟩) (fun v y hv => by obtain ⟨x, e, _⟩ := ptrE_inv hv; exact ⟨x, e⟩) b r c D L cnt hit h1 (fun _ hl => hDone (fun x hx => by rw [h4 x hx, hl])) ?_
  intro x q kl y w' cnt' hkey hlk hv hat hrg hlt hgr hsz hen
  obtain ⟨x', ex, rfl, hx⟩ := ikey_inv hkey
  injection ex with _ ex
  subst ex
  obtain ⟨q', eq, rfl⟩ := ptrE_inv hv
  have e1 : ∀ z, ptrD z (G x) = ptrD .nil q' := fun z => (h3 x hx z).symm.trans (hat z)
  have e2 : q' = q := by cases q <;> cases q' <;> simp [ptrV] at eq <;> first | rfl | rw [eq]
  subst e2
  obtain ⟨g, hg1, hg2⟩ : ∃ g, G x = some g ∧ q' = some g := by
    cases hG : G x with
    | none =>
      rw [hG] at e1
      have a1 := e1 .nil
      have a2 := e1 (.lit (.bool true))
      rw [← a1] at a2
      cases a2
    | some g =>
      rw [hG] at e1
      refine ⟨g, rfl, ?_⟩
      exact (ptrD_inj (e1 .nil)).symm
  subst hg2
  refine hMore x g w' cnt' hx (by rw [h4 x hx]; exact hlk) hg1 ⟨D, _, hrg, h2, h3, fun z hz => ?_⟩ hlt (Chg.of_grown hgr (fun k e => (Option.some.inj e).symm)) hsz hen
  show (left z && !decide (z = x)) = _
  rw [isame_key, h4 z hz]
end Go.Proofs.Ytcppihpehipelaa

