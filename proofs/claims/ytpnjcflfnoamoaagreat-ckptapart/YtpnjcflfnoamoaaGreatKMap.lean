/-
  Maps from keys to pointers at whole blocks: what a look-up, a store, a delete and a range over one of them give, how many entries there are.
-/
import Derived.Test.YtpnjcflfnoamoaaGreatBase
import Derived.Test.YtpnjcflfnoamoaaGreatKeySet
namespace Go.Proofs.YtpnjcflfnoamoaaGreat
open Go.RowKit
open Go.Maps (Keyed)
set_option linter.unusedVariables false

/-- Block m holds a map: at key k a pointer at the block G k. -/
def KMap (u : World) (m : Nat) (G : List Int → Option Nat) : Prop :=
  ∃ D : DataW Unit, u.ownsMap Tryz.prog 57 ptrE m (Maps.size D) D ∧ (∀ k, Ky k → ∀ z, D.atKey (kyl k) z = ptrD z (G k)) ∧ ∀ x, Maps.has D x = true → ∃ k, Ky k ∧ kyl k = x
/-- The keys of such a map, each once. -/
structure KeyL (G : List Int → Option Nat) (l : List (List Int)) : Prop where
  kys : Kys l
  nodup : l.Nodup
  iff : ∀ k, Ky k → ((G k).isSome = true ↔ k ∈ l)
theorem khas_at {D : DataW Unit} {x : Lit} {o : Option Nat} (h : ∀ z, D.atKey x z = ptrD z o) : Maps.has D x = o.isSome := by
  cases o with
  | none => exact Maps.has_false_of_atKey h
  | some g => exact Maps.has_true_of_atKey h
theorem KMap.lt {u : World} {m : Nat} {G : List Int → Option Nat} (h : KMap u m G) : m < u.heap.size := by obtain ⟨D, h1, _⟩ := h; exact h1.lt
theorem KMap.kept {u u' : World} {m : Nat} {G : List Int → Option Nat} (h : KMap u m G) (hb : u'.heap[m]? = u.heap[m]?) : KMap u' m G := by
  obtain ⟨D, ⟨es, clock, h1, h2⟩, h3⟩ := h
  exact ⟨D, ⟨es, clock, hb.trans h1, h2⟩, h3⟩
theorem KMap.made (u : World) : KMap (u.alloc (.map #[] 0)) u.heap.size (fun _ => none) :=
  ⟨.map [], World.ownsMap_made _ _ _ _, fun _ _ _ => rfl, fun x hx => by simp [Maps.has_eq] at hx⟩
theorem kmap_size {u : World} {m n : Nat} {D : DataW Unit} (h : u.ownsMap Tryz.prog 57 ptrE m n D) : u.ownsMap Tryz.prog 57 ptrE m (Maps.size D) D := by
  obtain ⟨es, clock, h1, h2, h3, rfl⟩ := h
  exact ⟨es, clock, h1, h2, by simp [Maps.size, length_sorted], rfl⟩
theorem kmap_count {u : World} {m n : Nat} {D : DataW Unit} {G : List Int → Option Nat} {l : List (List Int)} (h : u.ownsMap Tryz.prog 57 ptrE m n D) (h2 : ∀ k, Ky k → ∀ z, D.atKey (kyl k) z = ptrD z (G k)) (h3 : ∀ x, Maps.has D x = true → ∃ k, Ky k ∧ kyl k = x) (hl : KeyL G l) : Maps.size D = l.length := by
  obtain ⟨es, rfl, he, hk⟩ := h.entries kLaw
  rw [Maps.size_eq]
  have hn1 : (es.map (·.1)).Nodup := by
    unfold List.Nodup
    rw [List.pairwise_map]
    exact he
  have hn2 : (l.map kyl).Nodup := by
    unfold List.Nodup
    rw [List.pairwise_map]
    refine List.Pairwise.imp_of_mem ?_ hl.nodup
    intro a b ha hb hab e
    exact hab (kyl_inj (hl.kys a ha) (hl.kys b hb) e)
  have hh : ∀ x, Maps.has (.map es : DataW Unit) x = true ↔ x ∈ es.map (·.1) := fun x => by
    rw [Maps.has_eq, List.any_eq_true]
    constructor
    · rintro ⟨p, hp, e⟩
      rw [← WideAt.sameKey_eq e]
      exact List.mem_map.2 ⟨p, hp, rfl⟩
    · intro hx
      obtain ⟨p, hp, rfl⟩ := List.mem_map.1 hx
      exact ⟨p, hp, WideAt.sameKey_self (hk p hp)⟩
  have := len_eq_of_same hn1 hn2 (fun x => by
    rw [← hh]
    constructor
    · intro hx
      obtain ⟨k, hky, rfl⟩ := h3 x hx
      rw [khas_at (h2 k hky), hl.iff k hky] at hx
      exact List.mem_map.2 ⟨k, hx, rfl⟩
    · intro hx
      obtain ⟨k, hkl, rfl⟩ := List.mem_map.1 hx
      rw [khas_at (h2 k (hl.kys k hkl)), hl.iff k (hl.kys k hkl)]
      exact hkl)
  simpa using this
/-- 'v, ok := m[k]'. -/
theorem KMap.look {u : World} {m : Nat} {G : List Int → Option Nat} (h : KMap u m G) {t e : TypeId} (ht : Tryz.prog.underlying t = some (.map 57 e)) (hz : (zeroValue e).run Tryz.prog u = .ok (.pointer none) u) (k : List Int) (hk : Ky k) :
    (Instr.lookup t (.map (some m)) (kv k) true).run Tryz.prog u = .ok (.tuple #[ptrV (G k), .bool (G k).isSome]) u := by
  obtain ⟨D, h1, h2, h3⟩ := h
  obtain ⟨v, ps, hrun, hv⟩ := h1.look_ok kLaw ht hz (zd := .nil) (zp := []) rfl (kyl_mk hk)
  obtain ⟨o, rfl, hq⟩ := ptrE_inv hv
  have hz2 := congrArg Prod.fst hq
  have e1 := ptrD_inj ((h2 k hk .nil).symm.trans hz2)
  subst e1
  rw [khas_at (h2 k hk)] at hrun
  exact hrun
/-- 'len(m)'. -/
theorem KMap.len {u : World} {m : Nat} {G : List Int → Option Nat} {l : List (List Int)} (h : KMap u m G) (hl : KeyL G l) {t e : TypeId} (ht : Tryz.prog.underlying t = some (.map 57 e)) (ty : TypeId) :
    (Builtin.len_ #[t] ty #[.map (some m)]).run Tryz.prog u = .ok (.int .i64 (l.length : Nat)) u := by
  obtain ⟨D, h1, h2, h3⟩ := h
  rw [← kmap_count h1 h2 h3 hl]
  exact h1.len ht ty
/-- What a store lays at a key. -/
def putK (G : List Int → Option Nat) (k : List Int) (o : Option Nat) : List Int → Option Nat := fun x => if x = k then o else G x
theorem putK_same (G : List Int → Option Nat) (k : List Int) (o : Option Nat) : putK G k o k = o := if_pos rfl
theorem putK_other {G : List Int → Option Nat} {k x : List Int} {o : Option Nat} (h : x ≠ k) : putK G k o x = G x := if_neg h
/-- 'm[k] = v'. -/
theorem KMap.store {u : World} {m : Nat} {G : List Int → Option Nat} {l : List (List Int)} (h : KMap u m G) (hl : KeyL G l) (hc : l.length ≤ 1000000) {t e : TypeId} (ht : Tryz.prog.underlying t = some (.map 57 e)) (k : List Int) (hk : Ky k) (g : Nat) :
    ∃ u', (Instr.mapUpdate t (.map (some m)) (kv k) (.pointer (some ⟨g, 0, none⟩))).run Tryz.prog u = .ok () u' ∧ KMap u' m (putK G k (some g)) ∧ u.mapTurned u' m := by
  obtain ⟨D, h1, h2, h3⟩ := h
  have hs := kmap_count h1 h2 h3 hl
  obtain ⟨u', hrun, h4, h5⟩ := h1.store kLaw ht (by unfold maxLen; omega) (kyl_mk hk) (val := .pointer (some ⟨g, 0, none⟩)) (d := .lit (.int .i64 (g : Int))) (ps := []) rfl
  refine ⟨u', hrun, ⟨_, kmap_size h4, fun x hx z => ?_, fun x hx => ?_⟩, h5⟩
  · by_cases e : x = k
    · subst e; rw [Maps.atKey_put_same h1.isMap (kyl_key hk), putK_same]; rfl
    · rw [Maps.atKey_put_other (fun e' => e (kyl_inj hx hk e')), putK_other e]; exact h2 x hx z
  · by_cases e : x = kyl k
    · exact ⟨k, hk, e.symm⟩
    · rw [Maps.has_put_other e] at hx
      exact h3 x hx
/-- A range over such a map under way: r the iterator's block, left k: is the entry at k still to come? -/
def KRange (u : World) (m r : Nat) (G : List Int → Option Nat) (left : List Int → Bool) (cnt : Nat) : Prop :=
  ∃ (D : DataW Unit) (L : Lit → Bool) (n : Nat), u.ranges Tryz.prog 57 ptrE m r n D L cnt ∧ (∀ k, Ky k → ∀ z, D.atKey (kyl k) z = ptrD z (G k)) ∧ (∀ x, Maps.has D x = true → ∃ k, Ky k ∧ kyl k = x) ∧ ∀ k, Ky k → left k = L (kyl k)
theorem KRange.map {u : World} {m r cnt : Nat} {G : List Int → Option Nat} {left : List Int → Bool} (h : KRange u m r G left cnt) : KMap u m G := by
  obtain ⟨D, L, n, h1, h2, h3, _⟩ := h
  exact ⟨D, kmap_size h1.owns, h2, h3⟩
theorem KRange.lt {u : World} {m r cnt : Nat} {G : List Int → Option Nat} {left : List Int → Bool} (h : KRange u m r G left cnt) : r < u.heap.size := by obtain ⟨D, L, n, h1, _⟩ := h; exact h1.lt
theorem KRange.ne {u : World} {m r cnt : Nat} {G : List Int → Option Nat} {left : List Int → Bool} (h : KRange u m r G left cnt) : r ≠ m := by obtain ⟨D, L, n, h1, _⟩ := h; exact h1.ne
theorem KRange.left_eq {u : World} {m r cnt : Nat} {G : List Int → Option Nat} {left : List Int → Bool} (h : KRange u m r G left cnt) : u.rangeLeft m r = cnt := by obtain ⟨D, L, n, h1, _⟩ := h; exact h1.left_eq
theorem KRange.kept {u u' : World} {m r cnt : Nat} {G : List Int → Option Nat} {left : List Int → Bool} (h : KRange u m r G left cnt) (hm : u'.heap[m]? = u.heap[m]?) (hr : u'.heap[r]? = u.heap[r]?) : KRange u' m r G left cnt := by
  obtain ⟨D, L, n, ⟨es, clock, since, seen, c0, hb, F, hs, hD, hr', rest⟩, h2⟩ := h
  exact ⟨D, L, n, ⟨es, clock, since, seen, c0, hm.trans hb, F, hs, hD, hr.trans hr', rest⟩, h2⟩
theorem wpList_range_kptr {w : World} {ops : Array Oper} {rest : List Oper} {o : Oper} {a : Act} {Q : Exit → Act → World → Prop} (hg : o.guard = none) (m : Operand) (t : TypeId) (hop : o.op = Op.range t m) (e : TypeId) (ht : Tryz.prog.underlying t = some (.map 57 e)) (b : Nat) (G : List Int → Option Nat)
    (hm : a.eval m = .map (some b)) (h : KMap w b G)
    (hK : ∀ w' cnt, KRange w' b w.heap.size G (fun k => (G k).isSome) cnt → Below w.heap.size w w' → w'.heap.size = w.heap.size + 1 → wpList Tryz.prog ops Q rest (a.put o.dst (.pointer (some ⟨w.heap.size, 0, none⟩))) w') : wpList Tryz.prog ops Q (o :: rest) a w := by
  obtain ⟨D, h1, h2, h3⟩ := h
  refine wpList_range_own w hg m t hop 57 e kLaw ht ptrE b _ D hm h1 ?_
  intro w' hr hgr hs
  exact hK w' _ ⟨D, _, _, hr, h2, h3, fun x hx => (khas_at (h2 x hx)).symm⟩ ⟨hgr.os, hgr.tape, hgr.output, hgr.size, fun k hk => hgr.block k hk (by simp)⟩ hs
theorem same_kkey {x y : List Int} (hx : Ky x) (hy : Ky y) : (kyl x).sameKey (kyl y) = decide (x = y) := by
  by_cases h : x = y
  · subst h; rw [WideAt.sameKey_self (kyl_key hx)]; simp
  · rw [Maps.sameKey_ne (fun e => h (kyl_inj hx hy e))]; simp [h]
theorem wpList_next_kptr {w : World} {ops : Array Oper} {rest : List Oper} {o : Oper} {a : Act} {Q : Exit → Act → World → Prop} (hg : o.guard = none) (it : Operand) (hop : o.op = Op.next it false) (b r : Nat) (G : List Int → Option Nat) (left : List Int → Bool) (cnt : Nat)
    (hit : a.eval it = .pointer (some ⟨r, 0, none⟩)) (h : KRange w b r G left cnt)
    (hDone : (∀ k, Ky k → left k = false) → wpList Tryz.prog ops Q rest (a.put o.dst (.tuple #[.bool false])) w)
    (hMore : ∀ (x : List Int) (g : Nat) (w' : World) (cnt' : Nat), Ky x → left x = true → G x = some g → KRange w' b r G (fun z => left z && !decide (z = x)) cnt' → cnt' < cnt → Chg w w' (fun k => k = r) → w'.heap.size = w.heap.size →
      (Instr.entry (.pointer (some ⟨r, 0, none⟩))).run Tryz.prog w' = .ok (.tuple #[kv x, .pointer (some ⟨g, 0, none⟩)]) w' → wpList Tryz.prog ops Q rest (a.put o.dst (.tuple #[.bool true, kv x, .pointer (some ⟨g, 0, none⟩)])) w') :
    wpList Tryz.prog ops Q (o :: rest) a w := by
  obtain ⟨D, L, n, h1, h2, h3, h4⟩ := h
  refine wpList_next_ranges w hg it hop 57 kLaw ptrE (id : Value → Value) ptrV (fun key kl hk => ⟨key, rfl⟩) (fun v y hv => by obtain ⟨x, e, _⟩ := ptrE_inv hv; exact ⟨x, e⟩) b r n D L cnt hit h1 (fun _ hl => hDone (fun x hx => by rw [h4 x hx, hl])) ?_
  intro xv q kl y w' cnt' hkey hlk hv hat hrg hlt hgr hsz hen
  obtain ⟨x, hx, rfl⟩ := h3 kl (Maps.has_true_of_atKey hat)
  obtain rfl : xv = kv x := kyl_back hx hkey
  obtain ⟨q', eq, rfl⟩ := ptrE_inv hv
  have e1 : ∀ z, ptrD z (G x) = ptrD .nil q' := fun z => (h2 x hx z).symm.trans (hat z)
  have e2 : q' = q := by cases q <;> cases q' <;> simp [ptrV] at eq <;> first | rfl | rw [eq]
  subst e2
  obtain ⟨g, hg1, hg2⟩ : ∃ g, G x = some g ∧ q' = some g := by
    cases hG : G x with
    | none =>
      rw [hG] at e1
      have a1 := e1 .nil
      have a2 := e1 (.lit (.bool true))
      rw [← a1] at a2
      cases a2
    | some g =>
      rw [hG] at e1
      refine ⟨g, rfl, ?_⟩
      exact (ptrD_inj (e1 .nil)).symm
  subst hg2
  refine hMore x g w' cnt' hx (by rw [h4 x hx]; exact hlk) hg1 ⟨D, _, n, hrg, h2, h3, fun z hz => ?_⟩ hlt (Chg.of_grown hgr (fun k e => (Option.some.inj e).symm)) hsz hen
  show (left z && !decide (z = x)) = _
  rw [same_kkey hz hx, h4 z hz]
/-- The same map, its values not looked at. -/
theorem KMap.kset {u : World} {m : Nat} {G : List Int → Option Nat} {l : List (List Int)} (h : KMap u m G) (hl : KeyL G l) : KSet u m l.length l := by
  obtain ⟨D, h1, h2, h3⟩ := h
  have hs := kmap_count h1 h2 h3 hl
  obtain ⟨es, clock, hb, F, hsz, hD⟩ := h1
  have hr : ∀ x ∈ es.toList, ∃ y, WideElems.rd Tryz.prog 57 ptrE x = some y ∧ WideElems.rd Tryz.prog 57 anyE x = some (y.1, .lit (.bool true)) := fun x hx => by
    obtain ⟨y, hy⟩ := F.reads x hx
    exact ⟨y, hy, by simp [WideElems.rd, WideElems.rd_key hy, anyE]⟩
  have hk : (es.toList.map (WideElems.rg Tryz.prog 57 anyE)).map (·.1) = (es.toList.map (WideElems.rg Tryz.prog 57 ptrE)).map (·.1) := by
    rw [List.map_map, List.map_map]
    refine List.map_congr_left (fun x hx => ?_)
    obtain ⟨y, e1, e2⟩ := hr x hx
    simp only [Function.comp, WideElems.rg_of e1, WideElems.rg_of e2]
  have hlen : (es.toList.map (WideElems.rg Tryz.prog 57 anyE)).length = l.length := by
    rw [← hs, hD, Maps.size_eq, length_sorted, List.length_map, List.length_map]
  have hmem : ∀ (E : List (Lit × DataW Unit)) x, Maps.has (.map (E.foldr DataW.insert []) : DataW Unit) x = true ↔ ∃ y ∈ E.map (·.1), y.sameKey x = true := fun E x => by
    rw [Maps.has_eq, List.any_eq_true]
    constructor
    · rintro ⟨p, hp, e⟩
      exact ⟨p.1, List.mem_map.2 ⟨p, mem_sorted.1 hp, rfl⟩, e⟩
    · rintro ⟨y, hy, e⟩
      obtain ⟨p, hp, rfl⟩ := List.mem_map.1 hy
      exact ⟨p, mem_sorted.2 hp, e⟩
  refine ⟨.map ((es.toList.map (WideElems.rg Tryz.prog 57 anyE)).foldr DataW.insert []), ⟨es, clock, hb, ⟨F.size, F.stamped, fun x hx => by obtain ⟨y, _, e⟩ := hr x hx; exact ⟨_, e⟩⟩, ?_, rfl⟩, ?_, hl.kys, fun x => ?_⟩
  · rw [← hlen, List.length_map, Array.length_toList]
    exact Nat.le_refl _
  · rw [Maps.size_eq, length_sorted, hlen]
  · rw [hmem, hk, ← hmem, ← hD]
    constructor
    · intro hx
      obtain ⟨k, hky, rfl⟩ := h3 x hx
      rw [khas_at (h2 k hky), hl.iff k hky] at hx
      exact ⟨k, hx, rfl⟩
    · rintro ⟨k, hkl, rfl⟩
      rw [khas_at (h2 k (hl.kys k hkl)), hl.iff k (hl.kys k hkl)]
      exact hkl
end Go.Proofs.YtpnjcflfnoamoaaGreat
