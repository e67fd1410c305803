/-
  Maps from keys to pointers at whole blocks: what a look-up, a store, a delete and a range over one of them give, how many entries there are.
  What a store that keeps one chain a key looks at ahead of its writes, held against writes that are tried one behind the other; a store as its keys' chains one behind the other; sums over keys. No program is named here.
-/
import Derived.Test.YtileidbdmpeciaaGreatAu82
import Derived.Test.YtileidbdmpeciaaGreatAu68
import Derived.Test.YtileidbdmpeciaaGreatAu67
namespace Go.Proofs.YtileidbdmpeciaaGreat
open Go.RowKit
open Go.Maps (Keyed)
set_option linter.unusedVariables false

/-- Block m holds a map: at key k a pointer at the block G k. -/
def KMap (u : World) (m : Nat) (G : List Int → Option Nat) : Prop :=
  ∃ D : DataW Unit, u.ownsMap Tryz.prog 38 ptrE m (Maps.size D) D ∧ (∀ k, Ky k → ∀ z, D.atKey (kyl k) z = ptrD z (G k)) ∧ ∀ x, Maps.has D x = true → ∃ k, Ky k ∧ kyl k = x
/-- The keys of such a map, each once. -/
structure KeyL (G : List Int → Option Nat) (l : List (List Int)) : Prop where
  kys : Kys l
  nodup : l.Nodup
  iff : ∀ k, Ky k → ((G k).isSome = true ↔ k ∈ l)
theorem khas_at {D : DataW Unit} {x : Lit} {o : Option Nat} (h : ∀ z, D.atKey x z = ptrD z o) : Maps.has D x = o.isSome := by
  cases o with
  | none => exact Maps.has_false_of_atKey h
  | some g => exact Maps.has_true_of_atKey h
theorem KMap.lt {u : World} {m : Nat} {G : List Int → Option Nat} (h : KMap u m G) : m < u.heap.size := by obtain ⟨D, h1, _⟩ := h; exact h1.lt
theorem KMap.kept {u u' : World} {m : Nat} {G : List Int → Option Nat} (h : KMap u m G) (hb : u'.heap[m]? = u.heap[m]?) : KMap u' m G := by
  obtain ⟨D, ⟨es, clock, h1, h2⟩, h3⟩ := h
  exact ⟨D, ⟨es, clock, hb.trans h1, h2⟩, h3⟩
theorem KMap.made (u : World) : KMap (u.alloc (.map #[] 0)) u.heap.size (fun _ => none) :=
  ⟨.map [], World.ownsMap_made _ _ _ _, fun _ _ _ => rfl, fun x hx => by simp [Maps.has_eq] at hx⟩
theorem kmap_size {u : World} {m n : Nat} {D : DataW Unit} (h : u.ownsMap Tryz.prog 38 ptrE m n D) : u.ownsMap Tryz.prog 38 ptrE m (Maps.size D) D := by
  obtain ⟨es, clock, h1, h2, h3, rfl⟩ := h
  exact ⟨es, clock, h1, h2, by simp [Maps.size, length_sorted], rfl⟩
theorem kmap_count {u : World} {m n : Nat} {D : DataW Unit} {G : List Int → Option Nat} {l : List (List Int)} (h : u.ownsMap Tryz.prog 38 ptrE m n D) (h2 : ∀ k, Ky k → ∀ z, D.atKey (kyl k) z = ptrD z (G k)) (h3 : ∀ x, Maps.has D x = true → ∃ k, Ky k ∧ kyl k = x) (hl : KeyL G l) : Maps.size D = l.length := by
  obtain ⟨es, rfl, he, hk⟩ := h.entries kLaw
  rw [Maps.size_eq]
  have hn1 : (es.map (·.1)).Nodup := by
    unfold List.Nodup
    rw [List.pairwise_map]
    exact he
  have hn2 : (l.map kyl).Nodup := by
    unfold List.Nodup
    rw [List.pairwise_map]
    refine List.Pairwise.imp_of_mem ?_ hl.nodup
    intro a b ha hb hab e
    exact hab (kyl_inj (hl.kys a ha) (hl.kys b hb) e)
  have hh : ∀ x, Maps.has (.map es : DataW Unit) x = true ↔ x ∈ es.map (·.1) := fun x => by
    rw [Maps.has_eq, List.any_eq_true]
    constructor
    · rintro ⟨p, hp, e⟩
      rw [← WideAt.sameKey_eq e]
      exact List.mem_map.2 ⟨p, hp, rfl⟩
    · intro hx
      obtain ⟨p, hp, rfl⟩ := List.mem_map.1 hx
      exact ⟨p, hp, WideAt.sameKey_self (hk p hp)⟩
  have := len_eq_of_same hn1 hn2 (fun x => by
    rw [← hh]
    constructor
    · intro hx
      obtain ⟨k, hky, rfl⟩ := h3 x hx
      rw [khas_at (h2 k hky), hl.iff k hky] at hx
      exact List.mem_map.2 ⟨k, hx, rfl⟩
    · intro hx
      obtain ⟨k, hkl, rfl⟩ := List.mem_map.1 hx
      rw [khas_at (h2 k (hl.kys k hkl)), hl.iff k (hl.kys k hkl)]
      exact hkl)
  simpa using this
/-- 'v, ok := m[k]'. -/
theorem KMap.look {u : World} {m : Nat} {G : List Int → Option Nat} (h : KMap u m G) {t e : TypeId} (ht : Tryz.prog.underlying t = some (.map 38 e)) (hz : (zeroValue e).run Tryz.prog u = .ok (.pointer none) u) (k : List Int) (hk : Ky k) :
    (Instr.lookup t (.map (some m)) (kv k) true).run Tryz.prog u = .ok (.tuple #[ptrV (G k), .bool (G k).isSome]) u := by
  obtain ⟨D, h1, h2, h3⟩ := h
  obtain ⟨v, ps, hrun, hv⟩ := h1.look_ok kLaw ht hz (zd := .nil) (zp := []) rfl (kyl_mk hk)
  obtain ⟨o, rfl, hq⟩ := ptrE_inv hv
  have hz2 := congrArg Prod.fst hq
  have e1 := ptrD_inj ((h2 k hk .nil).symm.trans hz2)
  subst e1
  rw [khas_at (h2 k hk)] at hrun
  exact hrun
/-- 'len(m)'. -/
theorem KMap.len {u : World} {m : Nat} {G : List Int → Option Nat} {l : List (List Int)} (h : KMap u m G) (hl : KeyL G l) {t e : TypeId} (ht : Tryz.prog.underlying t = some (.map 38 e)) (ty : TypeId) :
    (Builtin.len_ #[t] ty #[.map (some m)]).run Tryz.prog u = .ok (.int .i64 (l.length : Nat)) u := by
  obtain ⟨D, h1, h2, h3⟩ := h
  rw [← kmap_count h1 h2 h3 hl]
  exact h1.len ht ty
/-- What a store lays at a key. -/
def putK (G : List Int → Option Nat) (k : List Int) (o : Option Nat) : List Int → Option Nat := fun x => if x = k then o else G x
theorem putK_same (G : List Int → Option Nat) (k : List Int) (o : Option Nat) : putK G k o k = o := if_pos rfl
theorem putK_other {G : List Int → Option Nat} {k x : List Int} {o : Option Nat} (h : x ≠ k) : putK G k o x = G x := if_neg h
/-- 'm[k] = v'. -/
theorem KMap.store {u : World} {m : Nat} {G : List Int → Option Nat} {l : List (List Int)} (h : KMap u m G) (hl : KeyL G l) (hc : l.length ≤ 1000000) {t e : TypeId} (ht : Tryz.prog.underlying t = some (.map 38 e)) (k : List Int) (hk : Ky k) (g : Nat) :
    ∃ u', (Instr.mapUpdate t (.map (some m)) (kv k) (.pointer (some ⟨g, 0, none⟩))).run Tryz.prog u = .ok () u' ∧ KMap u' m (putK G k (some g)) ∧ u.mapTurned u' m := by
  obtain ⟨D, h1, h2, h3⟩ := h
  have hs := kmap_count h1 h2 h3 hl
  obtain ⟨u', hrun, h4, h5⟩ := h1.store kLaw ht (by unfold maxLen; omega) (kyl_mk hk) (val := .pointer (some ⟨g, 0, none⟩)) (d := .lit (.int .i64 (g : Int))) (ps := []) rfl
  refine ⟨u', hrun, ⟨_, kmap_size h4, fun x hx z => ?_, fun x hx => ?_⟩, h5⟩
  · by_cases e : x = k
    · subst e; rw [Maps.atKey_put_same h1.isMap (kyl_key hk), putK_same]; rfl
    · rw [Maps.atKey_put_other (fun e' => e (kyl_inj hx hk e')), putK_other e]; exact h2 x hx z
  · by_cases e : x = kyl k
    · exact ⟨k, hk, e.symm⟩
    · rw [Maps.has_put_other e] at hx
      exact h3 x hx
/-- A range over such a map under way: r the iterator's block, left k: is the entry at k still to come? -/
def KRange (u : World) (m r : Nat) (G : List Int → Option Nat) (left : List Int → Bool) (cnt : Nat) : Prop :=
  ∃ (D : DataW Unit) (L : Lit → Bool) (n : Nat), u.ranges Tryz.prog 38 ptrE m r n D L cnt ∧ (∀ k, Ky k → ∀ z, D.atKey (kyl k) z = ptrD z (G k)) ∧ (∀ x, Maps.has D x = true → ∃ k, Ky k ∧ kyl k = x) ∧ ∀ k, Ky k → left k = L (kyl k)
theorem KRange.map {u : World} {m r cnt : Nat} {G : List Int → Option Nat} {left : List Int → Bool} (h : KRange u m r G left cnt) : KMap u m G := by
  obtain ⟨D, L, n, h1, h2, h3, _⟩ := h
  exact ⟨D, kmap_size h1.owns, h2, h3⟩
theorem KRange.lt {u : World} {m r cnt : Nat} {G : List Int → Option Nat} {left : List Int → Bool} (h : KRange u m r G left cnt) : r < u.heap.size := by obtain ⟨D, L, n, h1, _⟩ := h; exact h1.lt
theorem KRange.ne {u : World} {m r cnt : Nat} {G : List Int → Option Nat} {left : List Int → Bool} (h : KRange u m r G left cnt) : r ≠ m := by obtain ⟨D, L, n, h1, _⟩ := h; exact h1.ne
theorem KRange.left_eq {u : World} {m r cnt : Nat} {G : List Int → Option Nat} {left : List Int → Bool} (h : KRange u m r G left cnt) : u.rangeLeft m r = cnt := by obtain ⟨D, L, n, h1, _⟩ := h; exact h1.left_eq
theorem KRange.kept {u u' : World} {m r cnt : Nat} {G : List Int → Option Nat} {left : List Int → Bool} (h : KRange u m r G left cnt) (hm : u'.heap[m]? = u.heap[m]?) (hr : u'.heap[r]? = u.heap[r]?) : KRange u' m r G left cnt := by
  obtain ⟨D, L, n, ⟨es, clock, since, seen, c0, hb, F, hs, hD, hr', rest⟩, h2⟩ := h
  exact ⟨D, L, n, ⟨es, clock, since, seen, c0, hm.trans hb, F, hs, hD, hr.trans hr', rest⟩, h2⟩
/-- The same map, its values not looked at. -/
theorem KMap.kset {u : World} {m : Nat} {G : List Int → Option Nat} {l : List (List Int)} (h : KMap u m G) (hl : KeyL G l) : KSet u m l.length l := by
  obtain ⟨D, h1, h2, h3⟩ := h
  have hs := kmap_count h1 h2 h3 hl
  obtain ⟨es, clock, hb, F, hsz, hD⟩ := h1
  have hr : ∀ x ∈ es.toList, ∃ y, WideElems.rd Tryz.prog 38 ptrE x = some y ∧ WideElems.rd Tryz.prog 38 anyE x = some (y.1, .lit (.bool true)) := fun x hx => by
    obtain ⟨y, hy⟩ := F.reads x hx
    exact ⟨y, hy, by simp [WideElems.rd, WideElems.rd_key hy, anyE]⟩
  have hk : (es.toList.map (WideElems.rg Tryz.prog 38 anyE)).map (·.1) = (es.toList.map (WideElems.rg Tryz.prog 38 ptrE)).map (·.1) := by
    rw [List.map_map, List.map_map]
    refine List.map_congr_left (fun x hx => ?_)
    obtain ⟨y, e1, e2⟩ := hr x hx
    simp only [Function.comp, WideElems.rg_of e1, WideElems.rg_of e2]
  have hlen : (es.toList.map (WideElems.rg Tryz.prog 38 anyE)).length = l.length := by
    rw [← hs, hD, Maps.size_eq, length_sorted, List.length_map, List.length_map]
  have hmem : ∀ (E : List (Lit × DataW Unit)) x, Maps.has (.map (E.foldr DataW.insert []) : DataW Unit) x = true ↔ ∃ y ∈ E.map (·.1), y.sameKey x = true := fun E x => by
    rw [Maps.has_eq, List.any_eq_true]
    constructor
    · rintro ⟨p, hp, e⟩
      exact ⟨p.1, List.mem_map.2 ⟨p, mem_sorted.1 hp, rfl⟩, e⟩
    · rintro ⟨y, hy, e⟩
      obtain ⟨p, hp, rfl⟩ := List.mem_map.1 hy
      exact ⟨p, mem_sorted.2 hp, e⟩
  refine ⟨.map ((es.toList.map (WideElems.rg Tryz.prog 38 anyE)).foldr DataW.insert []), ⟨es, clock, hb, ⟨F.size, F.stamped, fun x hx => by obtain ⟨y, _, e⟩ := hr x hx; exact ⟨_, e⟩⟩, ?_, rfl⟩, ?_, hl.kys, fun x => ?_⟩
  · rw [← hlen, List.length_map, Array.length_toList]
    exact Nat.le_refl _
  · rw [Maps.size_eq, length_sorted, hlen]
  · rw [hmem, hk, ← hmem, ← hD]
    constructor
    · intro hx
      obtain ⟨k, hky, rfl⟩ := h3 x hx
      rw [khas_at (h2 k hky), hl.iff k hky] at hx
      exact ⟨k, hx, rfl⟩
    · rintro ⟨k, hkl, rfl⟩
      rw [khas_at (h2 k (hl.kys k hkl)), hl.iff k (hl.kys k hkl)]
      exact hkl
end Go.Proofs.YtileidbdmpeciaaGreat

namespace Go.Proofs.YtileidbdmpeciaaGreat
open Go.RowKit
set_option linter.unusedVariables false

theorem keys_nodup {L : List Ver} (h : OrdK L) : (keysV L).Nodup := by
  refine List.Pairwise.imp ?_ (keys_up h)
  intro a b hab e
  rw [e, lexC_self] at hab
  omega
theorem ltK_irr (A : Ver) : ¬ ltK A A := by
  rintro (h | ⟨_, h⟩)
  · rw [lexC_self] at h; omega
  · exact ltV_irr A h
theorem ltK_trans {A B D : Ver} (h1 : ltK A B) (h2 : ltK B D) : ltK A D := by
  rcases h1 with h1 | ⟨e1, h1⟩
  · rcases h2 with h2 | ⟨e2, h2⟩
    · exact .inl (lexC_trans h1 h2)
    · exact .inl (by rw [← e2]; exact h1)
  · rcases h2 with h2 | ⟨e2, h2⟩
    · exact .inl (by rw [e1]; exact h2)
    · exact .inr ⟨e1.trans e2, ltS_trans h1 h2⟩
theorem ord_ext : ∀ {A B : List Ver}, OrdK A → OrdK B → (∀ x, x ∈ A ↔ x ∈ B) → A = B
  | [], B, _, _, h => by
    cases B with
    | nil => rfl
    | cons y r => exact absurd ((h y).2 (by simp)) (by simp)
  | x :: A, [], _, _, h => absurd ((h x).1 (by simp)) (by simp)
  | x :: A, y :: B, hA, hB, h => by
    obtain ⟨a1, a2⟩ := List.pairwise_cons.1 hA
    obtain ⟨b1, b2⟩ := List.pairwise_cons.1 hB
    have exy : x = y := by
      rcases List.mem_cons.1 ((h x).1 (by simp)) with e | hx
      · exact e
      · rcases List.mem_cons.1 ((h y).2 (by simp)) with e | hy
        · exact e.symm
        · exact absurd (ltK_trans (a1 y hy) (b1 x hx)) (ltK_irr _)
    subst exy
    rw [ord_ext a2 b2 (fun z => ?_)]
    have hz := h z
    constructor
    · intro hm
      rcases List.mem_cons.1 (hz.1 (List.mem_cons_of_mem _ hm)) with e | e
      · rw [e] at hm; exact absurd (a1 x hm) (ltK_irr _)
      · exact e
    · intro hm
      rcases List.mem_cons.1 (hz.2 (List.mem_cons_of_mem _ hm)) with e | e
      · rw [e] at hm; exact absurd (b1 x hm) (ltK_irr _)
      · exact e
theorem chain_mem {L : List Ver} (h : OrdK L) {k : List Int} {X : Ver} : X ∈ chainV L k ↔ X ∈ L ∧ X.k = k := by
  rw [chain_filter h, List.mem_filter]
  simp
/-- A store is its keys' chains one behind the other. -/
theorem flat_keys {L : List Ver} (h : OrdK L) : (keysV L).flatMap (chainV L) = L := by
  refine ord_ext ?_ h (fun X => ?_)
  · unfold OrdK
    rw [List.pairwise_flatMap]
    refine ⟨fun k _ => ?_, ?_⟩
    · rw [chain_filter h]
      exact List.Pairwise.filter _ h
    · refine List.Pairwise.imp ?_ (keys_up h)
      intro a b hab X hX Y hY
      rw [chain_mem h] at hX hY
      exact .inl (by rw [hX.2, hY.2]; exact hab)
  · rw [List.mem_flatMap]
    constructor
    · rintro ⟨k, _, hX⟩
      exact ((chain_mem h).1 hX).1
    · intro hX
      exact ⟨X.k, (keys_mem L X.k).2 ⟨X, hX, rfl⟩, (chain_mem h).2 ⟨hX, rfl⟩⟩
theorem flat_sum {α β : Type} (f : α → List β) (n : Nat) : ∀ (l : List α), (∀ x ∈ l, (f x).length ≤ n) → (l.flatMap f).length ≤ l.length * n
  | [], _ => by simp
  | a :: r, h => by
    rw [List.flatMap_cons, List.length_append, List.length_cons, Nat.succ_mul]
    have := h a (by simp)
    have := flat_sum f n r (fun x hx => h x (by simp [hx]))
    omega
theorem sto_len {L : List Ver} (h : StoK L) : L.length ≤ (keysV L).length * 50 := by
  conv => lhs; rw [← flat_keys h.ord]
  exact flat_sum _ 50 _ (fun k _ => by rw [chain_len]; exact h.few k)
theorem one_nil {L : List Ver} (h : OrdK L) {k : List Int} : oneV L k ≠ [] ↔ k ∈ keysV L := by
  unfold oneV
  rw [keys_mem]
  constructor
  · intro hn
    cases hc : chainV L k with
    | nil => rw [hc] at hn; exact absurd rfl hn
    | cons X r =>
      have := (chain_mem h (k := k) (X := X)).1 (by rw [hc]; simp)
      exact ⟨X, this.1, this.2⟩
  · rintro ⟨V, hV, e⟩ hn
    have := (chain_mem h (k := k)).2 ⟨hV, e⟩
    rw [List.map_eq_nil_iff.1 hn] at this
    simp at this
/-- Is one of the writes' keys written at that stamp; is one of the chains full; how many are to keys that are not there? -/
def anyWr (L : List Ver) (t n : Int) (l : List Wrt) : Bool := l.any (fun W => clashV L (verW t n W))
def anyFu (L : List Ver) (l : List Wrt) : Bool := l.any (fun W => decide (50 ≤ kMany L W.k))
def newW (L : List Ver) (l : List Wrt) : Nat := (l.filter (fun W => !decide (W.k ∈ keysV L))).length
def putsW (t n : Int) (l : List Wrt) (L : List Ver) : List Ver := l.foldl (fun L W => (putV L (verW t n W)).2) L
theorem clash_else {L : List Ver} (h : OrdK L) (V W : Ver) (hk : W.k ≠ V.k) : clashV (putV L V).2 W = clashV L W := by
  rw [← one_clash2 (putV L V).2 W, ← one_clash2 L W, put_other h V W.k hk]
theorem many_else {L : List Ver} (h : OrdK L) (V : Ver) {k : List Int} (hk : k ≠ V.k) : kMany (putV L V).2 k = kMany L k := by
  rw [← one_len, ← one_len, put_other h V k hk]
theorem put_code_is {L : List Ver} {V : Ver} (hm : mayV V = true) : (putV L V).1 = if clashV L V = true then 5 else if 50 ≤ kMany L V.k then 6 else 0 := by
  unfold putV
  rw [if_neg (by simp [hm])]
  split
  · rfl
  · split <;> rfl
theorem any_congr {α : Type} {p q : α → Bool} : ∀ {l : List α}, (∀ x ∈ l, p x = q x) → l.any p = l.any q
  | [], _ => rfl
  | a :: r, h => by rw [List.any_cons, List.any_cons, h a (by simp), any_congr (fun x hx => h x (by simp [hx]))]
theorem run_is {t n : Int} : ∀ (l : List Wrt) (L : List Ver) (f : Bool), OrdK L → (∀ W ∈ l, mayV (verW t n W) = true) → l.Pairwise (fun A B => A.k ≠ B.k) →
    (anyWr L t n l = true → (runW t n l L f).1 = 5) ∧ (anyWr L t n l = false → (runW t n l L f).1 = 0 ∧ (runW t n l L f).2.1 = putsW t n l L ∧ (runW t n l L f).2.2 = (f || anyFu L l))
  | [], L, f, h, hm, hd => ⟨fun e => by simp [anyWr] at e, fun _ => ⟨rfl, rfl, by simp [anyFu, runW]⟩⟩
  | W :: r, L, f, h, hm, hd => by
    obtain ⟨d1, d2⟩ := List.pairwise_cons.1 hd
    have hc := put_code_is (L := L) (hm W (by simp))
    obtain ⟨i1, i2⟩ := run_is r (putV L (verW t n W)).2 (f || decide ((putV L (verW t n W)).1 ≠ 0)) (ord_put h _) (fun X hX => hm X (by simp [hX])) d2
    have e1 : anyWr (putV L (verW t n W)).2 t n r = anyWr L t n r := any_congr (fun X hX => clash_else h _ _ (Ne.symm (d1 X hX)))
    have e2 : anyFu (putV L (verW t n W)).2 r = anyFu L r := any_congr (fun X hX => by rw [many_else h _ (Ne.symm (d1 X hX))])
    rw [e1] at i1 i2
    rw [e2] at i2
    have e3 : anyWr L t n (W :: r) = (clashV L (verW t n W) || anyWr L t n r) := rfl
    have e4 : anyFu L (W :: r) = (decide (50 ≤ kMany L W.k) || anyFu L r) := rfl
    rw [run_step, e3, e4]
    cases hcl : clashV L (verW t n W) with
    | true =>
      rw [hcl, if_pos rfl] at hc
      rw [if_pos hc]
      exact ⟨fun _ => rfl, fun e => by simp at e⟩
    | false =>
      rw [hcl, if_neg (by simp)] at hc
      have hne : (putV L (verW t n W)).1 ≠ 5 := by rw [hc]; split <;> decide
      rw [if_neg hne, Bool.false_or]
      refine ⟨i1, fun e => ?_⟩
      obtain ⟨j1, j2, j3⟩ := i2 e
      refine ⟨j1, j2, ?_⟩
      rw [j3, Bool.or_assoc]
      congr 2
      have hk : (verW t n W).k = W.k := rfl
      rw [hc, hk]
      by_cases h50 : 50 ≤ kMany L W.k
      · simp [h50]
      · simp [h50]
theorem keys_put {L : List Ver} (h : OrdK L) {V : Ver} (h0 : (putV L V).1 = 0) : (keysV (putV L V).2).length = (keysV L).length + (if V.k ∈ keysV L then 0 else 1) ∧ ∀ k, k ∈ keysV (putV L V).2 ↔ k = V.k ∨ k ∈ keysV L := by
  have hmem : ∀ k, k ∈ keysV (putV L V).2 ↔ k = V.k ∨ k ∈ keysV L := fun k => by
    rw [keys_mem, keys_mem]
    have hX : ∀ X, X ∈ (putV L V).2 ↔ X = V ∨ X ∈ L := fun X => by
      unfold putV at h0 ⊢
      by_cases h1 : mayV V = false
      · rw [if_pos h1] at h0; cases h0
      · rw [if_neg h1] at h0 ⊢
        by_cases h2 : clashV L V = true
        · rw [if_pos h2] at h0; cases h0
        · rw [if_neg h2] at h0 ⊢
          by_cases h3 : 50 ≤ kMany L V.k
          · rw [if_pos h3] at h0; cases h0
          · rw [if_neg h3]
            exact mem_ins _
    constructor
    · rintro ⟨X, hm, e⟩
      rcases (hX X).1 hm with rfl | hm
      · exact .inl e.symm
      · exact .inr ⟨X, hm, e⟩
    · rintro (rfl | ⟨X, hm, e⟩)
      · exact ⟨V, (hX V).2 (.inl rfl), rfl⟩
      · exact ⟨X, (hX X).2 (.inr hm), e⟩
  refine ⟨?_, hmem⟩
  by_cases hk : V.k ∈ keysV L
  · rw [if_pos hk]
    refine len_eq_of_same (keys_nodup (ord_put h V)) (keys_nodup h) (fun k => ?_)
    rw [hmem]
    constructor
    · rintro (rfl | e)
      · exact hk
      · exact e
    · exact .inr
  · rw [if_neg hk]
    have := len_eq_of_same (m := V.k :: keysV L) (keys_nodup (ord_put h V)) (List.nodup_cons.2 ⟨hk, keys_nodup h⟩) (fun k => by rw [hmem, List.mem_cons])
    simpa using this
theorem keys_puts {t n : Int} : ∀ (l : List Wrt) (L : List Ver), OrdK L → (∀ W ∈ l, mayV (verW t n W) = true) → l.Pairwise (fun A B => A.k ≠ B.k) → anyWr L t n l = false → anyFu L l = false → (keysV (putsW t n l L)).length = (keysV L).length + newW L l
  | [], L, _, _, _, _, _ => rfl
  | W :: r, L, h, hm, hd, hw, hf => by
    obtain ⟨d1, d2⟩ := List.pairwise_cons.1 hd
    have hc := put_code_is (L := L) (hm W (by simp))
    have e3 : anyWr L t n (W :: r) = (clashV L (verW t n W) || anyWr L t n r) := rfl
    have e4 : anyFu L (W :: r) = (decide (50 ≤ kMany L W.k) || anyFu L r) := rfl
    rw [e3, Bool.or_eq_false_iff] at hw
    rw [e4, Bool.or_eq_false_iff] at hf
    have h0 : (putV L (verW t n W)).1 = 0 := by
      have h50 : ¬ 50 ≤ kMany L (verW t n W).k := of_decide_eq_false hf.1
      rw [hc, if_neg (by rw [hw.1]; simp), if_neg h50]
    obtain ⟨k1, k2⟩ := keys_put h h0
    have hk : (verW t n W).k = W.k := rfl
    rw [hk] at k1 k2
    have ih := keys_puts r (putV L (verW t n W)).2 (ord_put h _) (fun X hX => hm X (by simp [hX])) d2 ((any_congr (fun X hX => clash_else h _ _ (Ne.symm (d1 X hX)))).trans hw.2) ((any_congr (fun X hX => by rw [many_else h _ (Ne.symm (d1 X hX))])).trans hf.2)
    have e5 : newW (putV L (verW t n W)).2 r = newW L r := by
      unfold newW
      congr 1
      refine List.filter_congr (fun X hX => ?_)
      have : X.k ∈ keysV (putV L (verW t n W)).2 ↔ X.k ∈ keysV L := by
        rw [k2]
        exact ⟨fun e => e.resolve_left (Ne.symm (d1 X hX)), .inr⟩
      simp [this]
    show (keysV (putsW t n r (putV L (verW t n W)).2)).length = _
    rw [ih, k1, e5]
    unfold newW
    rw [List.filter_cons]
    by_cases hin : W.k ∈ keysV L
    · simp [hin]
    · simp [hin]; omega
theorem may_w {l : List Wrt} {t n : Int} (h1 : okS t) (h2 : mayW l 1 = true) : (∀ W ∈ l, mayV (verW t n W) = true) ∧ l.Pairwise (fun A B => A.k ≠ B.k) ∧ (∀ W ∈ l, goodK W.k = true) ∧ 1 ≤ l.length ∧ l.length ≤ 16 := by
  unfold mayW at h2
  simp only [Bool.and_eq_true, decide_eq_true_eq, List.all_eq_true] at h2
  refine ⟨fun W hW => ?_, h2.2, fun W hW => (h2.1.2 W hW).1.1, h2.1.1.1, h2.1.1.2⟩
  have := h2.1.2 W hW
  unfold mayV verW
  simp only [Bool.and_eq_true, decide_eq_true_eq]
  exact ⟨⟨h1, this.1.2⟩, this.2⟩
/-- Apply, as a store that looks first does it. -/
theorem apply_is {L : List Ver} (h : OrdK L) (t n : Int) (l : List Wrt) : applyV L t n l =
    if (decide (okS t) && mayW l 1) = false then (1, L) else if anyWr L t n l = true then (5, L) else if (anyFu L l || decide (200 < (keysV L).length + newW L l)) = true then (6, L) else (0, putsW t n l L) := by
  unfold applyV
  by_cases h1 : (decide (okS t) && mayW l 1) = false
  · rw [if_pos h1, if_pos h1]
  · rw [if_neg h1, if_neg h1]
    have hm : okS t ∧ mayW l 1 = true := by
      rw [Bool.not_eq_false, Bool.and_eq_true, decide_eq_true_eq] at h1
      exact h1
    obtain ⟨m1, m2, _⟩ := may_w (n := n) hm.1 hm.2
    obtain ⟨r1, r2⟩ := run_is (t := t) (n := n) l L false h m1 m2
    cases hw : anyWr L t n l with
    | true => rw [if_pos (r1 hw), if_pos rfl]
    | false =>
      obtain ⟨j1, j2, j3⟩ := r2 hw
      rw [if_neg (show ¬ (runW t n l L false).1 = 5 by rw [j1]; decide), if_neg (show ¬ false = true by simp), j2, j3, Bool.false_or]
      cases hf : anyFu L l with
      | true => rw [Bool.true_or, Bool.true_or, if_pos rfl]
      | false => rw [keys_puts l L h m1 m2 hw hf]
/-- What a store is, its keys too. -/
structure StoG (L : List Ver) : Prop where
  sto : StoK L
  kys : ∀ V ∈ L, Ky V.k
  few : (keysV L).length ≤ 200
theorem StoG.nil : StoG [] := ⟨StoK.nil, fun V h => by simp at h, by simp [keysV]⟩
theorem StoG.keys {L : List Ver} (h : StoG L) : Kys (keysV L) := fun k hk => by
  obtain ⟨V, hV, e⟩ := (keys_mem L k).1 hk
  rw [← e]
  exact h.kys V hV
theorem puts_sto {t n : Int} (hn : 0 ≤ n ∧ n ≤ 255) : ∀ (l : List Wrt) (L : List Ver), StoK L → (∀ V ∈ L, Ky V.k) → (∀ W ∈ l, Ky W.k ∧ ∀ z ∈ W.v, 0 ≤ z ∧ z ≤ 255) → StoK (putsW t n l L) ∧ ∀ V ∈ putsW t n l L, Ky V.k
  | [], L, h, hk, _ => ⟨h, hk⟩
  | W :: r, L, h, hk, hw => by
    refine puts_sto hn r (putV L (verW t n W)).2 (h.put ⟨hn.1, hn.2, (hw W (by simp)).2⟩) (fun V hV => ?_) (fun X hX => hw X (by simp [hX]))
    rcases mem_put hV with e | ⟨rfl, _⟩
    · exact hk V e
    · exact (hw W (by simp)).1
theorem StoG.apply {L : List Ver} (h : StoG L) {t n : Int} (hn : 0 ≤ n ∧ n ≤ 255) {l : List Wrt} (hl : ∀ W ∈ l, Ky W.k ∧ ∀ z ∈ W.v, 0 ≤ z ∧ z ≤ 255) : StoG (applyV L t n l).2 := by
  by_cases h0 : (applyV L t n l).1 = 0
  · obtain ⟨e, e1, e2, e3, e4, e5⟩ := apply_ok h0
    obtain ⟨m1, m2, _⟩ := may_w (n := n) e3 e4
    obtain ⟨r1, r2⟩ := run_is (t := t) (n := n) l L false h.sto.ord m1 m2
    have hw : anyWr L t n l = false := by
      cases hw : anyWr L t n l with
      | true => exact absurd (r1 hw) e1
      | false => rfl
    obtain ⟨_, j2, _⟩ := r2 hw
    rw [e, j2]
    rw [j2] at e5
    obtain ⟨p1, p2⟩ := puts_sto (t := t) hn l L h.sto h.kys hl
    exact ⟨p1, p2, e5⟩
  · rw [apply_bad h0]
    exact h
theorem keys_rest_le {L : List Ver} (h : OrdK L) (t n : Int) : (keysV (restV L t n)).length ≤ (keysV L).length :=
  len_le_of_sub (keys_nodup (ord_rest h t n)) (fun k hk => by
    obtain ⟨V, hV, e⟩ := (keys_mem _ k).1 hk
    exact (keys_mem L k).2 ⟨V, (List.mem_filter.1 hV).1, e⟩)
theorem StoG.rest {L : List Ver} (h : StoG L) (t n : Int) : StoG (restV L t n) :=
  ⟨h.sto.rest t n, fun V hV => h.kys V (List.mem_filter.1 hV).1, Nat.le_trans (keys_rest_le h.sto.ord t n) h.few⟩
theorem StoG.len {L : List Ver} (h : StoG L) : L.length ≤ 10000 := by
  have := sto_len h.sto
  have := h.few
  omega
/-- The chain at a key is not empty just if the key is there; no key but those of sixteen bytes is there. -/
theorem StoG.none {L : List Ver} (h : StoG L) {k : List Int} (hk : ¬ Ky k) : oneV L k = [] := by
  cases he : oneV L k with
  | nil => rfl
  | cons X r =>
    have : k ∈ keysV L := (one_nil h.sto.ord).1 (by rw [he]; simp)
    exact absurd (h.keys k this) hk
end Go.Proofs.YtileidbdmpeciaaGreat

