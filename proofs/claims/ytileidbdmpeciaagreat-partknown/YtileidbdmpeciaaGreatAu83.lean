/-
  Lists whose elements have several cells each: lists that the call made itself, lists that lie somewhere, one put behind the other.
  Keys' cells; cells laid one by one.
  Lists of keys: lists that lie somewhere, lists that the call made itself.
  A map whose keys are keys and whose values say nothing: what a store into it gives; keys read and stored whole inside a fence.
-/
import Derived.Test.YtileidbdmpeciaaGreatAu71
import Derived.Laws.AppendOwnNone
import Derived.Deep.RegionLaw
import Derived.Deep.MidRow
import Derived.Maps.RangeWalk
import Derived.Maps.OwnOps
import Derived.DeepKeys4
import Derived.RangeFuncNested
import Derived.Sort.MapsRangeIn
import Derived.Maps.AppendAt
import Derived.RangeFuncBox
namespace Go.Proofs.YtileidbdmpeciaaGreat
open Go.RowKit
set_option linter.unusedVariables false

/-- A type of lists: its elements' type, their cells, their bytes. -/
structure ElT (t e : TypeId) (size bytes : Nat) : Prop where
  ht : Tryz.prog.underlying t = some (.slice e)
  info : ∃ i z, Tryz.prog.info? e = some i ∧ i.zero = some z ∧ i.size = size ∧ i.bytes = bytes ∧ z.cells.size = size
  pos : 0 < size
  small : bytes ≤ 1000
theorem ElT.mk' {t e : TypeId} {z : Value} {size bytes : Nat} (ht : Tryz.prog.underlying t = some (.slice e)) (h : (Tryz.prog.info? e).map (fun i => (i.zero, i.size, i.bytes)) = some (some z, size, bytes)) (hz : z.cells.size = size) (hp : 0 < size) (hs : bytes ≤ 1000) : ElT t e size bytes := by
  obtain ⟨i, h1, h2, h3, h4⟩ := info_of h
  exact ⟨ht, ⟨i, z, h1, h2, h3, h4, hz⟩, hp, hs⟩
/-- Cells that lie somewhere. -/
def Lies (w : World) (ao : Option Addr) (vs : List Value) : Prop := ∀ sa, ao = some sa → (vs ≠ [] → sa.spot = none) ∧ ∀ j u, vs[j]? = some u → w.cell? (sa.add j) = some u
theorem Lies.at {w : World} {b o : Nat} {vs : List Value} (h : Lies w (some ⟨b, o, none⟩) vs) (j : Nat) (u : Value) (hj : vs[j]? = some u) : w.cell? ⟨b, o + j, none⟩ = some u := by
  have := (h _ rfl).2 j u hj
  rwa [addr_add] at this
theorem lies_of {w : World} {b o : Nat} {vs : List Value} (h : ∀ j u, vs[j]? = some u → w.cell? ⟨b, o + j, none⟩ = some u) : Lies w (some ⟨b, o, none⟩) vs := by
  intro sa hsa
  injection hsa with hsa
  subst hsa
  exact ⟨fun _ => rfl, fun j u hj => by rw [addr_add]; exact h j u hj⟩
theorem lies_none (w : World) (vs : List Value) : Lies w none vs := fun sa h => by cases h
theorem lies_nil (w : World) (ao : Option Addr) : Lies w ao [] := fun sa hs => ⟨fun h => absurd rfl h, fun j u hj => by simp at hj⟩
theorem lies_empty (w : World) (b o : Nat) : Lies w (some ⟨b, o, none⟩) [] := lies_of (fun j u hj => by simp at hj)
theorem Lies.range {w : World} {b o : Nat} {vs : List Value} (h : Lies w (some ⟨b, o, none⟩) vs) : w.rangeAt b o vs := fun j v hv => h.at j v hv
theorem Lies.below {w w' : World} {b o B : Nat} {vs : List Value} (h : Lies w (some ⟨b, o, none⟩) vs) (hb : Below B w w') (hB : b < B) : Lies w' (some ⟨b, o, none⟩) vs :=
  lies_of fun j u hj => by rw [hb.cell (p := ⟨b, o + j, none⟩) hB]; exact h.at j u hj
theorem Lies.past {w w' : World} {ao : Option Addr} {vs : List Value} (h : Lies w ao vs) (hb : Below w.heap.size w w') : Lies w' ao vs := by
  intro sa hsa
  subst hsa
  obtain ⟨hs, h⟩ := h sa rfl
  refine ⟨hs, fun j u hj => ?_⟩
  have h1 := h j u hj
  have hs := hs (fun e => by rw [e] at hj; simp at hj)
  obtain ⟨b, o, sp⟩ := sa
  simp at hs
  subst hs
  rw [addr_add] at h1 ⊢
  have hlt : b < w.heap.size := by
    rcases Nat.lt_or_ge b w.heap.size with h' | h'
    · exact h'
    · simp [World.cell?, Array.getElem?_eq_none h'] at h1
  rw [hb.cell (p := ⟨b, o + j, none⟩) hlt]; exact h1
theorem Lies.kept {w w' : World} {g o : Nat} {vs : List Value} {x : Option Nat} (h : Lies w (some ⟨g, o, none⟩) vs) (hg : w.grownBy w' x) (hlt : g < w.heap.size) (hne : some g ≠ x) : Lies w' (some ⟨g, o, none⟩) vs :=
  lies_of fun j u hj => by
    rw [← h.at j u hj]
    have h2 := hg.block g hlt hne
    simp [World.cell?, h2]
theorem Lies.drew {w : World} {ao : Option Addr} {vs : List Value} (h : Lies w ao vs) : Lies w.drew ao vs := h
theorem Lies.alloc {w : World} {g o : Nat} {vs : List Value} (h : Lies w (some ⟨g, o, none⟩) vs) (hlt : g < w.heap.size) (ob : Obj) : Lies (w.alloc ob) (some ⟨g, o, none⟩) vs :=
  h.below ((Below.refl w.heap.size _).alloc (Nat.le_refl _) ob) hlt
theorem Lies.sub {w : World} {b o : Nat} {vs : List Value} (h : Lies w (some ⟨b, o, none⟩) vs) (k m : Nat) : Lies w (some ⟨b, o + k, none⟩) ((vs.drop k).take m) :=
  lies_of fun j u hj => by
    rw [Nat.add_assoc]
    refine h.at (k + j) u ?_
    have hm : j < m := by
      rcases Nat.lt_or_ge j m with h' | h'
      · exact h'
      · rw [List.getElem?_eq_none (by simp; omega)] at hj; cases hj
    rw [List.getElem?_take_of_lt hm, List.getElem?_drop] at hj
    exact hj
theorem Lies.taken {w : World} {b o : Nat} {vs : List Value} (h : Lies w (some ⟨b, o, none⟩) vs) (m : Nat) : Lies w (some ⟨b, o, none⟩) (vs.take m) := by
  have := h.sub 0 m
  rwa [Nat.add_zero, List.drop_zero] at this
theorem lies_made (w : World) (C : Array Value) (e : TypeId) : Lies (w.alloc (.cells C e)) (some ⟨w.heap.size, 0, none⟩) C.toList :=
  lies_of fun j u hj => by
    rw [Nat.zero_add, World.cell?_alloc_new]
    simpa using hj
theorem own_lies {w : World} {B e size n cap g : Nat} {vs : List Value} (h : w.ownsRow B e size (.slice (some ⟨g, 0, none⟩) n cap) n vs) : Lies w (some ⟨g, 0, none⟩) vs :=
  lies_of fun j u hj => by rw [Nat.zero_add]; exact own_cell h j u hj
theorem own_form {w : World} {B e size n : Nat} {v : Value} {vs : List Value} (h : w.ownsRow B e size v n vs) : ∃ a cap, v = .slice a n cap := by
  rcases h.2 with ⟨hv, h0⟩ | ⟨g, cap, cur, hv, _⟩
  · exact ⟨_, _, by rw [h0]; exact hv⟩
  · exact ⟨_, _, hv⟩
theorem run_append_els {t e : TypeId} {size bytes : Nat} (E : ElT t e size bytes) (w : World) (B : Nat) (v : Value) (n : Nat) (xs : List Value) (hown : w.ownsRow B e size v n xs) (ao : Option Addr) (m c : Nat) (news : List Value) (hl : news.length = m * size) (hsrc : Lies w ao news) (h1 : ∀ u ∈ news, u.oneCell' = true) (hnil : ao = none → m = 0 ∧ c = 0) (hn : n + m ≤ 1000000) (hB : B ≤ w.heap.size) (ty : TypeId) :
    ∃ a' cap' w', (Builtin.append_ #[t, t] ty #[v, .slice ao m c]).run Tryz.prog w = .ok (.slice a' (n + m) cap') w' ∧ w'.ownsRow B e size (.slice a' (n + m) cap') (n + m) (xs ++ news) ∧ w.grownBy w' v.ownBlock := by
  obtain ⟨i0, z, hi, hz0, hz1, hz2, hz3⟩ := E.info
  cases ao with
  | none =>
    obtain ⟨rfl, rfl⟩ := hnil rfl
    have hz : news = [] := List.eq_nil_of_length_eq_zero (by rw [hl]; simp)
    subst hz
    obtain ⟨ao, cap, rfl⟩ := own_form hown
    have hrun := run_append_owned_none (P := Tryz.prog) (w := w) B t ty e i0 size E.ht hi _ n xs hown
    refine ⟨ao, cap, w, ?_, by simpa using hown, ⟨rfl, rfl, rfl, Nat.le_refl _, fun _ _ _ => rfl⟩⟩
    simpa using hrun
  | some sa =>
    have hbig : (n + m) * bytes ≤ 140737488355328 := Nat.le_trans (Nat.mul_le_mul hn E.small) (by decide)
    obtain ⟨v', w', hrun, h2, h3, _⟩ := run_append_own (P := Tryz.prog) w B t ty e i0 z size bytes E.ht hi hz0 hz1 hz2 hz3 E.pos v n xs hown sa m c news hl (hsrc sa rfl).2 h1 (by unfold maxLen; omega) hbig hB
    obtain ⟨a', cap', rfl⟩ := own_form h2
    exact ⟨a', cap', w', hrun, h2, h3⟩
/-- The same in a region whose order stands. -/
theorem wpList_append_els {t e : TypeId} {size bytes : Nat} (E : ElT t e size bytes) {w0 w : World} {ops : Array Oper} {rest : List Oper} {o : Oper} {a : Act} {Q : Exit → Act → World → Prop} (hgd : o.guard = none) (s x : Operand)
    (ho : o.op = .call { callee := .builtin .append, args := #[s, x], argTypes := #[t, t] }) (hb : Below w0.heap.size w0 w)
    (v : Value) (n : Nat) (xs news : List Value) (hs : a.eval s = v) (hown : w.ownsRow w0.heap.size e size v n xs) (ao : Option Addr) (m c : Nat) (hx : a.eval x = .slice ao m c) (hl : news.length = m * size) (hsrc : Lies w ao news) (h1 : ∀ u ∈ news, u.oneCell' = true) (hnil : ao = none → m = 0 ∧ c = 0) (hn : n + m ≤ 1000000)
    (h : ∀ a' cap' w', w'.ownsRow w0.heap.size e size (.slice a' (n + m) cap') (n + m) (xs ++ news) → w.grownBy w' v.ownBlock → Below w0.heap.size w0 w' → wpList Tryz.prog ops Q rest (a.put o.dst (.slice a' (n + m) cap')) w') : wpList Tryz.prog ops Q (o :: rest) a w := by
  refine wpList_plain hgd fun K hK => ?_
  obtain ⟨a', cap', w', hrun, h2, h3⟩ := run_append_els E w w0.heap.size v n xs hown ao m c news hl hsrc h1 hnil hn hb.size o.type
  unfold Oper.wp
  simp [execOp, ho, resolve, invoke, builtin, hs, hx, hrun, Result.andThen]
  exact hK _ _ (h a' cap' w' h2 h3 (hb.grown h3 hb.size (fun k hk => (hown.lt k hk).1)))
/-- A list of the call's own, all since world w0. -/
structure OwnB (e : TypeId) (size : Nat) (w0 u : World) (v : Value) (n : Nat) (xs : List Value) : Prop where
  own : u.ownsRow w0.heap.size e size v n xs
  below : Below w0.heap.size w0 u
theorem OwnB.past {e : TypeId} {size : Nat} {w0 u u' : World} {v : Value} {n : Nat} {xs : List Value} (h : OwnB e size w0 u v n xs) (hb : Below u.heap.size u u') : OwnB e size w0 u' v n xs :=
  ⟨own_below h.own hb (Nat.le_refl _), h.below.trans (hb.mono h.below.size)⟩
theorem OwnB.alloc {e : TypeId} {size : Nat} {w0 u : World} {v : Value} {n : Nat} {xs : List Value} (h : OwnB e size w0 u v n xs) (ob : Obj) : OwnB e size w0 (u.alloc ob) v n xs :=
  h.past ((Below.refl _ _).alloc (Nat.le_refl _) ob)
/-- A block that holds one element, apart from the list. -/
structure MadeX (w0 u : World) (a : Option Addr) (v : Value) (vs : List Value) : Prop where
  lies : Lies u a vs
  far : ∃ g, a = some ⟨g, 0, none⟩ ∧ g < u.heap.size ∧ some g ≠ v.ownBlock
theorem MadeX.step {w0 u u' : World} {a : Option Addr} {v v' : Value} {vs : List Value} (h : MadeX w0 u a v vs) (hg : u.grownBy u' v.ownBlock) : Lies u' a vs := by
  obtain ⟨g, rfl, h1, h2⟩ := h.far
  exact h.lies.kept hg h1 h2
/-- The same in a region whose order stands. -/
theorem wpList_own {t e : TypeId} {size bytes : Nat} (E : ElT t e size bytes) {w0 w : World} {ops : Array Oper} {rest : List Oper} {o : Oper} {a : Act} {Q : Exit → Act → World → Prop} (hgd : o.guard = none) (s x : Operand)
    (ho : o.op = .call { callee := .builtin .append, args := #[s, x], argTypes := #[t, t] })
    (v : Value) (n : Nat) (xs news : List Value) (hs : a.eval s = v) (hown : OwnB e size w0 w v n xs) (ao : Option Addr) (m c : Nat) (hx : a.eval x = .slice ao m c) (hl : news.length = m * size) (hsrc : Lies w ao news) (h1 : ∀ u ∈ news, u.oneCell' = true) (hnil : ao = none → m = 0 ∧ c = 0) (n' : Nat) (hn' : n + m = n') (hn : n' ≤ 1000000) (ys : List Value) (hys : xs ++ news = ys)
    (h : ∀ a' cap' w', OwnB e size w0 w' (.slice a' n' cap') n' ys → w.grownBy w' v.ownBlock → wpList Tryz.prog ops Q rest (a.put o.dst (.slice a' n' cap')) w') : wpList Tryz.prog ops Q (o :: rest) a w := by
  subst hn'
  subst hys
  exact wpList_append_els E hgd s x ho hown.below v n xs news hs hown.own ao m c hx hl hsrc h1 hnil hn (fun a' c' w' x1 x2 x3 => h a' c' w' ⟨x1, x3⟩ x2)
/-- Flattened lists: where an element's cells stand. -/
theorem flat_drop {α : Type} {enc : α → List Value} {size : Nat} : ∀ (l : List α) (k : Nat), (∀ x ∈ l, (enc x).length = size) → (l.flatMap enc).drop (k * size) = (l.drop k).flatMap enc
  | [], k, _ => by simp
  | a :: r, 0, _ => by simp
  | a :: r, k + 1, h => by
    have ha : (enc a).length = size := h a (by simp)
    rw [List.flatMap_cons, List.drop_succ_cons, ← flat_drop r k (fun x hx => h x (by simp [hx])), Nat.succ_mul, Nat.add_comm, ← List.drop_drop, ← ha, List.drop_left]
theorem flat_len {α : Type} {enc : α → List Value} {size : Nat} : ∀ (l : List α), (∀ x ∈ l, (enc x).length = size) → (l.flatMap enc).length = l.length * size
  | [], _ => by simp
  | a :: r, h => by rw [List.flatMap_cons, List.length_append, h a (by simp), flat_len r (fun x hx => h x (by simp [hx])), List.length_cons, Nat.succ_mul, Nat.add_comm]
theorem flat_take {α : Type} {enc : α → List Value} {size : Nat} : ∀ (l : List α) (k : Nat), (∀ x ∈ l, (enc x).length = size) → (l.flatMap enc).take (k * size) = (l.take k).flatMap enc
  | [], k, _ => by simp
  | a :: r, 0, _ => by simp
  | a :: r, k + 1, h => by
    have ha : (enc a).length = size := h a (by simp)
    rw [List.flatMap_cons, List.take_succ_cons, List.flatMap_cons, ← flat_take r k (fun x hx => h x (by simp [hx])), Nat.succ_mul, Nat.add_comm, List.take_append, List.take_of_length_le (by omega), ha, Nat.add_sub_cancel_left]
theorem flat_at {α : Type} {enc : α → List Value} {size : Nat} (l : List α) (k : Nat) (x : α) (h : ∀ x ∈ l, (enc x).length = size) (hk : l[k]? = some x) : ((l.flatMap enc).drop (k * size)).take size = enc x := by
  rw [flat_drop l k h]
  obtain ⟨hlt, rfl⟩ := List.getElem?_eq_some_iff.1 hk
  rw [List.drop_eq_getElem_cons hlt, List.flatMap_cons]
  have := h _ (List.getElem_mem hlt)
  rw [List.take_append, List.take_of_length_le (by omega), this, Nat.sub_self, List.take_zero, List.append_nil]
/-- The element at place k lies k elements on. -/
theorem Lies.el {α : Type} {enc : α → List Value} {size : Nat} {w : World} {b o : Nat} {l : List α} (h : Lies w (some ⟨b, o, none⟩) (l.flatMap enc)) (hs : ∀ x ∈ l, (enc x).length = size) {k : Nat} {x : α} (hk : l[k]? = some x) : Lies w (some ⟨b, o + k * size, none⟩) (enc x) := by
  have := h.sub (k * size) size
  rwa [flat_at l k x hs hk] at this
theorem flat_one {α : Type} {enc : α → List Value} {l : List α} (h : ∀ x ∈ l, ∀ u ∈ enc x, u.oneCell' = true) : ∀ u ∈ l.flatMap enc, u.oneCell' = true := by
  intro u hu
  obtain ⟨x, hx, hu⟩ := List.mem_flatMap.1 hu
  exact h x hx u hu
end Go.Proofs.YtileidbdmpeciaaGreat

namespace Go.Proofs.YtileidbdmpeciaaGreat
open Go.RowKit
set_option linter.unusedVariables false

/-- A key's cells, as a list. -/
def kc (k : List Int) : List Value := k.map (Value.int .u8)
def Kys (l : List (List Int)) : Prop := ∀ k ∈ l, Ky k
theorem kc_len {k : List Int} (h : Ky k) : (kc k).length = 16 := by unfold kc; rw [List.length_map]; exact h.len
theorem Kys.len {l : List (List Int)} (h : Kys l) : ∀ k ∈ l, (kc k).length = 16 := fun k hk => kc_len (h k hk)
theorem Kys.one {l : List (List Int)} : ∀ u ∈ l.flatMap kc, u.oneCell' = true := flat_one fun k _ => ints_oneCell _ _
theorem Kys.get {l : List (List Int)} (h : Kys l) {i : Nat} (hi : i < l.length) : Ky (l.getD i []) := by
  have e : l.getD i [] = l[i] := by simp [List.getD, hi]
  rw [e]; exact h _ (List.getElem_mem hi)
theorem Kys.take {l : List (List Int)} (h : Kys l) (n : Nat) : Kys (l.take n) := fun k hk => h k (List.mem_of_mem_take hk)
/-- Cells laid one by one. -/
theorem fold_set : ∀ (vs : List Value) (o : Nat) (C : Array Value), o + vs.length ≤ C.size → (List.foldl (fun (cs : Array Value) (x : Value × Nat) => cs.setIfInBounds x.snd x.fst) C (vs.zipIdx o)).toList = C.toList.take o ++ vs ++ C.toList.drop (o + vs.length)
  | [], o, C, h => by simp
  | v :: r, o, C, h => by
    rw [List.zipIdx_cons, List.foldl_cons, fold_set r (o + 1) (C.setIfInBounds o v) (by simp at h ⊢; omega)]
    simp only [Array.toList_setIfInBounds]
    have ho : o < C.toList.length := by simp at h ⊢; omega
    have e1 : (C.toList.set o v).take (o + 1) = C.toList.take o ++ [v] := by
      rw [List.take_succ_eq_append_getElem (by simpa using ho), List.take_set_of_le (Nat.le_refl _)]
      simp
    have e2 : (C.toList.set o v).drop (o + 1 + r.length) = C.toList.drop (o + (v :: r).length) := by
      rw [List.drop_set_of_lt (by omega), List.length_cons]
      congr 1
      omega
    rw [e1, e2]
    simp
theorem fold_key (X : List Int) (h : Ky X) : List.foldl (fun (cs : Array Value) (x : Value × Nat) => cs.setIfInBounds x.snd x.fst) #[.int .u8 0, .int .u8 0, .int .u8 0, .int .u8 0, .int .u8 0, .int .u8 0, .int .u8 0, .int .u8 0, .int .u8 0, .int .u8 0, .int .u8 0, .int .u8 0, .int .u8 0, .int .u8 0, .int .u8 0, .int .u8 0] (List.map (Value.int .u8) X).zipIdx = (List.map (Value.int .u8) X).toArray := by
  have hl : (List.map (Value.int .u8) X).length = 16 := by rw [List.length_map]; exact h.len
  apply Array.toList_inj.1
  rw [fold_set _ 0 _ (by rw [hl]; decide), hl]
  simp
theorem info_keyl (k : List Int) (h : Ky k) : (Tryz.prog.info? 38).map (·.size) = some (k.map (Value.int .u8)).length := by rw [info_key, List.length_map, h.len]
end Go.Proofs.YtileidbdmpeciaaGreat

namespace Go.Proofs.YtileidbdmpeciaaGreat
open Go.RowKit
set_option linter.unusedVariables false

/-- Keys that lie one behind the other. -/
structure KeysAt (w : World) (a : Option Addr) (l : List (List Int)) : Prop where
  lies : Lies w a (l.flatMap kc)
  kys : Kys l
  nil : a = none → l = []
theorem KeysAt.past {w w' : World} {a : Option Addr} {l : List (List Int)} (h : KeysAt w a l) (hb : Below w.heap.size w w') : KeysAt w' a l := ⟨h.lies.past hb, h.kys, h.nil⟩
theorem KeysAt.same {w w' : World} {a : Option Addr} {l : List (List Int)} (h : KeysAt w a l) (he : w'.heap = w.heap) : KeysAt w' a l :=
  ⟨fun sa hs => ⟨(h.lies sa hs).1, fun j u hj => by rw [same_heap he]; exact (h.lies sa hs).2 j u hj⟩, h.kys, h.nil⟩
/-- The key at place i. -/
theorem KeysAt.key {w : World} {a : Option Addr} {l : List (List Int)} (h : KeysAt w a l) {i : Nat} (hi : i < l.length) : ∃ b o, a = some ⟨b, o, none⟩ ∧ KeyAt w b (o + i * 16) (l.getD i []) ∧ Ky (l.getD i []) := by
  cases a with
  | none => rw [h.nil rfl] at hi; simp at hi
  | some sa =>
    obtain ⟨b, o, sp⟩ := sa
    have hs : sp = none := (h.lies _ rfl).1 (fun e => by
      have h1 := flat_len l h.kys.len
      rw [e] at h1
      simp at h1
      omega)
    subst hs
    have hk := h.kys.get hi
    have hl : Lies w (some ⟨b, o + i * 16, none⟩) (kc (l.getD i [])) := h.lies.el h.kys.len (k := i) (by simp [List.getD, hi])
    refine ⟨b, o, rfl, ⟨fun j hj => ?_⟩, hk⟩
    refine hl.at j _ ?_
    have hjl : j < (l.getD i []).length := by rw [hk.len]; exact hj
    generalize l.getD i [] = x at hjl
    unfold kc
    rw [List.getElem?_map, List.getElem?_eq_getElem hjl]
    simp [List.getD, hjl]
/-- Keys in a list that the call made itself. -/
structure KeysMine (w : World) (B : Nat) (v : Value) (l : List (List Int)) : Prop where
  own : w.ownsRow B 38 16 v l.length (l.flatMap kc)
  kys : Kys l
theorem KeysMine.past {w w' : World} {B : Nat} {v : Value} {l : List (List Int)} (h : KeysMine w B v l) (hb : Below w.heap.size w w') : KeysMine w' B v l := ⟨own_below h.own hb (Nat.le_refl _), h.kys⟩
end Go.Proofs.YtileidbdmpeciaaGreat

namespace Go.Proofs.YtileidbdmpeciaaGreat
open Go.RowKit
open Go.Maps (Keyed)
set_option linter.unusedVariables false

theorem kLaid : laidOutB Tryz.prog = true := by kernel_rfl
theorem kRow : (38 : TypeId) < Tryz.prog.types.size := of_decide_eq_true (by kernel_rfl)
theorem kWide : (match Tryz.prog.underlying 38 with | some (.array _ _) | some (.struct _) => true | _ => false) = true := by rw [Tryz.underlying38]
set_option maxRecDepth 1000000 in
theorem kLaw : Keyed Tryz.prog 38 := Maps.Keyed.of_law (deep_law_laid kLaid (m := 2) (by omega) kRow (by kernel_rfl) kWide)
theorem mapM_all {α β : Type} {f : α → Option β} {g : α → β} : ∀ {l : List α}, (∀ x ∈ l, f x = some (g x)) → l.mapM f = some (l.map g)
  | [], _ => rfl
  | a :: r, h => by
    have hy := h a (by simp)
    have hys := mapM_all (l := r) (fun x hx => h x (by simp [hx]))
    simp [List.mapM_cons, hy, hys]
/-- A key, as a map's key. -/
def kyl (k : List Int) : Lit := .string (keyBytes (k.map (Lit.int .u8)))
theorem kyl_mk {k : List Int} (hk : Ky k) : keyOf Tryz.prog 38 (kv k) = some (kyl k) := by
  have h1 : Tryz.prog.keyType 38 = true := by kernel_rfl
  have h2 : Tryz.prog.cellsOf 38 = 16 := by kernel_rfl
  have h3 : Tryz.prog.cellsOf 5 = 1 := by kernel_rfl
  have hl := hk.len
  have h4 : (kv k).formed Tryz.prog 38 = true := by simp [Value.formed, Tryz.underlying38, h2, hl]
  obtain ⟨d, hd⟩ : ∃ d, Tryz.prog.types.size + 1 = d + 2 := ⟨Tryz.prog.types.size - 1, by have : 1 ≤ Tryz.prog.types.size := of_decide_eq_true (by kernel_rfl); omega⟩
  unfold keyOf
  rw [Tryz.underlying38]
  simp only [h1, h4, Bool.and_self, if_true]
  have hls : Tryz.prog.keyLits (Tryz.prog.types.size + 1) 38 (kv k).cells.toList = some (k.map (Lit.int .u8)) := by
    rw [hd]
    unfold Program.keyLits
    rw [Tryz.underlying38]
    have e : (kv k).cells.toList = k.map (Value.int .u8) := by simp [Value.cells]
    simp only [e, h2, h3, List.length_map, hl, if_true, Nat.mul_one]
    have hys : (List.range 16).mapM (fun i => Tryz.prog.keyLits (d + 1) 5 (((k.map (Value.int .u8)).drop i).take 1)) = some ((List.range 16).map fun i => [Lit.int .u8 (k.getD i 0)]) := mapM_all fun i hi => by
      have hi' : i < k.length := by rw [hl]; exact List.mem_range.1 hi
      have hb := hk.bytes k[i] (List.getElem_mem hi')
      have e2 : ((k.map (Value.int .u8)).drop i).take 1 = [.int .u8 k[i]] := by
        rw [List.drop_eq_getElem_cons (by simpa using hi')]
        simp
      rw [e2]
      unfold Program.keyLits
      rw [Tryz.underlying5]
      have hw : (Lit.int .u8 k[i]).wf = true := by simp [Lit.wf]; exact hb
      have e3 : k.getD i 0 = k[i] := by simp [List.getD, hi']
      rw [e3]
      simp [hw]
    rw [hys]
    have e4 : ((List.range 16).map fun i => [Lit.int .u8 (k.getD i 0)]).flatten = k.map (Lit.int .u8) := by
      have e5 : k = (List.range 16).map fun i => k.getD i 0 := by
        apply List.ext_getElem (by simp [hl])
        intro i h1 h2
        simp [List.getD, h1]
      conv => rhs; rw [e5]
      rw [List.map_map, ← List.flatMap_def, ← List.map_eq_flatMap]
      rfl
    rw [Option.map_some, e4]
  rw [hls]
  rfl
theorem kv_inj {a b : List Int} (h : kv a = kv b) : a = b := by
  injection h with h
  have h : a.map (Value.int .u8) = b.map (Value.int .u8) := by simpa using congrArg Array.toList h
  exact List.map_inj_right (fun x y e => by injection e) |>.1 h
theorem kyl_inj {a b : List Int} (ha : Ky a) (hb : Ky b) (h : kyl a = kyl b) : a = b := kv_inj (kLaw.inj (kyl_mk ha) (h ▸ kyl_mk hb))
theorem kyl_key {k : List Int} (hk : Ky k) : WideAt.IsKeyLit (kyl k) := kLaw.key (kyl_mk hk)
theorem kyl_back {v : Value} {k : List Int} (hk : Ky k) (h : keyOf Tryz.prog 38 v = some (kyl k)) : v = kv k := kLaw.inj h (kyl_mk hk)
/-- Values that say nothing. -/
def anyE (_ : Value) : Option (DataW Unit × List MemPlace) := some (.lit (.bool true), [])
/-- Block m holds a map of c entries, whose keys are l's. -/
def KSet (u : World) (m c : Nat) (l : List (List Int)) : Prop :=
  ∃ D : DataW Unit, u.ownsMap Tryz.prog 38 anyE m c D ∧ Maps.size D = c ∧ Kys l ∧ ∀ x, Maps.has D x = true ↔ ∃ k ∈ l, kyl k = x
theorem KSet.lt {u : World} {m c : Nat} {l : List (List Int)} (h : KSet u m c l) : m < u.heap.size := by obtain ⟨D, h1, _⟩ := h; exact h1.lt
theorem KSet.kept {u u' : World} {m c : Nat} {l : List (List Int)} (h : KSet u m c l) (hb : u'.heap[m]? = u.heap[m]?) : KSet u' m c l := by
  obtain ⟨D, ⟨es, clock, h1, h2⟩, h3⟩ := h
  exact ⟨D, ⟨es, clock, hb.trans h1, h2⟩, h3⟩
theorem KSet.past {u u' : World} {m c : Nat} {l : List (List Int)} (h : KSet u m c l) (hb : Below u.heap.size u u') : KSet u' m c l := h.kept (hb.block m h.lt)
theorem KSet.made (u : World) : KSet (u.alloc (.map #[] 0)) u.heap.size 0 [] :=
  ⟨.map [], World.ownsMap_made _ _ _ _, rfl, fun k hk => by simp at hk, fun x => by simp [Maps.has_eq]⟩
theorem kowns_size {u : World} {m n : Nat} {D : DataW Unit} (h : u.ownsMap Tryz.prog 38 anyE m n D) : u.ownsMap Tryz.prog 38 anyE m (Maps.size D) D := by
  obtain ⟨es, clock, h1, h2, h3, rfl⟩ := h
  exact ⟨es, clock, h1, h2, by simp [Maps.size, length_sorted], rfl⟩
/-- 'm[k] = struct{}{}'. -/
theorem KSet.store {u : World} {m c : Nat} {l : List (List Int)} (h : KSet u m c l) (hc : c ≤ 1000000) {t e : TypeId} (ht : Tryz.prog.underlying t = some (.map 38 e)) (k : List Int) (hk : Ky k) :
    ∃ u' c', (Instr.mapUpdate t (.map (some m)) (kv k) (.agg #[])).run Tryz.prog u = .ok () u' ∧ KSet u' m c' (l ++ [k]) ∧ c' ≤ c + 1 ∧ u.mapTurned u' m := by
  obtain ⟨D, h1, h2, h3, h4⟩ := h
  obtain ⟨u', hrun, h5, h6⟩ := h1.store kLaw ht (by unfold maxLen; omega) (kyl_mk hk) (val := .agg #[]) (d := .lit (.bool true)) (ps := []) rfl
  refine ⟨u', Maps.size (D.put (kyl k) (.lit (.bool true))), hrun, ⟨_, kowns_size h5, rfl, ?_, fun x => ?_⟩, ?_, h6⟩
  · intro y hy
    rcases List.mem_append.1 hy with hy | hy
    · exact h3 y hy
    · simp at hy; subst hy; exact hk
  · by_cases e : x = kyl k
    · subst e
      rw [Maps.has_put_same h1.isMap (kyl_key hk)]
      exact ⟨fun _ => ⟨k, by simp, rfl⟩, fun _ => rfl⟩
    · rw [Maps.has_put_other e, h4]
      constructor
      · rintro ⟨y, hy, he⟩
        exact ⟨y, by simp [hy], he⟩
      · rintro ⟨y, hy, he⟩
        rcases List.mem_append.1 hy with hy | hy
        · exact ⟨y, hy, he⟩
        · simp at hy; subst hy; exact absurd he.symm e
  · rw [Maps.size_put (h1.tidy kLaw), h2]
    split <;> omega
theorem wpList_store_set {w : World} {ops : Array Oper} {rest : List Oper} {o : Oper} {a : Act} {Q : Exit → Act → World → Prop} (hg : o.guard = none) (m x v : Operand) (t : TypeId) (hop : o.op = Op.mapUpdate t m x v)
    (e : TypeId) (ht : Tryz.prog.underlying t = some (.map 38 e)) (b c : Nat) (l : List (List Int)) (hm : a.eval m = .map (some b)) (h : KSet w b c l) (hc : c ≤ 1000000) (k : List Int) (hk : Ky k) (hx : a.eval x = kv k) (hv : a.eval v = .agg #[])
    (hK : ∀ w' c', KSet w' b c' (l ++ [k]) → c' ≤ c + 1 → w.mapTurned w' b → wpList Tryz.prog ops Q rest (a.put o.dst undef) w') : wpList Tryz.prog ops Q (o :: rest) a w := by
  refine wpList_plain hg fun K' hK' => ?_
  obtain ⟨w', c', hrun, r1, r2, r3⟩ := h.store hc ht k hk
  unfold Oper.wp
  simp only [execOp, hop, hm, hx, hv, Sem.run_bind, hrun, Result.andThen]
  exact hK' _ _ (hK w' c' r1 r2 r3)
/-- A key is read whole, inside a fence. -/
theorem wpListIn_load_key {F : Fence} {n : Nat} {ops : Array Oper} {rest : List Oper} {op : Oper} {a : Act} {w : World} {Q : Exit → Act → World → Prop} (hgd : op.guard = none) (x : Operand) (ho : op.op = .load 38 x)
    (b o : Nat) (hx : a.eval x = .pointer (some ⟨b, o, none⟩)) (k : List Int) (hk : Ky k) (hat : KeyAt w b o k)
    (h : wpListIn F n Tryz.prog ops Q rest (a.put op.dst (kv k)) w) : wpListIn F n Tryz.prog ops Q (op :: rest) a w := by
  refine wpListIn_plain hgd fun K hK => ?_
  unfold Oper.wpIn
  refine ⟨by simp [Oper.about, ho], ?_⟩
  rw [Oper.semAt_plain F _ _ (by rw [ho]; intro c hc'; cases hc')]
  unfold execOp
  simp only [ho, hx, Instr.loadAt, Instr.sureAddr, Sem.run_bind, Sem.run_pure, Result.andThen_ok, run_loadVar_mid w b o 38 (k.map (Value.int .u8)) _ (hat.range hk) Tryz.underlying38 rfl (by rw [info_key, List.length_map, hk.len])]
  exact hK _ _ h
/-- A key is stored whole, inside a fence. -/
theorem wpListIn_store_key {F : Fence} {n : Nat} {ops : Array Oper} {rest : List Oper} {op : Oper} {a : Act} {w : World} {Q : Exit → Act → World → Prop} (hgd : op.guard = none) (x y : Operand) (ho : op.op = .store 38 x y)
    (b o : Nat) (k k' : List Int) (hx : a.eval x = .pointer (some ⟨b, o, none⟩)) (hy : a.eval y = kv k') (hk : Ky k') (hat : KeyMine w b o k)
    (h : ∀ u, u = w.setCells b o (k'.map (Value.int .u8)) → wpListIn F n Tryz.prog ops Q rest (a.put op.dst undef) u) : wpListIn F n Tryz.prog ops Q (op :: rest) a w := by
  have hl : (kcs k').size = 16 := by simp [kcs, hk.len]
  refine wpListIn_plain hgd fun K hK => ?_
  unfold Oper.wpIn
  refine ⟨by simp [Oper.about, ho], ?_⟩
  rw [Oper.semAt_plain F _ _ (by rw [ho]; intro c hc'; cases hc')]
  unfold execOp
  simp only [ho, hx, hy, Instr.storeAt, Instr.sureAddr, Sem.run_bind, Sem.run_pure, Result.andThen_ok, run_storeVar_mid w b o 38 (kcs k') (by rw [hl]; exact hat.there) (by rw [info_key, hl]) (kcs_one k')]
  exact hK _ _ (h _ rfl)
/-- A new block that a key is laid into. -/
theorem laid_key (w : World) (T : TypeId) {k : List Int} (hk : Ky k) : KeyMine ((w.alloc (.cells (kcs zeroK) T)).setCells w.heap.size 0 (k.map (Value.int .u8))) w.heap.size 0 k ∧ Below w.heap.size w ((w.alloc (.cells (kcs zeroK) T)).setCells w.heap.size 0 (k.map (Value.int .u8))) ∧ ((w.alloc (.cells (kcs zeroK) T)).setCells w.heap.size 0 (k.map (Value.int .u8))).heap.size = w.heap.size + 1 :=
  ⟨(KeyMine.made w T zeroK zeroK_ky).store hk, below_cells (Nat.le_refl _) ((Below.refl _ _).alloc (Nat.le_refl _) _), by rw [size_cells]; simp⟩
theorem grown_none {w u : World} (h : Below w.heap.size w u) : w.grownBy u none := ⟨h.os, h.tape, h.output, h.size, fun k hk _ => h.block k hk⟩
theorem len_le_of_sub {α : Type} : ∀ {l m : List α}, l.Nodup → (∀ x ∈ l, x ∈ m) → l.length ≤ m.length
  | [], m, _, _ => Nat.zero_le _
  | a :: r, m, h, hs => by
    obtain ⟨h1, h2⟩ := List.nodup_cons.1 h
    obtain ⟨s, t, rfl⟩ := List.append_of_mem (hs a (by simp))
    have := len_le_of_sub (l := r) (m := s ++ t) h2 (fun x hx => by
      have hxm := hs x (by simp [hx])
      rcases List.mem_append.1 hxm with e | e
      · exact List.mem_append_left _ e
      · rcases List.mem_cons.1 e with e | e
        · exact absurd (e ▸ hx) h1
        · exact List.mem_append_right _ e)
    simp only [List.length_append, List.length_cons] at this ⊢
    omega
theorem len_eq_of_same {α : Type} {l m : List α} (hl : l.Nodup) (hm : m.Nodup) (h : ∀ x, x ∈ l ↔ x ∈ m) : l.length = m.length :=
  Nat.le_antisymm (len_le_of_sub hl (fun x hx => (h x).1 hx)) (len_le_of_sub hm (fun x hx => (h x).2 hx))
end Go.Proofs.YtileidbdmpeciaaGreat

