/-
  Lists whose elements have several cells each: lists that the call made itself, lists that lie somewhere, one put behind the other.
-/
import Derived.Test.YtcppihpehipelaaAu44
import Derived.Laws.AppendOwnNone
import Derived.Deep.RegionLaw
import Derived.Deep.MidRow
namespace Go.Proofs.Ytcppihpehipelaa
open Go.RowKit
set_option linter.unusedVariables false

/-- A type of lists: its elements' type, their cells, their bytes. -/
structure ElT (t e : TypeId) (size bytes : Nat) : Prop where
  ht : Try.prog.underlying t = some (.slice e)
  info : ∃ i z, Try.prog.info? e = some i ∧ i.zero = some z ∧ i.size = size ∧ i.bytes = bytes ∧ z.cells.size = size
  pos : 0 < size
  small : bytes ≤ 1000
theorem ElT.mk' {t e : TypeId} {z : Value} {size bytes : Nat} (ht : Try.prog.underlying t = some (.slice e)) (h : (Try.prog.info? e).map (fun i => (i.zero, i.size, i.bytes)) = some (some z, size, bytes)) (hz : z.cells.size = size) (hp : 0 < size) (hs : bytes ≤ 1000) : ElT t e size bytes := by
  obtain ⟨i, h1, h2, h3, h4⟩ := info_of h
  exact ⟨ht, ⟨i, z, h1, h2, h3, h4, hz⟩, hp, hs⟩
/-- Cells that lie somewhere. -/
def Lies (w : World) (ao : Option Addr) (vs : List Value) : Prop := ∀ sa, ao = some sa → (vs ≠ [] → sa.spot = none) ∧ ∀ j u, vs[j]? = some u → w.cell? (sa.add j) = some u
theorem Lies.at {w : World} {b o : Nat} {vs : List Value} (h : Lies w (some ⟨b, o, none⟩) vs) (j : Nat) (u : Value) (hj : vs[j]? = some u) : w.cell? ⟨b, o + j, none⟩ = some u := by
  have := (h _ rfl).2 j u hj
  rwa [addr_add] at this
theorem lies_of {w : World} {b o : Nat} {vs : List Value} (h : ∀ j u, vs[j]? = some u → w.cell? ⟨b, o + j, none⟩ = some u) : Lies w (some ⟨b, o, none⟩) vs := by
  intro sa hsa
  injection hsa with hsa
  subst hsa
  exact ⟨fun _ => rfl, fun j u hj => by rw [addr_add]; exact h j u hj⟩
theorem lies_none (w : World) (vs : List Value) : Lies w none vs := fun sa h => by cases h
theorem lies_nil (w : World) (ao : Option Addr) : Lies w ao [] := fun sa hs => ⟨fun h => absurd rfl h, fun j u hj => by simp at hj⟩
theorem lies_empty (w : World) (b o : Nat) : Lies w (some ⟨b, o, none⟩) [] := lies_of (fun j u hj => by simp at hj)
theorem Lies.range {w : World} {b o : Nat} {vs : List Value} (h : Lies w (some ⟨b, o, none⟩) vs) : w.rangeAt b o vs := fun j v hv => h.at j v hv
theorem Lies.below {w w' : World} {b o B : Nat} {vs : List Value} (h : Lies w (some ⟨b, o, none⟩) vs) (hb : Below B w w') (hB : b < B) : Lies w' (some ⟨b, o, none⟩) vs :=
  lies_of fun j u hj => by rw [hb.cell (p := ⟨b, o + j, none⟩) hB]; exact h.at j u hj
theorem Lies.past {w w' : World} {ao : Option Addr} {vs : List Value} (h : Lies w ao vs) (hb : Below w.heap.size w w') : Lies w' ao vs := by
  intro sa hsa
  subst hsa
  obtain ⟨hs, h⟩ := h sa rfl
  refine ⟨hs, fun j u hj => ?_⟩
  have h1 := h j u hj
  have hs := hs (fun e => by rw [e] at hj; simp at hj)
  obtain ⟨b, o, sp⟩ := sa
  simp at hs
  subst hs
  rw [addr_add] at h1 ⊢
  have hlt : b < w.heap.size := by
    rcases Nat.lt_or_ge b w.heap.size with h' | h'
    · exact h'
    · simp [World.cell?, Array.getElem?_eq_none h'] at h1
  rw [hb.cell (p := ⟨b, o + j, none⟩) hlt]; exact h1
theorem Lies.kept {w w' : World} {g o : Nat} {vs : List Value} {x : Option Nat} (h : Lies w (some ⟨g, o, none⟩) vs) (hg : w.grownBy w' x) (hlt : g < w.heap.size) (hne : some g ≠ x) : Lies w' (some ⟨g, o, none⟩) vs :=
  lies_of fun j u hj => by
    rw [← h.at j u hj]
    have h2 := hg.block g hlt hne
    simp [World.cell?, h2]
theorem Lies.drew {w : World} {ao : Option Addr} {vs : List Value} (h : Lies w ao vs) : Lies w.drew ao vs := h
theorem Lies.alloc {w : World} {g o : Nat} {vs : List Value} (h : Lies w (some ⟨g, o, none⟩) vs) (hlt : g < w.heap.size) (ob : Obj) : Lies (w.alloc ob) (some ⟨g, o, none⟩) vs :=
  h.below ((Below.refl w.heap.size _).alloc (Nat.le_refl _) ob) hlt
theorem Lies.sub {w : World} {b o : Nat} {vs : List Value} (h : Lies w (some ⟨b, o, none⟩) vs) (k m : Nat) : Lies w (some ⟨b, o + k, none⟩) ((vs.drop k).take m) :=
  lies_of fun j u hj => by
    rw [Nat.add_assoc]
    refine h.at (k + j) u ?_
    have hm : j < m := by
      rcases Nat.lt_or_ge j m with h' | h'
      · exact h'
      · rw [List.getElem?_eq_none (by simp; omega)] at hj; cases hj
    rw [List.getElem?_take_of_lt hm, List.getElem?_drop] at hj
    exact hj
theorem Lies.dropped {w : World} {b o : Nat} {vs : List Value} (h : Lies w (some ⟨b, o, none⟩) vs) (k : Nat) : Lies w (some ⟨b, o + k, none⟩) (vs.drop k) :=
  lies_of fun j u hj => by
    rw [Nat.add_assoc]
    rw [List.getElem?_drop] at hj
    exact h.at (k + j) u hj
theorem Lies.taken {w : World} {b o : Nat} {vs : List Value} (h : Lies w (some ⟨b, o, none⟩) vs) (m : Nat) : Lies w (some ⟨b, o, none⟩) (vs.take m) := by
  have := h.sub 0 m
  rwa [Nat.add_zero, List.drop_zero] at this
theorem lies_made (w : World) (C : Array Value) (e : TypeId) : Lies (w.alloc (.cells C e)) (some ⟨w.heap.size, 0, none⟩) C.toList :=
  lies_of fun j u hj => by
    rw [Nat.zero_add, World.cell?_alloc_new]
    simpa using hj
theorem own_lies {w : World} {B e size n cap g : Nat} {vs : List Value} (h : w.ownsRow B e size (.slice (some ⟨g, 0, none⟩) n cap) n vs) : Lies w (some ⟨g, 0, none⟩) vs :=
  lies_of fun j u hj => by rw [Nat.zero_add]; exact own_cell h j u hj
theorem own_form {w : World} {B e size n : Nat} {v : Value} {vs : List Value} (h : w.ownsRow B e size v n vs) : ∃ a cap, v = .slice a n cap := by
  rcases h.2 with ⟨hv, h0⟩ | ⟨g, cap, cur, hv, _⟩
  · exact ⟨_, _, by rw [h0]; exact hv⟩
  · exact ⟨_, _, hv⟩
theorem run_append_els {t e : TypeId} {size bytes : Nat} (E : ElT t e size bytes) (w : World) (B : Nat) (v : Value) (n : Nat) (xs : List Value) (hown : w.ownsRow B e size v n xs) (ao : Option Addr) (m c : Nat) (news : List Value) (hl : news.length = m * size) (hsrc : Lies w ao news) (h1 : ∀ u ∈ news, u.oneCell' = true) (hnil : ao = none → m = 0 ∧ c = 0) (hn : n + m ≤ 1000000) (hB : B ≤ w.heap.size) (ty : TypeId) :
    ∃ a' cap' w', (Builtin.append_ #[t, t] ty #[v, .slice ao m c]).run Try.prog w = .ok (.slice a' (n + m) cap') w' ∧ w'.ownsRow B e size (.slice a' (n + m) cap') (n + m) (xs ++ news) ∧ w.grownBy w' v.ownBlock := by
  obtain ⟨i0, z, hi, hz0, hz1, hz2, hz3⟩ := E.info
  cases ao with
  | none =>
    obtain ⟨rfl, rfl⟩ := hnil rfl
    have hz : news = [] := List.eq_nil_of_length_eq_zero (by rw [hl]; simp)
    subst hz
    obtain ⟨ao, cap, rfl⟩ := own_form hown
    have hrun := run_append_owned_none (P := Try.prog) (w := w) B t ty e i0 size E.ht hi _ n xs hown
    refine ⟨ao, cap, w, ?_, by simpa using hown, ⟨rfl, rfl, rfl, Nat.le_refl _, fun _ _ _ => rfl⟩⟩
    simpa using hrun
  | some sa =>
    have hbig : (n + m) * bytes ≤ 140737488355328 := Nat.le_trans (Nat.mul_le_mul hn E.small) (by decide)
    obtain ⟨v', w', hrun, h2, h3, _⟩ := run_append_own (P := Try.prog) w B t ty e i0 z size bytes E.ht hi hz0 hz1 hz2 hz3 E.pos v n xs hown sa m c news hl (hsrc sa rfl).2 h1 (by unfold maxLen; omega) hbig hB
    obtain ⟨a', cap', rfl⟩ := own_form h2
    exact ⟨a', cap', w', hrun, h2, h3⟩
/-- One append as one step of a region that draws its order. -/
theorem step_append_els {t e : TypeId} {size bytes : Nat} (E : ElT t e size bytes) {w0 w : World} {ops : Array Oper} {o : Oper} {a : Act} {K : Act → World → Prop} {Q : Exit → Act → World → Prop} {X : Prop} (hgd : o.guard = none) (s x : Operand)
    (ho : o.op = .call { callee := .builtin .append, args := #[s, x], argTypes := #[t, t] }) (hb : Below w0.heap.size w0 w)
    (v : Value) (n : Nat) (xs news : List Value) (hs : a.eval s = v) (hown : w.ownsRow w0.heap.size e size v n xs) (ao : Option Addr) (m c : Nat) (hx : a.eval x = .slice ao m c) (hl : news.length = m * size) (hsrc : Lies w ao news) (h1 : ∀ u ∈ news, u.oneCell' = true) (hnil : ao = none → m = 0 ∧ c = 0) (hn : n + m ≤ 1000000)
    (h : ∀ a' cap' w', w'.ownsRow w0.heap.size e size (.slice a' (n + m) cap') (n + m) (xs ++ news) → w.grownBy w' v.ownBlock → Below w0.heap.size w0 w' → K (a.put o.dst (.slice a' (n + m) cap')) w') :
    if Region.wanted o (yielded ops a.tmps) = true then Oper.wp Try.prog o a w K Q else X := by
  have hw : Region.wanted o (yielded ops a.tmps) = true := by simp [Region.wanted, hgd]
  rw [if_pos hw]
  obtain ⟨a', cap', w', hrun, h2, h3⟩ := run_append_els E w w0.heap.size v n xs hown ao m c news hl hsrc h1 hnil hn hb.size o.type
  unfold Oper.wp
  simp [execOp, ho, resolve, invoke, builtin, hs, hx, hrun, Result.andThen]
  exact h a' cap' w' h2 h3 (hb.grown h3 hb.size (fun k hk => (hown.lt k hk).1))
/-- The same in a region whose order stands. -/
theorem wpList_append_els {t e : TypeId} {size bytes : Nat} (E : ElT t e size bytes) {w0 w : World} {ops : Array Oper} {rest : List Oper} {o : Oper} {a : Act} {Q : Exit → Act → World → Prop} (hgd : o.guard = none) (s x : Operand)
    (ho : o.op = .call { callee := .builtin .append, args := #[s, x], argTypes := #[t, t] }) (hb : Below w0.heap.size w0 w)
    (v : Value) (n : Nat) (xs news : List Value) (hs : a.eval s = v) (hown : w.ownsRow w0.heap.size e size v n xs) (ao : Option Addr) (m c : Nat) (hx : a.eval x = .slice ao m c) (hl : news.length = m * size) (hsrc : Lies w ao news) (h1 : ∀ u ∈ news, u.oneCell' = true) (hnil : ao = none → m = 0 ∧ c = 0) (hn : n + m ≤ 1000000)
    (h : ∀ a' cap' w', w'.ownsRow w0.heap.size e size (.slice a' (n + m) cap') (n + m) (xs ++ news) → w.grownBy w' v.ownBlock → Below w0.heap.size w0 w' → wpList Try.prog ops Q rest (a.put o.dst (.slice a' (n + m) cap')) w') : wpList Try.prog ops Q (o :: rest) a w := by
  refine wpList_plain hgd fun K hK => ?_
  obtain ⟨a', cap', w', hrun, h2, h3⟩ := run_append_els E w w0.heap.size v n xs hown ao m c news hl hsrc h1 hnil hn hb.size o.type
  unfold Oper.wp
  simp [execOp, ho, resolve, invoke, builtin, hs, hx, hrun, Result.andThen]
  exact hK _ _ (h a' cap' w' h2 h3 (hb.grown h3 hb.size (fun k hk => (hown.lt k hk).1)))
/-- A list of the call's own, all since world w0. -/
structure OwnB (e : TypeId) (size : Nat) (w0 u : World) (v : Value) (n : Nat) (xs : List Value) : Prop where
  own : u.ownsRow w0.heap.size e size v n xs
  below : Below w0.heap.size w0 u
theorem OwnB.past {e : TypeId} {size : Nat} {w0 u u' : World} {v : Value} {n : Nat} {xs : List Value} (h : OwnB e size w0 u v n xs) (hb : Below u.heap.size u u') : OwnB e size w0 u' v n xs :=
  ⟨own_below h.own hb (Nat.le_refl _), h.below.trans (hb.mono h.below.size)⟩
theorem OwnB.alloc {e : TypeId} {size : Nat} {w0 u : World} {v : Value} {n : Nat} {xs : List Value} (h : OwnB e size w0 u v n xs) (ob : Obj) : OwnB e size w0 (u.alloc ob) v n xs :=
  h.past ((Below.refl _ _).alloc (Nat.le_refl _) ob)
theorem own_one (e : TypeId) (size : Nat) (w : World) : OwnB e size w (w.alloc (.cells #[] e)).drew (.slice (some ⟨w.heap.size, 0, none⟩) 0 0) 0 [] :=
  ⟨(World.ownsRow_made w #[] 0 (Nat.le_refl _) (by unfold maxLen; omega) (by simp)).drew, ((Below.refl _ _).alloc (Nat.le_refl _) _).drew⟩
theorem own_two (e : TypeId) (size : Nat) (w : World) (ob : Obj) : OwnB e size w ((w.alloc (.cells #[] e)).alloc ob).drew (.slice (some ⟨w.heap.size, 0, none⟩) 0 0) 0 [] :=
  ⟨((World.ownsRow_made w #[] 0 (Nat.le_refl _) (by unfold maxLen; omega) (by simp)).alloc _).drew, (((Below.refl _ _).alloc (Nat.le_refl _) _).alloc (by simp) _).drew⟩
theorem own_behind (e : TypeId) (size : Nat) (w : World) (ob : Obj) : OwnB e size w ((w.alloc ob).alloc (.cells #[] e)).drew (.slice (some ⟨w.heap.size + 1, 0, none⟩) 0 0) 0 [] := by
  have h1 := World.ownsRow_made (e := e) (size := size) (base := w.heap.size) (w.alloc ob) #[] 0 (by simp) (by unfold maxLen; omega) (by simp)
  rw [World.size_alloc] at h1
  exact ⟨h1.drew, (((Below.refl _ _).alloc (Nat.le_refl _) _).alloc (by simp) _).drew⟩
/-- A block that holds one element, apart from the list. -/
structure MadeX (w0 u : World) (a : Option Addr) (v : Value) (vs : List Value) : Prop where
  lies : Lies u a vs
  far : ∃ g, a = some ⟨g, 0, none⟩ ∧ g < u.heap.size ∧ some g ≠ v.ownBlock
theorem MadeX.step {w0 u u' : World} {a : Option Addr} {v v' : Value} {vs : List Value} (h : MadeX w0 u a v vs) (hg : u.grownBy u' v.ownBlock) : Lies u' a vs := by
  obtain ⟨g, rfl, h1, h2⟩ := h.far
  exact h.lies.kept hg h1 h2
theorem made_two (w : World) (e f : TypeId) (C D : Array Value) (n c : Nat) : MadeX w ((w.alloc (.cells C e)).alloc (.cells D f)).drew (some ⟨w.heap.size + 1, 0, none⟩) (.slice (some ⟨w.heap.size, 0, none⟩) n c) D.toList := by
  have h := lies_made (w.alloc (.cells C e)) D f
  rw [World.size_alloc] at h
  exact ⟨h, _, rfl, by simp, by simp [Value.ownBlock]⟩
theorem made_ahead (w : World) (e f : TypeId) (C D : Array Value) (n c : Nat) : MadeX w ((w.alloc (.cells D f)).alloc (.cells C e)).drew (some ⟨w.heap.size, 0, none⟩) (.slice (some ⟨w.heap.size + 1, 0, none⟩) n c) D.toList :=
  ⟨(lies_made w D f).alloc (by simp) _, _, rfl, by simp; omega, by simp [Value.ownBlock]⟩
/-- One append to a list of the call's own, as one step of a region that draws its order. -/
theorem step_own {t e : TypeId} {size bytes : Nat} (E : ElT t e size bytes) {w0 w : World} {ops : Array Oper} {o : Oper} {a : Act} {K : Act → World → Prop} {Q : Exit → Act → World → Prop} {X : Prop} (hgd : o.guard = none) (s x : Operand)
    (ho : o.op = .call { callee := .builtin .append, args := #[s, x], argTypes := #[t, t] })
    (v : Value) (n : Nat) (xs news : List Value) (hs : a.eval s = v) (hown : OwnB e size w0 w v n xs) (ao : Option Addr) (m c : Nat) (hx : a.eval x = .slice ao m c) (hl : news.length = m * size) (hsrc : Lies w ao news) (h1 : ∀ u ∈ news, u.oneCell' = true) (hnil : ao = none → m = 0 ∧ c = 0) (n' : Nat) (hn' : n + m = n') (hn : n' ≤ 1000000) (ys : List Value) (hys : xs ++ news = ys)
    (h : ∀ a' cap' w', OwnB e size w0 w' (.slice a' n' cap') n' ys → w.grownBy w' v.ownBlock → K (a.put o.dst (.slice a' n' cap')) w') :
    if Region.wanted o (yielded ops a.tmps) = true then Oper.wp Try.prog o a w K Q else X := by
  subst hn'
  subst hys
  exact step_append_els E hgd s x ho hown.below v n xs news hs hown.own ao m c hx hl hsrc h1 hnil hn (fun a' c' w' x1 x2 x3 => h a' c' w' ⟨x1, x3⟩ x2)
/-- The same in a region whose order stands. -/
theorem wpList_own {t e : TypeId} {size bytes : Nat} (E : ElT t e size bytes) {w0 w : World} {ops : Array Oper} {rest : List Oper} {o : Oper} {a : Act} {Q : Exit → Act → World → Prop} (hgd : o.guard = none) (s x : Operand)
    (ho : o.op = .call { callee := .builtin .append, args := #[s, x], argTypes := #[t, t] })
    (v : Value) (n : Nat) (xs news : List Value) (hs : a.eval s = v) (hown : OwnB e size w0 w v n xs) (ao : Option Addr) (m c : Nat) (hx : a.eval x = .slice ao m c) (hl : news.length = m * size) (hsrc : Lies w ao news) (h1 : ∀ u ∈ news, u.oneCell' = true) (hnil : ao = none → m = 0 ∧ c = 0) (n' : Nat) (hn' : n + m = n') (hn : n' ≤ 1000000) (ys : List Value) (hys : xs ++ news = ys)
    (h : ∀ a' cap' w', OwnB e size w0 w' (.slice a' n' cap') n' ys → w.grownBy w' v.ownBlock → wpList Try.prog ops Q rest (a.put o.dst (.slice a' n' cap')) w') : wpList Try.prog ops Q (o :: rest) a w := by
  subst hn'
  subst hys
  exact wpList_append_els E hgd s x ho hown.below v n xs news hs hown.own ao m c hx hl hsrc h1 hnil hn (fun a' c' w' x1 x2 x3 => h a' c' w' ⟨x1, x3⟩ x2)
/-- Flattened lists: where an element's cells stand. -/
theorem flat_drop {α : Type} {enc : α → List Value} {size : Nat} : ∀ (l : List α) (k : Nat), (∀ x ∈ l, (enc x).length = size) → (l.flatMap enc).drop (k * size) = (l.drop k).flatMap enc
  | [], k, _ => by simp
  | a :: r, 0, _ => by simp
  | a :: r, k + 1, h => by
    have ha : (enc a).length = size := h a (by simp)
    rw [List.flatMap_cons, List.drop_succ_cons, ← flat_drop r k (fun x hx => h x (by simp [hx])), Nat.succ_mul, Nat.add_comm, ← List.drop_drop, ← ha, List.drop_left]
theorem flat_len {α : Type} {enc : α → List Value} {size : Nat} : ∀ (l : List α), (∀ x ∈ l, (enc x).length = size) → (l.flatMap enc).length = l.length * size
  | [], _ => by simp
  | a :: r, h => by rw [List.flatMap_cons, List.length_append, h a (by simp), flat_len r (fun x hx => h x (by simp [hx])), List.length_cons, Nat.succ_mul, Nat.add_comm]
theorem flat_take {α : Type} {enc : α → List Value} {size : Nat} : ∀ (l : List α) (k : Nat), (∀ x ∈ l, (enc x).length = size) → (l.flatMap enc).take (k * size) = (l.take k).flatMap enc
  | [], k, _ => by simp
  | a :: r, 0, _ => by simp
  | a :: r, k + 1, h => by
    have ha : (enc a).length = size := h a (by simp)
    rw [List.flatMap_cons, List.take_succ_cons, List.flatMap_cons, ← flat_take r k (fun x hx => h x (by simp [hx])), Nat.succ_mul, Nat.add_comm, List.take_append, List.take_of_length_le (by omega), ha, Nat.add_sub_cancel_left]
theorem flat_at {α : Type} {enc : α → List Value} {size : Nat} (l : List α) (k : Nat) (x : α) (h : ∀ x ∈ l, (enc x).length = size) (hk : l[k]? = some x) : ((l.flatMap enc).drop (k * size)).take size = enc x := by
  rw [flat_drop l k h]
  obtain ⟨hlt, rfl⟩ := List.getElem?_eq_some_iff.1 hk
  rw [List.drop_eq_getElem_cons hlt, List.flatMap_cons]
  have := h _ (List.getElem_mem hlt)
  rw [List.take_append, List.take_of_length_le (by omega), this, Nat.sub_self, List.take_zero, List.append_nil]
/-- The element at place k lies k elements on. -/
theorem Lies.el {α : Type} {enc : α → List Value} {size : Nat} {w : World} {b o : Nat} {l : List α} (h : Lies w (some ⟨b, o, none⟩) (l.flatMap enc)) (hs : ∀ x ∈ l, (enc x).length = size) {k : Nat} {x : α} (hk : l[k]? = some x) : Lies w (some ⟨b, o + k * size, none⟩) (enc x) := by
  have := h.sub (k * size) size
  rwa [flat_at l k x hs hk] at this
theorem flat_one {α : Type} {enc : α → List Value} {l : List α} (h : ∀ x ∈ l, ∀ u ∈ enc x, u.oneCell' = true) : ∀ u ∈ l.flatMap enc, u.oneCell' = true := by
  intro u hu
  obtain ⟨x, hx, hu⟩ := List.mem_flatMap.1 hu
  exact h x hx u hu
end Go.Proofs.Ytcppihpehipelaa
