/-
  A map whose keys are keys and whose values say nothing: what a store into it gives; keys read and stored whole inside a fence.
-/
import Derived.Test.YtcppihpehipelaaAu44
import Derived.Maps.RangeWalk
import Derived.Maps.OwnOps
import Derived.DeepKeys4
import Derived.RangeFuncNested
import Derived.Sort.MapsRangeIn
import Derived.Maps.AppendAt
import Derived.RangeFuncBox
namespace Go.Proofs.Ytcppihpehipelaa
open Go.RowKit
open Go.Maps (Keyed)
set_option linter.unusedVariables false

theorem kLaid : laidOutB Try.prog = true := by kernel_rfl
theorem kRow : (84 : TypeId) < Try.prog.types.size := of_decide_eq_true (by kernel_rfl)
theorem kWide : (match Try.prog.underlying 84 with | some (.array _ _) | some (.struct _) => true | _ => false) = true := by rw [Try.underlying84]
set_option maxRecDepth 1000000 in
theorem kLaw : Keyed Try.prog 84 := Maps.Keyed.of_law (deep_law_laid kLaid (m := 2) (by omega) kRow (by kernel_rfl) kWide)
theorem mapM_all {α β : Type} {f : α → Option β} {g : α → β} : ∀ {l : List α}, (∀ x ∈ l, f x = some (g x)) → l.mapM f = some (l.map g)
  | [], _ => rfl
  | a :: r, h => by
    have hy := h a (by simp)
    have hys := mapM_all (l := r) (fun x hx => h x (by simp [hx]))
    simp [List.mapM_cons, hy, hys]
/-- A key, as a map's key. -/
def kyl (k : List Int) : Lit := .string (keyBytes (k.map (Lit.int .u8)))
theorem kyl_mk {k : List Int} (hk : Ky k) : keyOf Try.prog 84 (kv k) = some (kyl k) := by
  have h1 : Try.prog.keyType 84 = true := by kernel_rfl
  have h2 : Try.prog.cellsOf 84 = 16 := by kernel_rfl
  have h3 : Try.prog.cellsOf 5 = 1 := by kernel_rfl
  have hl := hk.len
  have h4 : (kv k).formed Try.prog 84 = true := by simp [Value.formed, Try.underlying84, h2, hl]
  obtain ⟨d, hd⟩ : ∃ d, Try.prog.types.size + 1 = d + 2 := ⟨Try.prog.types.size - 1, by have : 1 ≤ Try.prog.types.size := of_decide_eq_true (by kernel_rfl); omega⟩
  unfold keyOf
  rw [Try.underlying84]
  simp only [h1, h4, Bool.and_self, if_true]
  have hls : Try.prog.keyLits (Try.prog.types.size + 1) 84 (kv k).cells.toList = some (k.map (Lit.int .u8)) := by
    rw [hd]
    unfold Program.keyLits
    rw [Try.underlying84]
    have e : (kv k).cells.toList = k.map (Value.int .u8) := by simp [Value.cells]
    simp only [e, h2, h3, List.length_map, hl, if_true, Nat.mul_one]
    have hys : (List.range 16).mapM (fun i => Try.prog.keyLits (d + 1) 5 (((k.map (Value.int .u8)).drop i).take 1)) = some ((List.range 16).map fun i => [Lit.int .u8 (k.getD i 0)]) := mapM_all fun i hi => by
      have hi' : i < k.length := by rw [hl]; exact List.mem_range.1 hi
      have hb := hk.bytes k[i] (List.getElem_mem hi')
      have e2 : ((k.map (Value.int .u8)).drop i).take 1 = [.int .u8 k[i]] := by
        rw [List.drop_eq_getElem_cons (by simpa using hi')]
        simp
      rw [e2]
      unfold Program.keyLits
      rw [Try.underlying5]
      have hw : (Lit.int .u8 k[i]).wf = true := by simp [Lit.wf]; exact hb
      have e3 : k.getD i 0 = k[i] := by simp [List.getD, hi']
      rw [e3]
      simp [hw]
    rw [hys]
    have e4 : ((List.range 16).map fun i => [Lit.int .u8 (k.getD i 0)]).flatten = k.map (Lit.int .u8) := by
      have e5 : k = (List.range 16).map fun i => k.getD i 0 := by
        apply List.ext_getElem (by simp [hl])
        intro i h1 h2
        simp [List.getD, h1]
      conv => rhs; rw [e5]
      rw [List.map_map, ← List.flatMap_def, ← List.map_eq_flatMap]
      rfl
    rw [Option.map_some, e4]
  rw [hls]
  rfl
theorem kv_inj {a b : List Int} (h : kv a = kv b) : a = b := by
  injection h with h
  have h : a.map (Value.int .u8) = b.map (Value.int .u8) := by simpa using congrArg Array.toList h
  exact List.map_inj_right (fun x y e => by injection e) |>.1 h
theorem kyl_inj {a b : List Int} (ha : Ky a) (hb : Ky b) (h : kyl a = kyl b) : a = b := kv_inj (kLaw.inj (kyl_mk ha) (h ▸ kyl_mk hb))
theorem kyl_key {k : List Int} (hk : Ky k) : WideAt.IsKeyLit (kyl k) := kLaw.key (kyl_mk hk)
/-- Values that say nothing. -/
def anyE (_ : Value) : Option (DataW Unit × List MemPlace) := some (.lit (.bool true), [])
/-- Block m holds a map of c entries, whose keys are l's. -/
def KSet (u : World) (m c : Nat) (l : List (List Int)) : Prop :=
  ∃ D : DataW Unit, u.ownsMap Try.prog 84 anyE m c D ∧ Maps.size D = c ∧ Kys l ∧ ∀ x, Maps.has D x = true ↔ ∃ k ∈ l, kyl k = x
theorem KSet.lt {u : World} {m c : Nat} {l : List (List Int)} (h : KSet u m c l) : m < u.heap.size := by obtain ⟨D, h1, _⟩ := h; exact h1.lt
theorem KSet.kept {u u' : World} {m c : Nat} {l : List (List Int)} (h : KSet u m c l) (hb : u'.heap[m]? = u.heap[m]?) : KSet u' m c l := by
  obtain ⟨D, ⟨es, clock, h1, h2⟩, h3⟩ := h
  exact ⟨D, ⟨es, clock, hb.trans h1, h2⟩, h3⟩
theorem KSet.past {u u' : World} {m c : Nat} {l : List (List Int)} (h : KSet u m c l) (hb : Below u.heap.size u u') : KSet u' m c l := h.kept (hb.block m h.lt)
theorem KSet.made (u : World) : KSet (u.alloc (.map #[] 0)) u.heap.size 0 [] :=
  ⟨.map [], World.ownsMap_made _ _ _ _, rfl, fun k hk => by simp at hk, fun x => by simp [Maps.has_eq]⟩
theorem kowns_size {u : World} {m n : Nat} {D : DataW Unit} (h : u.ownsMap Try.prog 84 anyE m n D) : u.ownsMap Try.prog 84 anyE m (Maps.size D) D := by
  obtain ⟨es, clock, h1, h2, h3, rfl⟩ := h
  exact ⟨es, clock, h1, h2, by simp [Maps.size, length_sorted], rfl⟩
/-- 'm[k] = struct{}{}'. -/
theorem KSet.store {u : World} {m c : Nat} {l : List (List Int)} (h : KSet u m c l) (hc : c ≤ 1000000) {t e : TypeId} (ht : Try.prog.underlying t = some (.map 84 e)) (k : List Int) (hk : Ky k) :
    ∃ u' c', (Instr.mapUpdate t (.map (some m)) (kv k) (.agg #[])).run Try.prog u = .ok () u' ∧ KSet u' m c' (l ++ [k]) ∧ c' ≤ c + 1 ∧ u.mapTurned u' m := by
  obtain ⟨D, h1, h2, h3, h4⟩ := h
  obtain ⟨u', hrun, h5, h6⟩ := h1.store kLaw ht (by unfold maxLen; omega) (kyl_mk hk) (val := .agg #[]) (d := .lit (.bool true)) (ps := []) rfl
  refine ⟨u', Maps.size (D.put (kyl k) (.lit (.bool true))), hrun, ⟨_, kowns_size h5, rfl, ?_, fun x => ?_⟩, ?_, h6⟩
  · intro y hy
    rcases List.mem_append.1 hy with hy | hy
    · exact h3 y hy
    · simp at hy; subst hy; exact hk
  · by_cases e : x = kyl k
    · subst e
      rw [Maps.has_put_same h1.isMap (kyl_key hk)]
      exact ⟨fun _ => ⟨k, by simp, rfl⟩, fun _ => rfl⟩
    · rw [Maps.has_put_other e, h4]
      constructor
      · rintro ⟨y, hy, he⟩
        exact ⟨y, by simp [hy], he⟩
      · rintro ⟨y, hy, he⟩
        rcases List.mem_append.1 hy with hy | hy
        · exact ⟨y, hy, he⟩
        · simp at hy; subst hy; exact absurd he.symm e
  · rw [Maps.size_put (h1.tidy kLaw), h2]
    split <;> omega
theorem wpList_store_set {w : World} {ops : Array Oper} {rest : List Oper} {o : Oper} {a : Act} {Q : Exit → Act → World → Prop} (hg : o.guard = none) (m x v : Operand) (t : TypeId) (hop : o.op = Op.mapUpdate t m x v)
    (e : TypeId) (ht : Try.prog.underlying t = some (.map 84 e)) (b c : Nat) (l : List (List Int)) (hm : a.eval m = .map (some b)) (h : KSet w b c l) (hc : c ≤ 1000000) (k : List Int) (hk : Ky k) (hx : a.eval x = kv k) (hv : a.eval v = .agg #[])
    (hK : ∀ w' c', KSet w' b c' (l ++ [k]) → c' ≤ c + 1 → w.mapTurned w' b → wpList Try.prog ops Q rest (a.put o.dst undef) w') : wpList Try.prog ops Q (o :: rest) a w := by
  refine wpList_plain hg fun K' hK' => ?_
  obtain ⟨w', c', hrun, r1, r2, r3⟩ := h.store hc ht k hk
  unfold Oper.wp
  simp only [execOp, hop, hm, hx, hv, Sem.run_bind, hrun, Result.andThen]
  exact hK' _ _ (hK w' c' r1 r2 r3)
theorem len_le_of_sub {α : Type} : ∀ {l m : List α}, l.Nodup → (∀ x ∈ l, x ∈ m) → l.length ≤ m.length
  | [], m, _, _ => Nat.zero_le _
  | a :: r, m, h, hs => by
    obtain ⟨h1, h2⟩ := List.nodup_cons.1 h
    obtain ⟨s, t, rfl⟩ := List.append_of_mem (hs a (by simp))
    have := len_le_of_sub (l := r) (m := s ++ t) h2 (fun x hx => by
      have hxm := hs x (by simp [hx])
      rcases List.mem_append.1 hxm with e | e
      · exact List.mem_append_left _ e
      · rcases List.mem_cons.1 e with e | e
        · exact absurd (e ▸ hx) h1
        · exact List.mem_append_right _ e)
    simp only [List.length_append, List.length_cons] at this ⊢
    omega
theorem len_eq_of_same {α : Type} {l m : List α} (hl : l.Nodup) (hm : m.Nodup) (h : ∀ x, x ∈ l ↔ x ∈ m) : l.length = m.length :=
  Nat.le_antisymm (len_le_of_sub hl (fun x hx => (h x).1 hx)) (len_le_of_sub hm (fun x hx => (h x).2 hx))
end Go.Proofs.Ytcppihpehipelaa
