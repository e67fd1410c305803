/-
  Keys' cells; cells laid one by one.
  Lists of keys: lists that lie somewhere, lists that the call made itself.
  A map whose keys are keys and whose values say nothing: what a store into it gives; keys read and stored whole inside a fence.
-/
import Derived.Test.YtileidbdmpeciaaGreatAu79
import Derived.Maps.RangeWalk
import Derived.Maps.OwnOps
import Derived.DeepKeys4
import Derived.RangeFuncNested
import Derived.Sort.MapsRangeIn
import Derived.Maps.AppendAt
import Derived.RangeFuncBox
namespace Go.Proofs.YtileidbdmpeciaaGreat
open Go.RowKit
set_option linter.unusedVariables false

/-- A key's cells, as a list. -/
def kc (k : List Int) : List Value := k.map (Value.int .u8)
def Kys (l : List (List Int)) : Prop := ∀ k ∈ l, Ky k
theorem kc_len {k : List Int} (h : Ky k) : (kc k).length = 16 := by unfold kc; rw [List.length_map]; exact h.len
theorem Kys.len {l : List (List Int)} (h : Kys l) : ∀ k ∈ l, (kc k).length = 16 := fun k hk => kc_len (h k hk)
theorem Kys.one {l : List (List Int)} : ∀ u ∈ l.flatMap kc, u.oneCell' = true := flat_one fun k _ => ints_oneCell _ _
theorem Kys.get {l : List (List Int)} (h : Kys l) {i : Nat} (hi : i < l.length) : Ky (l.getD i []) := by
  have e : l.getD i [] = l[i] := by simp [List.getD, hi]
  rw [e]; exact h _ (List.getElem_mem hi)
theorem Kys.take {l : List (List Int)} (h : Kys l) (n : Nat) : Kys (l.take n) := fun k hk => h k (List.mem_of_mem_take hk)
/-- Cells laid one by one. -/
theorem fold_set : ∀ (vs : List Value) (o : Nat) (C : Array Value), o + vs.length ≤ C.size → (List.foldl (fun (cs : Array Value) (x : Value × Nat) => cs.setIfInBounds x.snd x.fst) C (vs.zipIdx o)).toList = C.toList.take o ++ vs ++ C.toList.drop (o + vs.length)
  | [], o, C, h => by simp
  | v :: r, o, C, h => by
    rw [List.zipIdx_cons, List.foldl_cons, fold_set r (o + 1) (C.setIfInBounds o v) (by simp at h ⊢; omega)]
    simp only [Array.toList_setIfInBounds]
    have ho : o < C.toList.length := by simp at h ⊢; omega
    have e1 : (C.toList.set o v).take (o + 1) = C.toList.take o ++ [v] := by
      rw [List.take_succ_eq_append_getElem (by simpa using ho), List.take_set_of_le (Nat.le_refl _)]
      simp
    have e2 : (C.toList.set o v).drop (o + 1 + r.length) = C.toList.drop (o + (v :: r).length) := by
      rw [List.drop_set_of_lt (by omega), List.length_cons]
      congr 1
      omega
    rw [e1, e2]
    simp
theorem fold_key (X : List Int) (h : Ky X) : List.foldl (fun (cs : Array Value) (x : Value × Nat) => cs.setIfInBounds x.snd x.fst) #[.int .u8 0, .int .u8 0, .int .u8 0, .int .u8 0, .int .u8 0, .int .u8 0, .int .u8 0, .int .u8 0, .int .u8 0, .int .u8 0, .int .u8 0, .int .u8 0, .int .u8 0, .int .u8 0, .int .u8 0, .int .u8 0] (List.map (Value.int .u8) X).zipIdx = (List.map (Value.int .u8) X).toArray := by
  have hl : (List.map (Value.int .u8) X).length = 16 := by rw [List.length_map]; exact h.len
  apply Array.toList_inj.1
  rw [fold_set _ 0 _ (by rw [hl]; decide), hl]
  simp
theorem info_keyl (k : List Int) (h : Ky k) : (Tryz.prog.info? 38).map (·.size) = some (k.map (Value.int .u8)).length := by rw [info_key, List.length_map, h.len]
end Go.Proofs.YtileidbdmpeciaaGreat

namespace Go.Proofs.YtileidbdmpeciaaGreat
open Go.RowKit
set_option linter.unusedVariables false

/-- Keys that lie one behind the other. -/
structure KeysAt (w : World) (a : Option Addr) (l : List (List Int)) : Prop where
  lies : Lies w a (l.flatMap kc)
  kys : Kys l
  nil : a = none → l = []
theorem KeysAt.past {w w' : World} {a : Option Addr} {l : List (List Int)} (h : KeysAt w a l) (hb : Below w.heap.size w w') : KeysAt w' a l := ⟨h.lies.past hb, h.kys, h.nil⟩
theorem KeysAt.same {w w' : World} {a : Option Addr} {l : List (List Int)} (h : KeysAt w a l) (he : w'.heap = w.heap) : KeysAt w' a l :=
  ⟨fun sa hs => ⟨(h.lies sa hs).1, fun j u hj => by rw [same_heap he]; exact (h.lies sa hs).2 j u hj⟩, h.kys, h.nil⟩
/-- The key at place i. -/
theorem KeysAt.key {w : World} {a : Option Addr} {l : List (List Int)} (h : KeysAt w a l) {i : Nat} (hi : i < l.length) : ∃ b o, a = some ⟨b, o, none⟩ ∧ KeyAt w b (o + i * 16) (l.getD i []) ∧ Ky (l.getD i []) := by
  cases a with
  | none => rw [h.nil rfl] at hi; simp at hi
  | some sa =>
    obtain ⟨b, o, sp⟩ := sa
    have hs : sp = none := (h.lies _ rfl).1 (fun e => by
      have h1 := flat_len l h.kys.len
      rw [e] at h1
      simp at h1
      omega)
    subst hs
    have hk := h.kys.get hi
    have hl : Lies w (some ⟨b, o + i * 16, none⟩) (kc (l.getD i [])) := h.lies.el h.kys.len (k := i) (by simp [List.getD, hi])
    refine ⟨b, o, rfl, ⟨fun j hj => ?_⟩, hk⟩
    refine hl.at j _ ?_
    have hjl : j < (l.getD i []).length := by rw [hk.len]; exact hj
    generalize l.getD i [] = x at hjl
    unfold kc
    rw [List.getElem?_map, List.getElem?_eq_getElem hjl]
    simp [List.getD, hjl]
/-- Keys in a list that the call made itself. -/
structure KeysMine (w : World) (B : Nat) (v : Value) (l : List (List Int)) : Prop where
  own : w.ownsRow B 38 16 v l.length (l.flatMap kc)
  kys : Kys l
theorem KeysMine.past {w w' : World} {B : Nat} {v : Value} {l : List (List Int)} (h : KeysMine w B v l) (hb : Below w.heap.size w w') : KeysMine w' B v l := ⟨own_below h.own hb (Nat.le_refl _), h.kys⟩
end Go.Proofs.YtileidbdmpeciaaGreat

namespace Go.Proofs.YtileidbdmpeciaaGreat
open Go.RowKit
open Go.Maps (Keyed)
set_option linter.unusedVariables false

theorem kLaid : laidOutB Tryz.prog = true := by kernel_rfl
theorem kRow : (38 : TypeId) < Tryz.prog.types.size := of_decide_eq_true (by kernel_rfl)
theorem kWide : (match Tryz.prog.underlying 38 with | some (.array _ _) | some (.struct _) => true | _ => false) = true := by rw [Tryz.underlying38]
set_option maxRecDepth 1000000 in
theorem kLaw : Keyed Tryz.prog 38 := Maps.Keyed.of_law (deep_law_laid kLaid (m := 2) (by omega) kRow (by kernel_rfl) kWide)
theorem mapM_all {α β : Type} {f : α → Option β} {g : α → β} : ∀ {l : List α}, (∀ x ∈ l, f x = some (g x)) → l.mapM f = some (l.map g)
  | [], _ => rfl
  | a :: r, h => by
    have hy := h a (by simp)
    have hys := mapM_all (l := r) (fun x hx => h x (by simp [hx]))
    simp [List.mapM_cons, hy, hys]
/-- A key, as a map's key. -/
def kyl (k : List Int) : Lit := .string (keyBytes (k.map (Lit.int .u8)))
theorem kyl_mk {k : List Int} (hk : Ky k) : keyOf Tryz.prog 38 (kv k) = some (kyl k) := by
  have h1 : Tryz.prog.keyType 38 = true := by kernel_rfl
  have h2 : Tryz.prog.cellsOf 38 = 16 := by kernel_rfl
  have h3 : Tryz.prog.cellsOf 5 = 1 := by kernel_rfl
  have hl := hk.len
  have h4 : (kv k).formed Tryz.prog 38 = true := by simp [Value.formed, Tryz.underlying38, h2, hl]
  obtain ⟨d, hd⟩ : ∃ d, Tryz.prog.types.size + 1 = d + 2 := ⟨Tryz.prog.types.size - 1, by have : 1 ≤ Tryz.prog.types.size := of_decide_eq_true (by kernel_rfl); omega⟩
  unfold keyOf
  rw [Tryz.underlying38]
  simp only [h1, h4, Bool.and_self, if_true]
  have hls : Tryz.prog.keyLits (Tryz.prog.types.size + 1) 38 (kv k).cells.toList = some (k.map (Lit.int .u8)) := by
    rw [hd]
    unfold Program.keyLits
    rw [Tryz.underlying38]
    have e : (kv k).cells.toList = k.map (Value.int .u8) := by simp [Value.cells]
    simp only [e, h2, h3, List.length_map, hl, if_true, Nat.mul_one]
    have hys : (List.range 16).mapM (fun i => Tryz.prog.keyLits (d + 1) 5 (((k.map (Value.int .u8)).drop i).take 1)) = some ((List.range 16).map fun i => [Lit.int .u8 (k.getD i 0)]) := mapM_all fun i hi => by
      have hi' : i < k.length := by rw [hl]; exact List.mem_range.1 hi
      have hb := hk.bytes k[i] (List.getElem_mem hi')
      have e2 : ((k.map (Value.int .u8)).drop i).take 1 = [.int .u8 k[i]] := by
        rw [List.drop_eq_getElem_cons (by simpa using hi')]
        simp
      rw [e2]
      unfold Program.keyLits
      rw [Tryz.underlying5]
      have hw : (Lit.int .u8 k[i]).wf = true := by simp [Lit.wf]; exact hb
      have e3 : k.getD i 0 = k[i] := by simp [List.getD, hi']
      rw [e3]
      simp [hw]
    rw [hys]
    have e4 : ((List.range 16).map fun i => [Lit.int .u8 (k.getD i 0)]).flatten = k.map (Lit.int .u8) := by
      have e5 : k = (List.range 16).map fun i => k.getD i 0 := by
        apply List.ext_getElem (by simp [hl])
        intro i h1 h2
        simp [List.getD, h1]
      conv => rhs; rw [e5]
      rw [List.map_map, ← List.flatMap_def, ← List.map_eq_flatMap]
      rfl
    rw [Option.map_some, e4]
  rw [hls]
  rfl
theorem kv_inj {a b : List Int} (h : kv a = kv b) : a = b := by
  injection h with h
  have h : a.map (Value.int .u8) = b.map (Value.int .u8) := by simpa using congrArg Array.toList h
  exact List.map_inj_right (fun x y e => by injection e) |>.1 h
theorem kyl_inj {a b : List Int} (ha : Ky a) (hb : Ky b) (h : kyl a = kyl b) : a = b := kv_inj (kLaw.inj (kyl_mk ha) (h ▸ kyl_mk hb))
theorem kyl_key {k : List Int} (hk : Ky k) : WideAt.IsKeyLit (kyl k) := kLaw.key (kyl_mk hk)
theorem kyl_back {v : Value} {k : List Int} (hk : Ky k) (h : keyOf Tryz.prog 38 v = some (kyl k)) : v = kv k := kLaw.inj h (kyl_mk hk)
/-- Values that say nothing. -/
def anyE (_ : Value) : Option (DataW Unit × List MemPlace) := some (.lit (.bool true), [])
/-- Block m holds a map of c entries, whose keys are l's. -/
def KSet (u : World) (m c : Nat) (l : List (List Int)) : Prop :=
  ∃ D : DataW Unit, u.ownsMap Tryz.prog 38 anyE m c D ∧ Maps.size D = c ∧ Kys l ∧ ∀ x, Maps.has D x = true ↔ ∃ k ∈ l, kyl k = x
theorem KSet.lt {u : World} {m c : Nat} {l : List (List Int)} (h : KSet u m c l) : m < u.heap.size := by obtain ⟨D, h1, _⟩ := h; exact h1.lt
theorem KSet.kept {u u' : World} {m c : Nat} {l : List (List Int)} (h : KSet u m c l) (hb : u'.heap[m]? = u.heap[m]?) : KSet u' m c l := by
  obtain ⟨D, ⟨es, clock, h1, h2⟩, h3⟩ := h
  exact ⟨D, ⟨es, clock, hb.trans h1, h2⟩, h3⟩
theorem KSet.past {u u' : World} {m c : Nat} {l : List (List Int)} (h : KSet u m c l) (hb : Below u.heap.size u u') : KSet u' m c l := h.kept (hb.block m h.lt)
theorem KSet.made (u : World) : KSet (u.alloc (.map #[] 0)) u.heap.size 0 [] :=
  ⟨.map [], World.ownsMap_made _ _ _ _, rfl, fun k hk => by simp at hk, fun x => by simp [Maps.has_eq]⟩
theorem kowns_size {u : World} {m n : Nat} {D : DataW Unit} (h : u.ownsMap Tryz.prog 38 anyE m n D) : u.ownsMap Tryz.prog 38 anyE m (Maps.size D) D := by
  obtain ⟨es, clock, h1, h2, h3, rfl⟩ := h
  exact ⟨es, clock, h1, h2, by simp [Maps.size, length_sorted], rfl⟩
/-- 'm[k] = struct{}{}'. -/
theorem KSet.store {u : World} {m c : Nat} {l : List (List Int)} (h : KSet u m c l) (hc : c ≤ 1000000) {t e : TypeId} (ht : Tryz.prog.underlying t = some (.map 38 e)) (k : List Int) (hk : Ky k) :
    ∃ u' c', (Instr.mapUpdate t (.map (some m)) (kv k) (.agg #[])).run Tryz.prog u = .ok () u' ∧ KSet u' m c' (l ++ [k]) ∧ c' ≤ c + 1 ∧ u.mapTurned u' m := by
  obtain ⟨D, h1, h2, h3, h4⟩ := h
  obtain ⟨u', hrun, h5, h6⟩ := h1.store kLaw ht (by unfold maxLen; omega) (kyl_mk hk) (val := .agg #[]) (d := .lit (.bool true)) (ps := []) rfl
  refine ⟨u', Maps.size (D.put (kyl k) (.lit (.bool true))), hrun, ⟨_, kowns_size h5, rfl, ?_, fun x => ?_⟩, ?_, h6⟩
  · intro y hy
    rcases List.mem_append.1 hy with hy | hy
    · exact h3 y hy
    · simp at hy; subst hy; exact hk
  · by_cases e : x = kyl k
    · subst e
      rw [Maps.has_put_same h1.isMap (kyl_key hk)]
      exact ⟨fun _ => ⟨k, by simp, rfl⟩, fun _ => rfl⟩
    · rw [Maps.has_put_other e, h4]
      constructor
      · rintro ⟨y, hy, he⟩
        exact ⟨y, by simp [hy], he⟩
      · rintro ⟨y, hy, he⟩
        rcases List.mem_append.1 hy with hy | hy
        · exact ⟨y, hy, he⟩
        · simp at hy; subst hy; exact absurd he.symm e
  · rw [Maps.size_put (h1.tidy kLaw), h2]
    split <;> omega
theorem wpList_store_set {w : World} {ops : Array Oper} {rest : List Oper} {o : Oper} {a : Act} {Q : Exit → Act → World → Prop} (hg : o.guard = none) (m x v : Operand) (t : TypeId) (hop : o.op = Op.mapUpdate t m x v)
    (e : TypeId) (ht : Tryz.prog.underlying t = some (.map 38 e)) (b c : Nat) (l : List (List Int)) (hm : a.eval m = .map (some b)) (h : KSet w b c l) (hc : c ≤ 1000000) (k : List Int) (hk : Ky k) (hx : a.eval x = kv k) (hv : a.eval v = .agg #[])
    (hK : ∀ w' c', KSet w' b c' (l ++ [k]) → c' ≤ c + 1 → w.mapTurned w' b → wpList Tryz.prog ops Q rest (a.put o.dst undef) w') : wpList Tryz.prog ops Q (o :: rest) a w := by
  refine wpList_plain hg fun K' hK' => ?_
  obtain ⟨w', c', hrun, r1, r2, r3⟩ := h.store hc ht k hk
  unfold Oper.wp
  simp only [execOp, hop, hm, hx, hv, Sem.run_bind, hrun, Result.andThen]
  exact hK' _ _ (hK w' c' r1 r2 r3)
/-- A key is read whole, inside a fence. -/
theorem wpListIn_load_key {F : Fence} {n : Nat} {ops : Array Oper} {rest : List Oper} {op : Oper} {a : Act} {w : World} {Q : Exit → Act → World → Prop} (hgd : op.guard = none) (x : Operand) (ho : op.op = .load 38 x)
    (b o : Nat) (hx : a.eval x = .pointer (some ⟨b, o, none⟩)) (k : List Int) (hk : Ky k) (hat : KeyAt w b o k)
    (h : wpListIn F n Tryz.prog ops Q rest (a.put op.dst (kv k)) w) : wpListIn F n Tryz.prog ops Q (op :: rest) a w := by
  refine wpListIn_plain hgd fun K hK => ?_
  unfold Oper.wpIn
  refine ⟨by simp [Oper.about, ho], ?_⟩
  rw [Oper.semAt_plain F _ _ (by rw [ho]; intro c hc'; cases hc')]
  unfold execOp
  simp only [ho, hx, Instr.loadAt, Instr.sureAddr, Sem.run_bind, Sem.run_pure, Result.andThen_ok, run_loadVar_mid w b o 38 (k.map (Value.int .u8)) _ (hat.range hk) Tryz.underlying38 rfl (by rw [info_key, List.length_map, hk.len])]
  exact hK _ _ h
/-- A key is stored whole, inside a fence. -/
theorem wpListIn_store_key {F : Fence} {n : Nat} {ops : Array Oper} {rest : List Oper} {op : Oper} {a : Act} {w : World} {Q : Exit → Act → World → Prop} (hgd : op.guard = none) (x y : Operand) (ho : op.op = .store 38 x y)
    (b o : Nat) (k k' : List Int) (hx : a.eval x = .pointer (some ⟨b, o, none⟩)) (hy : a.eval y = kv k') (hk : Ky k') (hat : KeyMine w b o k)
    (h : ∀ u, u = w.setCells b o (k'.map (Value.int .u8)) → wpListIn F n Tryz.prog ops Q rest (a.put op.dst undef) u) : wpListIn F n Tryz.prog ops Q (op :: rest) a w := by
  have hl : (kcs k').size = 16 := by simp [kcs, hk.len]
  refine wpListIn_plain hgd fun K hK => ?_
  unfold Oper.wpIn
  refine ⟨by simp [Oper.about, ho], ?_⟩
  rw [Oper.semAt_plain F _ _ (by rw [ho]; intro c hc'; cases hc')]
  unfold execOp
  simp only [ho, hx, hy, Instr.storeAt, Instr.sureAddr, Sem.run_bind, Sem.run_pure, Result.andThen_ok, run_storeVar_mid w b o 38 (kcs k') (by rw [hl]; exact hat.there) (by rw [info_key, hl]) (kcs_one k')]
  exact hK _ _ (h _ rfl)
/-- A new block that a key is laid into. -/
theorem laid_key (w : World) (T : TypeId) {k : List Int} (hk : Ky k) : KeyMine ((w.alloc (.cells (kcs zeroK) T)).setCells w.heap.size 0 (k.map (Value.int .u8))) w.heap.size 0 k ∧ Below w.heap.size w ((w.alloc (.cells (kcs zeroK) T)).setCells w.heap.size 0 (k.map (Value.int .u8))) ∧ ((w.alloc (.cells (kcs zeroK) T)).setCells w.heap.size 0 (k.map (Value.int .u8))).heap.size = w.heap.size + 1 :=
  ⟨(KeyMine.made w T zeroK zeroK_ky).store hk, below_cells (Nat.le_refl _) ((Below.refl _ _).alloc (Nat.le_refl _) _), by rw [size_cells]; simp⟩
theorem grown_none {w u : World} (h : Below w.heap.size w u) : w.grownBy u none := ⟨h.os, h.tape, h.output, h.size, fun k hk _ => h.block k hk⟩
theorem len_le_of_sub {α : Type} : ∀ {l m : List α}, l.Nodup → (∀ x ∈ l, x ∈ m) → l.length ≤ m.length
  | [], m, _, _ => Nat.zero_le _
  | a :: r, m, h, hs => by
    obtain ⟨h1, h2⟩ := List.nodup_cons.1 h
    obtain ⟨s, t, rfl⟩ := List.append_of_mem (hs a (by simp))
    have := len_le_of_sub (l := r) (m := s ++ t) h2 (fun x hx => by
      have hxm := hs x (by simp [hx])
      rcases List.mem_append.1 hxm with e | e
      · exact List.mem_append_left _ e
      · rcases List.mem_cons.1 e with e | e
        · exact absurd (e ▸ hx) h1
        · exact List.mem_append_right _ e)
    simp only [List.length_append, List.length_cons] at this ⊢
    omega
theorem len_eq_of_same {α : Type} {l m : List α} (hl : l.Nodup) (hm : m.Nodup) (h : ∀ x, x ∈ l ↔ x ∈ m) : l.length = m.length :=
  Nat.le_antisymm (len_le_of_sub hl (fun x hx => (h x).1 hx)) (len_le_of_sub hm (fun x hx => (h x).2 hx))
end Go.Proofs.YtileidbdmpeciaaGreat

