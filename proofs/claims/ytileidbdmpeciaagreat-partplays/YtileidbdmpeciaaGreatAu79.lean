/-
  Keys' cells; cells laid one by one.
  Lists of keys: lists that lie somewhere, lists that the call made itself.
  A map whose keys are keys and whose values say nothing: what a store into it gives; keys read and stored whole inside a fence.
  Maps from keys to pointers at whole blocks: what a look-up, a store, a delete and a range over one of them give, how many entries there are.
-/
import Derived.Test.YtileidbdmpeciaaGreatAu92
import Derived.Maps.RangeWalk
import Derived.Maps.OwnOps
import Derived.DeepKeys4
import Derived.RangeFuncNested
import Derived.Sort.MapsRangeIn
import Derived.Maps.AppendAt
import Derived.RangeFuncBox
import Derived.Test.YtileidbdmpeciaaGreatAu103
namespace Go.Proofs.YtileidbdmpeciaaGreat
open Go.RowKit
set_option linter.unusedVariables false

/-- A key's cells, as a list. -/
def kc (k : List Int) : List Value := k.map (Value.int .u8)
def Kys (l : List (List Int)) : Prop := ∀ k ∈ l, Ky k
theorem kc_len {k : List Int} (h : Ky k) : (kc k).length = 16 := by unfold kc; rw [List.length_map]; exact h.len
theorem Kys.len {l : List (List Int)} (h : Kys l) : ∀ k ∈ l, (kc k).length = 16 := fun k hk => kc_len (h k hk)
theorem Kys.one {l : List (List Int)} : ∀ u ∈ l.flatMap kc, u.oneCell' = true := flat_one fun k _ => ints_oneCell _ _
theorem Kys.get {l : List (List Int)} (h : Kys l) {i : Nat} (hi : i < l.length) : Ky (l.getD i []) := by
  have e : l.getD i [] = l[i] := by simp [List.getD, hi]
  rw [e]; exact h _ (List.getElem_mem hi)
theorem Kys.take {l : List (List Int)} (h : Kys l) (n : Nat) : Kys (l.take n) := fun k hk => h k (List.mem_of_mem_take hk)
/-- Cells laid one by one. -/
theorem fold_set : ∀ (vs : List Value) (o : Nat) (C : Array Value), o + vs.length ≤ C.size → (List.foldl (fun (cs : Array Value) (x : Value × Nat) => cs.setIfInBounds x.snd x.fst) C (vs.zipIdx o)).toList = C.toList.take o ++ vs ++ C.toList.drop (o + vs.length)
  | [], o, C, h => by simp
  | v :: r, o, C, h => by
    rw [List.zipIdx_cons, List.foldl_cons, fold_set r (o + 1) (C.setIfInBounds o v) (by simp at h ⊢; omega)]
    simp only [Array.toList_setIfInBounds]
    have ho : o < C.toList.length := by simp at h ⊢; omega
    have e1 : (C.toList.set o v).take (o + 1) = C.toList.take o ++ [v] := by
      rw [List.take_succ_eq_append_getElem (by simpa using ho), List.take_set_of_le (Nat.le_refl _)]
      simp
    have e2 : (C.toList.set o v).drop (o + 1 + r.length) = C.toList.drop (o + (v :: r).length) := by
      rw [List.drop_set_of_lt (by omega), List.length_cons]
      congr 1
      omega
    rw [e1, e2]
    simp
theorem fold_key (X : List Int) (h : Ky X) : List.foldl (fun (cs : Array Value) (x : Value × Nat) => cs.setIfInBounds x.snd x.fst) #[.int .u8 0, .int .u8 0, .int .u8 0, .int .u8 0, .int .u8 0, .int .u8 0, .int .u8 0, .int .u8 0, .int .u8 0, .int .u8 0, .int .u8 0, .int .u8 0, .int .u8 0, .int .u8 0, .int .u8 0, .int .u8 0] (List.map (Value.int .u8) X).zipIdx = (List.map (Value.int .u8) X).toArray := by
  have hl : (List.map (Value.int .u8) X).length = 16 := by rw [List.length_map]; exact h.len
  apply Array.toList_inj.1
  rw [fold_set _ 0 _ (by rw [hl]; decide), hl]
  simp
theorem info_keyl (k : List Int) (h : Ky k) : (Tryz.prog.info? 38).map (·.size) = some (k.map (Value.int .u8)).length := by rw [info_key, List.length_map, h.len]
end Go.Proofs.YtileidbdmpeciaaGreat

namespace Go.Proofs.YtileidbdmpeciaaGreat
open Go.RowKit
set_option linter.unusedVariables false

theorem keyEl : ElT 113 38 16 16 := ElT.mk' (z := kv zeroK) Tryz.underlying113 (by kernel_rfl) (by kernel_rfl) (by decide) (by decide)
/-- Keys that lie one behind the other. -/
structure KeysAt (w : World) (a : Option Addr) (l : List (List Int)) : Prop where
  lies : Lies w a (l.flatMap kc)
  kys : Kys l
  nil : a = none → l = []
theorem KeysAt.past {w w' : World} {a : Option Addr} {l : List (List Int)} (h : KeysAt w a l) (hb : Below w.heap.size w w') : KeysAt w' a l := ⟨h.lies.past hb, h.kys, h.nil⟩
theorem KeysAt.same {w w' : World} {a : Option Addr} {l : List (List Int)} (h : KeysAt w a l) (he : w'.heap = w.heap) : KeysAt w' a l :=
  ⟨fun sa hs => ⟨(h.lies sa hs).1, fun j u hj => by rw [same_heap he]; exact (h.lies sa hs).2 j u hj⟩, h.kys, h.nil⟩
/-- The key at place i. -/
theorem KeysAt.key {w : World} {a : Option Addr} {l : List (List Int)} (h : KeysAt w a l) {i : Nat} (hi : i < l.length) : ∃ b o, a = some ⟨b, o, none⟩ ∧ KeyAt w b (o + i * 16) (l.getD i []) ∧ Ky (l.getD i []) := by
  cases a with
  | none => rw [h.nil rfl] at hi; simp at hi
  | some sa =>
    obtain ⟨b, o, sp⟩ := sa
    have hs : sp = none := (h.lies _ rfl).1 (fun e => by
      have h1 := flat_len l h.kys.len
      rw [e] at h1
      simp at h1
      omega)
    subst hs
    have hk := h.kys.get hi
    have hl : Lies w (some ⟨b, o + i * 16, none⟩) (kc (l.getD i [])) := h.lies.el h.kys.len (k := i) (by simp [List.getD, hi])
    refine ⟨b, o, rfl, ⟨fun j hj => ?_⟩, hk⟩
    refine hl.at j _ ?_
    have hjl : j < (l.getD i []).length := by rw [hk.len]; exact hj
    generalize l.getD i [] = x at hjl
    unfold kc
    rw [List.getElem?_map, List.getElem?_eq_getElem hjl]
    simp [List.getD, hjl]
/-- Keys in a list that the call made itself. -/
structure KeysMine (w : World) (B : Nat) (v : Value) (l : List (List Int)) : Prop where
  own : w.ownsRow B 38 16 v l.length (l.flatMap kc)
  kys : Kys l
theorem KeysMine.past {w w' : World} {B : Nat} {v : Value} {l : List (List Int)} (h : KeysMine w B v l) (hb : Below w.heap.size w w') : KeysMine w' B v l := ⟨own_below h.own hb (Nat.le_refl _), h.kys⟩
theorem KeysMine.shape {w : World} {B : Nat} {v : Value} {l : List (List Int)} (h : KeysMine w B v l) (hl : 0 < l.length) : ∃ g cap, v = .slice (some ⟨g, 0, none⟩) l.length cap ∧ l.length ≤ cap ∧ B ≤ g ∧ g < w.heap.size ∧ KeysAt w (some ⟨g, 0, none⟩) l := by
  rcases h.own.2 with ⟨_, h0⟩ | ⟨g, cap, cur, hv, hg, hh, hc, _⟩
  · omega
  · have ho := h.own
    rw [hv] at ho
    exact ⟨g, cap, hv, hc, hg, (Array.getElem?_eq_some_iff.1 hh).1, own_lies ho, h.kys, fun h => by cases h⟩
end Go.Proofs.YtileidbdmpeciaaGreat

namespace Go.Proofs.YtileidbdmpeciaaGreat
open Go.RowKit
open Go.Maps (Keyed)
set_option linter.unusedVariables false

theorem kLaid : laidOutB Tryz.prog = true := by kernel_rfl
theorem kRow : (38 : TypeId) < Tryz.prog.types.size := of_decide_eq_true (by kernel_rfl)
theorem kWide : (match Tryz.prog.underlying 38 with | some (.array _ _) | some (.struct _) => true | _ => false) = true := by rw [Tryz.underlying38]
set_option maxRecDepth 1000000 in
theorem kLaw : Keyed Tryz.prog 38 := Maps.Keyed.of_law (deep_law_laid kLaid (m := 2) (by omega) kRow (by kernel_rfl) kWide)
theorem mapM_all {α β : Type} {f : α → Option β} {g : α → β} : ∀ {l : List α}, (∀ x ∈ l, f x = some (g x)) → l.mapM f = some (l.map g)
  | [], _ => rfl
  | a :: r, h => by
    have hy := h a (by simp)
    have hys := mapM_all (l := r) (fun x hx => h x (by simp [hx]))
    simp [List.mapM_cons, hy, hys]
/-- A key, as a map's key. -/
def kyl (k : List Int) : Lit := .string (keyBytes (k.map (Lit.int .u8)))
theorem kyl_mk {k : List Int} (hk : Ky k) : keyOf Tryz.prog 38 (kv k) = some (kyl k) := by
  have h1 : Tryz.prog.keyType 38 = true := by kernel_rfl
  have h2 : Tryz.prog.cellsOf 38 = 16 := by kernel_rfl
  have h3 : Tryz.prog.cellsOf 5 = 1 := by kernel_rfl
  have hl := hk.len
  have h4 : (kv k).formed Tryz.prog 38 = true := by simp [Value.formed, Tryz.underlying38, h2, hl]
  obtain ⟨d, hd⟩ : ∃ d, Tryz.prog.types.size + 1 = d + 2 := ⟨Tryz.prog.types.size - 1, by have : 1 ≤ Tryz.prog.types.size := of_decide_eq_true (by kernel_rfl); omega⟩
  unfold keyOf
  rw [Tryz.underlying38]
  simp only [h1, h4, Bool.and_self, if_true]
  have hls : Tryz.prog.keyLits (Tryz.prog.types.size + 1) 38 (kv k).cells.toList = some (k.map (Lit.int .u8)) := by
    rw [hd]
    unfold Program.keyLits
    rw [Tryz.underlying38]
    have e : (kv k).cells.toList = k.map (Value.int .u8) := by simp [Value.cells]
    simp only [e, h2, h3, List.length_map, hl, if_true, Nat.mul_one]
    have hys : (List.range 16).mapM (fun i => Tryz.prog.keyLits (d + 1) 5 (((k.map (Value.int .u8)).drop i).take 1)) = some ((List.range 16).map fun i => [Lit.int .u8 (k.getD i 0)]) := mapM_all fun i hi => by
      have hi' : i < k.length := by rw [hl]; exact List.mem_range.1 hi
      have hb := hk.bytes k[i] (List.getElem_mem hi')
      have e2 : ((k.map (Value.int .u8)).drop i).take 1 = [.int .u8 k[i]] := by
        rw [List.drop_eq_getElem_cons (by simpa using hi')]
        simp
      rw [e2]
      unfold Program.keyLits
      rw [Tryz.underlying5]
      have hw : (Lit.int .u8 k[i]).wf = true := by simp [Lit.wf]; exact hb
      have e3 : k.getD i 0 = k[i] := by simp [List.getD, hi']
      rw [e3]
      simp [hw]
    rw [hys]
    have e4 : ((List.range 16).map fun i => [Lit.int .u8 (k.getD i 0)]).flatten = k.map (Lit.int .u8) := by
      have e5 : k = (List.range 16).map fun i => k.getD i 0 := by
        apply List.ext_getElem (by simp [hl])
        intro i h1 h2
        simp [List.getD, h1]
      conv => rhs; rw [e5]
      rw [List.map_map, ← List.flatMap_def, ← List.map_eq_flatMap]
      rfl
    rw [Option.map_some, e4]
  rw [hls]
  rfl
theorem kv_inj {a b : List Int} (h : kv a = kv b) : a = b := by
  injection h with h
  have h : a.map (Value.int .u8) = b.map (Value.int .u8) := by simpa using congrArg Array.toList h
  exact List.map_inj_right (fun x y e => by injection e) |>.1 h
theorem kyl_inj {a b : List Int} (ha : Ky a) (hb : Ky b) (h : kyl a = kyl b) : a = b := kv_inj (kLaw.inj (kyl_mk ha) (h ▸ kyl_mk hb))
theorem kyl_key {k : List Int} (hk : Ky k) : WideAt.IsKeyLit (kyl k) := kLaw.key (kyl_mk hk)
theorem kyl_back {v : Value} {k : List Int} (hk : Ky k) (h : keyOf Tryz.prog 38 v = some (kyl k)) : v = kv k := kLaw.inj h (kyl_mk hk)
/-- Values that say nothing. -/
def anyE (_ : Value) : Option (DataW Unit × List MemPlace) := some (.lit (.bool true), [])
/-- Block m holds a map of c entries, whose keys are l's. -/
def KSet (u : World) (m c : Nat) (l : List (List Int)) : Prop :=
  ∃ D : DataW Unit, u.ownsMap Tryz.prog 38 anyE m c D ∧ Maps.size D = c ∧ Kys l ∧ ∀ x, Maps.has D x = true ↔ ∃ k ∈ l, kyl k = x
theorem KSet.lt {u : World} {m c : Nat} {l : List (List Int)} (h : KSet u m c l) : m < u.heap.size := by obtain ⟨D, h1, _⟩ := h; exact h1.lt
theorem KSet.kept {u u' : World} {m c : Nat} {l : List (List Int)} (h : KSet u m c l) (hb : u'.heap[m]? = u.heap[m]?) : KSet u' m c l := by
  obtain ⟨D, ⟨es, clock, h1, h2⟩, h3⟩ := h
  exact ⟨D, ⟨es, clock, hb.trans h1, h2⟩, h3⟩
theorem KSet.past {u u' : World} {m c : Nat} {l : List (List Int)} (h : KSet u m c l) (hb : Below u.heap.size u u') : KSet u' m c l := h.kept (hb.block m h.lt)
theorem KSet.made (u : World) : KSet (u.alloc (.map #[] 0)) u.heap.size 0 [] :=
  ⟨.map [], World.ownsMap_made _ _ _ _, rfl, fun k hk => by simp at hk, fun x => by simp [Maps.has_eq]⟩
theorem kowns_size {u : World} {m n : Nat} {D : DataW Unit} (h : u.ownsMap Tryz.prog 38 anyE m n D) : u.ownsMap Tryz.prog 38 anyE m (Maps.size D) D := by
  obtain ⟨es, clock, h1, h2, h3, rfl⟩ := h
  exact ⟨es, clock, h1, h2, by simp [Maps.size, length_sorted], rfl⟩
/-- 'm[k] = struct{}{}'. -/
theorem KSet.store {u : World} {m c : Nat} {l : List (List Int)} (h : KSet u m c l) (hc : c ≤ 1000000) {t e : TypeId} (ht : Tryz.prog.underlying t = some (.map 38 e)) (k : List Int) (hk : Ky k) :
    ∃ u' c', (Instr.mapUpdate t (.map (some m)) (kv k) (.agg #[])).run Tryz.prog u = .ok () u' ∧ KSet u' m c' (l ++ [k]) ∧ c' ≤ c + 1 ∧ u.mapTurned u' m := by
  obtain ⟨D, h1, h2, h3, h4⟩ := h
  obtain ⟨u', hrun, h5, h6⟩ := h1.store kLaw ht (by unfold maxLen; omega) (kyl_mk hk) (val := .agg #[]) (d := .lit (.bool true)) (ps := []) rfl
  refine ⟨u', Maps.size (D.put (kyl k) (.lit (.bool true))), hrun, ⟨_, kowns_size h5, rfl, ?_, fun x => ?_⟩, ?_, h6⟩
  · intro y hy
    rcases List.mem_append.1 hy with hy | hy
    · exact h3 y hy
    · simp at hy; subst hy; exact hk
  · by_cases e : x = kyl k
    · subst e
      rw [Maps.has_put_same h1.isMap (kyl_key hk)]
      exact ⟨fun _ => ⟨k, by simp, rfl⟩, fun _ => rfl⟩
    · rw [Maps.has_put_other e, h4]
      constructor
      · rintro ⟨y, hy, he⟩
        exact ⟨y, by simp [hy], he⟩
      · rintro ⟨y, hy, he⟩
        rcases List.mem_append.1 hy with hy | hy
        · exact ⟨y, hy, he⟩
        · simp at hy; subst hy; exact absurd he.symm e
  · rw [Maps.size_put (h1.tidy kLaw), h2]
    split <;> omega
theorem wpList_store_set {w : World} {ops : Array Oper} {rest : List Oper} {o : Oper} {a : Act} {Q : Exit → Act → World → Prop} (hg : o.guard = none) (m x v : Operand) (t : TypeId) (hop : o.op = Op.mapUpdate t m x v)
    (e : TypeId) (ht : Tryz.prog.underlying t = some (.map 38 e)) (b c : Nat) (l : List (List Int)) (hm : a.eval m = .map (some b)) (h : KSet w b c l) (hc : c ≤ 1000000) (k : List Int) (hk : Ky k) (hx : a.eval x = kv k) (hv : a.eval v = .agg #[])
    (hK : ∀ w' c', KSet w' b c' (l ++ [k]) → c' ≤ c + 1 → w.mapTurned w' b → wpList Tryz.prog ops Q rest (a.put o.dst undef) w') : wpList Tryz.prog ops Q (o :: rest) a w := by
  refine wpList_plain hg fun K' hK' => ?_
  obtain ⟨w', c', hrun, r1, r2, r3⟩ := h.store hc ht k hk
  unfold Oper.wp
  simp only [execOp, hop, hm, hx, hv, Sem.run_bind, hrun, Result.andThen]
  exact hK' _ _ (hK w' c' r1 r2 r3)
/-- A key is read whole, inside a fence. -/
theorem wpListIn_load_key {F : Fence} {n : Nat} {ops : Array Oper} {rest : List Oper} {op : Oper} {a : Act} {w : World} {Q : Exit → Act → World → Prop} (hgd : op.guard = none) (x : Operand) (ho : op.op = .load 38 x)
    (b o : Nat) (hx : a.eval x = .pointer (some ⟨b, o, none⟩)) (k : List Int) (hk : Ky k) (hat : KeyAt w b o k)
    (h : wpListIn F n Tryz.prog ops Q rest (a.put op.dst (kv k)) w) : wpListIn F n Tryz.prog ops Q (op :: rest) a w := by
  refine wpListIn_plain hgd fun K hK => ?_
  unfold Oper.wpIn
  refine ⟨by simp [Oper.about, ho], ?_⟩
  rw [Oper.semAt_plain F _ _ (by rw [ho]; intro c hc'; cases hc')]
  unfold execOp
  simp only [ho, hx, Instr.loadAt, Instr.sureAddr, Sem.run_bind, Sem.run_pure, Result.andThen_ok, run_loadVar_mid w b o 38 (k.map (Value.int .u8)) _ (hat.range hk) Tryz.underlying38 rfl (by rw [info_key, List.length_map, hk.len])]
  exact hK _ _ h
/-- A key is stored whole, inside a fence. -/
theorem wpListIn_store_key {F : Fence} {n : Nat} {ops : Array Oper} {rest : List Oper} {op : Oper} {a : Act} {w : World} {Q : Exit → Act → World → Prop} (hgd : op.guard = none) (x y : Operand) (ho : op.op = .store 38 x y)
    (b o : Nat) (k k' : List Int) (hx : a.eval x = .pointer (some ⟨b, o, none⟩)) (hy : a.eval y = kv k') (hk : Ky k') (hat : KeyMine w b o k)
    (h : ∀ u, u = w.setCells b o (k'.map (Value.int .u8)) → wpListIn F n Tryz.prog ops Q rest (a.put op.dst undef) u) : wpListIn F n Tryz.prog ops Q (op :: rest) a w := by
  have hl : (kcs k').size = 16 := by simp [kcs, hk.len]
  refine wpListIn_plain hgd fun K hK => ?_
  unfold Oper.wpIn
  refine ⟨by simp [Oper.about, ho], ?_⟩
  rw [Oper.semAt_plain F _ _ (by rw [ho]; intro c hc'; cases hc')]
  unfold execOp
  simp only [ho, hx, hy, Instr.storeAt, Instr.sureAddr, Sem.run_bind, Sem.run_pure, Result.andThen_ok, run_storeVar_mid w b o 38 (kcs k') (by rw [hl]; exact hat.there) (by rw [info_key, hl]) (kcs_one k')]
  exact hK _ _ (h _ rfl)
/-- A new block that a key is laid into. -/
theorem laid_key (w : World) (T : TypeId) {k : List Int} (hk : Ky k) : KeyMine ((w.alloc (.cells (kcs zeroK) T)).setCells w.heap.size 0 (k.map (Value.int .u8))) w.heap.size 0 k ∧ Below w.heap.size w ((w.alloc (.cells (kcs zeroK) T)).setCells w.heap.size 0 (k.map (Value.int .u8))) ∧ ((w.alloc (.cells (kcs zeroK) T)).setCells w.heap.size 0 (k.map (Value.int .u8))).heap.size = w.heap.size + 1 :=
  ⟨(KeyMine.made w T zeroK zeroK_ky).store hk, below_cells (Nat.le_refl _) ((Below.refl _ _).alloc (Nat.le_refl _) _), by rw [size_cells]; simp⟩
theorem grown_none {w u : World} (h : Below w.heap.size w u) : w.grownBy u none := ⟨h.os, h.tape, h.output, h.size, fun k hk _ => h.block k hk⟩
theorem len_le_of_sub {α : Type} : ∀ {l m : List α}, l.Nodup → (∀ x ∈ l, x ∈ m) → l.length ≤ m.length
  | [], m, _, _ => Nat.zero_le _
  | a :: r, m, h, hs => by
    obtain ⟨h1, h2⟩ := List.nodup_cons.1 h
    obtain ⟨s, t, rfl⟩ := List.append_of_mem (hs a (by simp))
    have := len_le_of_sub (l := r) (m := s ++ t) h2 (fun x hx => by
      have hxm := hs x (by simp [hx])
      rcases List.mem_append.1 hxm with e | e
      · exact List.mem_append_left _ e
      · rcases List.mem_cons.1 e with e | e
        · exact absurd (e ▸ hx) h1
        · exact List.mem_append_right _ e)
    simp only [List.length_append, List.length_cons] at this ⊢
    omega
theorem len_eq_of_same {α : Type} {l m : List α} (hl : l.Nodup) (hm : m.Nodup) (h : ∀ x, x ∈ l ↔ x ∈ m) : l.length = m.length :=
  Nat.le_antisymm (len_le_of_sub hl (fun x hx => (h x).1 hx)) (len_le_of_sub hm (fun x hx => (h x).2 hx))
end Go.Proofs.YtileidbdmpeciaaGreat

namespace Go.Proofs.YtileidbdmpeciaaGreat
open Go.RowKit
open Go.Maps (Keyed)
set_option linter.unusedVariables false

/-- Block m holds a map: at key k a pointer at the block G k. -/
def KMap (u : World) (m : Nat) (G : List Int → Option Nat) : Prop :=
  ∃ D : DataW Unit, u.ownsMap Tryz.prog 38 ptrE m (Maps.size D) D ∧ (∀ k, Ky k → ∀ z, D.atKey (kyl k) z = ptrD z (G k)) ∧ ∀ x, Maps.has D x = true → ∃ k, Ky k ∧ kyl k = x
/-- The keys of such a map, each once. -/
structure KeyL (G : List Int → Option Nat) (l : List (List Int)) : Prop where
  kys : Kys l
  nodup : l.Nodup
  iff : ∀ k, Ky k → ((G k).isSome = true ↔ k ∈ l)
theorem khas_at {D : DataW Unit} {x : Lit} {o : Option Nat} (h : ∀ z, D.atKey x z = ptrD z o) : Maps.has D x = o.isSome := by
  cases o with
  | none => exact Maps.has_false_of_atKey h
  | some g => exact Maps.has_true_of_atKey h
theorem KMap.lt {u : World} {m : Nat} {G : List Int → Option Nat} (h : KMap u m G) : m < u.heap.size := by obtain ⟨D, h1, _⟩ := h; exact h1.lt
theorem KMap.kept {u u' : World} {m : Nat} {G : List Int → Option Nat} (h : KMap u m G) (hb : u'.heap[m]? = u.heap[m]?) : KMap u' m G := by
  obtain ⟨D, ⟨es, clock, h1, h2⟩, h3⟩ := h
  exact ⟨D, ⟨es, clock, hb.trans h1, h2⟩, h3⟩
theorem KMap.made (u : World) : KMap (u.alloc (.map #[] 0)) u.heap.size (fun _ => none) :=
  ⟨.map [], World.ownsMap_made _ _ _ _, fun _ _ _ => rfl, fun x hx => by simp [Maps.has_eq] at hx⟩
theorem kmap_size {u : World} {m n : Nat} {D : DataW Unit} (h : u.ownsMap Tryz.prog 38 ptrE m n D) : u.ownsMap Tryz.prog 38 ptrE m (Maps.size D) D := by
  obtain ⟨es, clock, h1, h2, h3, rfl⟩ := h
  exact ⟨es, clock, h1, h2, by simp [Maps.size, length_sorted], rfl⟩
theorem kmap_count {u : World} {m n : Nat} {D : DataW Unit} {G : List Int → Option Nat} {l : List (List Int)} (h : u.ownsMap Tryz.prog 38 ptrE m n D) (h2 : ∀ k, Ky k → ∀ z, D.atKey (kyl k) z = ptrD z (G k)) (h3 : ∀ x, Maps.has D x = true → ∃ k, Ky k ∧ kyl k = x) (hl : KeyL G l) : Maps.size D = l.length := by
  obtain ⟨es, rfl, he, hk⟩ := h.entries kLaw
  rw [Maps.size_eq]
  have hn1 : (es.map (·.1)).Nodup := by
    unfold List.Nodup
    rw [List.pairwise_map]
    exact he
  have hn2 : (l.map kyl).Nodup := by
    unfold List.Nodup
    rw [List.pairwise_map]
    refine List.Pairwise.imp_of_mem ?_ hl.nodup
    intro a b ha hb hab e
    exact hab (kyl_inj (hl.kys a ha) (hl.kys b hb) e)
  have hh : ∀ x, Maps.has (.map es : DataW Unit) x = true ↔ x ∈ es.map (·.1) := fun x => by
    rw [Maps.has_eq, List.any_eq_true]
    constructor
    · rintro ⟨p, hp, e⟩
      rw [← WideAt.sameKey_eq e]
      exact List.mem_map.2 ⟨p, hp, rfl⟩
    · intro hx
      obtain ⟨p, hp, rfl⟩ := List.mem_map.1 hx
      exact ⟨p, hp, WideAt.sameKey_self (hk p hp)⟩
  have := len_eq_of_same hn1 hn2 (fun x => by
    rw [← hh]
    constructor
    · intro hx
      obtain ⟨k, hky, rfl⟩ := h3 x hx
      rw [khas_at (h2 k hky), hl.iff k hky] at hx
      exact List.mem_map.2 ⟨k, hx, rfl⟩
    · intro hx
      obtain ⟨k, hkl, rfl⟩ := List.mem_map.1 hx
      rw [khas_at (h2 k (hl.kys k hkl)), hl.iff k (hl.kys k hkl)]
      exact hkl)
  simpa using this
/-- 'v, ok := m[k]'. -/
theorem KMap.look {u : World} {m : Nat} {G : List Int → Option Nat} (h : KMap u m G) {t e : TypeId} (ht : Tryz.prog.underlying t = some (.map 38 e)) (hz : (zeroValue e).run Tryz.prog u = .ok (.pointer none) u) (k : List Int) (hk : Ky k) :
    (Instr.lookup t (.map (some m)) (kv k) true).run Tryz.prog u = .ok (.tuple #[ptrV (G k), .bool (G k).isSome]) u := by
  obtain ⟨D, h1, h2, h3⟩ := h
  obtain ⟨v, ps, hrun, hv⟩ := h1.look_ok kLaw ht hz (zd := .nil) (zp := []) rfl (kyl_mk hk)
  obtain ⟨o, rfl, hq⟩ := ptrE_inv hv
  have hz2 := congrArg Prod.fst hq
  have e1 := ptrD_inj ((h2 k hk .nil).symm.trans hz2)
  subst e1
  rw [khas_at (h2 k hk)] at hrun
  exact hrun
/-- 'len(m)'. -/
theorem KMap.len {u : World} {m : Nat} {G : List Int → Option Nat} {l : List (List Int)} (h : KMap u m G) (hl : KeyL G l) {t e : TypeId} (ht : Tryz.prog.underlying t = some (.map 38 e)) (ty : TypeId) :
    (Builtin.len_ #[t] ty #[.map (some m)]).run Tryz.prog u = .ok (.int .i64 (l.length : Nat)) u := by
  obtain ⟨D, h1, h2, h3⟩ := h
  rw [← kmap_count h1 h2 h3 hl]
  exact h1.len ht ty
/-- What a store lays at a key. -/
def putK (G : List Int → Option Nat) (k : List Int) (o : Option Nat) : List Int → Option Nat := fun x => if x = k then o else G x
theorem putK_same (G : List Int → Option Nat) (k : List Int) (o : Option Nat) : putK G k o k = o := if_pos rfl
theorem putK_other {G : List Int → Option Nat} {k x : List Int} {o : Option Nat} (h : x ≠ k) : putK G k o x = G x := if_neg h
/-- 'm[k] = v'. -/
theorem KMap.store {u : World} {m : Nat} {G : List Int → Option Nat} {l : List (List Int)} (h : KMap u m G) (hl : KeyL G l) (hc : l.length ≤ 1000000) {t e : TypeId} (ht : Tryz.prog.underlying t = some (.map 38 e)) (k : List Int) (hk : Ky k) (g : Nat) :
    ∃ u', (Instr.mapUpdate t (.map (some m)) (kv k) (.pointer (some ⟨g, 0, none⟩))).run Tryz.prog u = .ok () u' ∧ KMap u' m (putK G k (some g)) ∧ u.mapTurned u' m := by
  obtain ⟨D, h1, h2, h3⟩ := h
  have hs := kmap_count h1 h2 h3 hl
  obtain ⟨u', hrun, h4, h5⟩ := h1.store kLaw ht (by unfold maxLen; omega) (kyl_mk hk) (val := .pointer (some ⟨g, 0, none⟩)) (d := .lit (.int .i64 (g : Int))) (ps := []) rfl
  refine ⟨u', hrun, ⟨_, kmap_size h4, fun x hx z => ?_, fun x hx => ?_⟩, h5⟩
  · by_cases e : x = k
    · subst e; rw [Maps.atKey_put_same h1.isMap (kyl_key hk), putK_same]; rfl
    · rw [Maps.atKey_put_other (fun e' => e (kyl_inj hx hk e')), putK_other e]; exact h2 x hx z
  · by_cases e : x = kyl k
    · exact ⟨k, hk, e.symm⟩
    · rw [Maps.has_put_other e] at hx
      exact h3 x hx
/-- A range over such a map under way: r the iterator's block, left k: is the entry at k still to come? -/
def KRange (u : World) (m r : Nat) (G : List Int → Option Nat) (left : List Int → Bool) (cnt : Nat) : Prop :=
  ∃ (D : DataW Unit) (L : Lit → Bool) (n : Nat), u.ranges Tryz.prog 38 ptrE m r n D L cnt ∧ (∀ k, Ky k → ∀ z, D.atKey (kyl k) z = ptrD z (G k)) ∧ (∀ x, Maps.has D x = true → ∃ k, Ky k ∧ kyl k = x) ∧ ∀ k, Ky k → left k = L (kyl k)
theorem KRange.map {u : World} {m r cnt : Nat} {G : List Int → Option Nat} {left : List Int → Bool} (h : KRange u m r G left cnt) : KMap u m G := by
  obtain ⟨D, L, n, h1, h2, h3, _⟩ := h
  exact ⟨D, kmap_size h1.owns, h2, h3⟩
theorem KRange.lt {u : World} {m r cnt : Nat} {G : List Int → Option Nat} {left : List Int → Bool} (h : KRange u m r G left cnt) : r < u.heap.size := by obtain ⟨D, L, n, h1, _⟩ := h; exact h1.lt
theorem KRange.ne {u : World} {m r cnt : Nat} {G : List Int → Option Nat} {left : List Int → Bool} (h : KRange u m r G left cnt) : r ≠ m := by obtain ⟨D, L, n, h1, _⟩ := h; exact h1.ne
theorem KRange.left_eq {u : World} {m r cnt : Nat} {G : List Int → Option Nat} {left : List Int → Bool} (h : KRange u m r G left cnt) : u.rangeLeft m r = cnt := by obtain ⟨D, L, n, h1, _⟩ := h; exact h1.left_eq
theorem KRange.kept {u u' : World} {m r cnt : Nat} {G : List Int → Option Nat} {left : List Int → Bool} (h : KRange u m r G left cnt) (hm : u'.heap[m]? = u.heap[m]?) (hr : u'.heap[r]? = u.heap[r]?) : KRange u' m r G left cnt := by
  obtain ⟨D, L, n, ⟨es, clock, since, seen, c0, hb, F, hs, hD, hr', rest⟩, h2⟩ := h
  exact ⟨D, L, n, ⟨es, clock, since, seen, c0, hm.trans hb, F, hs, hD, hr.trans hr', rest⟩, h2⟩
theorem wpList_range_kptr {w : World} {ops : Array Oper} {rest : List Oper} {o : Oper} {a : Act} {Q : Exit → Act → World → Prop} (hg : o.guard = none) (m : Operand) (t : TypeId) (hop : o.op = Op.range t m) (e : TypeId) (ht : Tryz.prog.underlying t = some (.map 38 e)) (b : Nat) (G : List Int → Option Nat)
    (hm : a.eval m = .map (some b)) (h : KMap w b G)
    (hK : ∀ w' cnt, KRange w' b w.heap.size G (fun k => (G k).isSome) cnt → Below w.heap.size w w' → w'.heap.size = w.heap.size + 1 → wpList Tryz.prog ops Q rest (a.put o.dst (.pointer (some ⟨w.heap.size, 0, none⟩))) w') : wpList Tryz.prog ops Q (o :: rest) a w := by
  obtain ⟨D, h1, h2, h3⟩ := h
  refine wpList_range_own w hg m t hop 38 e kLaw ht ptrE b _ D hm h1 ?_
  intro w' hr hgr hs
  exact hK w' _ ⟨D, _, _, hr, h2, h3, fun x hx => (khas_at (h2 x hx)).symm⟩ ⟨hgr.os, hgr.tape, hgr.output, hgr.size, fun k hk => hgr.block k hk (by simp)⟩ hs
theorem same_kkey {x y : List Int} (hx : Ky x) (hy : Ky y) : (kyl x).sameKey (kyl y) = decide (x = y) := by
  by_cases h : x = y
  · subst h; rw [WideAt.sameKey_self (kyl_key hx)]; simp
  · rw [Maps.sameKey_ne (fun e => h (kyl_inj hx hy e))]; simp [h]
theorem wpList_next_kptr {w : World} {ops : Array Oper} {rest : List Oper} {o : Oper} {a : Act} {Q : Exit → Act → World → Prop} (hg : o.guard = none) (it : Operand) (hop : o.op = Op.next it false) (b r : Nat) (G : List Int → Option Nat) (left : List Int → Bool) (cnt : Nat)
    (hit : a.eval it = .pointer (some ⟨r, 0, none⟩)) (h : KRange w b r G left cnt)
    (hDone : (∀ k, Ky k → left k = false) → wpList Tryz.prog ops Q rest (a.put o.dst (.tuple #[.bool false])) w)
    (hMore : ∀ (x : List Int) (g : Nat) (w' : World) (cnt' : Nat), Ky x → left x = true → G x = some g → KRange w' b r G (fun z => left z && !decide (z = x)) cnt' → cnt' < cnt → Chg w w' (fun k => k = r) → w'.heap.size = w.heap.size →
      (Instr.entry (.pointer (some ⟨r, 0, none⟩))).run Tryz.prog w' = .ok (.tuple #[kv x, .pointer (some ⟨g, 0, none⟩)]) w' → wpList Tryz.prog ops Q rest (a.put o.dst (.tuple #[.bool true, kv x, .pointer (some ⟨g, 0, none⟩)])) w') :
    wpList Tryz.prog ops Q (o :: rest) a w := by
  obtain ⟨D, L, n, h1, h2, h3, h4⟩ := h
  refine wpList_next_ranges w hg it hop 38 kLaw ptrE (id : Value → Value) ptrV (fun key kl hk => ⟨key, rfl⟩) (fun v y hv => by obtain ⟨x, e, _⟩ := ptrE_inv hv; exact ⟨x, e⟩) b r n D L cnt hit h1 (fun _ hl => hDone (fun x hx => by rw [h4 x hx, hl])) ?_
  intro xv q kl y w' cnt' hkey hlk hv hat hrg hlt hgr hsz hen
  obtain ⟨x, hx, rfl⟩ := h3 kl (Maps.has_true_of_atKey hat)
  obtain rfl : xv = kv x := kyl_back hx hkey
  obtain ⟨q', eq, rfl⟩ := ptrE_inv hv
  have e1 : ∀ z, ptrD z (G x) = ptrD .nil q' := fun z => (h2 x hx z).symm.trans (hat z)
  have e2 : q' = q := by cases q <;> cases q' <;> simp [ptrV] at eq <;> first | rfl | rw [eq]
  subst e2
  obtain ⟨g, hg1, hg2⟩ : ∃ g, G x = some g ∧ q' = some g := by
    cases hG : G x with
    | none =>
      rw [hG] at e1
      have a1 := e1 .nil
      have a2 := e1 (.lit (.bool true))
      rw [← a1] at a2
      cases a2
    | some g =>
      rw [hG] at e1
      refine ⟨g, rfl, ?_⟩
      exact (ptrD_inj (e1 .nil)).symm
  subst hg2
  refine hMore x g w' cnt' hx (by rw [h4 x hx]; exact hlk) hg1 ⟨D, _, n, hrg, h2, h3, fun z hz => ?_⟩ hlt (Chg.of_grown hgr (fun k e => (Option.some.inj e).symm)) hsz hen
  show (left z && !decide (z = x)) = _
  rw [same_kkey hz hx, h4 z hz]
/-- The same map, its values not looked at. -/
theorem KMap.kset {u : World} {m : Nat} {G : List Int → Option Nat} {l : List (List Int)} (h : KMap u m G) (hl : KeyL G l) : KSet u m l.length l := by
  obtain ⟨D, h1, h2, h3⟩ := h
  have hs := kmap_count h1 h2 h3 hl
  obtain ⟨es, clock, hb, F, hsz, hD⟩ := h1
  have hr : ∀ x ∈ es.toList, ∃ y, WideElems.rd Tryz.prog 38 ptrE x = some y ∧ WideElems.rd Tryz.prog 38 anyE x = some (y.1, .lit (.bool true)) := fun x hx => by
    obtain ⟨y, hy⟩ := F.reads x hx
    exact ⟨y, hy, by simp [WideElems.rd, WideElems.rd_key hy, anyE]⟩
  have hk : (es.toList.map (WideElems.rg Tryz.prog 38 anyE)).map (·.1) = (es.toList.map (WideElems.rg Tryz.prog 38 ptrE)).map (·.1) := by
    rw [List.map_map, List.map_map]
    refine List.map_congr_left (fun x hx => ?_)
    obtain ⟨y, e1, e2⟩ := hr x hx
    simp only [Function.comp, WideElems.rg_of e1, WideElems.rg_of e2]
  have hlen : (es.toList.map (WideElems.rg Tryz.prog 38 anyE)).length = l.length := by
    rw [← hs, hD, Maps.size_eq, length_sorted, List.length_map, List.length_map]
  have hmem : ∀ (E : List (Lit × DataW Unit)) x, Maps.has (.map (E.foldr DataW.insert []) : DataW Unit) x = true ↔ ∃ y ∈ E.map (·.1), y.sameKey x = true := fun E x => by
    rw [Maps.has_eq, List.any_eq_true]
    constructor
    · rintro ⟨p, hp, e⟩
      exact ⟨p.1, List.mem_map.2 ⟨p, mem_sorted.1 hp, rfl⟩, e⟩
    · rintro ⟨y, hy, e⟩
      obtain ⟨p, hp, rfl⟩ := List.mem_map.1 hy
      exact ⟨p, mem_sorted.2 hp, e⟩
  refine ⟨.map ((es.toList.map (WideElems.rg Tryz.prog 38 anyE)).foldr DataW.insert []), ⟨es, clock, hb, ⟨F.size, F.stamped, fun x hx => by obtain ⟨y, _, e⟩ := hr x hx; exact ⟨_, e⟩⟩, ?_, rfl⟩, ?_, hl.kys, fun x => ?_⟩
  · rw [← hlen, List.length_map, Array.length_toList]
    exact Nat.le_refl _
  · rw [Maps.size_eq, length_sorted, hlen]
  · rw [hmem, hk, ← hmem, ← hD]
    constructor
    · intro hx
      obtain ⟨k, hky, rfl⟩ := h3 x hx
      rw [khas_at (h2 k hky), hl.iff k hky] at hx
      exact ⟨k, hx, rfl⟩
    · rintro ⟨k, hkl, rfl⟩
      rw [khas_at (h2 k (hl.kys k hkl)), hl.iff k (hl.kys k hkl)]
      exact hkl
end Go.Proofs.YtileidbdmpeciaaGreat

