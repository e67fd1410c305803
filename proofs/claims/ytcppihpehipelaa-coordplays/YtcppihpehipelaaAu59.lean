/-
  A map whose keys are keys and whose values say nothing: what a store into it gives; keys read and stored whole inside a fence.
  What the library's own searches and comparisons answer at keys and at texts.
  What package key answers: Cmp, textLen, Good, Text, Sum, Within, Of.
-/
import Derived.Test.YtcppihpehipelaaAu53
import Derived.Maps.RangeWalk
import Derived.Maps.OwnOps
import Derived.DeepKeys4
import Derived.RangeFuncNested
import Derived.Sort.MapsRangeIn
import Derived.Maps.AppendAt
import Derived.RangeFuncBox
import Derived.Test.YtcppihpehipelaaAu54
import Derived.Lib.BytesEntry
import Derived.BigRegion
import Derived.BigQuiet
import Derived.Test.YtcppihpehipelaaAu37
import Derived.Deep.QuietTactic
import Derived.Sort.Grow
namespace Go.Proofs.Ytcppihpehipelaa
open Go.RowKit
open Go.Maps (Keyed)
set_option linter.unusedVariables false

theorem kLaid : laidOutB Try.prog = true := by kernel_rfl
theorem kRow : (84 : TypeId) < Try.prog.types.size := of_decide_eq_true (by kernel_rfl)
theorem kWide : (match Try.prog.underlying 84 with | some (.array _ _) | some (.struct _) => true | _ => false) = true := by rw [Try.underlying84]
set_option maxRecDepth 1000000 in
theorem kLaw : Keyed Try.prog 84 := Maps.Keyed.of_law (deep_law_laid kLaid (m := 2) (by omega) kRow (by kernel_rfl) kWide)
theorem mapM_all {α β : Type} {f : α → Option β} {g : α → β} : ∀ {l : List α}, (∀ x ∈ l, f x = some (g x)) → l.mapM f = some (l.map g)
  | [], _ => rfl
  | a :: r, h => by
    have hy := h a (by simp)
    have hys := mapM_all (l := r) (fun x hx => h x (by simp [hx]))
    simp [List.mapM_cons, hy, hys]
/-- A key, as a map's key. -/
def kyl (k : List Int) : Lit := .string (keyBytes (k.map (Lit.int .u8)))
theorem kyl_mk {k : List Int} (hk : Ky k) : keyOf Try.prog 84 (kv k) = some (kyl k) := by
  have h1 : Try.prog.keyType 84 = true := by kernel_rfl
  have h2 : Try.prog.cellsOf 84 = 16 := by kernel_rfl
  have h3 : Try.prog.cellsOf 5 = 1 := by kernel_rfl
  have hl := hk.len
  have h4 : (kv k).formed Try.prog 84 = true := by simp [Value.formed, Try.underlying84, h2, hl]
  obtain ⟨d, hd⟩ : ∃ d, Try.prog.types.size + 1 = d + 2 := ⟨Try.prog.types.size - 1, by have : 1 ≤ Try.prog.types.size := of_decide_eq_true (by kernel_rfl); omega⟩
  unfold keyOf
  rw [Try.underlying84]
  simp only [h1, h4, Bool.and_self, if_true]
  have hls : Try.prog.keyLits (Try.prog.types.size + 1) 84 (kv k).cells.toList = some (k.map (Lit.int .u8)) := by
    rw [hd]
    unfold Program.keyLits
    rw [Try.underlying84]
    have e : (kv k).cells.toList = k.map (Value.int .u8) := by simp [Value.cells]
    simp only [e, h2, h3, List.length_map, hl, if_true, Nat.mul_one]
    have hys : (List.range 16).mapM (fun i => Try.prog.keyLits (d + 1) 5 (((k.map (Value.int .u8)).drop i).take 1)) = some ((List.range 16).map fun i => [Lit.int .u8 (k.getD i 0)]) := mapM_all fun i hi => by
      have hi' : i < k.length := by rw [hl]; exact List.mem_range.1 hi
      have hb := hk.bytes k[i] (List.getElem_mem hi')
      have e2 : ((k.map (Value.int .u8)).drop i).take 1 = [.int .u8 k[i]] := by
        rw [List.drop_eq_getElem_cons (by simpa using hi')]
        simp
      rw [e2]
      unfold Program.keyLits
      rw [Try.underlying5]
      have hw : (Lit.int .u8 k[i]).wf = true := by simp [Lit.wf]; exact hb
      have e3 : k.getD i 0 = k[i] := by simp [List.getD, hi']
      rw [e3]
      simp [hw]
    rw [hys]
    have e4 : ((List.range 16).map fun i => [Lit.int .u8 (k.getD i 0)]).flatten = k.map (Lit.int .u8) := by
      have e5 : k = (List.range 16).map fun i => k.getD i 0 := by
        apply List.ext_getElem (by simp [hl])
        intro i h1 h2
        simp [List.getD, h1]
      conv => rhs; rw [e5]
      rw [List.map_map, ← List.flatMap_def, ← List.map_eq_flatMap]
      rfl
    rw [Option.map_some, e4]
  rw [hls]
  rfl
theorem kv_inj {a b : List Int} (h : kv a = kv b) : a = b := by
  injection h with h
  have h : a.map (Value.int .u8) = b.map (Value.int .u8) := by simpa using congrArg Array.toList h
  exact List.map_inj_right (fun x y e => by injection e) |>.1 h
theorem kyl_inj {a b : List Int} (ha : Ky a) (hb : Ky b) (h : kyl a = kyl b) : a = b := kv_inj (kLaw.inj (kyl_mk ha) (h ▸ kyl_mk hb))
theorem kyl_key {k : List Int} (hk : Ky k) : WideAt.IsKeyLit (kyl k) := kLaw.key (kyl_mk hk)
/-- Values that say nothing. -/
def anyE (_ : Value) : Option (DataW Unit × List MemPlace) := some (.lit (.bool true), [])
/-- Block m holds a map of c entries, whose keys are l's. -/
def KSet (u : World) (m c : Nat) (l : List (List Int)) : Prop :=
  ∃ D : DataW Unit, u.ownsMap Try.prog 84 anyE m c D ∧ Maps.size D = c ∧ Kys l ∧ ∀ x, Maps.has D x = true ↔ ∃ k ∈ l, kyl k = x
theorem KSet.lt {u : World} {m c : Nat} {l : List (List Int)} (h : KSet u m c l) : m < u.heap.size := by obtain ⟨D, h1, _⟩ := h; exact h1.lt
theorem KSet.kept {u u' : World} {m c : Nat} {l : List (List Int)} (h : KSet u m c l) (hb : u'.heap[m]? = u.heap[m]?) : KSet u' m c l := by
  obtain ⟨D, ⟨es, clock, h1, h2⟩, h3⟩ := h
  exact ⟨D, ⟨es, clock, hb.trans h1, h2⟩, h3⟩
theorem KSet.past {u u' : World} {m c : Nat} {l : List (List Int)} (h : KSet u m c l) (hb : Below u.heap.size u u') : KSet u' m c l := h.kept (hb.block m h.lt)
theorem KSet.made (u : World) : KSet (u.alloc (.map #[] 0)) u.heap.size 0 [] :=
  ⟨.map [], World.ownsMap_made _ _ _ _, rfl, fun k hk => by simp at hk, fun x => by simp [Maps.has_eq]⟩
theorem kowns_size {u : World} {m n : Nat} {D : DataW Unit} (h : u.ownsMap Try.prog 84 anyE m n D) : u.ownsMap Try.prog 84 anyE m (Maps.size D) D := by
  obtain ⟨es, clock, h1, h2, h3, rfl⟩ := h
  exact ⟨es, clock, h1, h2, by simp [Maps.size, length_sorted], rfl⟩
/-- 'm[k] = struct{}{}'. -/
theorem KSet.store {u : World} {m c : Nat} {l : List (List Int)} (h : KSet u m c l) (hc : c ≤ 1000000) {t e : TypeId} (ht : Try.prog.underlying t = some (.map 84 e)) (k : List Int) (hk : Ky k) :
    ∃ u' c', (Instr.mapUpdate t (.map (some m)) (kv k) (.agg #[])).run Try.prog u = .ok () u' ∧ KSet u' m c' (l ++ [k]) ∧ c' ≤ c + 1 ∧ u.mapTurned u' m := by
  obtain ⟨D, h1, h2, h3, h4⟩ := h
  obtain ⟨u', hrun, h5, h6⟩ := h1.store kLaw ht (by unfold maxLen; omega) (kyl_mk hk) (val := .agg #[]) (d := .lit (.bool true)) (ps := []) rfl
  refine ⟨u', Maps.size (D.put (kyl k) (.lit (.bool true))), hrun, ⟨_, kowns_size h5, rfl, ?_, fun x => ?_⟩, ?_, h6⟩
  · intro y hy
    rcases List.mem_append.1 hy with hy | hy
    · exact h3 y hy
    · simp at hy; subst hy; exact hk
  · by_cases e : x = kyl k
    · subst e
      rw [Maps.has_put_same h1.isMap (kyl_key hk)]
      exact ⟨fun _ => ⟨k, by simp, rfl⟩, fun _ => rfl⟩
    · rw [Maps.has_put_other e, h4]
      constructor
      · rintro ⟨y, hy, he⟩
        exact ⟨y, by simp [hy], he⟩
      · rintro ⟨y, hy, he⟩
        rcases List.mem_append.1 hy with hy | hy
        · exact ⟨y, hy, he⟩
        · simp at hy; subst hy; exact absurd he.symm e
  · rw [Maps.size_put (h1.tidy kLaw), h2]
    split <;> omega
theorem wpList_store_set {w : World} {ops : Array Oper} {rest : List Oper} {o : Oper} {a : Act} {Q : Exit → Act → World → Prop} (hg : o.guard = none) (m x v : Operand) (t : TypeId) (hop : o.op = Op.mapUpdate t m x v)
    (e : TypeId) (ht : Try.prog.underlying t = some (.map 84 e)) (b c : Nat) (l : List (List Int)) (hm : a.eval m = .map (some b)) (h : KSet w b c l) (hc : c ≤ 1000000) (k : List Int) (hk : Ky k) (hx : a.eval x = kv k) (hv : a.eval v = .agg #[])
    (hK : ∀ w' c', KSet w' b c' (l ++ [k]) → c' ≤ c + 1 → w.mapTurned w' b → wpList Try.prog ops Q rest (a.put o.dst undef) w') : wpList Try.prog ops Q (o :: rest) a w := by
  refine wpList_plain hg fun K' hK' => ?_
  obtain ⟨w', c', hrun, r1, r2, r3⟩ := h.store hc ht k hk
  unfold Oper.wp
  simp only [execOp, hop, hm, hx, hv, Sem.run_bind, hrun, Result.andThen]
  exact hK' _ _ (hK w' c' r1 r2 r3)
theorem len_le_of_sub {α : Type} : ∀ {l m : List α}, l.Nodup → (∀ x ∈ l, x ∈ m) → l.length ≤ m.length
  | [], m, _, _ => Nat.zero_le _
  | a :: r, m, h, hs => by
    obtain ⟨h1, h2⟩ := List.nodup_cons.1 h
    obtain ⟨s, t, rfl⟩ := List.append_of_mem (hs a (by simp))
    have := len_le_of_sub (l := r) (m := s ++ t) h2 (fun x hx => by
      have hxm := hs x (by simp [hx])
      rcases List.mem_append.1 hxm with e | e
      · exact List.mem_append_left _ e
      · rcases List.mem_cons.1 e with e | e
        · exact absurd (e ▸ hx) h1
        · exact List.mem_append_right _ e)
    simp only [List.length_append, List.length_cons] at this ⊢
    omega
theorem len_eq_of_same {α : Type} {l m : List α} (hl : l.Nodup) (hm : m.Nodup) (h : ∀ x, x ∈ l ↔ x ∈ m) : l.length = m.length :=
  Nat.le_antisymm (len_le_of_sub hl (fun x hx => (h x).1 hx)) (len_le_of_sub hm (fun x hx => (h x).2 hx))
end Go.Proofs.Ytcppihpehipelaa

namespace Go.Proofs.Ytcppihpehipelaa
open Go.RowKit
set_option linter.unusedVariables false

theorem byte_nat {x : Int} (hx : 0 ≤ x ∧ x ≤ 255) : x.toNat.toUInt8.toNat = x.toNat := by
  have : x.toNat < 256 := by omega
  simp [Nat.toUInt8, Nat.mod_eq_of_lt this]
theorem byte_zero {x : Int} (hx : 0 ≤ x ∧ x ≤ 255) : x.toNat.toUInt8 = 0 ↔ x = 0 := by
  rw [← UInt8.toNat_inj, byte_nat hx]
  show x.toNat = 0 ↔ _
  omega
theorem idx_zero : ∀ (k : List Int), (∀ z ∈ k, 0 ≤ z ∧ z ≤ 255) → Lib.indexByte (Lib.bytesOf k) 0 = if (txK k).length < k.length then ((txK k).length : Int) else -1
  | [], _ => rfl
  | a :: r, h => by
    have ih := idx_zero r (fun z hz => h z (by simp [hz]))
    have h0 := byte_zero (h a (by simp))
    unfold Lib.bytesOf at ih ⊢
    rw [List.map_cons]
    unfold Lib.indexByte
    rw [ih]
    unfold txK
    rw [List.takeWhile_cons]
    by_cases e : a = 0
    · subst e; simp
    · have e1 : ¬ a.toNat.toUInt8 = 0 := fun x => e (h0.1 x)
      have e2 : (a.toNat.toUInt8 == 0) = false := beq_eq_false_iff_ne.2 e1
      have e3 : (a != 0) = true := bne_iff_ne.2 e
      rw [e2, if_pos e3]
      simp only [Bool.false_eq_true, if_false, List.length_cons]
      generalize (r.takeWhile fun z => z != 0).length = n
      by_cases hl : n < r.length
      · rw [if_pos hl, if_pos (show n + 1 < r.length + 1 by omega), beq_eq_false_iff_ne.2 (show (n : Int) ≠ -1 by omega)]
        simp
      · rw [if_neg hl, if_neg (show ¬ n + 1 < r.length + 1 by omega)]
        rfl
/-- Two keys' bytes, as the library reads them. -/
theorem KeyAt.bytes {w : World} {b : Nat} {k : List Int} (h : KeyAt w b 0 k) (hk : Ky k) (acc : ByteArray) : (Extern.Bytes.loadBytes ⟨b, 0, none⟩ 16 acc).run Try.prog w = .ok ⟨acc.data ++ (Lib.bytesOf k).toArray⟩ w := by
  have hl := Lib.run_loadBytesX (P := Try.prog) w k ⟨b, 0, none⟩ acc (fun j x hj => by
    have hjl : j < k.length := (List.getElem?_eq_some_iff.1 hj).1
    have e : (⟨b, 0, none⟩ : Addr).add j = ⟨b, j, none⟩ := by unfold Addr.add; split <;> simp_all
    rw [e, h.cell0 j (by rw [← hk.len]; exact hjl), List.getD_eq_getElem?_getD, hj]
    rfl)
  rw [hk.len] at hl
  exact hl
set_option maxRecDepth 100000 in
theorem bindex_any (w : World) (p : Nat) (k : List Int) (hk : Ky k) (h : KeyAt w p 0 k) :
    Calls Try.prog 93 #[.slice (some ⟨p, 0, none⟩) 16 16, .int .u8 0] w fun e w' => e = .returned (.int .i64 (if (txK k).length < 16 then ((txK k).length : Int) else -1)) ∧ w' = w := by
  have hx := Lib.run_indexByteSlice (P := Try.prog) w p 0 16 16 k hk.len (fun i hi => h.cell i hi) 0
  have hi := idx_zero k hk.bytes
  rw [hk.len] at hi
  rw [show (0 : Int).toNat.toUInt8 = 0 from rfl, hi] at hx
  generalize (if (txK k).length < 16 then ((txK k).length : Int) else -1) = Z at hx ⊢
  go_enter Try.func93, Try.ntmps93
  go_wp2
  rw [run_callFunc_extern Try.func94 (by kernel_rfl) (by kernel_rfl) (by kernel_rfl) (e := Extern.BytealgIndexByte.indexByte) (by kernel_rfl), hx]
  simp only [Result.andThen]
  rw [Oper.upon_value]
  go_wp2
  go_ret
  exact ⟨rfl, rfl⟩
end Go.Proofs.Ytcppihpehipelaa

namespace Go.Proofs.Ytcppihpehipelaa
open Go.RowKit
open Go.Sort (grow grow_grow alloc_eq_grow)
set_option linter.unusedVariables false

theorem ktlen_any (k : List Int) (hk : Ky k) (w : World) :
    Calls Try.prog 91 #[kv k] w fun e w' => e = .returned (.int .i64 ((txK k).length : Int)) ∧ Below w.heap.size w w' := by
  have HA : Hid (KeyAt (w.alloc (.cells (kcs k) 84)) w.heap.size 0 k) := KeyAt.made w 84 k hk
  have HB : Hid (Below w.heap.size w (w.alloc (.cells (kcs k) 84))) := (Below.refl _ _).alloc (Nat.le_refl _) _
  have CI := bindex_any _ _ k hk HA.out
  have hle : (txK k).length ≤ 16 := by rw [← hk.len]; exact txK_le k
  generalize (txK k).length = T at CI hle ⊢
  clear hk HA
  by_cases h : T < 16
  · rw [if_pos h] at CI
    have h0 : (0 : Int) ≤ (T : Int) := by omega
    go_enter Try.func91, Try.ntmps91
    go_wp2_with (go_at_call 93; refine CI.mono ?_; rintro e w1 ⟨rfl, rfl⟩)
    go_ret
    exact ⟨rfl, HB.out⟩
  · rw [if_neg h] at CI
    obtain rfl : T = 16 := by omega
    go_enter Try.func91, Try.ntmps91
    go_wp2_with (go_at_call 93; refine CI.mono ?_; rintro e w1 ⟨rfl, rfl⟩)
    go_ret
    exact ⟨rfl, HB.out⟩
theorem good_tx {k : List Int} (hk : Ky k) : goodK k = true ↔ ((txK k).length ≠ 0 ∧ ∀ i, (txK k).length ≤ i → i < 16 → k.getD i 0 = 0) := by
  have hl := hk.len
  have h1 : (txK k).length ≠ 0 ↔ k.getD 0 0 ≠ 0 := by
    cases k with
    | nil => simp at hl
    | cons a r =>
      by_cases ha : a = 0
      · simp [txK, ha]
      · simp [txK, ha]
  have h2 : (∀ z ∈ k.drop (txK k).length, z = 0) ↔ ∀ i, (txK k).length ≤ i → i < 16 → k.getD i 0 = 0 := by
    constructor
    · intro h i h3 h4
      refine h _ ?_
      have e : k.getD i 0 = (k.drop (txK k).length)[i - (txK k).length]'(by simp; omega) := by
        rw [List.getElem_drop]
        have : i < k.length := by omega
        simp [List.getD, this, show (txK k).length + (i - (txK k).length) = i by omega]
      rw [e]
      exact List.getElem_mem _
    · intro h z hz
      obtain ⟨j, hj, rfl⟩ := List.getElem_of_mem hz
      simp at hj
      rw [List.getElem_drop]
      have := h ((txK k).length + j) (by omega) (by omega)
      have e : (txK k).length + j < k.length := by omega
      simpa [List.getD, e] using this
  unfold goodK
  rw [decide_eq_true_iff, h1, h2]
set_option maxHeartbeats 1000000 in
theorem kgood_any (k : List Int) (hk : Ky k) (w : World) :
    Calls Try.prog 84 #[kv k] w fun e w' => e = .returned (.bool (goodK k)) ∧ Below w.heap.size w w' := by
  have HK : Hid (Ky k) := hk
  have CT : Hid (∀ u, Calls Try.prog 91 #[kv k] u fun e w' => e = .returned (.int .i64 ((txK k).length : Int)) ∧ Below u.heap.size u w') := fun u => ktlen_any k hk u
  have HA : Hid (KeyAt (w.alloc (.cells (kcs k) 84)) w.heap.size 0 k) := KeyAt.made w 84 k hk
  have HB : Hid (Below w.heap.size w (w.alloc (.cells (kcs k) 84))) := (Below.refl _ _).alloc (Nat.le_refl _) _
  have hle : (txK k).length ≤ 16 := by rw [← hk.len]; exact txK_le k
  have HG : Hid (goodK k = true ↔ ((txK k).length ≠ 0 ∧ ∀ i, (txK k).length ≤ i → i < 16 → k.getD i 0 = 0)) := good_tx hk
  generalize (txK k).length = T at CT HG hle
  clear hk
  by_cases hT : T = 0
  · subst hT
    have HR : Hid (goodK k = false) := by
      show _ = _
      cases hg : goodK k
      · rfl
      · exact absurd rfl (HG.out.1 hg).1
    go_enter Try.func84, Try.ntmps84
    go_wp2_with (first | (refine wpList_load_key (by rfl) _ (by rfl) w.heap.size 0 (by rfl) k HK.out HA.out ?_) | (go_at_call 91; refine (CT.out _).mono ?_; rintro e w1 ⟨rfl, hb1⟩; have HB1 : Hid (Below w.heap.size w w1) := HB.out.trans (hb1.mono HB.out.size); clear hb1))
    go_ret
    exact ⟨by rw [HR.out]; rfl, HB1.out⟩
  · have h0 : (0 : Int) ≤ (T : Int) := by omega
    have h16 : (T : Int) ≤ 16 := by omega
    have hb0 : ((T : Int) == 0) = false := by simpa using hT
    by_cases hT2 : T = 16
    · have HR : Hid (goodK k = true) := HG.out.2 ⟨hT, fun i h1 h2 => by omega⟩
      subst hT2
      clear hT
      go_enter Try.func84, Try.ntmps84
      go_wp2_with (first | (refine wpList_load_key (by rfl) _ (by rfl) w.heap.size 0 (by rfl) k HK.out HA.out ?_) | (go_at_call 91; refine (CT.out _).mono ?_; rintro e w1 ⟨rfl, hb1⟩; have HA1 : Hid (KeyAt w1 w.heap.size 0 k) := HA.out.past hb1; have HB1 : Hid (Below w.heap.size w w1) := HB.out.trans (hb1.mono HB.out.size); clear hb1))
      refine wp_loop_rounds 1 ?_
      rw [rounds_succ]
      go_wp2
      go_ret
      exact ⟨by rw [HR.out]; rfl, HB1.out⟩
    · have hne : ¬ 16 = T := fun h => hT2 h.symm
      have hlt : T < 16 := by omega
      have HT0 : Hid (¬ T = 0) := hT
      clear hT hT2
      go_enter Try.func84, Try.ntmps84
      go_wp2_with (first | (refine wpList_load_key (by rfl) _ (by rfl) w.heap.size 0 (by rfl) k HK.out HA.out ?_) | (go_at_call 91; refine (CT.out _).mono ?_; rintro e w1 ⟨rfl, hb1⟩; have HA1 : Hid (KeyAt w1 w.heap.size 0 k) := HA.out.past hb1; have HB1 : Hid (Below w.heap.size w w1) := HB.out.trans (hb1.mono HB.out.size); clear hb1))
      go_loop [13] (fun i => ∃ n : Nat, n ≤ 16 - T ∧ i = .int .i64 n ∧ Hid (∀ i, T ≤ i → i < T + n → k.getD i 0 = 0)) (fun i => 16 - T - (intOf i).toNat)
      case atStart => exact ⟨0, Nat.zero_le _, rfl, by intro i h1 h2; omega⟩
      case round =>
        obtain ⟨n, hn, rfl, HZ⟩ := hrel
        have hn0 : (0 : Int) ≤ (n : Int) := by omega
        by_cases hlt2 : n < 16 - T
        · have hc := HA1.out.cell0 (T + n) (by omega)
          have hb := HK.out.at (T + n)
          have h1 : (n : Int) < ((16 - T : Nat) : Int) := by omega
          obtain ⟨Z, hZ⟩ : ∃ Z, Z = k.getD (T + n) 0 := ⟨_, rfl⟩
          rw [← hZ] at hc hb
          by_cases hz : Z = 0
          · subst hz
            have HZ' : Hid (∀ i, T ≤ i → i < T + (n + 1) → k.getD i 0 = 0) := by
              intro i h2 h3
              by_cases h4 : i < T + n
              · exact HZ.out i h2 h4
              · obtain rfl : i = T + n := by omega
                exact hZ.symm
            clear hZ
            go_wp2
            go_round
            case rel => exact ⟨n + 1, by omega, by go_num, HZ'⟩
            case measure => simp [intOf]; omega
          · have hzb : (Z != 0) = true := bne_iff_ne.2 hz
            have HR : Hid (goodK k = false) := by
              show _ = _
              cases hg : goodK k
              · rfl
              · exact absurd (hZ.trans ((HG.out.1 hg).2 (T + n) (by omega) (by omega))) hz
            clear hZ hz
            go_wp2
            go_ret
            exact ⟨by rw [HR.out]; rfl, HB1.out⟩
        · obtain rfl : n = 16 - T := by omega
          have HR : Hid (goodK k = true) := HG.out.2 ⟨HT0.out, fun i h1 h2 => HZ.out i h1 (by omega)⟩
          have h1 : ¬ ((16 - T : Nat) : Int) < ((16 - T : Nat) : Int) := by omega
          go_wp2
          go_ret
          exact ⟨by rw [HR.out]; rfl, HB1.out⟩
end Go.Proofs.Ytcppihpehipelaa

