/-
  What the library's own searches and comparisons answer at keys and at texts.
  What package key answers: Cmp, textLen, Good, Text, Sum, Within, Of.
  A map whose keys are keys and whose values say nothing: what a store into it gives; keys read and stored whole inside a fence.
  What package write answers of writes: Good, GoodList.
-/
import Derived.Test.YtmiafadmcpmjgaaKb
import Derived.Lib.BytesEntry
import Derived.BigRegion
import Derived.BigQuiet
import Derived.Test.YtmiafadmcpmjgaaRefKeyOf
import Derived.Deep.QuietTactic
import Derived.Sort.Grow
import Derived.Test.YtmiafadmcpmjgaaVm
import Derived.Maps.RangeWalk
import Derived.Maps.OwnOps
import Derived.DeepKeys4
import Derived.RangeFuncNested
import Derived.Sort.MapsRangeIn
import Derived.Maps.AppendAt
import Derived.RangeFuncBox
namespace Go.Proofs.Ytmiafadmcpmjgaa
open Go.RowKit
set_option linter.unusedVariables false

theorem byte_nat {x : Int} (hx : 0 ≤ x ∧ x ≤ 255) : x.toNat.toUInt8.toNat = x.toNat := by
  have : x.toNat < 256 := by omega
  simp [Nat.toUInt8, Nat.mod_eq_of_lt this]
theorem byte_lt {x y : Int} (hx : 0 ≤ x ∧ x ≤ 255) (hy : 0 ≤ y ∧ y ≤ 255) : x.toNat.toUInt8 < y.toNat.toUInt8 ↔ x < y := by
  rw [UInt8.lt_iff_toNat_lt, byte_nat hx, byte_nat hy]
  omega
theorem byte_zero {x : Int} (hx : 0 ≤ x ∧ x ≤ 255) : x.toNat.toUInt8 = 0 ↔ x = 0 := by
  rw [← UInt8.toNat_inj, byte_nat hx]
  show x.toNat = 0 ↔ _
  omega
theorem cmp_bytes : ∀ (a b : List Int), (∀ z ∈ a, 0 ≤ z ∧ z ≤ 255) → (∀ z ∈ b, 0 ≤ z ∧ z ≤ 255) → Lib.compareBytes (Lib.bytesOf a) (Lib.bytesOf b) = lexC a b
  | [], [], _, _ => rfl
  | [], _ :: _, _, _ => rfl
  | _ :: _, [], _, _ => rfl
  | a :: r, b :: s, ha, hb => by
    have ih := cmp_bytes r s (fun z hz => ha z (by simp [hz])) (fun z hz => hb z (by simp [hz]))
    have h1 := byte_lt (ha a (by simp)) (hb b (by simp))
    have h2 := byte_lt (hb b (by simp)) (ha a (by simp))
    unfold Lib.bytesOf at ih ⊢
    rw [List.map_cons, List.map_cons]
    unfold Lib.compareBytes lexC
    rw [ih]
    simp only [h1, h2]
theorem idx_zero : ∀ (k : List Int), (∀ z ∈ k, 0 ≤ z ∧ z ≤ 255) → Lib.indexByte (Lib.bytesOf k) 0 = if (txK k).length < k.length then ((txK k).length : Int) else -1
  | [], _ => rfl
  | a :: r, h => by
    have ih := idx_zero r (fun z hz => h z (by simp [hz]))
    have h0 := byte_zero (h a (by simp))
    unfold Lib.bytesOf at ih ⊢
    rw [List.map_cons]
    unfold Lib.indexByte
    rw [ih]
    unfold txK
    rw [List.takeWhile_cons]
    by_cases e : a = 0
    · subst e; simp
    · have e1 : ¬ a.toNat.toUInt8 = 0 := fun x => e (h0.1 x)
      have e2 : (a.toNat.toUInt8 == 0) = false := beq_eq_false_iff_ne.2 e1
      have e3 : (a != 0) = true := bne_iff_ne.2 e
      rw [e2, if_pos e3]
      simp only [Bool.false_eq_true, if_false, List.length_cons]
      generalize (r.takeWhile fun z => z != 0).length = n
      by_cases hl : n < r.length
      · rw [if_pos hl, if_pos (show n + 1 < r.length + 1 by omega), beq_eq_false_iff_ne.2 (show (n : Int) ≠ -1 by omega)]
        simp
      · rw [if_neg hl, if_neg (show ¬ n + 1 < r.length + 1 by omega)]
        rfl
/-- Two keys' bytes, as the library reads them. -/
theorem KeyAt.bytes {w : World} {b : Nat} {k : List Int} (h : KeyAt w b 0 k) (hk : Ky k) (acc : ByteArray) : (Extern.Bytes.loadBytes ⟨b, 0, none⟩ 16 acc).run Try.prog w = .ok ⟨acc.data ++ (Lib.bytesOf k).toArray⟩ w := by
  have hl := Lib.run_loadBytesX (P := Try.prog) w k ⟨b, 0, none⟩ acc (fun j x hj => by
    have hjl : j < k.length := (List.getElem?_eq_some_iff.1 hj).1
    have e : (⟨b, 0, none⟩ : Addr).add j = ⟨b, j, none⟩ := by unfold Addr.add; split <;> simp_all
    rw [e, h.cell0 j (by rw [← hk.len]; exact hjl), List.getD_eq_getElem?_getD, hj]
    rfl)
  rw [hk.len] at hl
  exact hl
theorem run_cmpKeys (w : World) (p q : Nat) (a b : List Int) (ha : Ky a) (hb : Ky b) (h1 : KeyAt w p 0 a) (h2 : KeyAt w q 0 b) :
    (Extern.BytealgCompare.compare #[.slice (some ⟨p, 0, none⟩) 16 16, .slice (some ⟨q, 0, none⟩) 16 16]).run Try.prog w = .ok (.int .i64 (lexC a b)) w := by
  have e1 := h1.bytes ha .empty
  have e2 := h2.bytes hb .empty
  have hs := Lib.run_compareString (P := Try.prog) ⟨(Lib.bytesOf a).toArray⟩ ⟨(Lib.bytesOf b).toArray⟩ w
  have he : ∀ l : List Int, (⟨ByteArray.empty.data ++ (Lib.bytesOf l).toArray⟩ : ByteArray) = ⟨(Lib.bytesOf l).toArray⟩ := fun l => by
    apply ByteArray.ext
    show (#[] : Array UInt8) ++ (Lib.bytesOf l).toArray = (Lib.bytesOf l).toArray
    simp
  rw [he] at e1 e2
  change Sem.run Try.prog (do pure (goInt (Extern.BytealgCompare.cmp (← Extern.Bytes.bytesOf (.slice (some ⟨p, 0, none⟩) 16 16)) (← Extern.Bytes.bytesOf (.slice (some ⟨q, 0, none⟩) 16 16))))) w = _
  simp only [Extern.Bytes.bytesOf, Sem.run_bind, Sem.run_pure, e1, e2, Result.andThen]
  rw [Lib.cmp_eq]
  simp only [goInt]
  rw [← cmp_bytes a b ha.bytes hb.bytes]
set_option maxRecDepth 100000 in
theorem bindex_any (w : World) (p : Nat) (k : List Int) (hk : Ky k) (h : KeyAt w p 0 k) :
    Calls Try.prog 96 #[.slice (some ⟨p, 0, none⟩) 16 16, .int .u8 0] w fun e w' => e = .returned (.int .i64 (if (txK k).length < 16 then ((txK k).length : Int) else -1)) ∧ w' = w := by
  have hx := Lib.run_indexByteSlice (P := Try.prog) w p 0 16 16 k hk.len (fun i hi => h.cell i hi) 0
  have hi := idx_zero k hk.bytes
  rw [hk.len] at hi
  rw [show (0 : Int).toNat.toUInt8 = 0 from rfl, hi] at hx
  generalize (if (txK k).length < 16 then ((txK k).length : Int) else -1) = Z at hx ⊢
  go_enter Try.func96, Try.ntmps96
  go_wp2
  rw [run_callFunc_extern Try.func97 (by kernel_rfl) (by kernel_rfl) (by kernel_rfl) (e := Extern.BytealgIndexByte.indexByte) (by kernel_rfl), hx]
  simp only [Result.andThen]
  rw [Oper.upon_value]
  go_wp2
  go_ret
  exact ⟨rfl, rfl⟩
end Go.Proofs.Ytmiafadmcpmjgaa

namespace Go.Proofs.Ytmiafadmcpmjgaa
open Go.RowKit
open Go.Sort (grow grow_grow alloc_eq_grow)
set_option linter.unusedVariables false

theorem ktlen_any (k : List Int) (hk : Ky k) (w : World) :
    Calls Try.prog 95 #[kv k] w fun e w' => e = .returned (.int .i64 ((txK k).length : Int)) ∧ Below w.heap.size w w' := by
  have HA : Hid (KeyAt (w.alloc (.cells (kcs k) 34)) w.heap.size 0 k) := KeyAt.made w 34 k hk
  have HB : Hid (Below w.heap.size w (w.alloc (.cells (kcs k) 34))) := (Below.refl _ _).alloc (Nat.le_refl _) _
  have CI := bindex_any _ _ k hk HA.out
  have hle : (txK k).length ≤ 16 := by rw [← hk.len]; exact txK_le k
  generalize (txK k).length = T at CI hle ⊢
  clear hk HA
  by_cases h : T < 16
  · rw [if_pos h] at CI
    have h0 : (0 : Int) ≤ (T : Int) := by omega
    go_enter Try.func95, Try.ntmps95
    go_wp2_with (go_at_call 96; refine CI.mono ?_; rintro e w1 ⟨rfl, rfl⟩)
    go_ret
    exact ⟨rfl, HB.out⟩
  · rw [if_neg h] at CI
    obtain rfl : T = 16 := by omega
    go_enter Try.func95, Try.ntmps95
    go_wp2_with (go_at_call 96; refine CI.mono ?_; rintro e w1 ⟨rfl, rfl⟩)
    go_ret
    exact ⟨rfl, HB.out⟩
theorem good_tx {k : List Int} (hk : Ky k) : goodK k = true ↔ ((txK k).length ≠ 0 ∧ ∀ i, (txK k).length ≤ i → i < 16 → k.getD i 0 = 0) := by
  have hl := hk.len
  have h1 : (txK k).length ≠ 0 ↔ k.getD 0 0 ≠ 0 := by
    cases k with
    | nil => simp at hl
    | cons a r =>
      by_cases ha : a = 0
      · simp [txK, ha]
      · simp [txK, ha]
  have h2 : (∀ z ∈ k.drop (txK k).length, z = 0) ↔ ∀ i, (txK k).length ≤ i → i < 16 → k.getD i 0 = 0 := by
    constructor
    · intro h i h3 h4
      refine h _ ?_
      have e : k.getD i 0 = (k.drop (txK k).length)[i - (txK k).length]'(by simp; omega) := by
        rw [List.getElem_drop]
        have : i < k.length := by omega
        simp [List.getD, this, show (txK k).length + (i - (txK k).length) = i by omega]
      rw [e]
      exact List.getElem_mem _
    · intro h z hz
      obtain ⟨j, hj, rfl⟩ := List.getElem_of_mem hz
      simp at hj
      rw [List.getElem_drop]
      have := h ((txK k).length + j) (by omega) (by omega)
      have e : (txK k).length + j < k.length := by omega
      simpa [List.getD, e] using this
  unfold goodK
  rw [decide_eq_true_iff, h1, h2]
set_option maxHeartbeats 1000000 in
theorem kgood_any (k : List Int) (hk : Ky k) (w : World) :
    Calls Try.prog 88 #[kv k] w fun e w' => e = .returned (.bool (goodK k)) ∧ Below w.heap.size w w' := by
  have HK : Hid (Ky k) := hk
  have CT : Hid (∀ u, Calls Try.prog 95 #[kv k] u fun e w' => e = .returned (.int .i64 ((txK k).length : Int)) ∧ Below u.heap.size u w') := fun u => ktlen_any k hk u
  have HA : Hid (KeyAt (w.alloc (.cells (kcs k) 34)) w.heap.size 0 k) := KeyAt.made w 34 k hk
  have HB : Hid (Below w.heap.size w (w.alloc (.cells (kcs k) 34))) := (Below.refl _ _).alloc (Nat.le_refl _) _
  have hle : (txK k).length ≤ 16 := by rw [← hk.len]; exact txK_le k
  have HG : Hid (goodK k = true ↔ ((txK k).length ≠ 0 ∧ ∀ i, (txK k).length ≤ i → i < 16 → k.getD i 0 = 0)) := good_tx hk
  generalize (txK k).length = T at CT HG hle
  clear hk
  by_cases hT : T = 0
  · subst hT
    have HR : Hid (goodK k = false) := by
      show _ = _
      cases hg : goodK k
      · rfl
      · exact absurd rfl (HG.out.1 hg).1
    go_enter Try.func88, Try.ntmps88
    go_wp2_with (first | (refine wpList_load_key (by rfl) _ (by rfl) w.heap.size 0 (by rfl) k HK.out HA.out ?_) | (go_at_call 95; refine (CT.out _).mono ?_; rintro e w1 ⟨rfl, hb1⟩; have HB1 : Hid (Below w.heap.size w w1) := HB.out.trans (hb1.mono HB.out.size); clear hb1))
    go_ret
    exact ⟨by rw [HR.out]; rfl, HB1.out⟩
  · have h0 : (0 : Int) ≤ (T : Int) := by omega
    have h16 : (T : Int) ≤ 16 := by omega
    have hb0 : ((T : Int) == 0) = false := by simpa using hT
    by_cases hT2 : T = 16
    · have HR : Hid (goodK k = true) := HG.out.2 ⟨hT, fun i h1 h2 => by omega⟩
      subst hT2
      clear hT
      go_enter Try.func88, Try.ntmps88
      go_wp2_with (first | (refine wpList_load_key (by rfl) _ (by rfl) w.heap.size 0 (by rfl) k HK.out HA.out ?_) | (go_at_call 95; refine (CT.out _).mono ?_; rintro e w1 ⟨rfl, hb1⟩; have HA1 : Hid (KeyAt w1 w.heap.size 0 k) := HA.out.past hb1; have HB1 : Hid (Below w.heap.size w w1) := HB.out.trans (hb1.mono HB.out.size); clear hb1))
      refine wp_loop_rounds 1 ?_
      rw [rounds_succ]
      go_wp2
      go_ret
      exact ⟨by rw [HR.out]; rfl, HB1.out⟩
    · have hne : ¬ 16 = T := fun h => hT2 h.symm
      have hlt : T < 16 := by omega
      have HT0 : Hid (¬ T = 0) := hT
      clear hT hT2
      go_enter Try.func88, Try.ntmps88
      go_wp2_with (first | (refine wpList_load_key (by rfl) _ (by rfl) w.heap.size 0 (by rfl) k HK.out HA.out ?_) | (go_at_call 95; refine (CT.out _).mono ?_; rintro e w1 ⟨rfl, hb1⟩; have HA1 : Hid (KeyAt w1 w.heap.size 0 k) := HA.out.past hb1; have HB1 : Hid (Below w.heap.size w w1) := HB.out.trans (hb1.mono HB.out.size); clear hb1))
      go_loop [13] (fun i => ∃ n : Nat, n ≤ 16 - T ∧ i = .int .i64 n ∧ Hid (∀ i, T ≤ i → i < T + n → k.getD i 0 = 0)) (fun i => 16 - T - (intOf i).toNat)
      case atStart => exact ⟨0, Nat.zero_le _, rfl, by intro i h1 h2; omega⟩
      case round =>
        obtain ⟨n, hn, rfl, HZ⟩ := hrel
        have hn0 : (0 : Int) ≤ (n : Int) := by omega
        by_cases hlt2 : n < 16 - T
        · have hc := HA1.out.cell0 (T + n) (by omega)
          have hb := HK.out.at (T + n)
          have h1 : (n : Int) < ((16 - T : Nat) : Int) := by omega
          obtain ⟨Z, hZ⟩ : ∃ Z, Z = k.getD (T + n) 0 := ⟨_, rfl⟩
          rw [← hZ] at hc hb
          by_cases hz : Z = 0
          · subst hz
            have HZ' : Hid (∀ i, T ≤ i → i < T + (n + 1) → k.getD i 0 = 0) := by
              intro i h2 h3
              by_cases h4 : i < T + n
              · exact HZ.out i h2 h4
              · obtain rfl : i = T + n := by omega
                exact hZ.symm
            clear hZ
            go_wp2
            go_round
            case rel => exact ⟨n + 1, by omega, by go_num, HZ'⟩
            case measure => simp [intOf]; omega
          · have hzb : (Z != 0) = true := bne_iff_ne.2 hz
            have HR : Hid (goodK k = false) := by
              show _ = _
              cases hg : goodK k
              · rfl
              · exact absurd (hZ.trans ((HG.out.1 hg).2 (T + n) (by omega) (by omega))) hz
            clear hZ hz
            go_wp2
            go_ret
            exact ⟨by rw [HR.out]; rfl, HB1.out⟩
        · obtain rfl : n = 16 - T := by omega
          have HR : Hid (goodK k = true) := HG.out.2 ⟨HT0.out, fun i h1 h2 => HZ.out i h1 (by omega)⟩
          have h1 : ¬ ((16 - T : Nat) : Int) < ((16 - T : Nat) : Int) := by omega
          go_wp2
          go_ret
          exact ⟨by rw [HR.out]; rfl, HB1.out⟩
end Go.Proofs.Ytmiafadmcpmjgaa

namespace Go.Proofs.Ytmiafadmcpmjgaa
open Go.RowKit
open Go.Maps (Keyed)
set_option linter.unusedVariables false

theorem kLaid : laidOutB Try.prog = true := by kernel_rfl
theorem kRow : (34 : TypeId) < Try.prog.types.size := of_decide_eq_true (by kernel_rfl)
theorem kWide : (match Try.prog.underlying 34 with | some (.array _ _) | some (.struct _) => true | _ => false) = true := by rw [Try.underlying34]
set_option maxRecDepth 1000000 in
theorem kLaw : Keyed Try.prog 34 := Maps.Keyed.of_law (deep_law_laid kLaid (m := 2) (by omega) kRow (by kernel_rfl) kWide)
theorem mapM_all {α β : Type} {f : α → Option β} {g : α → β} : ∀ {l : List α}, (∀ x ∈ l, f x = some (g x)) → l.mapM f = some (l.map g)
  | [], _ => rfl
  | a :: r, h => by
    have hy := h a (by simp)
    have hys := mapM_all (l := r) (fun x hx => h x (by simp [hx]))
    simp [List.mapM_cons, hy, hys]
/-- A key, as a map's key. -/
def kyl (k : List Int) : Lit := .string (keyBytes (k.map (Lit.int .u8)))
theorem kyl_mk {k : List Int} (hk : Ky k) : keyOf Try.prog 34 (kv k) = some (kyl k) := by
  have h1 : Try.prog.keyType 34 = true := by kernel_rfl
  have h2 : Try.prog.cellsOf 34 = 16 := by kernel_rfl
  have h3 : Try.prog.cellsOf 5 = 1 := by kernel_rfl
  have hl := hk.len
  have h4 : (kv k).formed Try.prog 34 = true := by simp [Value.formed, Try.underlying34, h2, hl]
  obtain ⟨d, hd⟩ : ∃ d, Try.prog.types.size + 1 = d + 2 := ⟨Try.prog.types.size - 1, by have : 1 ≤ Try.prog.types.size := of_decide_eq_true (by kernel_rfl); omega⟩
  unfold keyOf
  rw [Try.underlying34]
  simp only [h1, h4, Bool.and_self, if_true]
  have hls : Try.prog.keyLits (Try.prog.types.size + 1) 34 (kv k).cells.toList = some (k.map (Lit.int .u8)) := by
    rw [hd]
    unfold Program.keyLits
    rw [Try.underlying34]
    have e : (kv k).cells.toList = k.map (Value.int .u8) := by simp [Value.cells]
    simp only [e, h2, h3, List.length_map, hl, if_true, Nat.mul_one]
    have hys : (List.range 16).mapM (fun i => Try.prog.keyLits (d + 1) 5 (((k.map (Value.int .u8)).drop i).take 1)) = some ((List.range 16).map fun i => [Lit.int .u8 (k.getD i 0)]) := mapM_all fun i hi => by
      have hi' : i < k.length := by rw [hl]; exact List.mem_range.1 hi
      have hb := hk.bytes k[i] (List.getElem_mem hi')
      have e2 : ((k.map (Value.int .u8)).drop i).take 1 = [.int .u8 k[i]] := by
        rw [List.drop_eq_getElem_cons (by simpa using hi')]
        simp
      rw [e2]
      unfold Program.keyLits
      rw [Try.underlying5]
      have hw : (Lit.int .u8 k[i]).wf = true := by simp [Lit.wf]; exact hb
      have e3 : k.getD i 0 = k[i] := by simp [List.getD, hi']
      rw [e3]
      simp [hw]
    rw [hys]
    have e4 : ((List.range 16).map fun i => [Lit.int .u8 (k.getD i 0)]).flatten = k.map (Lit.int .u8) := by
      have e5 : k = (List.range 16).map fun i => k.getD i 0 := by
        apply List.ext_getElem (by simp [hl])
        intro i h1 h2
        simp [List.getD, h1]
      conv => rhs; rw [e5]
      rw [List.map_map, ← List.flatMap_def, ← List.map_eq_flatMap]
      rfl
    rw [Option.map_some, e4]
  rw [hls]
  rfl
theorem kv_inj {a b : List Int} (h : kv a = kv b) : a = b := by
  injection h with h
  have h : a.map (Value.int .u8) = b.map (Value.int .u8) := by simpa using congrArg Array.toList h
  exact List.map_inj_right (fun x y e => by injection e) |>.1 h
theorem kyl_inj {a b : List Int} (ha : Ky a) (hb : Ky b) (h : kyl a = kyl b) : a = b := kv_inj (kLaw.inj (kyl_mk ha) (h ▸ kyl_mk hb))
theorem kyl_key {k : List Int} (hk : Ky k) : WideAt.IsKeyLit (kyl k) := kLaw.key (kyl_mk hk)
theorem kyl_back {v : Value} {k : List Int} (hk : Ky k) (h : keyOf Try.prog 34 v = some (kyl k)) : v = kv k := kLaw.inj h (kyl_mk hk)
/-- Values that say nothing. -/
def anyE (_ : Value) : Option (DataW Unit × List MemPlace) := some (.lit (.bool true), [])
/-- Block m holds a map of c entries, whose keys are l's. -/
def KSet (u : World) (m c : Nat) (l : List (List Int)) : Prop :=
  ∃ D : DataW Unit, u.ownsMap Try.prog 34 anyE m c D ∧ Maps.size D = c ∧ Kys l ∧ ∀ x, Maps.has D x = true ↔ ∃ k ∈ l, kyl k = x
theorem KSet.lt {u : World} {m c : Nat} {l : List (List Int)} (h : KSet u m c l) : m < u.heap.size := by obtain ⟨D, h1, _⟩ := h; exact h1.lt
theorem KSet.kept {u u' : World} {m c : Nat} {l : List (List Int)} (h : KSet u m c l) (hb : u'.heap[m]? = u.heap[m]?) : KSet u' m c l := by
  obtain ⟨D, ⟨es, clock, h1, h2⟩, h3⟩ := h
  exact ⟨D, ⟨es, clock, hb.trans h1, h2⟩, h3⟩
theorem KSet.past {u u' : World} {m c : Nat} {l : List (List Int)} (h : KSet u m c l) (hb : Below u.heap.size u u') : KSet u' m c l := h.kept (hb.block m h.lt)
theorem KSet.made (u : World) : KSet (u.alloc (.map #[] 0)) u.heap.size 0 [] :=
  ⟨.map [], World.ownsMap_made _ _ _ _, rfl, fun k hk => by simp at hk, fun x => by simp [Maps.has_eq]⟩
theorem kowns_size {u : World} {m n : Nat} {D : DataW Unit} (h : u.ownsMap Try.prog 34 anyE m n D) : u.ownsMap Try.prog 34 anyE m (Maps.size D) D := by
  obtain ⟨es, clock, h1, h2, h3, rfl⟩ := h
  exact ⟨es, clock, h1, h2, by simp [Maps.size, length_sorted], rfl⟩
/-- 'm[k] = struct{}{}'. -/
theorem KSet.store {u : World} {m c : Nat} {l : List (List Int)} (h : KSet u m c l) (hc : c ≤ 1000000) {t e : TypeId} (ht : Try.prog.underlying t = some (.map 34 e)) (k : List Int) (hk : Ky k) :
    ∃ u' c', (Instr.mapUpdate t (.map (some m)) (kv k) (.agg #[])).run Try.prog u = .ok () u' ∧ KSet u' m c' (l ++ [k]) ∧ c' ≤ c + 1 ∧ u.mapTurned u' m := by
  obtain ⟨D, h1, h2, h3, h4⟩ := h
  obtain ⟨u', hrun, h5, h6⟩ := h1.store kLaw ht (by unfold maxLen; omega) (kyl_mk hk) (val := .agg #[]) (d := .lit (.bool true)) (ps := []) rfl
  refine ⟨u', Maps.size (D.put (kyl k) (.lit (.bool true))), hrun, ⟨_, kowns_size h5, rfl, ?_, fun x => ?_⟩, ?_, h6⟩
  · intro y hy
    rcases List.mem_append.1 hy with hy | hy
    · exact h3 y hy
    · simp at hy; subst hy; exact hk
  · by_cases e : x = kyl k
    · subst e
      rw [Maps.has_put_same h1.isMap (kyl_key hk)]
      exact ⟨fun _ => ⟨k, by simp, rfl⟩, fun _ => rfl⟩
    · rw [Maps.has_put_other e, h4]
      constructor
      · rintro ⟨y, hy, he⟩
        exact ⟨y, by simp [hy], he⟩
      · rintro ⟨y, hy, he⟩
        rcases List.mem_append.1 hy with hy | hy
        · exact ⟨y, hy, he⟩
        · simp at hy; subst hy; exact absurd he.symm e
  · rw [Maps.size_put (h1.tidy kLaw), h2]
    split <;> omega
theorem wpList_store_set {w : World} {ops : Array Oper} {rest : List Oper} {o : Oper} {a : Act} {Q : Exit → Act → World → Prop} (hg : o.guard = none) (m x v : Operand) (t : TypeId) (hop : o.op = Op.mapUpdate t m x v)
    (e : TypeId) (ht : Try.prog.underlying t = some (.map 34 e)) (b c : Nat) (l : List (List Int)) (hm : a.eval m = .map (some b)) (h : KSet w b c l) (hc : c ≤ 1000000) (k : List Int) (hk : Ky k) (hx : a.eval x = kv k) (hv : a.eval v = .agg #[])
    (hK : ∀ w' c', KSet w' b c' (l ++ [k]) → c' ≤ c + 1 → w.mapTurned w' b → wpList Try.prog ops Q rest (a.put o.dst undef) w') : wpList Try.prog ops Q (o :: rest) a w := by
  refine wpList_plain hg fun K' hK' => ?_
  obtain ⟨w', c', hrun, r1, r2, r3⟩ := h.store hc ht k hk
  unfold Oper.wp
  simp only [execOp, hop, hm, hx, hv, Sem.run_bind, hrun, Result.andThen]
  exact hK' _ _ (hK w' c' r1 r2 r3)
/-- A key is read whole, inside a fence. -/
theorem wpListIn_load_key {F : Fence} {n : Nat} {ops : Array Oper} {rest : List Oper} {op : Oper} {a : Act} {w : World} {Q : Exit → Act → World → Prop} (hgd : op.guard = none) (x : Operand) (ho : op.op = .load 34 x)
    (b o : Nat) (hx : a.eval x = .pointer (some ⟨b, o, none⟩)) (k : List Int) (hk : Ky k) (hat : KeyAt w b o k)
    (h : wpListIn F n Try.prog ops Q rest (a.put op.dst (kv k)) w) : wpListIn F n Try.prog ops Q (op :: rest) a w := by
  refine wpListIn_plain hgd fun K hK => ?_
  unfold Oper.wpIn
  refine ⟨by simp [Oper.about, ho], ?_⟩
  rw [Oper.semAt_plain F _ _ (by rw [ho]; intro c hc'; cases hc')]
  unfold execOp
  simp only [ho, hx, Instr.loadAt, Instr.sureAddr, Sem.run_bind, Sem.run_pure, Result.andThen_ok, run_loadVar_mid w b o 34 (k.map (Value.int .u8)) _ (hat.range hk) Try.underlying34 rfl (by rw [info_key, List.length_map, hk.len])]
  exact hK _ _ h
/-- A key is stored whole, inside a fence. -/
theorem wpListIn_store_key {F : Fence} {n : Nat} {ops : Array Oper} {rest : List Oper} {op : Oper} {a : Act} {w : World} {Q : Exit → Act → World → Prop} (hgd : op.guard = none) (x y : Operand) (ho : op.op = .store 34 x y)
    (b o : Nat) (k k' : List Int) (hx : a.eval x = .pointer (some ⟨b, o, none⟩)) (hy : a.eval y = kv k') (hk : Ky k') (hat : KeyMine w b o k)
    (h : ∀ u, u = w.setCells b o (k'.map (Value.int .u8)) → wpListIn F n Try.prog ops Q rest (a.put op.dst undef) u) : wpListIn F n Try.prog ops Q (op :: rest) a w := by
  have hl : (kcs k').size = 16 := by simp [kcs, hk.len]
  refine wpListIn_plain hgd fun K hK => ?_
  unfold Oper.wpIn
  refine ⟨by simp [Oper.about, ho], ?_⟩
  rw [Oper.semAt_plain F _ _ (by rw [ho]; intro c hc'; cases hc')]
  unfold execOp
  simp only [ho, hx, hy, Instr.storeAt, Instr.sureAddr, Sem.run_bind, Sem.run_pure, Result.andThen_ok, run_storeVar_mid w b o 34 (kcs k') (by rw [hl]; exact hat.there) (by rw [info_key, hl]) (kcs_one k')]
  exact hK _ _ (h _ rfl)
/-- A new block that a key is laid into. -/
theorem laid_key (w : World) (T : TypeId) {k : List Int} (hk : Ky k) : KeyMine ((w.alloc (.cells (kcs zeroK) T)).setCells w.heap.size 0 (k.map (Value.int .u8))) w.heap.size 0 k ∧ Below w.heap.size w ((w.alloc (.cells (kcs zeroK) T)).setCells w.heap.size 0 (k.map (Value.int .u8))) ∧ ((w.alloc (.cells (kcs zeroK) T)).setCells w.heap.size 0 (k.map (Value.int .u8))).heap.size = w.heap.size + 1 :=
  ⟨(KeyMine.made w T zeroK zeroK_ky).store hk, below_cells (Nat.le_refl _) ((Below.refl _ _).alloc (Nat.le_refl _) _), by rw [size_cells]; simp⟩
theorem grown_none {w u : World} (h : Below w.heap.size w u) : w.grownBy u none := ⟨h.os, h.tape, h.output, h.size, fun k hk _ => h.block k hk⟩
theorem len_le_of_sub {α : Type} : ∀ {l m : List α}, l.Nodup → (∀ x ∈ l, x ∈ m) → l.length ≤ m.length
  | [], m, _, _ => Nat.zero_le _
  | a :: r, m, h, hs => by
    obtain ⟨h1, h2⟩ := List.nodup_cons.1 h
    obtain ⟨s, t, rfl⟩ := List.append_of_mem (hs a (by simp))
    have := len_le_of_sub (l := r) (m := s ++ t) h2 (fun x hx => by
      have hxm := hs x (by simp [hx])
      rcases List.mem_append.1 hxm with e | e
      · exact List.mem_append_left _ e
      · rcases List.mem_cons.1 e with e | e
        · exact absurd (e ▸ hx) h1
        · exact List.mem_append_right _ e)
    simp only [List.length_append, List.length_cons] at this ⊢
    omega
theorem len_eq_of_same {α : Type} {l m : List α} (hl : l.Nodup) (hm : m.Nodup) (h : ∀ x, x ∈ l ↔ x ∈ m) : l.length = m.length :=
  Nat.le_antisymm (len_le_of_sub hl (fun x hx => (h x).1 hx)) (len_le_of_sub hm (fun x hx => (h x).2 hx))
end Go.Proofs.Ytmiafadmcpmjgaa

namespace Go.Proofs.Ytmiafadmcpmjgaa
open Go.RowKit
set_option linter.unusedVariables false

theorem wpList_len_is (d : Tmp) {ops : Array Oper} {rest : List Oper} {op : Oper} {a : Act} {w : World} {Q : Exit → Act → World → Prop} (hd : op.dst = some d) (hw : Region.wanted op (yielded ops a.tmps) = true) (m : Operand) (t : TypeId) (ho : op.op = Op.call { callee := Callee.builtin Builtin.len, args := #[m], argTypes := #[t] })
    (b : Nat) (v : Value) (hm : a.eval m = .map (some b)) (hrun : ∀ ty, (Builtin.len_ #[t] ty #[.map (some b)]).run Try.prog w = .ok v w)
    (h : wpList Try.prog ops Q rest (a.put op.dst v) w) : wpList Try.prog ops Q (op :: rest) a w :=
  wpList_step fun K hK => by
    rw [if_pos hw]
    unfold Oper.wp
    simp [execOp, ho, resolve, invoke, builtin, hm, hrun, Result.andThen]
    exact hK _ _ h
theorem KSet.len {u : World} {m c : Nat} {l : List (List Int)} (h : KSet u m c l) {t e : TypeId} (ht : Try.prog.underlying t = some (.map 34 e)) (ty : TypeId) : (Builtin.len_ #[t] ty #[.map (some m)]).run Try.prog u = .ok (.int .i64 (c : Nat)) u := by
  obtain ⟨D, h1, h2, _⟩ := h
  rw [← h2]
  exact h1.len ht ty
theorem not_nodup {α : Type} : ∀ {l : List α}, ¬ l.Nodup → ∃ s a t, l = s ++ a :: t ∧ a ∈ s ++ t
  | [], h => absurd List.nodup_nil h
  | b :: r, h => by
    by_cases hb : b ∈ r
    · exact ⟨[], b, r, rfl, hb⟩
    · have hr : ¬ r.Nodup := fun e => h (List.nodup_cons.2 ⟨hb, e⟩)
      obtain ⟨s, a, t, e, ha⟩ := not_nodup hr
      exact ⟨b :: s, a, t, by rw [e]; rfl, List.mem_cons_of_mem _ ha⟩
theorem nodup_of_len {α : Type} {A B : List α} (hA : A.Nodup) (h : ∀ x, x ∈ A ↔ x ∈ B) (hl : A.length = B.length) : B.Nodup := by
  refine Classical.byContradiction (fun hn => ?_)
  obtain ⟨s, a, t, rfl, ha⟩ := not_nodup hn
  have := len_le_of_sub (m := s ++ t) hA (fun x hx => by
    rcases List.mem_append.1 ((h x).1 hx) with e | e
    · exact List.mem_append_left _ e
    · rcases List.mem_cons.1 e with e | e
      · rw [e]; exact ha
      · exact List.mem_append_right _ e)
  simp at this hl
  omega
theorem KSet.count {u : World} {m c : Nat} {l : List (List Int)} (h : KSet u m c l) : c = l.length ↔ l.Nodup := by
  obtain ⟨D, h1, h2, h3, h4⟩ := h
  obtain ⟨es, rfl, he, hk⟩ := h1.entries kLaw
  rw [Maps.size_eq] at h2
  have hn1 : (es.map (·.1)).Nodup := by
    unfold List.Nodup
    rw [List.pairwise_map]
    exact he
  have hh : ∀ x, x ∈ es.map (·.1) ↔ x ∈ l.map kyl := fun x => by
    rw [List.mem_map (l := l), ← h4, Maps.has_eq, List.any_eq_true]
    constructor
    · intro hx
      obtain ⟨p, hp, rfl⟩ := List.mem_map.1 hx
      exact ⟨p, hp, WideAt.sameKey_self (hk p hp)⟩
    · rintro ⟨p, hp, e⟩
      rw [← WideAt.sameKey_eq e]
      exact List.mem_map.2 ⟨p, hp, rfl⟩
  have hnd : (l.map kyl).Nodup ↔ l.Nodup := by
    unfold List.Nodup
    rw [List.pairwise_map]
    constructor
    · intro hp
      exact List.Pairwise.imp (fun hab e => hab (by rw [e])) hp
    · intro hp
      exact List.Pairwise.imp_of_mem (fun ha hb hab e => hab (kyl_inj (h3 _ ha) (h3 _ hb) e)) hp
  rw [← hnd]
  constructor
  · intro e
    exact nodup_of_len hn1 hh (by rw [List.length_map, List.length_map, h2, e])
  · intro hn
    have := len_eq_of_same hn1 hn hh
    rw [List.length_map, List.length_map, h2] at this
    exact this
theorem WrtAt.c0 {w : World} {b : Nat} {W : Wrt} (h : WrtAt w b 0 W) (hk : Ky W.k) : w.cell? ⟨b, 16, none⟩ = some (.string (strOfNums W.v)) ∧ w.cell? ⟨b, 17, none⟩ = some (.bool W.g) := by
  have := h.cells hk
  rw [Nat.zero_add, Nat.zero_add] at this
  exact this
/-- May a write be? -/
def okW (W : Wrt) : Bool := goodK W.k && decide (W.v.length ≤ 200) && (!W.g || decide (W.v = []))
set_option maxHeartbeats 2000000 in
theorem sgoodw_any (W : Wrt) (hW : WrtOk W) (w : World) :
    Calls Try.prog 70 #[wv W] w fun e w' => e = .returned (.bool (okW W)) ∧ Below w.heap.size w w' := by
  obtain ⟨U, hU⟩ : ∃ U, U = w.alloc (.cells (encW W).toArray 36) := ⟨_, rfl⟩
  have HUB : Hid (Below w.heap.size w U) := by rw [hU]; exact (Below.refl _ _).alloc (Nat.le_refl _) _
  have hmine : WrtMine U w.heap.size 0 W := by rw [hU]; exact WrtMine.made w 36 W hW.key
  have KY : Hid (Ky W.k) := hW.key
  have FK : Hid (KeyAt U w.heap.size 0 W.k) := hmine.at_.key hW.key
  have FB : Hid (∀ u, Below U.heap.size U u → Hid (Below w.heap.size w u) ∧ u.cell? ⟨w.heap.size, 16, none⟩ = some (.string (strOfNums W.v)) ∧ u.cell? ⟨w.heap.size, 17, none⟩ = some (.bool W.g)) := fun u hb => ⟨HUB.out.trans (hb.mono HUB.out.size), (hmine.at_.past hb).c0 hW.key⟩
  have CG : Hid (∀ u, Calls Try.prog 88 #[kv W.k] u fun e w' => e = .returned (.bool (goodK W.k)) ∧ Below u.heap.size u w') := fun u => kgood_any W.k hW.key u
  obtain ⟨S, hS⟩ : ∃ S, S = strOfNums W.v := ⟨_, rfl⟩
  obtain ⟨m, hm⟩ : ∃ m, m = W.v.length := ⟨_, rfl⟩
  have hsz : S.size = m := by rw [hS, hm]; exact strOfNums_size _
  have hfew : m ≤ 9223372036854775807 := by
    have := hW.few
    unfold maxLen at this
    rw [hm]
    exact Nat.le_trans this (by omega)
  have hemp : S.toList.isEmpty = decide (W.v = []) := by
    rw [hS, ByteArray.toList_eq, strOfNums_data]
    cases W.v with
    | nil => rfl
    | cons z r => simp
  obtain ⟨R, hR⟩ : ∃ R, R = okW W := ⟨_, rfl⟩
  have hok : R = (goodK W.k && decide (m ≤ 200) && (!W.g || decide (W.v = []))) := by rw [hR, hm]; rfl
  rw [← hS] at FB
  rw [← hR]
  generalize W.k = k at *
  generalize W.g = g at *
  generalize hv : W.v = v at *
  obtain ⟨C, hC⟩ : ∃ C, C = encW W := ⟨_, rfl⟩
  rw [← hC] at hU
  show Calls Try.prog 70 #[.agg (encW W).toArray] w fun e w' => e = .returned (.bool R) ∧ Below w.heap.size w w'
  rw [← hC]
  obtain ⟨HB0, y0, y1⟩ := FB.out U (Below.refl _ _)
  rw [hU] at y0 y1 FK HB0 FB
  have HUB2 := HB0
  clear hmine hR hm hS hv hU hC hW HUB
  cases g with
  | true =>
    by_cases h3 : v = []
    · rw [decide_eq_true h3] at hemp hok
      cases hg : goodK k with
      | true =>
        rw [hg] at CG hok
        by_cases h2 : m ≤ 200
        · have d2 : decide ((m : Int) ≤ 200) = true := decide_eq_true (by omega)
          have HR : Hid (R = true) := by rw [hok, decide_eq_true h2]; rfl
          clear hok h3 h2 hg
          go_enter Try.func70, Try.ntmps70
          go_wp2_with (first | (refine wpList_load_keyD 11 (by rfl) (by rfl) _ (by rfl) w.heap.size 0 (by rfl) k KY.out FK.out ?_) | (go_at_call 88; refine (CG.out _).mono ?_; rintro e w1 ⟨rfl, hb1⟩; obtain ⟨B1, r0, r1⟩ := FB.out w1 hb1; clear hb1))
          go_ret
          exact ⟨by rw [HR.out]; rfl, B1.out⟩
        · have d2 : decide ((m : Int) ≤ 200) = false := decide_eq_false (by omega)
          have HR : Hid (R = false) := by rw [hok, decide_eq_false h2]; rfl
          clear hok h3 h2 hg
          go_enter Try.func70, Try.ntmps70
          go_wp2_with (first | (refine wpList_load_keyD 11 (by rfl) (by rfl) _ (by rfl) w.heap.size 0 (by rfl) k KY.out FK.out ?_) | (go_at_call 88; refine (CG.out _).mono ?_; rintro e w1 ⟨rfl, hb1⟩; obtain ⟨B1, r0, r1⟩ := FB.out w1 hb1; clear hb1))
          go_ret
          exact ⟨by rw [HR.out]; rfl, B1.out⟩
      | false =>
        rw [hg] at CG hok
        have HR : Hid (R = false) := by rw [hok]; rfl
        clear hok h3 hg
        go_enter Try.func70, Try.ntmps70
        go_wp2_with (first | (refine wpList_load_keyD 11 (by rfl) (by rfl) _ (by rfl) w.heap.size 0 (by rfl) k KY.out FK.out ?_) | (go_at_call 88; refine (CG.out _).mono ?_; rintro e w1 ⟨rfl, hb1⟩; obtain ⟨B1, r0, r1⟩ := FB.out w1 hb1; clear hb1))
        go_ret
        exact ⟨by rw [HR.out]; rfl, B1.out⟩
    · rw [decide_eq_false h3] at hemp hok
      have HR : Hid (R = false) := by show R = false; rw [hok]; simp
      clear hok h3
      go_enter Try.func70, Try.ntmps70
      go_wp2
      go_ret
      exact ⟨by rw [HR.out]; rfl, HUB2.out⟩
  | false =>
    cases hg : goodK k with
    | true =>
      rw [hg] at CG hok
      by_cases h2 : m ≤ 200
      · have d2 : decide ((m : Int) ≤ 200) = true := decide_eq_true (by omega)
        have HR : Hid (R = true) := by rw [hok, decide_eq_true h2]; rfl
        clear hok h2 hg
        go_enter Try.func70, Try.ntmps70
        go_wp2_with (first | (refine wpList_load_keyD 11 (by rfl) (by rfl) _ (by rfl) w.heap.size 0 (by rfl) k KY.out FK.out ?_) | (go_at_call 88; refine (CG.out _).mono ?_; rintro e w1 ⟨rfl, hb1⟩; obtain ⟨B1, r0, r1⟩ := FB.out w1 hb1; clear hb1))
        go_ret
        exact ⟨by rw [HR.out]; rfl, B1.out⟩
      · have d2 : decide ((m : Int) ≤ 200) = false := decide_eq_false (by omega)
        have HR : Hid (R = false) := by rw [hok, decide_eq_false h2]; rfl
        clear hok h2 hg
        go_enter Try.func70, Try.ntmps70
        go_wp2_with (first | (refine wpList_load_keyD 11 (by rfl) (by rfl) _ (by rfl) w.heap.size 0 (by rfl) k KY.out FK.out ?_) | (go_at_call 88; refine (CG.out _).mono ?_; rintro e w1 ⟨rfl, hb1⟩; obtain ⟨B1, r0, r1⟩ := FB.out w1 hb1; clear hb1))
        go_ret
        exact ⟨by rw [HR.out]; rfl, B1.out⟩
    | false =>
      rw [hg] at CG hok
      have HR : Hid (R = false) := by rw [hok]; rfl
      clear hok hg
      go_enter Try.func70, Try.ntmps70
      go_wp2_with (first | (refine wpList_load_keyD 11 (by rfl) (by rfl) _ (by rfl) w.heap.size 0 (by rfl) k KY.out FK.out ?_) | (go_at_call 88; refine (CG.out _).mono ?_; rintro e w1 ⟨rfl, hb1⟩; obtain ⟨B1, r0, r1⟩ := FB.out w1 hb1; clear hb1))
      go_ret
      exact ⟨by rw [HR.out]; rfl, B1.out⟩
/-- What GoodList's rounds hold. -/
structure GoodR (w u : World) (l : List Wrt) (n : Nat) : Prop where
  below : Below w.heap.size w u
  set : ∃ c, KSet u w.heap.size c ((l.take n).map (·.k)) ∧ c ≤ n
  all : ∀ W ∈ l.take n, okW W = true
theorem GoodR.round {w u : World} {l : List Wrt} {n : Nat} (h : GoodR w u l n) {u2 : World} (hb : Below u.heap.size u u2) : GoodR w u2 l n :=
  ⟨h.below.trans (hb.mono h.below.size), by obtain ⟨c, h1, h2⟩ := h.set; exact ⟨c, h1.past hb, h2⟩, h.all⟩
theorem may_all {l : List Wrt} : mayW l 1 = true ↔ (1 ≤ l.length ∧ l.length ≤ 16) ∧ (∀ W ∈ l, okW W = true) ∧ (l.map (·.k)).Nodup := by
  unfold mayW List.Nodup
  simp only [Bool.and_eq_true, decide_eq_true_eq, List.all_eq_true, List.pairwise_map, and_assoc]
  unfold okW
  simp only [Bool.and_eq_true, decide_eq_true_eq, and_assoc]
set_option maxHeartbeats 4000000 in
set_option maxRecDepth 4000 in
theorem sgoods_any (a : Option Addr) (N cap : Nat) (l : List Wrt) (w : World) (hl : l.length = N) (hc : N ≤ cap) (hN : N ≤ 1000000) (hat : WrtsAt w a l) :
    Calls Try.prog 32 #[.slice a N cap] w fun e w' => e = .returned (.bool (mayW l 1)) ∧ Below w.heap.size w w' := by
  obtain ⟨R, hR⟩ : ∃ R, R = mayW l 1 := ⟨_, rfl⟩
  rw [← hR]
  have hmay := may_all (l := l)
  rw [← hR, hl] at hmay
  by_cases h0 : N = 0
  · have HR : Hid (R = false) := by
      cases R with
      | false => rfl
      | true => exfalso; have := (hmay.1 rfl).1.1; omega
    subst h0
    clear hmay hR hat hl
    go_enter Try.func32, Try.ntmps32
    go_wp2
    go_ret
    exact ⟨by rw [HR.out]; rfl, Below.refl _ _⟩
  by_cases h16 : 16 < N
  · have HR : Hid (R = false) := by
      cases R with
      | false => rfl
      | true => exfalso; have := (hmay.1 rfl).1.2; omega
    have d1 : ¬ ((N : Int) = 0) := by omega
    have d2 : (16 : Int) < (N : Int) := by omega
    clear hmay hR hat hl
    go_enter Try.func32, Try.ntmps32
    go_wp2
    go_ret
    exact ⟨by rw [HR.out]; rfl, Below.refl _ _⟩
  have HL : Hid (l.length = N) := hl
  have HA : Hid (WrtsAt w a l) := hat
  have H0 : Hid (GoodR w (w.alloc (.map #[] 0)) l 0) := ⟨(Below.refl _ _).alloc (Nat.le_refl _) _, ⟨0, by rw [List.take_zero]; exact KSet.made w, Nat.le_refl _⟩, fun W hW => by simp at hW⟩
  have HM : Hid (R = true ↔ (1 ≤ N ∧ N ≤ 16) ∧ (∀ W ∈ l, okW W = true) ∧ (l.map (·.k)).Nodup) := hmay
  have d1 : ¬ ((N : Int) = 0) := by omega
  have d2 : ¬ (16 : Int) < (N : Int) := by omega
  have hmm := @run_makeMap Try.prog
  clear hmay hR hat hl
  go_enter Try.func32, Try.ntmps32
  go_wp2
  generalize hU : w.alloc (.map #[] 0) = u at *
  clear hU hmm
  go_loopw [17] (fun i wr => ∃ n : Nat, n ≤ N ∧ i = .int .i64 n ∧ Hid (GoodR w wr l n)) (fun i _ => N - (intOf i).toNat)
  case atStart => exact ⟨0, Nat.zero_le _, rfl, H0⟩
  case round =>
    obtain ⟨n, hn, rfl, HS⟩ := hrel
    have hn0 : (0 : Int) ≤ (n : Int) := by omega
    by_cases hlt : n < N
    · have h1 : (n : Int) < (N : Int) := by omega
      obtain ⟨W, hW⟩ : ∃ W, l[n]? = some W := ⟨_, List.getElem?_eq_getElem (by rw [HL.out]; exact hlt)⟩
      obtain ⟨b, o, rfl, hwa, hwo⟩ := (HA.out.past (w' := wr) HS.out.below).wrt hW
      have HWA : Hid (WrtAt wr b (o + n * 18) W) := hwa
      have HT : Hid (l.take (n + 1) = l.take n ++ [W]) := by show _ = _; rw [List.take_add_one, hW]; rfl
      have HWM : Hid (W ∈ l) := List.mem_of_getElem? hW
      have KW : Hid (Ky W.k) := hwo.key
      have CG : Hid (∀ u, Calls Try.prog 70 #[wv W] u fun e w' => e = .returned (.bool (okW W)) ∧ Below u.heap.size u w') := fun u => sgoodw_any W hwo u
      have hmine := WrtMine.made wr 36 zeroW zeroW_ky
      obtain ⟨hk1, hb1, hz1⟩ := laid_wrt wr 36 (W := W) hwo.key
      rw [zeroW_cells] at hmine hk1 hb1 hz1
      have HMI : Hid _ := hmine
      have HK1 : Hid _ := hk1
      have H1 : Hid (GoodR w _ l n) := HS.out.round hb1
      clear hmine hk1 hb1 hz1 hwa hwo hW
      cases hok : okW W with
      | false =>
        rw [hok] at CG
        have HR : Hid (R = false) := by
          cases hR : R with
          | false => rfl
          | true =>
            have := (HM.out.1 hR).2.1 W HWM.out
            rw [hok] at this; cases this
        clear hok
        go_wp2_with (first | (have hgo := HWA.out; clear hgo; refine wpList_load_wrt 20 (by rfl) (by rfl) _ (by rfl) b (o + n * 18) (by rfl) W KW.out HWA.out ?_) | (have hgo := HMI.out; clear hgo; refine wpList_store_wrt (.tmp 5) (by rfl) _ (by rfl) wr.heap.size 0 zeroW W (by rfl) (by rfl) KW.out HMI.out ?_; intro u2 hu; rw [← hu] at HK1 H1; clear hu HMI HWA) | (have hgo := HK1.out; clear hgo; refine wpList_load_wrt 21 (by rfl) (by rfl) _ (by rfl) wr.heap.size 0 (by rfl) W KW.out HK1.out.at_ ?_) | (go_at_call 70; refine (CG.out _).mono ?_; rintro e w3 ⟨rfl, hb3⟩; have H3 : Hid (GoodR w w3 l n) := H1.out.round hb3; clear hb3))
        go_ret
        exact ⟨by rw [HR.out]; rfl, H3.out.below⟩
      | true =>
        rw [hok] at CG
        have HOK : Hid (okW W = true) := hok
        clear hok
        go_wp2_with (first | (have hgo := HWA.out; clear hgo; refine wpList_load_wrt 20 (by rfl) (by rfl) _ (by rfl) b (o + n * 18) (by rfl) W KW.out HWA.out ?_) | (have hgo := HMI.out; clear hgo; refine wpList_store_wrt (.tmp 5) (by rfl) _ (by rfl) wr.heap.size 0 zeroW W (by rfl) (by rfl) KW.out HMI.out ?_; intro u2 hu; rw [← hu] at HK1 H1; clear hu HMI HWA) | (have hgo := HK1.out; clear hgo; refine wpList_load_wrt 21 (by rfl) (by rfl) _ (by rfl) wr.heap.size 0 (by rfl) W KW.out HK1.out.at_ ?_) | (go_at_call 70; refine (CG.out _).mono ?_; rintro e w3 ⟨rfl, hb3⟩; have H3 : Hid (GoodR w w3 l n) := H1.out.round hb3; have HK3 : Hid (KeyAt w3 wr.heap.size 0 W.k) := (HK1.out.past hb3).at_.key KW.out; clear hb3 HK1 H1) | (have hgo := HK3.out; clear hgo; refine wpList_load_key (by rfl) _ (by rfl) wr.heap.size 0 (by rfl) W.k KW.out HK3.out ?_) | (have hgo := HK3.out; clear hgo; obtain ⟨c, hcs, hcn⟩ := H3.out.set; refine wpList_store_set (by rfl) _ _ _ 106 (by rfl) 108 Try.underlying106 w.heap.size c ((l.take n).map (·.k)) (by rfl) hcs (by omega) W.k KW.out (by rfl) (by rfl) ?_; intro u3 c' hset3 hc3 htn; have H4 : Hid (GoodR w u3 l (n + 1)) := ⟨H3.out.below.grown htn.grown H3.out.below.size (fun j e => by injection e with e; rw [← e]; exact Nat.le_refl _), ⟨c', by rw [HT.out, List.map_append]; exact hset3, by omega⟩, fun V hV => by rw [HT.out] at hV; rcases List.mem_append.1 hV with e | e; exact H3.out.all V e; simp at e; rw [e]; exact HOK.out⟩; clear hset3 hc3 htn hcs hcn H3 HK3))
        go_roundw
        case rel => exact ⟨n + 1, by omega, by go_num, H4⟩
        case measure => simp [intOf]; omega
    · obtain rfl : n = N := by omega
      have HT : Hid (l.take n = l) := List.take_of_length_le (by rw [HL.out]; exact Nat.le_refl _)
      obtain ⟨c, hcs, hcn⟩ := HS.out.set
      rw [HT.out] at hcs
      have hlen := fun ty => hcs.len Try.underlying106 ty
      have hcount := hcs.count
      rw [List.length_map, HL.out] at hcount
      have HR : Hid (R = decide (c = n)) := by
        show R = _
        rw [Bool.eq_iff_iff, HM.out, decide_eq_true_eq, hcount]
        exact ⟨fun e => e.2.2, fun e => ⟨⟨by omega, by omega⟩, fun W hW => HS.out.all W (by rw [HT.out]; exact hW), e⟩⟩
      clear hcount hcs
      go_wp2_with ((with_reducible show wpList _ _ _ (Oper.mk (some 30) _ _ _ _ _ :: _) _ _); refine wpList_len_is 30 (by rfl) (by rfl) _ 106 (by rfl) w.heap.size _ (by rfl) hlen ?_)
      go_ret
      refine ⟨?_, HS.out.below⟩
      rw [HR.out]
      by_cases e : c = n
      · simp [e]
      · simp [e]; omega
end Go.Proofs.Ytmiafadmcpmjgaa

