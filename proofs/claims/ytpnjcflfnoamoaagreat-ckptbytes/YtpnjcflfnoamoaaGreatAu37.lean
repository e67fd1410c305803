/-
  What package key answers: Cmp, textLen, Good, Text, Sum, Within, Of.
  What package key answers: Text, Sum, Within, Of.
  Lists of keys: lists that lie somewhere, lists that the call made itself.
  A map whose keys are keys and whose values say nothing: what a store into it gives; keys read and stored whole inside a fence.
-/
import Derived.Test.YtpnjcflfnoamoaaGreatAu19
import Derived.Deep.QuietTactic
import Derived.Sort.Grow
import Derived.Test.YtpnjcflfnoamoaaGreatBase
import Derived.Maps.RangeWalk
import Derived.Maps.OwnOps
import Derived.DeepKeys4
import Derived.RangeFuncNested
import Derived.Sort.MapsRangeIn
import Derived.Maps.AppendAt
import Derived.RangeFuncBox
namespace Go.Proofs.YtpnjcflfnoamoaaGreat
open Go.RowKit
open Go.Sort (grow grow_grow alloc_eq_grow)
set_option linter.unusedVariables false

set_option maxHeartbeats 1000000 in
/-- Cmp, and all that it leaves. -/
theorem kcmp_to (a b : List Int) (ha : Ky a) (hb : Ky b) (w : World) :
    Calls Tryz.prog 58 #[kv a, kv b] w fun e w' => e = .returned (.int .i64 (lexC a b)) ∧ ∃ q, w' = ((w.alloc (.cells (kcs a) 57)).alloc (.cells (kcs b) 57)).drewN q := by
  have HA : Hid (KeyAt ((w.alloc (.cells (kcs a) 57)).alloc (.cells (kcs b) 57)) w.heap.size 0 a) := (KeyAt.made w 57 a ha).alloc _
  have HC : Hid (KeyAt ((w.alloc (.cells (kcs a) 57)).alloc (.cells (kcs b) 57)) (w.heap.size + 1) 0 b) := by
    have := KeyAt.made (w.alloc (.cells (kcs a) 57)) 57 b hb
    rw [World.size_alloc] at this
    exact this
  have CC : Hid (∀ u, u.heap = ((w.alloc (.cells (kcs a) 57)).alloc (.cells (kcs b) 57)).heap → Calls Tryz.prog 89 #[.slice (some ⟨w.heap.size, 0, none⟩) 16 16, .slice (some ⟨w.heap.size + 1, 0, none⟩) 16 16] u fun e w' => e = .returned (.int .i64 (lexC a b)) ∧ w' = u) :=
    fun u hu => compare_any u _ _ a b ha hb (HA.out.same hu) (HC.out.same hu)
  clear ha hb HA HC
  go_enter Tryz.func58, Tryz.ntmps58
  go_wp2
  go_quiet ((go_at_call 89; refine Calls.quiet_of_same (CC.out _ rfl)))
  go_wp2
  go_ret
  exact ⟨rfl, _, rfl⟩
theorem kcmp_any (a b : List Int) (ha : Ky a) (hb : Ky b) (w : World) :
    Calls Tryz.prog 58 #[kv a, kv b] w fun e w' => e = .returned (.int .i64 (lexC a b)) ∧ Below w.heap.size w w' :=
  (kcmp_to a b ha hb w).mono fun e w' ⟨h1, q, h2⟩ => ⟨h1, by rw [h2]; exact below_dN (((Below.refl _ _).alloc (Nat.le_refl _) _).alloc (by simp) _) q⟩
theorem ktlen_any (k : List Int) (hk : Ky k) (w : World) :
    Calls Tryz.prog 112 #[kv k] w fun e w' => e = .returned (.int .i64 ((txK k).length : Int)) ∧ Below w.heap.size w w' := by
  have HA : Hid (KeyAt (w.alloc (.cells (kcs k) 57)) w.heap.size 0 k) := KeyAt.made w 57 k hk
  have HB : Hid (Below w.heap.size w (w.alloc (.cells (kcs k) 57))) := (Below.refl _ _).alloc (Nat.le_refl _) _
  have CI := bindex_any _ _ k hk HA.out
  have hle : (txK k).length ≤ 16 := by rw [← hk.len]; exact txK_le k
  generalize (txK k).length = T at CI hle ⊢
  clear hk HA
  by_cases h : T < 16
  · rw [if_pos h] at CI
    have h0 : (0 : Int) ≤ (T : Int) := by omega
    go_enter Tryz.func112, Tryz.ntmps112
    go_wp2_with (go_at_call 132; refine CI.mono ?_; rintro e w1 ⟨rfl, rfl⟩)
    go_ret
    exact ⟨rfl, HB.out⟩
  · rw [if_neg h] at CI
    obtain rfl : T = 16 := by omega
    go_enter Tryz.func112, Tryz.ntmps112
    go_wp2_with (go_at_call 132; refine CI.mono ?_; rintro e w1 ⟨rfl, rfl⟩)
    go_ret
    exact ⟨rfl, HB.out⟩
theorem good_tx {k : List Int} (hk : Ky k) : goodK k = true ↔ ((txK k).length ≠ 0 ∧ ∀ i, (txK k).length ≤ i → i < 16 → k.getD i 0 = 0) := by
  have hl := hk.len
  have h1 : (txK k).length ≠ 0 ↔ k.getD 0 0 ≠ 0 := by
    cases k with
    | nil => simp at hl
    | cons a r =>
      by_cases ha : a = 0
      · simp [txK, ha]
      · simp [txK, ha]
  have h2 : (∀ z ∈ k.drop (txK k).length, z = 0) ↔ ∀ i, (txK k).length ≤ i → i < 16 → k.getD i 0 = 0 := by
    constructor
    · intro h i h3 h4
      refine h _ ?_
      have e : k.getD i 0 = (k.drop (txK k).length)[i - (txK k).length]'(by simp; omega) := by
        rw [List.getElem_drop]
        have : i < k.length := by omega
        simp [List.getD, this, show (txK k).length + (i - (txK k).length) = i by omega]
      rw [e]
      exact List.getElem_mem _
    · intro h z hz
      obtain ⟨j, hj, rfl⟩ := List.getElem_of_mem hz
      simp at hj
      rw [List.getElem_drop]
      have := h ((txK k).length + j) (by omega) (by omega)
      have e : (txK k).length + j < k.length := by omega
      simpa [List.getD, e] using this
  unfold goodK
  rw [decide_eq_true_iff, h1, h2]
set_option maxHeartbeats 1000000 in
theorem kgood_any (k : List Int) (hk : Ky k) (w : World) :
    Calls Tryz.prog 97 #[kv k] w fun e w' => e = .returned (.bool (goodK k)) ∧ Below w.heap.size w w' := by
  have HK : Hid (Ky k) := hk
  have CT : Hid (∀ u, Calls Tryz.prog 112 #[kv k] u fun e w' => e = .returned (.int .i64 ((txK k).length : Int)) ∧ Below u.heap.size u w') := fun u => ktlen_any k hk u
  have HA : Hid (KeyAt (w.alloc (.cells (kcs k) 57)) w.heap.size 0 k) := KeyAt.made w 57 k hk
  have HB : Hid (Below w.heap.size w (w.alloc (.cells (kcs k) 57))) := (Below.refl _ _).alloc (Nat.le_refl _) _
  have hle : (txK k).length ≤ 16 := by rw [← hk.len]; exact txK_le k
  have HG : Hid (goodK k = true ↔ ((txK k).length ≠ 0 ∧ ∀ i, (txK k).length ≤ i → i < 16 → k.getD i 0 = 0)) := good_tx hk
  generalize (txK k).length = T at CT HG hle
  clear hk
  by_cases hT : T = 0
  · subst hT
    have HR : Hid (goodK k = false) := by
      show _ = _
      cases hg : goodK k
      · rfl
      · exact absurd rfl (HG.out.1 hg).1
    go_enter Tryz.func97, Tryz.ntmps97
    go_wp2_with (first | (refine wpList_load_key (by rfl) _ (by rfl) w.heap.size 0 (by rfl) k HK.out HA.out ?_) | (go_at_call 112; refine (CT.out _).mono ?_; rintro e w1 ⟨rfl, hb1⟩; have HB1 : Hid (Below w.heap.size w w1) := HB.out.trans (hb1.mono HB.out.size); clear hb1))
    go_ret
    exact ⟨by rw [HR.out]; rfl, HB1.out⟩
  · have h0 : (0 : Int) ≤ (T : Int) := by omega
    have h16 : (T : Int) ≤ 16 := by omega
    have hb0 : ((T : Int) == 0) = false := by simpa using hT
    by_cases hT2 : T = 16
    · have HR : Hid (goodK k = true) := HG.out.2 ⟨hT, fun i h1 h2 => by omega⟩
      subst hT2
      clear hT
      go_enter Tryz.func97, Tryz.ntmps97
      go_wp2_with (first | (refine wpList_load_key (by rfl) _ (by rfl) w.heap.size 0 (by rfl) k HK.out HA.out ?_) | (go_at_call 112; refine (CT.out _).mono ?_; rintro e w1 ⟨rfl, hb1⟩; have HA1 : Hid (KeyAt w1 w.heap.size 0 k) := HA.out.past hb1; have HB1 : Hid (Below w.heap.size w w1) := HB.out.trans (hb1.mono HB.out.size); clear hb1))
      refine wp_loop_rounds 1 ?_
      rw [rounds_succ]
      go_wp2
      go_ret
      exact ⟨by rw [HR.out]; rfl, HB1.out⟩
    · have hne : ¬ 16 = T := fun h => hT2 h.symm
      have hlt : T < 16 := by omega
      have HT0 : Hid (¬ T = 0) := hT
      clear hT hT2
      go_enter Tryz.func97, Tryz.ntmps97
      go_wp2_with (first | (refine wpList_load_key (by rfl) _ (by rfl) w.heap.size 0 (by rfl) k HK.out HA.out ?_) | (go_at_call 112; refine (CT.out _).mono ?_; rintro e w1 ⟨rfl, hb1⟩; have HA1 : Hid (KeyAt w1 w.heap.size 0 k) := HA.out.past hb1; have HB1 : Hid (Below w.heap.size w w1) := HB.out.trans (hb1.mono HB.out.size); clear hb1))
      go_loop [13] (fun i => ∃ n : Nat, n ≤ 16 - T ∧ i = .int .i64 n ∧ Hid (∀ i, T ≤ i → i < T + n → k.getD i 0 = 0)) (fun i => 16 - T - (intOf i).toNat)
      case atStart => exact ⟨0, Nat.zero_le _, rfl, by intro i h1 h2; omega⟩
      case round =>
        obtain ⟨n, hn, rfl, HZ⟩ := hrel
        have hn0 : (0 : Int) ≤ (n : Int) := by omega
        by_cases hlt2 : n < 16 - T
        · have hc := HA1.out.cell0 (T + n) (by omega)
          have hb := HK.out.at (T + n)
          have h1 : (n : Int) < ((16 - T : Nat) : Int) := by omega
          obtain ⟨Z, hZ⟩ : ∃ Z, Z = k.getD (T + n) 0 := ⟨_, rfl⟩
          rw [← hZ] at hc hb
          by_cases hz : Z = 0
          · subst hz
            have HZ' : Hid (∀ i, T ≤ i → i < T + (n + 1) → k.getD i 0 = 0) := by
              intro i h2 h3
              by_cases h4 : i < T + n
              · exact HZ.out i h2 h4
              · obtain rfl : i = T + n := by omega
                exact hZ.symm
            clear hZ
            go_wp2
            go_round
            case rel => exact ⟨n + 1, by omega, by go_num, HZ'⟩
            case measure => simp [intOf]; omega
          · have hzb : (Z != 0) = true := bne_iff_ne.2 hz
            have HR : Hid (goodK k = false) := by
              show _ = _
              cases hg : goodK k
              · rfl
              · exact absurd (hZ.trans ((HG.out.1 hg).2 (T + n) (by omega) (by omega))) hz
            clear hZ hz
            go_wp2
            go_ret
            exact ⟨by rw [HR.out]; rfl, HB1.out⟩
        · obtain rfl : n = 16 - T := by omega
          have HR : Hid (goodK k = true) := HG.out.2 ⟨HT0.out, fun i h1 h2 => HZ.out i h1 (by omega)⟩
          have h1 : ¬ ((16 - T : Nat) : Int) < ((16 - T : Nat) : Int) := by omega
          go_wp2
          go_ret
          exact ⟨by rw [HR.out]; rfl, HB1.out⟩
end Go.Proofs.YtpnjcflfnoamoaaGreat

namespace Go.Proofs.YtpnjcflfnoamoaaGreat
open Go.RowKit
set_option linter.unusedVariables false

end Go.Proofs.YtpnjcflfnoamoaaGreat

namespace Go.Proofs.YtpnjcflfnoamoaaGreat
open Go.RowKit
set_option linter.unusedVariables false

theorem keyEl : ElT 50 57 16 16 := ElT.mk' (z := kv zeroK) Tryz.underlying50 (by kernel_rfl) (by kernel_rfl) (by decide) (by decide)
/-- Keys that lie one behind the other. -/
structure KeysAt (w : World) (a : Option Addr) (l : List (List Int)) : Prop where
  lies : Lies w a (l.flatMap kc)
  kys : Kys l
  nil : a = none → l = []
theorem KeysAt.past {w w' : World} {a : Option Addr} {l : List (List Int)} (h : KeysAt w a l) (hb : Below w.heap.size w w') : KeysAt w' a l := ⟨h.lies.past hb, h.kys, h.nil⟩
theorem KeysAt.same {w w' : World} {a : Option Addr} {l : List (List Int)} (h : KeysAt w a l) (he : w'.heap = w.heap) : KeysAt w' a l :=
  ⟨fun sa hs => ⟨(h.lies sa hs).1, fun j u hj => by rw [same_heap he]; exact (h.lies sa hs).2 j u hj⟩, h.kys, h.nil⟩
/-- The key at place i. -/
theorem KeysAt.key {w : World} {a : Option Addr} {l : List (List Int)} (h : KeysAt w a l) {i : Nat} (hi : i < l.length) : ∃ b o, a = some ⟨b, o, none⟩ ∧ KeyAt w b (o + i * 16) (l.getD i []) ∧ Ky (l.getD i []) := by
  cases a with
  | none => rw [h.nil rfl] at hi; simp at hi
  | some sa =>
    obtain ⟨b, o, sp⟩ := sa
    have hs : sp = none := (h.lies _ rfl).1 (fun e => by
      have h1 := flat_len l h.kys.len
      rw [e] at h1
      simp at h1
      omega)
    subst hs
    have hk := h.kys.get hi
    have hl : Lies w (some ⟨b, o + i * 16, none⟩) (kc (l.getD i [])) := h.lies.el h.kys.len (k := i) (by simp [List.getD, hi])
    refine ⟨b, o, rfl, ⟨fun j hj => ?_⟩, hk⟩
    refine hl.at j _ ?_
    have hjl : j < (l.getD i []).length := by rw [hk.len]; exact hj
    generalize l.getD i [] = x at hjl
    unfold kc
    rw [List.getElem?_map, List.getElem?_eq_getElem hjl]
    simp [List.getD, hjl]
/-- Keys in a list that the call made itself. -/
structure KeysMine (w : World) (B : Nat) (v : Value) (l : List (List Int)) : Prop where
  own : w.ownsRow B 57 16 v l.length (l.flatMap kc)
  kys : Kys l
theorem KeysMine.past {w w' : World} {B : Nat} {v : Value} {l : List (List Int)} (h : KeysMine w B v l) (hb : Below w.heap.size w w') : KeysMine w' B v l := ⟨own_below h.own hb (Nat.le_refl _), h.kys⟩
end Go.Proofs.YtpnjcflfnoamoaaGreat

namespace Go.Proofs.YtpnjcflfnoamoaaGreat
open Go.RowKit
open Go.Maps (Keyed)
set_option linter.unusedVariables false

theorem kLaid : laidOutB Tryz.prog = true := by kernel_rfl
theorem kRow : (57 : TypeId) < Tryz.prog.types.size := of_decide_eq_true (by kernel_rfl)
theorem kWide : (match Tryz.prog.underlying 57 with | some (.array _ _) | some (.struct _) => true | _ => false) = true := by rw [Tryz.underlying57]
set_option maxRecDepth 1000000 in
theorem kLaw : Keyed Tryz.prog 57 := Maps.Keyed.of_law (deep_law_laid kLaid (m := 2) (by omega) kRow (by kernel_rfl) kWide)
theorem mapM_all {α β : Type} {f : α → Option β} {g : α → β} : ∀ {l : List α}, (∀ x ∈ l, f x = some (g x)) → l.mapM f = some (l.map g)
  | [], _ => rfl
  | a :: r, h => by
    have hy := h a (by simp)
    have hys := mapM_all (l := r) (fun x hx => h x (by simp [hx]))
    simp [List.mapM_cons, hy, hys]
/-- A key, as a map's key. -/
def kyl (k : List Int) : Lit := .string (keyBytes (k.map (Lit.int .u8)))
theorem kyl_mk {k : List Int} (hk : Ky k) : keyOf Tryz.prog 57 (kv k) = some (kyl k) := by
  have h1 : Tryz.prog.keyType 57 = true := by kernel_rfl
  have h2 : Tryz.prog.cellsOf 57 = 16 := by kernel_rfl
  have h3 : Tryz.prog.cellsOf 5 = 1 := by kernel_rfl
  have hl := hk.len
  have h4 : (kv k).formed Tryz.prog 57 = true := by simp [Value.formed, Tryz.underlying57, h2, hl]
  obtain ⟨d, hd⟩ : ∃ d, Tryz.prog.types.size + 1 = d + 2 := ⟨Tryz.prog.types.size - 1, by have : 1 ≤ Tryz.prog.types.size := of_decide_eq_true (by kernel_rfl); omega⟩
  unfold keyOf
  rw [Tryz.underlying57]
  simp only [h1, h4, Bool.and_self, if_true]
  have hls : Tryz.prog.keyLits (Tryz.prog.types.size + 1) 57 (kv k).cells.toList = some (k.map (Lit.int .u8)) := by
    rw [hd]
    unfold Program.keyLits
    rw [Tryz.underlying57]
    have e : (kv k).cells.toList = k.map (Value.int .u8) := by simp [Value.cells]
    simp only [e, h2, h3, List.length_map, hl, if_true, Nat.mul_one]
    have hys : (List.range 16).mapM (fun i => Tryz.prog.keyLits (d + 1) 5 (((k.map (Value.int .u8)).drop i).take 1)) = some ((List.range 16).map fun i => [Lit.int .u8 (k.getD i 0)]) := mapM_all fun i hi => by
      have hi' : i < k.length := by rw [hl]; exact List.mem_range.1 hi
      have hb := hk.bytes k[i] (List.getElem_mem hi')
      have e2 : ((k.map (Value.int .u8)).drop i).take 1 = [.int .u8 k[i]] := by
        rw [List.drop_eq_getElem_cons (by simpa using hi')]
        simp
      rw [e2]
      unfold Program.keyLits
      rw [Tryz.underlying5]
      have hw : (Lit.int .u8 k[i]).wf = true := by simp [Lit.wf]; exact hb
      have e3 : k.getD i 0 = k[i] := by simp [List.getD, hi']
      rw [e3]
      simp [hw]
    rw [hys]
    have e4 : ((List.range 16).map fun i => [Lit.int .u8 (k.getD i 0)]).flatten = k.map (Lit.int .u8) := by
      have e5 : k = (List.range 16).map fun i => k.getD i 0 := by
        apply List.ext_getElem (by simp [hl])
        intro i h1 h2
        simp [List.getD, h1]
      conv => rhs; rw [e5]
      rw [List.map_map, ← List.flatMap_def, ← List.map_eq_flatMap]
      rfl
    rw [Option.map_some, e4]
  rw [hls]
  rfl
theorem kv_inj {a b : List Int} (h : kv a = kv b) : a = b := by
  injection h with h
  have h : a.map (Value.int .u8) = b.map (Value.int .u8) := by simpa using congrArg Array.toList h
  exact List.map_inj_right (fun x y e => by injection e) |>.1 h
theorem kyl_inj {a b : List Int} (ha : Ky a) (hb : Ky b) (h : kyl a = kyl b) : a = b := kv_inj (kLaw.inj (kyl_mk ha) (h ▸ kyl_mk hb))
theorem kyl_key {k : List Int} (hk : Ky k) : WideAt.IsKeyLit (kyl k) := kLaw.key (kyl_mk hk)
theorem kyl_back {v : Value} {k : List Int} (hk : Ky k) (h : keyOf Tryz.prog 57 v = some (kyl k)) : v = kv k := kLaw.inj h (kyl_mk hk)
/-- Values that say nothing. -/
def anyE (_ : Value) : Option (DataW Unit × List MemPlace) := some (.lit (.bool true), [])
/-- Block m holds a map of c entries, whose keys are l's. -/
def KSet (u : World) (m c : Nat) (l : List (List Int)) : Prop :=
  ∃ D : DataW Unit, u.ownsMap Tryz.prog 57 anyE m c D ∧ Maps.size D = c ∧ Kys l ∧ ∀ x, Maps.has D x = true ↔ ∃ k ∈ l, kyl k = x
theorem KSet.lt {u : World} {m c : Nat} {l : List (List Int)} (h : KSet u m c l) : m < u.heap.size := by obtain ⟨D, h1, _⟩ := h; exact h1.lt
theorem KSet.kept {u u' : World} {m c : Nat} {l : List (List Int)} (h : KSet u m c l) (hb : u'.heap[m]? = u.heap[m]?) : KSet u' m c l := by
  obtain ⟨D, ⟨es, clock, h1, h2⟩, h3⟩ := h
  exact ⟨D, ⟨es, clock, hb.trans h1, h2⟩, h3⟩
theorem KSet.past {u u' : World} {m c : Nat} {l : List (List Int)} (h : KSet u m c l) (hb : Below u.heap.size u u') : KSet u' m c l := h.kept (hb.block m h.lt)
theorem KSet.made (u : World) : KSet (u.alloc (.map #[] 0)) u.heap.size 0 [] :=
  ⟨.map [], World.ownsMap_made _ _ _ _, rfl, fun k hk => by simp at hk, fun x => by simp [Maps.has_eq]⟩
theorem kowns_size {u : World} {m n : Nat} {D : DataW Unit} (h : u.ownsMap Tryz.prog 57 anyE m n D) : u.ownsMap Tryz.prog 57 anyE m (Maps.size D) D := by
  obtain ⟨es, clock, h1, h2, h3, rfl⟩ := h
  exact ⟨es, clock, h1, h2, by simp [Maps.size, length_sorted], rfl⟩
/-- 'm[k] = struct{}{}'. -/
theorem KSet.store {u : World} {m c : Nat} {l : List (List Int)} (h : KSet u m c l) (hc : c ≤ 1000000) {t e : TypeId} (ht : Tryz.prog.underlying t = some (.map 57 e)) (k : List Int) (hk : Ky k) :
    ∃ u' c', (Instr.mapUpdate t (.map (some m)) (kv k) (.agg #[])).run Tryz.prog u = .ok () u' ∧ KSet u' m c' (l ++ [k]) ∧ c' ≤ c + 1 ∧ u.mapTurned u' m := by
  obtain ⟨D, h1, h2, h3, h4⟩ := h
  obtain ⟨u', hrun, h5, h6⟩ := h1.store kLaw ht (by unfold maxLen; omega) (kyl_mk hk) (val := .agg #[]) (d := .lit (.bool true)) (ps := []) rfl
  refine ⟨u', Maps.size (D.put (kyl k) (.lit (.bool true))), hrun, ⟨_, kowns_size h5, rfl, ?_, fun x => ?_⟩, ?_, h6⟩
  · intro y hy
    rcases List.mem_append.1 hy with hy | hy
    · exact h3 y hy
    · simp at hy; subst hy; exact hk
  · by_cases e : x = kyl k
    · subst e
      rw [Maps.has_put_same h1.isMap (kyl_key hk)]
      exact ⟨fun _ => ⟨k, by simp, rfl⟩, fun _ => rfl⟩
    · rw [Maps.has_put_other e, h4]
      constructor
      · rintro ⟨y, hy, he⟩
        exact ⟨y, by simp [hy], he⟩
      · rintro ⟨y, hy, he⟩
        rcases List.mem_append.1 hy with hy | hy
        · exact ⟨y, hy, he⟩
        · simp at hy; subst hy; exact absurd he.symm e
  · rw [Maps.size_put (h1.tidy kLaw), h2]
    split <;> omega
theorem wpList_store_set {w : World} {ops : Array Oper} {rest : List Oper} {o : Oper} {a : Act} {Q : Exit → Act → World → Prop} (hg : o.guard = none) (m x v : Operand) (t : TypeId) (hop : o.op = Op.mapUpdate t m x v)
    (e : TypeId) (ht : Tryz.prog.underlying t = some (.map 57 e)) (b c : Nat) (l : List (List Int)) (hm : a.eval m = .map (some b)) (h : KSet w b c l) (hc : c ≤ 1000000) (k : List Int) (hk : Ky k) (hx : a.eval x = kv k) (hv : a.eval v = .agg #[])
    (hK : ∀ w' c', KSet w' b c' (l ++ [k]) → c' ≤ c + 1 → w.mapTurned w' b → wpList Tryz.prog ops Q rest (a.put o.dst undef) w') : wpList Tryz.prog ops Q (o :: rest) a w := by
  refine wpList_plain hg fun K' hK' => ?_
  obtain ⟨w', c', hrun, r1, r2, r3⟩ := h.store hc ht k hk
  unfold Oper.wp
  simp only [execOp, hop, hm, hx, hv, Sem.run_bind, hrun, Result.andThen]
  exact hK' _ _ (hK w' c' r1 r2 r3)
/-- A key is read whole, inside a fence. -/
theorem wpListIn_load_key {F : Fence} {n : Nat} {ops : Array Oper} {rest : List Oper} {op : Oper} {a : Act} {w : World} {Q : Exit → Act → World → Prop} (hgd : op.guard = none) (x : Operand) (ho : op.op = .load 57 x)
    (b o : Nat) (hx : a.eval x = .pointer (some ⟨b, o, none⟩)) (k : List Int) (hk : Ky k) (hat : KeyAt w b o k)
    (h : wpListIn F n Tryz.prog ops Q rest (a.put op.dst (kv k)) w) : wpListIn F n Tryz.prog ops Q (op :: rest) a w := by
  refine wpListIn_plain hgd fun K hK => ?_
  unfold Oper.wpIn
  refine ⟨by simp [Oper.about, ho], ?_⟩
  rw [Oper.semAt_plain F _ _ (by rw [ho]; intro c hc'; cases hc')]
  unfold execOp
  simp only [ho, hx, Instr.loadAt, Instr.sureAddr, Sem.run_bind, Sem.run_pure, Result.andThen_ok, run_loadVar_mid w b o 57 (k.map (Value.int .u8)) _ (hat.range hk) Tryz.underlying57 rfl (by rw [info_key, List.length_map, hk.len])]
  exact hK _ _ h
/-- A key is stored whole, inside a fence. -/
theorem wpListIn_store_key {F : Fence} {n : Nat} {ops : Array Oper} {rest : List Oper} {op : Oper} {a : Act} {w : World} {Q : Exit → Act → World → Prop} (hgd : op.guard = none) (x y : Operand) (ho : op.op = .store 57 x y)
    (b o : Nat) (k k' : List Int) (hx : a.eval x = .pointer (some ⟨b, o, none⟩)) (hy : a.eval y = kv k') (hk : Ky k') (hat : KeyMine w b o k)
    (h : ∀ u, u = w.setCells b o (k'.map (Value.int .u8)) → wpListIn F n Tryz.prog ops Q rest (a.put op.dst undef) u) : wpListIn F n Tryz.prog ops Q (op :: rest) a w := by
  have hl : (kcs k').size = 16 := by simp [kcs, hk.len]
  refine wpListIn_plain hgd fun K hK => ?_
  unfold Oper.wpIn
  refine ⟨by simp [Oper.about, ho], ?_⟩
  rw [Oper.semAt_plain F _ _ (by rw [ho]; intro c hc'; cases hc')]
  unfold execOp
  simp only [ho, hx, hy, Instr.storeAt, Instr.sureAddr, Sem.run_bind, Sem.run_pure, Result.andThen_ok, run_storeVar_mid w b o 57 (kcs k') (by rw [hl]; exact hat.there) (by rw [info_key, hl]) (kcs_one k')]
  exact hK _ _ (h _ rfl)
/-- A new block that a key is laid into. -/
theorem laid_key (w : World) (T : TypeId) {k : List Int} (hk : Ky k) : KeyMine ((w.alloc (.cells (kcs zeroK) T)).setCells w.heap.size 0 (k.map (Value.int .u8))) w.heap.size 0 k ∧ Below w.heap.size w ((w.alloc (.cells (kcs zeroK) T)).setCells w.heap.size 0 (k.map (Value.int .u8))) ∧ ((w.alloc (.cells (kcs zeroK) T)).setCells w.heap.size 0 (k.map (Value.int .u8))).heap.size = w.heap.size + 1 :=
  ⟨(KeyMine.made w T zeroK zeroK_ky).store hk, below_cells (Nat.le_refl _) ((Below.refl _ _).alloc (Nat.le_refl _) _), by rw [size_cells]; simp⟩
theorem grown_none {w u : World} (h : Below w.heap.size w u) : w.grownBy u none := ⟨h.os, h.tape, h.output, h.size, fun k hk _ => h.block k hk⟩
theorem len_le_of_sub {α : Type} : ∀ {l m : List α}, l.Nodup → (∀ x ∈ l, x ∈ m) → l.length ≤ m.length
  | [], m, _, _ => Nat.zero_le _
  | a :: r, m, h, hs => by
    obtain ⟨h1, h2⟩ := List.nodup_cons.1 h
    obtain ⟨s, t, rfl⟩ := List.append_of_mem (hs a (by simp))
    have := len_le_of_sub (l := r) (m := s ++ t) h2 (fun x hx => by
      have hxm := hs x (by simp [hx])
      rcases List.mem_append.1 hxm with e | e
      · exact List.mem_append_left _ e
      · rcases List.mem_cons.1 e with e | e
        · exact absurd (e ▸ hx) h1
        · exact List.mem_append_right _ e)
    simp only [List.length_append, List.length_cons] at this ⊢
    omega
theorem len_eq_of_same {α : Type} {l m : List α} (hl : l.Nodup) (hm : m.Nodup) (h : ∀ x, x ∈ l ↔ x ∈ m) : l.length = m.length :=
  Nat.le_antisymm (len_le_of_sub hl (fun x hx => (h x).1 hx)) (len_le_of_sub hm (fun x hx => (h x).2 hx))
end Go.Proofs.YtpnjcflfnoamoaaGreat

