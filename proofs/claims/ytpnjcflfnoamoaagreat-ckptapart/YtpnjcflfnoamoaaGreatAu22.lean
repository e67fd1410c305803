/-
  What package key answers: Cmp, textLen, Good, Text, Sum, Within, Of.
  What package key answers: Text, Sum, Within, Of.
  Lists of keys: lists that lie somewhere, lists that the call made itself.
-/
import Derived.Test.YtpnjcflfnoamoaaGreatAu20
import Derived.Deep.QuietTactic
import Derived.Sort.Grow
import Derived.Test.YtpnjcflfnoamoaaGreatBase
namespace Go.Proofs.YtpnjcflfnoamoaaGreat
open Go.RowKit
open Go.Sort (grow grow_grow alloc_eq_grow)
set_option linter.unusedVariables false

set_option maxHeartbeats 1000000 in
/-- Cmp, and all that it leaves. -/
theorem kcmp_to (a b : List Int) (ha : Ky a) (hb : Ky b) (w : World) :
    Calls Tryz.prog 58 #[kv a, kv b] w fun e w' => e = .returned (.int .i64 (lexC a b)) ∧ ∃ q, w' = ((w.alloc (.cells (kcs a) 57)).alloc (.cells (kcs b) 57)).drewN q := by
  have HA : Hid (KeyAt ((w.alloc (.cells (kcs a) 57)).alloc (.cells (kcs b) 57)) w.heap.size 0 a) := (KeyAt.made w 57 a ha).alloc _
  have HC : Hid (KeyAt ((w.alloc (.cells (kcs a) 57)).alloc (.cells (kcs b) 57)) (w.heap.size + 1) 0 b) := by
    have := KeyAt.made (w.alloc (.cells (kcs a) 57)) 57 b hb
    rw [World.size_alloc] at this
    exact this
  have CC : Hid (∀ u, u.heap = ((w.alloc (.cells (kcs a) 57)).alloc (.cells (kcs b) 57)).heap → Calls Tryz.prog 89 #[.slice (some ⟨w.heap.size, 0, none⟩) 16 16, .slice (some ⟨w.heap.size + 1, 0, none⟩) 16 16] u fun e w' => e = .returned (.int .i64 (lexC a b)) ∧ w' = u) :=
    fun u hu => compare_any u _ _ a b ha hb (HA.out.same hu) (HC.out.same hu)
  clear ha hb HA HC
  go_enter Tryz.func58, Tryz.ntmps58
  go_wp2
  go_quiet ((go_at_call 89; refine Calls.quiet_of_same (CC.out _ rfl)))
  go_wp2
  go_ret
  exact ⟨rfl, _, rfl⟩
theorem kcmp_any (a b : List Int) (ha : Ky a) (hb : Ky b) (w : World) :
    Calls Tryz.prog 58 #[kv a, kv b] w fun e w' => e = .returned (.int .i64 (lexC a b)) ∧ Below w.heap.size w w' :=
  (kcmp_to a b ha hb w).mono fun e w' ⟨h1, q, h2⟩ => ⟨h1, by rw [h2]; exact below_dN (((Below.refl _ _).alloc (Nat.le_refl _) _).alloc (by simp) _) q⟩
theorem ktlen_any (k : List Int) (hk : Ky k) (w : World) :
    Calls Tryz.prog 112 #[kv k] w fun e w' => e = .returned (.int .i64 ((txK k).length : Int)) ∧ Below w.heap.size w w' := by
  have HA : Hid (KeyAt (w.alloc (.cells (kcs k) 57)) w.heap.size 0 k) := KeyAt.made w 57 k hk
  have HB : Hid (Below w.heap.size w (w.alloc (.cells (kcs k) 57))) := (Below.refl _ _).alloc (Nat.le_refl _) _
  have CI := bindex_any _ _ k hk HA.out
  have hle : (txK k).length ≤ 16 := by rw [← hk.len]; exact txK_le k
  generalize (txK k).length = T at CI hle ⊢
  clear hk HA
  by_cases h : T < 16
  · rw [if_pos h] at CI
    have h0 : (0 : Int) ≤ (T : Int) := by omega
    go_enter Tryz.func112, Tryz.ntmps112
    go_wp2_with (go_at_call 132; refine CI.mono ?_; rintro e w1 ⟨rfl, rfl⟩)
    go_ret
    exact ⟨rfl, HB.out⟩
  · rw [if_neg h] at CI
    obtain rfl : T = 16 := by omega
    go_enter Tryz.func112, Tryz.ntmps112
    go_wp2_with (go_at_call 132; refine CI.mono ?_; rintro e w1 ⟨rfl, rfl⟩)
    go_ret
    exact ⟨rfl, HB.out⟩
theorem good_tx {k : List Int} (hk : Ky k) : goodK k = true ↔ ((txK k).length ≠ 0 ∧ ∀ i, (txK k).length ≤ i → i < 16 → k.getD i 0 = 0) := by
  have hl := hk.len
  have h1 : (txK k).length ≠ 0 ↔ k.getD 0 0 ≠ 0 := by
    cases k with
    | nil => simp at hl
    | cons a r =>
      by_cases ha : a = 0
      · simp [txK, ha]
      · simp [txK, ha]
  have h2 : (∀ z ∈ k.drop (txK k).length, z = 0) ↔ ∀ i, (txK k).length ≤ i → i < 16 → k.getD i 0 = 0 := by
    constructor
    · intro h i h3 h4
      refine h _ ?_
      have e : k.getD i 0 = (k.drop (txK k).length)[i - (txK k).length]'(by simp; omega) := by
        rw [List.getElem_drop]
        have : i < k.length := by omega
        simp [List.getD, this, show (txK k).length + (i - (txK k).length) = i by omega]
      rw [e]
      exact List.getElem_mem _
    · intro h z hz
      obtain ⟨j, hj, rfl⟩ := List.getElem_of_mem hz
      simp at hj
      rw [List.getElem_drop]
      have := h ((txK k).length + j) (by omega) (by omega)
      have e : (txK k).length + j < k.length := by omega
      simpa [List.getD, e] using this
  unfold goodK
  rw [decide_eq_true_iff, h1, h2]
set_option maxHeartbeats 1000000 in
theorem kgood_any (k : List Int) (hk : Ky k) (w : World) :
    Calls Tryz.prog 97 #[kv k] w fun e w' => e = .returned (.bool (goodK k)) ∧ Below w.heap.size w w' := by
  have HK : Hid (Ky k) := hk
  have CT : Hid (∀ u, Calls Tryz.prog 112 #[kv k] u fun e w' => e = .returned (.int .i64 ((txK k).length : Int)) ∧ Below u.heap.size u w') := fun u => ktlen_any k hk u
  have HA : Hid (KeyAt (w.alloc (.cells (kcs k) 57)) w.heap.size 0 k) := KeyAt.made w 57 k hk
  have HB : Hid (Below w.heap.size w (w.alloc (.cells (kcs k) 57))) := (Below.refl _ _).alloc (Nat.le_refl _) _
  have hle : (txK k).length ≤ 16 := by rw [← hk.len]; exact txK_le k
  have HG : Hid (goodK k = true ↔ ((txK k).length ≠ 0 ∧ ∀ i, (txK k).length ≤ i → i < 16 → k.getD i 0 = 0)) := good_tx hk
  generalize (txK k).length = T at CT HG hle
  clear hk
  by_cases hT : T = 0
  · subst hT
    have HR : Hid (goodK k = false) := by
      show _ = _
      cases hg : goodK k
      · rfl
      · exact absurd rfl (HG.out.1 hg).1
    go_enter Tryz.func97, Tryz.ntmps97
    go_wp2_with (first | (refine wpList_load_key (by rfl) _ (by rfl) w.heap.size 0 (by rfl) k HK.out HA.out ?_) | (go_at_call 112; refine (CT.out _).mono ?_; rintro e w1 ⟨rfl, hb1⟩; have HB1 : Hid (Below w.heap.size w w1) := HB.out.trans (hb1.mono HB.out.size); clear hb1))
    go_ret
    exact ⟨by rw [HR.out]; rfl, HB1.out⟩
  · have h0 : (0 : Int) ≤ (T : Int) := by omega
    have h16 : (T : Int) ≤ 16 := by omega
    have hb0 : ((T : Int) == 0) = false := by simpa using hT
    by_cases hT2 : T = 16
    · have HR : Hid (goodK k = true) := HG.out.2 ⟨hT, fun i h1 h2 => by omega⟩
      subst hT2
      clear hT
      go_enter Tryz.func97, Tryz.ntmps97
      go_wp2_with (first | (refine wpList_load_key (by rfl) _ (by rfl) w.heap.size 0 (by rfl) k HK.out HA.out ?_) | (go_at_call 112; refine (CT.out _).mono ?_; rintro e w1 ⟨rfl, hb1⟩; have HA1 : Hid (KeyAt w1 w.heap.size 0 k) := HA.out.past hb1; have HB1 : Hid (Below w.heap.size w w1) := HB.out.trans (hb1.mono HB.out.size); clear hb1))
      refine wp_loop_rounds 1 ?_
      rw [rounds_succ]
      go_wp2
      go_ret
      exact ⟨by rw [HR.out]; rfl, HB1.out⟩
    · have hne : ¬ 16 = T := fun h => hT2 h.symm
      have hlt : T < 16 := by omega
      have HT0 : Hid (¬ T = 0) := hT
      clear hT hT2
      go_enter Tryz.func97, Tryz.ntmps97
      go_wp2_with (first | (refine wpList_load_key (by rfl) _ (by rfl) w.heap.size 0 (by rfl) k HK.out HA.out ?_) | (go_at_call 112; refine (CT.out _).mono ?_; rintro e w1 ⟨rfl, hb1⟩; have HA1 : Hid (KeyAt w1 w.heap.size 0 k) := HA.out.past hb1; have HB1 : Hid (Below w.heap.size w w1) := HB.out.trans (hb1.mono HB.out.size); clear hb1))
      go_loop [13] (fun i => ∃ n : Nat, n ≤ 16 - T ∧ i = .int .i64 n ∧ Hid (∀ i, T ≤ i → i < T + n → k.getD i 0 = 0)) (fun i => 16 - T - (intOf i).toNat)
      case atStart => exact ⟨0, Nat.zero_le _, rfl, by intro i h1 h2; omega⟩
      case round =>
        obtain ⟨n, hn, rfl, HZ⟩ := hrel
        have hn0 : (0 : Int) ≤ (n : Int) := by omega
        by_cases hlt2 : n < 16 - T
        · have hc := HA1.out.cell0 (T + n) (by omega)
          have hb := HK.out.at (T + n)
          have h1 : (n : Int) < ((16 - T : Nat) : Int) := by omega
          obtain ⟨Z, hZ⟩ : ∃ Z, Z = k.getD (T + n) 0 := ⟨_, rfl⟩
          rw [← hZ] at hc hb
          by_cases hz : Z = 0
          · subst hz
            have HZ' : Hid (∀ i, T ≤ i → i < T + (n + 1) → k.getD i 0 = 0) := by
              intro i h2 h3
              by_cases h4 : i < T + n
              · exact HZ.out i h2 h4
              · obtain rfl : i = T + n := by omega
                exact hZ.symm
            clear hZ
            go_wp2
            go_round
            case rel => exact ⟨n + 1, by omega, by go_num, HZ'⟩
            case measure => simp [intOf]; omega
          · have hzb : (Z != 0) = true := bne_iff_ne.2 hz
            have HR : Hid (goodK k = false) := by
              show _ = _
              cases hg : goodK k
              · rfl
              · exact absurd (hZ.trans ((HG.out.1 hg).2 (T + n) (by omega) (by omega))) hz
            clear hZ hz
            go_wp2
            go_ret
            exact ⟨by rw [HR.out]; rfl, HB1.out⟩
        · obtain rfl : n = 16 - T := by omega
          have HR : Hid (goodK k = true) := HG.out.2 ⟨HT0.out, fun i h1 h2 => HZ.out i h1 (by omega)⟩
          have h1 : ¬ ((16 - T : Nat) : Int) < ((16 - T : Nat) : Int) := by omega
          go_wp2
          go_ret
          exact ⟨by rw [HR.out]; rfl, HB1.out⟩
end Go.Proofs.YtpnjcflfnoamoaaGreat

namespace Go.Proofs.YtpnjcflfnoamoaaGreat
open Go.RowKit
set_option linter.unusedVariables false

end Go.Proofs.YtpnjcflfnoamoaaGreat

namespace Go.Proofs.YtpnjcflfnoamoaaGreat
open Go.RowKit
set_option linter.unusedVariables false

/-- Keys that lie one behind the other. -/
structure KeysAt (w : World) (a : Option Addr) (l : List (List Int)) : Prop where
  lies : Lies w a (l.flatMap kc)
  kys : Kys l
  nil : a = none → l = []
theorem KeysAt.past {w w' : World} {a : Option Addr} {l : List (List Int)} (h : KeysAt w a l) (hb : Below w.heap.size w w') : KeysAt w' a l := ⟨h.lies.past hb, h.kys, h.nil⟩
theorem KeysAt.same {w w' : World} {a : Option Addr} {l : List (List Int)} (h : KeysAt w a l) (he : w'.heap = w.heap) : KeysAt w' a l :=
  ⟨fun sa hs => ⟨(h.lies sa hs).1, fun j u hj => by rw [same_heap he]; exact (h.lies sa hs).2 j u hj⟩, h.kys, h.nil⟩
/-- The key at place i. -/
theorem KeysAt.key {w : World} {a : Option Addr} {l : List (List Int)} (h : KeysAt w a l) {i : Nat} (hi : i < l.length) : ∃ b o, a = some ⟨b, o, none⟩ ∧ KeyAt w b (o + i * 16) (l.getD i []) ∧ Ky (l.getD i []) := by
  cases a with
  | none => rw [h.nil rfl] at hi; simp at hi
  | some sa =>
    obtain ⟨b, o, sp⟩ := sa
    have hs : sp = none := (h.lies _ rfl).1 (fun e => by
      have h1 := flat_len l h.kys.len
      rw [e] at h1
      simp at h1
      omega)
    subst hs
    have hk := h.kys.get hi
    have hl : Lies w (some ⟨b, o + i * 16, none⟩) (kc (l.getD i [])) := h.lies.el h.kys.len (k := i) (by simp [List.getD, hi])
    refine ⟨b, o, rfl, ⟨fun j hj => ?_⟩, hk⟩
    refine hl.at j _ ?_
    have hjl : j < (l.getD i []).length := by rw [hk.len]; exact hj
    generalize l.getD i [] = x at hjl
    unfold kc
    rw [List.getElem?_map, List.getElem?_eq_getElem hjl]
    simp [List.getD, hjl]
/-- Keys in a list that the call made itself. -/
structure KeysMine (w : World) (B : Nat) (v : Value) (l : List (List Int)) : Prop where
  own : w.ownsRow B 57 16 v l.length (l.flatMap kc)
  kys : Kys l
theorem KeysMine.past {w w' : World} {B : Nat} {v : Value} {l : List (List Int)} (h : KeysMine w B v l) (hb : Below w.heap.size w w') : KeysMine w' B v l := ⟨own_below h.own hb (Nat.le_refl _), h.kys⟩
end Go.Proofs.YtpnjcflfnoamoaaGreat

