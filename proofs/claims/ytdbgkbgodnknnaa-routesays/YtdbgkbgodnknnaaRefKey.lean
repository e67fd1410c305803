/-
  What the document's own keys (hourglassref10: Good, Cmp, Text, Within, Sum, Of) answer.
-/
import Derived.Test.YtdbgkbgodnknnaaKeyMem
import Derived.Test.YtdbgkbgodnknnaaRefKeyCmp
import Derived.BigRegion
namespace Go.Proofs.Ytdbgkbgodnknnaa
open Go.RowKit
set_option linter.unusedVariables false

set_option maxHeartbeats 1000000 in
theorem rgood_any (k : List Int) (hk : Ky k) (w : World) :
    Calls Try.prog 23 #[kv k] w fun e w' => e = .returned (.bool (goodK k)) ∧ Below w.heap.size w w' := by
  have HK : Hid (Ky k) := hk
  have HA : Hid (KeyAt (w.alloc (.cells (kcs k) 28)) w.heap.size 0 k) := KeyAt.made w 28 k hk
  have HB : Hid (Below w.heap.size w (w.alloc (.cells (kcs k) 28))) := (Below.refl _ _).alloc (Nat.le_refl _) _
  clear hk
  go_enter Try.func23, Try.ntmps23
  go_wp2
  generalize hU : w.alloc (.cells (kcs k) 28) = u at *
  clear hU
  go_loop [3, 4] (fun en i => ∃ n : Nat, n ≤ 16 ∧ i = .int .i64 n ∧ en = .bool (decide ((txK k).length < n)) ∧ Hid (∀ z ∈ (k.take n).drop (txK k).length, z = 0)) (fun _ i => 16 - (intOf i).toNat)
  case atStart => exact ⟨0, Nat.zero_le _, rfl, rfl, by intro z hz; simp at hz⟩
  case round =>
    obtain ⟨n, hn, rfl, rfl, HZ⟩ := hrel
    by_cases hlt : n < 16
    · have hc := HA.out.cell0 n hlt
      have hb := HK.out.at n
      have hln : n < k.length := by rw [HK.out.len]; exact hlt
      obtain ⟨Z, hZ⟩ : ∃ Z, Z = k.getD n 0 := ⟨_, rfl⟩
      rw [← hZ] at hc hb
      have h0 : (0 : Int) ≤ (n : Int) := by omega
      have h1 : (n : Int) < 16 := by omega
      by_cases hz : Z = 0
      · subst hz
        have hz' : k.getD n 0 = 0 := hZ.symm
        have HZ' : Hid (∀ z ∈ (k.take (n + 1)).drop (txK k).length, z = 0) := take_drop_next HZ.out hln (fun _ => hz')
        have HE : Hid (decide ((txK k).length < n + 1) = true) := by
          have : ¬ n < (txK k).length := fun h => tx_none h hz'
          show _ = _
          simp; omega
        clear hZ hz' hln
        go_wp2
        go_round
        case rel => exact ⟨n + 1, by omega, by go_num, by rw [HE.out], HZ'⟩
        case measure => simp [intOf]; omega
      · have hzb : (Z == 0) = false := by simpa using hz
        have hz' : k.getD n 0 ≠ 0 := by rw [← hZ]; exact hz
        by_cases he : (txK k).length < n
        · have HG : Hid (goodK k = false) := good_none he hln hz'
          rw [decide_eq_true he]
          clear hz hz' hZ he hln
          go_wp2
          go_ret
          exact ⟨by rw [HG.out]; rfl, HB.out⟩
        · have hm := tx_more (by omega) hln hz'
          have HZ' : Hid (∀ z ∈ (k.take (n + 1)).drop (txK k).length, z = 0) := take_drop_next HZ.out hln (fun h => by omega)
          have HE : Hid (decide ((txK k).length < n + 1) = false) := by show _ = _; simp; omega
          rw [decide_eq_false he]
          clear hz hz' hZ he hm hln
          go_wp2
          go_round
          case rel => exact ⟨n + 1, by omega, by go_num, by rw [HE.out], HZ'⟩
          case measure => simp [intOf]; omega
    · obtain rfl : n = 16 := by omega
      have HG : Hid (goodK k = (k.getD 0 0 != 0)) := good_end HK.out HZ.out
      have hc := HA.out.cell0 0 (by omega)
      have hb := HK.out.at 0
      obtain ⟨Z, hZ⟩ : ∃ Z, Z = k.getD 0 0 := ⟨_, rfl⟩
      rw [← hZ] at hc hb HG
      clear hZ
      go_wp2
      go_ret
      exact ⟨by rw [HG.out]; rfl, HB.out⟩
/-- Three keys, each in a block of its own. -/
structure Three3 (w u : World) (k a b : List Int) : Prop where
  below : Below w.heap.size w u
  k : KeyAt u w.heap.size 0 k
  a : KeyAt u (w.heap.size + 1) 0 a
  b : KeyAt u (w.heap.size + 2) 0 b
theorem Three3.made (w : World) (T : TypeId) {k a b : List Int} (hk : Ky k) (ha : Ky a) (hb : Ky b) : Three3 w (((w.alloc (.cells (kcs k) T)).alloc (.cells (kcs a) T)).alloc (.cells (kcs b) T)) k a b := by
  have e1 := KeyAt.made w T k hk
  have e2 := KeyAt.made (w.alloc (.cells (kcs k) T)) T a ha
  have e3 := KeyAt.made ((w.alloc (.cells (kcs k) T)).alloc (.cells (kcs a) T)) T b hb
  rw [World.size_alloc] at e2
  rw [World.size_alloc, World.size_alloc] at e3
  exact ⟨(((Below.refl _ _).alloc (Nat.le_refl _) _).alloc (by simp) _).alloc (by simp; omega) _, (e1.alloc _).alloc _, e2.alloc _, e3⟩
theorem Three3.past {w u v : World} {k a b : List Int} (h : Three3 w u k a b) (hb : Below u.heap.size u v) : Three3 w v k a b :=
  ⟨h.below.trans (hb.mono h.below.size), h.k.past hb, h.a.past hb, h.b.past hb⟩
end Go.Proofs.Ytdbgkbgodnknnaa
