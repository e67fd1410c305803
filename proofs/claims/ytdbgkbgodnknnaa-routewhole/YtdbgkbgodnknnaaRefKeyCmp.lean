/-
  The document's own order of keys (hourglassref10: Cmp).
-/
import Derived.Test.YtdbgkbgodnknnaaKeyMem
import Derived.BigRegion
namespace Go.Proofs.Ytdbgkbgodnknnaa
open Go.RowKit
set_option linter.unusedVariables false

set_option maxHeartbeats 1000000 in
theorem rcmp_any (a b : List Int) (ha : Ky a) (hb : Ky b) (w : World) :
    Calls Try.prog 24 #[kv a, kv b] w fun e w' => e = .returned (.int .i64 (lexC a b)) ∧ Below w.heap.size w w' := by
  have KA : Hid (Ky a) := ha
  have KB : Hid (Ky b) := hb
  have HA : Hid (KeyAt ((w.alloc (.cells (kcs a) 28)).alloc (.cells (kcs b) 28)) w.heap.size 0 a) := (KeyAt.made w 28 a ha).alloc _
  have HC : Hid (KeyAt ((w.alloc (.cells (kcs a) 28)).alloc (.cells (kcs b) 28)) (w.heap.size + 1) 0 b) := by
    have := KeyAt.made (w.alloc (.cells (kcs a) 28)) 28 b hb
    rw [World.size_alloc] at this
    exact this
  have HB : Hid (Below w.heap.size w ((w.alloc (.cells (kcs a) 28)).alloc (.cells (kcs b) 28))) := ((Below.refl _ _).alloc (Nat.le_refl _) _).alloc (by simp) _
  clear ha hb
  go_enter Try.func24, Try.ntmps24
  go_wp2
  generalize hU : (w.alloc (.cells (kcs a) 28)).alloc (.cells (kcs b) 28) = u at *
  clear hU
  go_loopw [5] (fun i wr => ∃ n m : Nat, n ≤ 16 ∧ i = .int .i64 n ∧ Hid (wr = u.drewN m) ∧ Hid (a.take n = b.take n)) (fun i _ => 16 - (intOf i).toNat)
  case atStart => exact ⟨0, 0, Nat.zero_le _, rfl, rfl, by show _ = _; rw [List.take_zero, List.take_zero]⟩
  case round =>
    obtain ⟨n, m, hn, rfl, HW, HT⟩ := hrel
    have hw : wr.heap = u.heap := by rw [HW.out]; rfl
    have BW : Hid (Below w.heap.size w wr) := by rw [HW.out]; exact below_dN HB.out m
    by_cases hlt : n < 16
    · have hc := (HA.out.same hw).cell0 n hlt
      have hd := (HC.out.same hw).cell0 n hlt
      have b1 := KA.out.at n
      have b2 := KB.out.at n
      have l1 : n < a.length := by rw [KA.out.len]; exact hlt
      have l2 : n < b.length := by rw [KB.out.len]; exact hlt
      obtain ⟨X, hX⟩ : ∃ X, X = a.getD n 0 := ⟨_, rfl⟩
      obtain ⟨Y, hY⟩ : ∃ Y, Y = b.getD n 0 := ⟨_, rfl⟩
      rw [← hX] at hc b1
      rw [← hY] at hd b2
      have h0 : (0 : Int) ≤ (n : Int) := by omega
      have h1 : (n : Int) < 16 := by omega
      clear hw
      by_cases x1 : X < Y
      · have HR : Hid (lexC a b = -1) := lexC_less n HT.out l1 l2 (by rw [← hX, ← hY]; exact x1)
        have d1 : decide (X < Y) = true := decide_eq_true x1
        clear hX hY l1 l2 x1
        go_wp2
        go_quiet (fail)
        go_wp2
        go_ret
        exact ⟨by rw [HR.out]; rfl, below_dN BW.out _⟩
      · have d1 : decide (X < Y) = false := decide_eq_false x1
        by_cases x2 : Y < X
        · have HR : Hid (lexC a b = 1) := lexC_more n HT.out l1 l2 (by rw [← hX, ← hY]; exact x2)
          have d2 : decide (Y < X) = true := decide_eq_true x2
          clear hX hY l1 l2 x1 x2
          go_wp2
          go_quiet (fail)
          go_wp2
          go_quiet (fail)
          go_wp2
          go_ret
          exact ⟨by rw [HR.out]; rfl, below_dN (below_dN BW.out _) _⟩
        · have d2 : decide (Y < X) = false := decide_eq_false x2
          have HT' : Hid (a.take (n + 1) = b.take (n + 1)) := take_next HT.out l1 l2 (by rw [← hX, ← hY]; omega)
          clear hX hY l1 l2 x1 x2
          go_wp2
          go_quiet (fail)
          go_wp2
          go_quiet (fail)
          go_wp2
          go_roundw
          case rel => exact ⟨n + 1, _, by omega, by go_num, by show _ = _; rw [HW.out]; exact World.drewN_drewN _ _ _, HT'⟩
          case measure => simp [intOf]; omega
    · obtain rfl : n = 16 := by omega
      have HR : Hid (lexC a b = 0) := by
        have h := HT.out
        have e1 : a.take 16 = a := List.take_of_length_le (by rw [KA.out.len]; exact Nat.le_refl _)
        have e2 : b.take 16 = b := List.take_of_length_le (by rw [KB.out.len]; exact Nat.le_refl _)
        rw [e1, e2] at h
        rw [h]; exact lexC_self b
      go_wp2
      go_ret
      exact ⟨by rw [HR.out]; rfl, BW.out⟩
end Go.Proofs.Ytdbgkbgodnknnaa
