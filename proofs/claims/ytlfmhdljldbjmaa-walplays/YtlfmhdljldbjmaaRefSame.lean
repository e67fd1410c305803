/-
  What the document's own comparison of two lists of records (hourglassref1: Same) answers.
-/
import Derived.Test.YtlfmhdljldbjmaaRefFrame
import Derived.Test.YtlfmhdljldbjmaaBase
namespace Go.Proofs.Ytlfmhdljldbjmaa
open Go.RowKit
set_option linter.unusedVariables false

theorem take_same {L M : List (List Int)} {k : Nat} (h : L.take k = M.take k) (hL : k < L.length) (hM : k < M.length) (he : L.getD k [] = M.getD k []) : L.take (k + 1) = M.take (k + 1) := by
  rw [List.take_succ_eq_append_getElem hL, List.take_succ_eq_append_getElem hM, h]
  have e1 : L.getD k [] = L[k] := by simp [List.getD, hL]
  have e2 : M.getD k [] = M[k] := by simp [List.getD, hM]
  rw [e1, e2] at he
  rw [he]
set_option maxHeartbeats 1000000 in
theorem rsame_any (a0 : Option Addr) (n0 c0 : Nat) (L : List (List Int)) (a1 : Option Addr) (n1 c1 : Nat) (M : List (List Int)) (w : World) (l0 : L.length = n0) (l1 : M.length = n1) (rL : RowsOf w a0 c0 L) (rM : RowsOf w a1 c1 M) (hmax : n0 ≤ 140737488351232) :
    Calls Try.prog 31 #[.slice a0 n0 c0, .slice a1 n1 c1] w fun e w' => e = .returned (.bool (decide (L = M))) ∧ ∃ m, w' = w.drewN m := by
  by_cases hn : n0 = n1
  · subst hn
    have H0 : Hid (L.length = n0) := l0
    have H1 : Hid (M.length = n0) := l1
    have RL : Hid (RowsOf w a0 c0 L) := rL
    have RM : Hid (RowsOf w a1 c1 M) := rM
    clear l0 l1 rL rM
    go_enter Try.func31, Try.ntmps31
    go_wp2
    go_loopw [5] (fun i wr => ∃ k m : Nat, k ≤ n0 ∧ i = .int .i64 k ∧ Hid (wr = w.drewN m) ∧ Hid (L.take k = M.take k)) (fun i _ => n0 - (intOf i).toNat)
    case atStart => exact ⟨0, 0, Nat.zero_le _, rfl, rfl, by show _ = _; rw [List.take_zero, List.take_zero]⟩
    case round =>
      obtain ⟨k, m, hk, rfl, HW, HT⟩ := hrel
      by_cases hlt : k < n0
      · have hw : wr.heap = w.heap := by rw [HW.out]; rfl
        obtain ⟨b0, o0, x0, d0, rfl, e0, r0, _⟩ := (RL.out.same hw).at (r := k) (by rw [H0.out]; exact hlt)
        obtain ⟨b1, o1, x1, d1, rfl, e1, r1, _⟩ := (RM.out.same hw).at (r := k) (by rw [H1.out]; exact hlt)
        clear hw
        obtain ⟨X, hX⟩ : ∃ X, X = L.getD k [] := ⟨_, rfl⟩
        obtain ⟨Y, hY⟩ : ∃ Y, Y = M.getD k [] := ⟨_, rfl⟩
        rw [← hX] at e0 r0
        rw [← hY] at e1 r1
        have HX : Hid (X = L.getD k []) := hX
        have HY : Hid (Y = M.getD k []) := hY
        have s0 := fun j => str_at rfl (r0.same (w' := wr.drewN j) rfl) d0
        have s1 := fun j => str_at rfl (r1.same (w' := wr.drewN j) rfl) d1
        have hne := str_eq r0.bytes r1.bytes
        clear hX hY r0 r1
        obtain ⟨lx, hlx⟩ : ∃ lx, lx = X.length := ⟨_, rfl⟩
        obtain ⟨ly, hly⟩ : ∃ ly, ly = Y.length := ⟨_, rfl⟩
        rw [← hlx] at e0 s0
        rw [← hly] at e1 s1
        clear hlx hly
        obtain ⟨wA, rfl⟩ : ∃ wA : World, wA = wr := ⟨wr, rfl⟩
        by_cases he : X = Y
        · have hd : decide (X = Y) = true := by simp [he]
          rw [hd] at hne
          have HT' : Hid (L.take (k + 1) = M.take (k + 1)) := take_same HT.out (by rw [H0.out]; exact hlt) (by rw [H1.out]; exact hlt) (by rw [← HX.out, ← HY.out, he])
          clear he hd
          go_wp2
          go_quiet (fail)
          go_wp2
          go_roundw
          case rel => exact ⟨k + 1, m + nq, by omega, by go_num, by show _ = _; rw [HW.out]; exact World.drewN_drewN _ _ _, HT'.out⟩
          case measure => simp [intOf]; omega
        · have hd : decide (X = Y) = false := by simp [he]
          rw [hd] at hne
          have HF : Hid (decide (L = M) = false) := by
            have : ¬ L = M := fun h => he (by rw [HX.out, HY.out, h])
            show _ = _
            simpa using this
          clear he hd
          go_wp2
          go_quiet (fail)
          go_wp2
          go_ret
          exact ⟨by rw [HF.out]; rfl, m + nq, by rw [HW.out]; exact World.drewN_drewN _ _ _⟩
      · obtain rfl : k = n0 := by omega
        have HF : Hid (decide (L = M) = true) := by
          have h := HT.out
          have e0 : L.take k = L := by rw [← H0.out]; exact List.take_length
          have e1 : M.take k = M := by rw [← H1.out]; exact List.take_length
          rw [e0, e1] at h
          show _ = _
          simpa using h
        clear hlt hk
        go_wp2
        go_ret
        exact ⟨by rw [HF.out]; rfl, m, HW.out⟩
  · have hn' : ((n0 : Int) != (n1 : Int)) = true := by simp; omega
    have HF : Hid (decide (L = M) = false) := by
      have : ¬ L = M := fun h => hn (by rw [← l0, ← l1, h])
      show _ = _
      simpa using this
    clear l0 l1 rL rM
    go_enter Try.func31, Try.ntmps31
    go_wp2
    go_ret
    exact ⟨by rw [HF.out]; rfl, 0, rfl⟩
end Go.Proofs.Ytlfmhdljldbjmaa
