/-
  What the document's own texts of dates (hourglassref4: pad, Text, digits, Parse) answer.
-/
import Derived.Test.YtglommaegcaodaaDoorRefCivil2
import Derived.Test.YtglommaegcaodaaDoorRowBase
namespace Go.Proofs.YtglommaegcaodaaDoor
open Go.RowKit
set_option linter.unusedVariables false

theorem one_str (w : World) (v : Int) (h : 0 ≤ v ∧ v ≤ 255) : (convert 57 9 (.slice (some ⟨w.heap.size, 0, none⟩) 1 1)).run Tryd.prog (w.alloc (.cells #[.int .u8 v] 5)) = .ok (.string (strOfNums [v])) (w.alloc (.cells #[.int .u8 v] 5)) := by
  have hr : Row (w.alloc (.cells #[.int .u8 v] 5)) (some ⟨w.heap.size, 0, none⟩) [v] := by
    refine ⟨by simpa using h, .inr ⟨_, _, rfl, fun j hj => ?_⟩⟩
    have : j = 0 := by simpa using hj
    subst this
    rw [Nat.zero_add, World.cell?_alloc_new]
    rfl
  exact str_of_row hr 1

theorem rdigits_any (xs : List Int) (w : World) (hb : ∀ z ∈ xs, 0 ≤ z ∧ z ≤ 255) (hl : xs.length ≤ 9) :
    Calls Tryd.prog 33 #[.string (strOfNums xs)] w fun e w' => ((Dig xs → e = .returned (.int .i64 (vl xs))) ∧ (¬ Dig xs → e = .returned (.int .i64 (-1)))) ∧ w' = w := by
  have HX : Hid (∀ k (h : k < (strOfNums xs).size), (((strOfNums xs)[k]'h).toNat : Int) = xs[k]?.getD 0) := nums_at xs hb
  have HXB : Hid (∀ k : Nat, 0 ≤ xs[k]?.getD 0 ∧ xs[k]?.getD 0 ≤ 255) := byte_at hb
  have hsz := strOfNums_size xs
  obtain ⟨len, hlen⟩ : ∃ len, len = xs.length := ⟨_, rfl⟩
  rw [← hlen] at hsz hl
  have HL : Hid (len = xs.length) := hlen
  obtain ⟨S, hS⟩ : ∃ S, S = strOfNums xs := ⟨_, rfl⟩
  rw [← hS] at hsz HX ⊢
  clear hS hlen hb
  go_enter Tryd.func33, Tryd.ntmps33
  go_wp2
  go_loop [3, 4] (fun n i => ∃ (N : Int) (k : Nat), n = .int .i64 N ∧ i = .int .i64 k ∧ k ≤ len ∧ Hid (N = vl (xs.take k)) ∧ Hid (Dig (xs.take k)) ∧ 0 ≤ N ∧ N ≤ 999999999) (fun _ i => len - (intOf i).toNat)
  case atStart => exact ⟨0, 0, rfl, rfl, by omega, rfl, fun z hz => by simp at hz, by omega, by omega⟩
  case round =>
    obtain ⟨N, k, rfl, rfl, hk, HN, HD, hN1, hN2⟩ := hrel
    by_cases hlt : k < len
    · have HTS : Hid (xs.take (k + 1) = xs.take k ++ [xs[k]?.getD 0]) := take_snoc xs k (by rw [← HL.out]; exact hlt)
      obtain ⟨X, hX⟩ : ∃ X, X = xs[k]?.getD 0 := ⟨_, rfl⟩
      have hk' : k < S.size := by omega
      have hat : ((S[k]'hk').toNat : Int) = X := by rw [HX.out, hX]
      have hXb := HXB.out k
      rw [← hX] at HTS hXb
      have HXE : Hid (X = xs[k]?.getD 0) := hX
      clear hX
      by_cases hd : 48 ≤ X ∧ X ≤ 57
      · have HD' : Hid (Dig (xs.take (k + 1))) := by
          intro z hz
          rw [HTS.out] at hz
          rcases List.mem_append.1 hz with h | h
          · exact HD.out z h
          · simp at h; rw [h]; exact hd
        have HN' : Hid (10 * N + (X - 48) = vl (xs.take (k + 1))) := by show _ = _; rw [HTS.out, vl_snoc, HN.out]
        have hN' : 0 ≤ 10 * N + (X - 48) ∧ 10 * N + (X - 48) ≤ 999999999 := by
          rw [HN'.out]
          exact ⟨vl_nonneg _ HD'.out, vl_lt _ HD'.out (by simp; omega)⟩
        go_wp2
        go_round
        case rel => exact ⟨10 * N + (X - 48), k + 1, rfl, by go_num, by omega, HN', HD', hN'.1, hN'.2⟩
        case measure => simp [intOf]; omega
      · have hnd : Hid (¬ Dig xs) := by
          intro h
          apply hd
          have hkl : k < xs.length := by have := HL.out; omega
          have := h xs[k] (List.getElem_mem hkl)
          have e : X = xs[k] := by rw [HXE.out]; simp [hkl]
          rw [e]; exact this
        by_cases hd1 : X < 48
        · go_wp2
          all_goals go_ret
          all_goals exact ⟨⟨fun h => absurd h hnd.out, fun _ => rfl⟩, rfl⟩
        · have hd2 : 57 < X := by omega
          go_wp2
          all_goals go_ret
          all_goals exact ⟨⟨fun h => absurd h hnd.out, fun _ => rfl⟩, rfl⟩
    · have HE : Hid (xs.take k = xs) := List.take_of_length_le (by have := HL.out; omega)
      go_wp2
      go_ret
      refine ⟨⟨fun _ => ret_i ?_, fun h => absurd ?_ h⟩, rfl⟩
      · rw [HN.out, HE.out]
      · rw [← HE.out]; exact HD.out

set_option maxHeartbeats 1000000 in
theorem rpad_any (n : Int) (k : Nat) (w : World) (h0 : 0 ≤ n) (h1 : n ≤ 99999) (hk : k ≤ 9) :
    Calls Tryd.prog 32 #[.int .i64 n, .int .i64 k] w fun e w' => e = .returned (.string (strOfNums (pd k n))) ∧ Below w.heap.size w w' := by
  go_enter Tryd.func32, Tryd.ntmps32
  go_wp2
  go_loopw [0, 5, 6] (fun x s i wr => ∃ (N : Int) (S : ByteArray) (T : List Int) (j : Nat), x = .int .i64 N ∧ s = .string S ∧ i = .int .i64 j ∧ 0 ≤ N ∧ N ≤ 99999 ∧ j ≤ k ∧ Hid (S = strOfNums T) ∧ S.size ≤ j ∧ Hid (pd k n = pd (k - j) N ++ T) ∧ Hid (Below w.heap.size w wr)) (fun _ _ i _ => k - (intOf i).toNat)
  case atStart => exact ⟨n, ⟨#[]⟩, [], 0, rfl, rfl, rfl, h0, h1, by omega, rfl, by decide, by show _ = _; simp, Below.refl _ _⟩
  case round =>
    obtain ⟨N, S, T, j, rfl, rfl, rfl, hN0, hN1, hj, HS, hsz, HP, HB⟩ := hrel
    obtain ⟨wA, rfl⟩ : ∃ wA : World, wA = wr := ⟨wr, rfl⟩
    by_cases hlt : j < k
    · have hm : N.tmod 10 = N % 10 := tm_pos hN0
      have hq : N.tdiv 10 = N / 10 := td_pos hN0
      have hm1 : (48 + N % 10) % 256 = 48 + N % 10 := by omega
      have hcv := one_str wA (48 + N % 10) (by omega)
      obtain ⟨A, hA⟩ : ∃ A, A = strOfNums [48 + N % 10] := ⟨_, rfl⟩
      rw [← hA] at hcv
      have hAs : A.size = 1 := by rw [hA, strOfNums_size]; rfl
      have HA : Hid (A ++ S = strOfNums ((48 + N % 10) :: T)) := by show _ = _; rw [hA, HS.out, nums_app]; rfl
      clear hA
      go_wp2
      go_roundw
      case rel =>
        refine ⟨N / 10, A ++ S, (48 + N % 10) :: T, j + 1, rfl, rfl, by go_num, by omega, by omega, by omega, HA, by rw [ByteArray.size_append]; omega, ?_, HB.out.alloc HB.out.size _⟩
        have e : k - j = (k - (j + 1)) + 1 := by omega
        show _ = _
        rw [HP.out, e]
        simp [pd]
      case measure => simp [intOf]; omega
    · obtain rfl : j = k := by omega
      go_wp2
      go_ret
      have h := HP.out
      rw [Nat.sub_self] at h
      simp only [pd, List.nil_append] at h
      rw [h, ← HS.out]
      exact ⟨rfl, HB.out⟩
end Go.Proofs.YtglommaegcaodaaDoor
