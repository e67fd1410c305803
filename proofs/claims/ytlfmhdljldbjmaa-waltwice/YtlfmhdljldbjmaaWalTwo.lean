/-
  Crash behind crash: what Open finds then (beneath WalTwice).
-/
import Derived.Test.YtlfmhdljldbjmaaWalMore
namespace Go.Proofs.Ytlfmhdljldbjmaa
open Go.RowKit
set_option linter.unusedVariables false
theorem twice (z0 z1 : List (List Int)) (b0 : ∀ r ∈ z0, By r) (b1 : ∀ r ∈ z1, By r) (h0 : ∀ r ∈ z0, r.length ≤ 200) (h1 : ∀ r ∈ z1, r.length ≤ 200) (l0 : z0.length ≤ 10) (l1 : z1.length ≤ 10) (one two torn : Int) (ht : 0 ≤ torn ∧ torn ≤ 255) :
    ∃ n k, n ≤ z0.length ∧ n ≤ k ∧ k ≤ n + z1.length ∧
      addL (newDS 20000) ⟨[119], 1, false, [], 0⟩ z0 = (0, oneF 20000 1 [119] (frames z0) 0, ⟨[119], 1, false, z0, 0⟩) ∧
      (((oneF 20000 1 [119] (frames z0) 0).crash one torn).on).opened [119] = oneF 20000 2 [119] (frames (z0.take n)) (frames (z0.take n)).length ∧
      (((oneF 20000 1 [119] (frames z0) 0).crash one torn).on).log [119] = ⟨[119], 2, false, z0.take n, n⟩ ∧
      addL (oneF 20000 2 [119] (frames (z0.take n)) (frames (z0.take n)).length) ⟨[119], 2, false, z0.take n, n⟩ z1 = (0, oneF 20000 2 [119] (frames (z0.take n ++ z1)) (frames (z0.take n)).length, ⟨[119], 2, false, z0.take n ++ z1, n⟩) ∧
      (((oneF 20000 2 [119] (frames (z0.take n ++ z1)) (frames (z0.take n)).length).crash two torn).on).opened [119] = oneF 20000 3 [119] (frames ((z0.take n ++ z1).take k)) (frames ((z0.take n ++ z1).take k)).length ∧
      (((oneF 20000 2 [119] (frames (z0.take n ++ z1)) (frames (z0.take n)).length).crash two torn).on).log [119] = ⟨[119], 3, false, (z0.take n ++ z1).take k, k⟩ := by
  have f0 := frames_bound z0 200 h0
  have f1 := frames_bound z1 200 h1
  have s0 : ∀ r ∈ z0, r.length ≤ 8000 := fun r hr => by have := h0 r hr; omega
  have s1 : ∀ r ∈ z1, r.length ≤ 8000 := fun r hr => by have := h1 r hr; omega
  obtain ⟨n, n1, n2, o1, o2⟩ := open_crash 20000 1 [119] z0 b0 s0 0 (Nat.zero_le _) one torn ht
  have e0 : (frames (z0.take 0)).length = 0 := by simp [frames]
  rw [e0] at o1 o2
  have hn : (z0.take n).length = n := by rw [List.length_take]; omega
  have fn := frames_bound (z0.take n) 200 (fun r hr => h0 r (List.mem_of_mem_take hr))
  have eN : (z0.take n ++ z1).take n = z0.take n := by
    rw [List.take_append_of_le_length (by omega), List.take_take, Nat.min_self]
  obtain ⟨k, k1, k2, p1, p2⟩ := open_crash 20000 2 [119] (z0.take n ++ z1) (fun r hr => (List.mem_append.1 hr).elim (fun h => b0 r (List.mem_of_mem_take h)) (b1 r)) (fun r hr => (List.mem_append.1 hr).elim (fun h => s0 r (List.mem_of_mem_take h)) (s1 r)) n (by rw [List.length_append]; omega) two torn ht
  rw [eN] at p1 p2
  refine ⟨n, k, n2, k1, by rw [List.length_append, hn] at k2; exact k2, addL_new 20000 [119] z0 may_w s0 (by omega), o1, o2, addL_one 20000 2 [119] _ z1 _ _ may_w s1 (by rw [hn] at fn; omega), p1, p2⟩
end Go.Proofs.Ytlfmhdljldbjmaa
