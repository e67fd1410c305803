/-
  Chains as chapter 11's ends tell them: what its examples' puts and trims leave; fifty versions, one behind the other.
-/
import Derived.Test.YtimiciellbdphaaChainAwake
import Derived.Test.YtimiciellbdphaaMine
namespace Go.Proofs.Ytimiciellbdphaa
open Go.RowKit
set_option linter.unusedVariables false

def fullN (k : Nat) : List Ver := (List.range k).map fun (j : Nat) => vz j [] false
theorem full_mem {k : Nat} {X : Ver} (h : X ∈ fullN k) : ∃ j : Nat, j < k ∧ X = vz j [] false := by
  obtain ⟨j, hj, e⟩ := List.mem_map.1 h
  exact ⟨j, List.mem_range.1 hj, e.symm⟩
theorem full_len (k : Nat) : (fullN k).length = k := by simp [fullN]
theorem full_one (k : Nat) : One (fullN k) := fun V hV => by
  obtain ⟨j, _, e⟩ := full_mem hV
  rw [e]
  rfl
theorem full_may (k : Int) (h0 : 0 ≤ k) (h1 : k ≤ 100) : mayV (vz k [] false) = true := by
  unfold mayV vz
  rw [decide_eq_true (show okS k from ⟨h0, by omega⟩)]
  rfl
theorem full_rk (k : Nat) (t : Int) (ht : (k : Int) ≤ t) : rk (fullN k) (vz t [] false) = k := by
  unfold rk
  refine tw_len (by rw [full_len]; exact Nat.le_refl _) (fun j V hj hV => decide_eq_true ?_) (.inl (full_len k).symm)
  obtain ⟨i, hi, e⟩ := full_mem (List.mem_of_getElem? hV)
  rw [e]
  refine cmp_neg.2 ?_
  show ltS i 0 t 0
  unfold ltS
  omega
theorem full_ups (k : Nat) : Ups (fullN k) := by
  induction k with
  | zero => exact List.Pairwise.nil
  | succ k ih =>
    unfold fullN at ih ⊢
    rw [List.range_succ, List.map_append]
    refine List.pairwise_append.2 ⟨ih, by simp, fun A hA B hB => ?_⟩
    obtain ⟨i, hi, e⟩ := full_mem hA
    simp at hB
    rw [e, hB]
    show ltS i 0 k 0
    unfold ltS
    omega
theorem full_clash_no (k : Nat) (t : Int) (ht : (k : Int) ≤ t) : clashV (fullN k) (vz t [] false) = false := by
  cases h : clashV (fullN k) (vz t [] false) with
  | false => rfl
  | true =>
    obtain ⟨X, hX, e1, _⟩ := (clash_iff (full_one k) (full_ups k) rfl).1 h
    obtain ⟨j, hj, e⟩ := full_mem hX
    rw [e] at e1
    have e2 : (j : Int) = t := e1
    omega
theorem full_put (k : Nat) (hk : k < 50) : putV (fullN k) (vz k [] false) = (0, fullN (k + 1)) := by
  rw [put_one (full_one k) rfl, full_may k (by omega) (by omega), full_clash_no k k (Int.le_refl _), full_len, full_rk k k (Int.le_refl _)]
  rw [if_neg (by simp), if_neg (by simp), if_neg (by omega)]
  have e1 : (fullN k).take k = fullN k := List.take_of_length_le (by rw [full_len]; exact Nat.le_refl _)
  have e2 : (fullN k).drop k = [] := List.drop_eq_nil_of_le (by rw [full_len]; exact Nat.le_refl _)
  rw [e1, e2]
  unfold fullN
  rw [List.range_succ, List.map_append]
  rfl
theorem full_more : (putV (fullN 50) (vz 99 [] false)).1 = 6 ∧ (putV (fullN 50) (vz 99 [] false)).2 = fullN 50 := by
  rw [put_one (full_one 50) rfl, full_may 99 (by omega) (by omega), full_clash_no 50 99 (by omega), full_len]
  rw [if_neg (by simp), if_neg (by simp), if_pos (by omega)]
  exact ⟨rfl, rfl⟩
theorem full_there : (putV (fullN 50) (vz 9 [] false)).1 = 5 := by
  have hc : clashV (fullN 50) (vz 9 [] false) = true := by
    refine (clash_iff (full_one 50) (full_ups 50) rfl).2 ⟨vz 9 [] false, ?_, rfl, rfl⟩
    unfold fullN
    exact List.mem_map.2 ⟨9, List.mem_range.2 (by omega), rfl⟩
  rw [put_one (full_one 50) rfl, full_may 9 (by omega) (by omega), hc]
  rw [if_neg (by simp), if_pos rfl]
def exL1 : List Ver := [vz 1 [120] false]
def exL2 : List Ver := [vz 1 [120] false, vz 2 [] true]
def exL3 : List Ver := [vz 1 [120] false, vz 2 [] true, vz 5 [118] false]
def exL4 : List Ver := [vz 5 [118] false]
theorem ex_1 : putV [] (vz (-1) [] false) = (1, []) := by rfl
theorem ex_2 : putV [] (vz 1 [120] true) = (1, []) := by rfl
theorem ex_3 : putV [] (vz 1 (List.replicate 201 0) false) = (1, []) := by
  have hm : mayV (vz 1 (List.replicate 201 0) false) = false := by
    unfold mayV vz
    rw [List.length_replicate]
    rfl
  unfold putV
  rw [if_pos hm]
theorem ex_4 : putV [] (vz 1 [120] false) = (0, exL1) := by rfl
theorem ex_5 : putV exL1 (vz 1 [121] false) = (5, exL1) := by rfl
theorem ex_6 : putV exL1 (vz 2 [] true) = (0, exL2) := by rfl
theorem ex_7 : putV exL2 (vz 5 [118] false) = (0, exL3) := by rfl
theorem ex_8 : restV exL3 0 0 = exL3 := by rfl
theorem ex_9 : restV exL3 1 0 = exL3 := by rfl
theorem ex_10 : restV exL3 4 0 = exL4 := by rfl
theorem ex_11 : restV exL4 9 0 = exL4 := by rfl
theorem wput_is {w u : World} {p : Nat} {L M : List Ver} {V : Ver} {r : Int} (h : ChW w u p L) (hV : VerIn V) (e : putV L V = (r, M)) :
    Calls Try.prog 10 #[.pointer (some ⟨p, 0, none⟩), cvv V] u fun e w' => e = .returned (.int .i64 r) ∧ ChW w w' p M := by
  have := wput_any h hV
  rw [e] at this
  exact this
theorem wtrim_is {w u : World} {p : Nat} {L M : List Ver} {t n r : Int} (h : ChW w u p L) (e : restV L t n = M) (hr : (L.length : Int) - (M.length : Int) = r) :
    Calls Try.prog 12 #[.pointer (some ⟨p, 0, none⟩), .agg #[.int .i64 t, .int .u8 n]] u fun e w' => e = .returned (.int .i64 r) ∧ ChW w w' p M := by
  have := wtrim_any h t n
  rw [e, hr] at this
  exact this
end Go.Proofs.Ytimiciellbdphaa
