/-
  slices.Sort at numbers of 64 bits: of none, and of a list of the call's own.
  The document's own table of decisions: Owes, Open.
-/
import Derived.Test.YtcppihpehipelaaCdC8
import Derived.Test.YtcppihpehipelaaShelf
import Derived.Sort.OwnSortedInts
import Derived.Test.YtcppihpehipelaaAu34
namespace Go.Proofs.Ytcppihpehipelaa
open Go.RowKit Go.Sort
set_option linter.unusedVariables false
set_option linter.unusedSimpArgs false

theorem cdlen64_zero (w : World) : Calls Try.prog 82 #[.int .u64 0] w fun e w' => e = .returned (.int .i64 0) ∧ w' = w := by
  go_enter Try.func82, Try.ntmps82
  go_wp2
  go_ret
  exact ⟨congrArg (fun z => Ending.returned (.int .i64 z)) (by decide +kernel : wrap64 (wrap64 (Lib.len8 0)) = 0), rfl⟩
theorem cdlen_zero (w : World) : Calls Try.prog 66 #[.int .u64 0] w fun e w' => e = .returned (.int .i64 0) ∧ w' = w := by
  go_enter Try.func66, Try.ntmps66
  go_wp2_with (go_at_call 82; refine (cdlen64_zero _).mono ?_; rintro e w' ⟨rfl, rfl⟩)
  go_ret
  exact ⟨rfl, rfl⟩
theorem cdins_none (p : Option Addr) (cap : Nat) (w : World) : Calls Try.prog 72 #[.slice p 0 cap, .int .i64 0, .int .i64 0] w fun e w' => e = .returned (.tuple #[]) ∧ w' = w := by
  go_enter Try.func72, Try.ntmps72
  go_wp2
  refine wp_loop_rounds 1 ?_
  rw [rounds_succ]
  go_wp2
  go_end0
  exact ⟨rfl, rfl⟩
set_option maxRecDepth 100000 in
theorem cdpdq_none (p : Option Addr) (cap : Nat) (w : World) : Calls Try.prog 65 #[.slice p 0 cap, .int .i64 0, .int .i64 0, .int .i64 0] w fun e w' => e = .returned (.tuple #[]) ∧ w' = w := by
  go_enter Try.func65, Try.ntmps65
  go_wp2
  refine wp_loop_rounds 1 ?_
  rw [rounds_succ]
  go_wp2_with (first | (go_at_call 72; refine (cdins_none p cap _).mono ?_; rintro e w' ⟨rfl, rfl⟩))
  refine bodyPost_ret (results_none rfl _ _ _) rfl ?_
  exact ⟨rfl, rfl⟩
set_option maxRecDepth 100000 in
theorem cdsort_none (p : Option Addr) (cap : Nat) (w : World) : Calls Try.prog 48 #[.slice p 0 cap] w fun e w' => e = .returned (.tuple #[]) ∧ w' = w := by
  go_enter Try.func48, Try.ntmps48
  go_wp2_with (first
    | (go_at_call 66; refine (cdlen_zero _).mono ?_; rintro e w' ⟨rfl, rfl⟩)
    | (go_at_call 65; refine (cdpdq_none p cap _).mono ?_; rintro e w' ⟨rfl, rfl⟩))
  go_end0
  exact ⟨rfl, rfl⟩
/-- Numbers that rise are told by which are there. -/
theorem upC_unique : ∀ a b : List Int, a.Pairwise (fun x y => x < y) → b.Pairwise (fun x y => x < y) → (∀ x, x ∈ a ↔ x ∈ b) → a = b
  | [], [], _, _, _ => rfl
  | [], y :: s, _, _, h => by have := (h y).2 (by simp); simp at this
  | x :: r, [], _, _, h => by have := (h x).1 (by simp); simp at this
  | x :: r, y :: s, ha, hb, h => by
    obtain ⟨a1, a2⟩ := List.pairwise_cons.1 ha
    obtain ⟨b1, b2⟩ := List.pairwise_cons.1 hb
    have hxy : x = y := by
      rcases List.mem_cons.1 ((h x).1 (by simp)) with e | e
      · exact e
      · rcases List.mem_cons.1 ((h y).2 (by simp)) with e' | e'
        · exact e'.symm
        · have h1 := a1 y e'
          have h2 := b1 x e
          omega
    subst hxy
    rw [upC_unique r s a2 b2 (fun z => ?_)]
    have hz := h z
    simp only [List.mem_cons] at hz
    constructor
    · intro hr
      rcases hz.1 (.inr hr) with e | e
      · have := a1 z hr; omega
      · exact e
    · intro hr
      rcases hz.2 (.inr hr) with e | e
      · have := b1 z hr; omega
      · exact e
theorem sortedC_is {L O : List Int} (hn : L.Nodup) (hO : O.Pairwise (fun x y => x < y)) (h : ∀ x, x ∈ L ↔ x ∈ O) : (L.mergeSort fun x y => decide (x ≤ y)) = O := by
  refine upC_unique _ _ ?_ hO (fun x => (List.mergeSort_perm L _).mem_iff.trans (h x))
  have h1 := List.pairwise_mergeSort (le := fun x y : Int => decide (x ≤ y)) (fun a b c h1 h2 => by simp at *; omega) (fun a b => by simp; omega) L
  have h2 : (L.mergeSort fun x y => decide (x ≤ y)).Nodup := (List.mergeSort_perm L _).nodup_iff.2 hn
  exact (h1.and h2).imp (fun {a b} ⟨q1, q2⟩ => by simp at q1; omega)
/-- slices.Sort over a list of the call's own. -/
theorem cdsort_own (B : Nat) (v : Value) (n : Nat) (zs : List Int) (w : World) (hl : zs.length = n) (hn : n ≤ 1000000) (hown : w.ownsRow B 2 1 v n (zs.map (Value.int .i64))) :
    Calls Try.prog 48 #[v] w fun e w' => e = .returned (.tuple #[]) ∧ w'.ownsRow B 2 1 v n ((zs.mergeSort fun x y => decide (x ≤ y)).map (Value.int .i64)) ∧ w.grownBy w' v.ownBlock := by
  rcases hown.2 with ⟨rfl, h0⟩ | ⟨g, cap, cur, rfl, hg, hb, hc, hm, hs, ht⟩
  · subst h0
    have hz := List.eq_nil_of_length_eq_zero hl
    subst hz
    refine (cdsort_none none 0 w).mono ?_
    rintro e w' ⟨rfl, rfl⟩
    exact ⟨rfl, by simpa using hown, ⟨rfl, rfl, rfl, Nat.le_refl _, fun _ _ _ => rfl⟩⟩
  · subst hl
    rw [Nat.mul_one] at ht
    have hH := holds_of_blockI hb ht
    have hlt : g < w.heap.size := (Array.getElem?_eq_some_iff.1 hb).1
    refine (Try.slices_Sort_int g 0 cap zs w hH hlt (by omega)).mono ?_
    rintro e w' ⟨rfl, q, os, rfl⟩
    exact ⟨rfl, ownsRow_sortedI (List.length_mergeSort _) hg hb hc hm hs, grownBy_sortedI _⟩
end Go.Proofs.Ytcppihpehipelaa

namespace Go.Proofs.Ytcppihpehipelaa
open Go.RowKit
set_option linter.unusedVariables false
set_option linter.unusedSimpArgs false

theorem i64_elC : ElT 44 2 1 8 := ElT.mk' (z := .int .i64 0) Try.underlying44 (by kernel_rfl) (by kernel_rfl) (by decide) (by decide)
theorem own_numsD {w : World} {B e N c : Nat} {a : Option Addr} {zs : List Int} (h : w.ownsRow B e 1 (.slice a N c) N (zs.map (Value.int .i64))) (hl : zs.length = N) : NumsD w a zs ∧ N ≤ c := by
  rcases h.2 with ⟨e, h0⟩ | ⟨g, cap, cur, e, hg, hh, h1, h2, h3, h4⟩
  · cases e
    exact ⟨fun i z hz => by have := (List.getElem?_eq_some_iff.1 hz).1; omega, by omega⟩
  · cases e
    refine ⟨fun i z hz => ⟨g, rfl, ?_⟩, h1⟩
    have hL : Lies w (some ⟨g, 0, none⟩) (zs.map (Value.int .i64)) := own_lies h
    have := hL.at i (.int .i64 z) (by rw [List.getElem?_map, hz]; rfl)
    rwa [Nat.zero_add] at this
end Go.Proofs.Ytcppihpehipelaa

