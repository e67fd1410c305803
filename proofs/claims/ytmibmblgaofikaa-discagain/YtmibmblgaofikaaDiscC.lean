/-
  What Sample of a clock of package disc answers.
-/
import Derived.Test.YtmibmblgaofikaaDiscSee
import Derived.Test.YtmibmblgaofikaaShelf
import Derived.Test.YtmibmblgaofikaaRowBase
import Derived.Sort.OwnSortedInts
import Derived.Lib.SliceRun
namespace Go.Proofs.Ytmibmblgaofikaa
open Go.RowKit Go.Sort
set_option linter.unusedVariables false

/-- slices.Clone at numbers of 64 bits: the same numbers in memory of the call's own. -/
theorem dclone_any (b off n c : Nat) (zs : List Int) (w : World) (hl : zs.length = n) (hn : n ≤ 64) (hc : ∀ j, j < n → w.cell? ⟨b, off + j, none⟩ = some (.int .i64 (zs.getD j 0))) :
    Calls Try.prog 22 #[.slice (some ⟨b, off, none⟩) n c] w fun e w' => ∃ v', e = .returned v' ∧ w'.ownsRow w.heap.size 2 1 v' n (is zs) ∧ RowKit.Below w.heap.size w w' := by
  obtain ⟨i0, hi, hz0, hz1, hz2⟩ := info_of info2
  have q : ∀ (w : World) (a : Option Addr) (n c n' c' : Nat), (binOp .eql 28 (.slice a n c) (.slice none n' c')).run Try.prog w = .ok (.bool a.isNone) w := fun w a n c n' c' => Lib.run_eql_slice_nil w _ _ a n c n' c' Try.underlying28
  have A : Hid (∀ j, j < n → w.cell? ⟨b, off + j, none⟩ = some (.int .i64 (zs.getD j 0))) := hc
  clear hc
  go_enter Try.func22, Try.ntmps22
  go_wp2_with (at_builtin; refine wpList_append_own _ rfl _ _ 28 rfl w.heap.size 2 i0 (.int .i64 0) 1 8 Try.underlying28 hi hz0 hz1 hz2 rfl (by decide) _ _ _ rfl (World.ownsRow_made w #[] 0 (Nat.le_refl _) (Nat.zero_le _) (by simp)) ⟨b, off, none⟩ n c (is zs) rfl ?qc1 ?qc2 ?qc3 ?qc4 ?qc5 ?qc6 ?_)
  case qc1 => rw [is_len, hl, Nat.mul_one]
  case qc2 =>
    intro j u hj
    obtain ⟨h1, rfl⟩ := is_at zs j u hj
    rw [Addr.add_lit]
    exact Lib.cell?_alloc_some _ (A.out j (by omega))
  case qc3 => exact is_one zs
  case qc4 => unfold maxLen; omega
  case qc5 => omega
  case qc6 => simp
  intro v' w1 hown hgrow hnil
  go_wp2
  go_ret
  refine ⟨v', rfl, by simpa using hown, ?_⟩
  exact ((RowKit.Below.refl _ w).alloc (Nat.le_refl _) _).grown hgrow (by simp) (by intro k hk; simp [Value.ownBlock] at hk; omega)
/-! Numbers in order are told by how often each is there. -/
theorem up_unique : ∀ a b : List Int, Up a → Up b → (∀ p : Int → Bool, a.countP p = b.countP p) → a = b
  | [], [], _, _, _ => rfl
  | [], y :: s, _, _, h => by have := h (fun _ => true); simp at this
  | x :: r, [], _, _, h => by have := h (fun _ => true); simp at this
  | x :: r, y :: s, ha, hb, h => by
    have hx : x ∈ y :: s := by
      have h1 := h (fun z => z == x)
      have h2 : 0 < (x :: r).countP (fun z => z == x) := List.countP_pos_iff.2 ⟨x, by simp, by simp⟩
      rw [h1] at h2
      obtain ⟨z, hz, he⟩ := List.countP_pos_iff.1 h2
      simp at he
      rw [← he]; exact hz
    have hy : y ∈ x :: r := by
      have h1 := h (fun z => z == y)
      have h2 : 0 < (y :: s).countP (fun z => z == y) := List.countP_pos_iff.2 ⟨y, by simp, by simp⟩
      rw [← h1] at h2
      obtain ⟨z, hz, he⟩ := List.countP_pos_iff.1 h2
      simp at he
      rw [← he]; exact hz
    have hxy : x = y := by
      rcases List.mem_cons.1 hx with e | e
      · exact e
      · rcases List.mem_cons.1 hy with e' | e'
        · exact e'.symm
        · have h1 := ha.1 y e'
          have h2 := hb.1 x e
          omega
    subst hxy
    rw [up_unique r s ha.2 hb.2 (fun p => by have := h p; simp only [List.countP_cons] at this; omega)]
theorem held40_mono {x y : Int} (h : x ≤ y) : held40 x ≤ held40 y := by
  unfold held40 hold
  (repeat' split) <;> omega
theorem up_of_pairwise : ∀ l : List Int, l.Pairwise (fun x y => x ≤ y) → Up l
  | [], _ => trivial
  | x :: r, h => by
    rw [List.pairwise_cons] at h
    exact ⟨fun z hz => h.1 z hz, up_of_pairwise r h.2⟩
theorem sorted_held (zs : List Int) : srt (zs.map held40) = (zs.mergeSort fun x y => decide (x ≤ y)).map held40 := by
  apply up_unique
  · exact srt_up _
  · apply up_of_pairwise
    rw [List.pairwise_map]
    have h := List.pairwise_mergeSort (le := fun x y : Int => decide (x ≤ y)) (fun a b c h1 h2 => by simp at *; omega) (fun a b => by simp; omega) zs
    exact h.imp (fun {a b} hab => held40_mono (by simpa using hab))
  · intro p
    rw [srt_count]
    exact ((List.mergeSort_perm zs _).map held40).symm.countP_eq p
theorem mid_sorted (zs : List Int) (h : zs ≠ []) : midN zs = held40 ((zs.mergeSort fun x y => decide (x ≤ y)).getD ((zs.length - 1) / 2) 0) := by
  have hpos : 0 < zs.length := List.length_pos_iff.2 h
  have hl : (zs.mergeSort fun x y => decide (x ≤ y)).length = zs.length := List.length_mergeSort _
  unfold midN
  rw [sorted_held]
  have hk : (zs.length - 1) / 2 < (zs.mergeSort fun x y => decide (x ≤ y)).length := by rw [hl]; omega
  simp [List.getD, List.getElem?_eq_getElem hk]
/-- slices.Sort over numbers of the call's own. -/
theorem dsort_own (B : Nat) (v : Value) (n : Nat) (zs : List Int) (w : World) (hl : zs.length = n) (h1 : 1 ≤ n) (hn : n ≤ 64) (hown : w.ownsRow B 2 1 v n (is zs)) :
    Calls Try.prog 23 #[v] w fun e w' => e = .returned (.tuple #[]) ∧ ∃ g cap, v = .slice (some ⟨g, 0, none⟩) n cap ∧ B ≤ g ∧ n ≤ cap ∧ g < w.heap.size ∧ w'.ownsRow B 2 1 v n (is (zs.mergeSort fun x y => decide (x ≤ y))) ∧ w.grownBy w' (some g) := by
  rcases hown.2 with ⟨_, h0⟩ | ⟨g, cap, cur, rfl, hg, hb, hc, hm, hs, ht⟩
  · omega
  subst hl
  rw [Nat.mul_one] at ht
  have hH := holds_of_blockI hb ht
  have hlt : g < w.heap.size := (Array.getElem?_eq_some_iff.1 hb).1
  refine (Try.slices_Sort_int g 0 cap zs w hH hlt (by omega)).mono ?_
  rintro e w' ⟨rfl, q, os, rfl⟩
  refine ⟨rfl, g, cap, rfl, hg, hc, hlt, ?_, grownBy_sortedI _⟩
  exact ownsRow_sortedI (List.length_mergeSort _) hg hb hc hm hs
theorem own_at {B g n cap : Nat} {u : World} {S : List Int} (h : u.ownsRow B 2 1 (.slice (some ⟨g, 0, none⟩) n cap) n (is S)) (hl : S.length = n) (j : Nat) (hj : j < n) : u.cell? ⟨g, j, none⟩ = some (.int .i64 (S.getD j 0)) := by
  refine own_cell h j _ ?_
  have hjl : j < S.length := by rw [hl]; exact hj
  simp [is, List.getD, hjl]
set_option maxHeartbeats 1000000 in
theorem dsample_in (b : Nat) (node high off : Int) (a : Option Addr) (cap : Nat) (zs : List Int) (w : World) (h : CkD w b node high off) (hrow : Row64 w a zs) (h1 : 1 ≤ zs.length) (h2 : zs.length ≤ 64) (hc : zs.length ≤ cap) :
    Calls Try.prog 11 #[.pointer (some ⟨b, 0, none⟩), .slice a zs.length cap] w fun e w' => e = .returned (.int .i64 (midN zs)) ∧ WentD w w' b node high (midN zs) := by
  obtain ⟨ba, oa, rfl, hca⟩ : ∃ ba oa, a = some ⟨ba, oa, none⟩ ∧ ∀ j, j < zs.length → w.cell? ⟨ba, oa + j, none⟩ = some (.int .i64 (zs.getD j 0)) := by
    rcases hrow.cells with h0 | h0
    · rw [h0] at h1; simp at h1
    · exact h0
  obtain ⟨N, hN⟩ : ∃ N, N = zs.length := ⟨_, rfl⟩
  have C1 : Hid (∀ u, RowKit.Below w.heap.size w u → Calls Try.prog 22 #[.slice (some ⟨ba, oa, none⟩) N cap] u fun e w' => ∃ v', e = .returned v' ∧ w'.ownsRow w.heap.size 2 1 v' N (is zs) ∧ RowKit.Below w.heap.size w w') := fun u hb => by
    have hlt : ba < w.heap.size := lt_of_cell (hca 0 (by omega))
    exact (dclone_any ba oa N cap zs u hN.symm (by omega) (fun j hj => (hb.cell (p := ⟨ba, oa + j, none⟩) hlt).trans (hca j (by omega)))).mono (by rintro e u' ⟨v', rfl, ho, h'⟩; exact ⟨v', rfl, World.ownsRow.mono ho hb.size, hb.trans (h'.mono hb.size)⟩)
  obtain ⟨S, hS⟩ : ∃ S, S = zs.mergeSort fun x y => decide (x ≤ y) := ⟨_, rfl⟩
  have HSl : Hid (S.length = N) := by show _ = _; rw [hS, hN]; exact List.length_mergeSort _
  have C2 : Hid (∀ u v, RowKit.Below w.heap.size w u → u.ownsRow w.heap.size 2 1 v N (is zs) → Calls Try.prog 23 #[v] u fun e w' => e = .returned (.tuple #[]) ∧ ∃ g cap, v = .slice (some ⟨g, 0, none⟩) N cap ∧ w.heap.size ≤ g ∧ N ≤ cap ∧ w'.cell? ⟨g, (N - 1) / 2, none⟩ = some (.int .i64 (S.getD ((N - 1) / 2) 0)) ∧ RowKit.Below w.heap.size w w') := fun u v hb ho => by
    rw [hS]
    refine (dsort_own w.heap.size v N zs u hN.symm (by omega) (by omega) ho).mono ?_
    rintro e u' ⟨rfl, g, cp, rfl, hg, hcp, hlt, ho', hgr⟩
    exact ⟨rfl, g, cp, rfl, hg, hcp, own_at ho' (by rw [← HSl.out, hS]) _ (by omega), hb.grown hgr hb.size (fun k hk => by injection hk with hk; omega)⟩
  obtain ⟨X, hX⟩ : ∃ X, X = S.getD ((N - 1) / 2) 0 := ⟨_, rfl⟩
  rw [← hX] at C2
  obtain ⟨M, hM⟩ : ∃ M, M = midN zs := ⟨_, rfl⟩
  have C3 : Hid (∀ u, Calls Try.prog 24 #[.int .i64 X, .int .i64 (-1099511627776), .int .i64 1099511627776] u fun e w' => e = .returned (.int .i64 M) ∧ w' = u) := fun u => by
    have e : M = held40 X := by rw [hM, hX, hS, hN]; exact mid_sorted zs (by intro h0; rw [h0] at h1; simp at h1)
    rw [e]; exact dheld_any _ _ _ u (by omega)
  have HCK : Hid (∀ u, RowKit.Below w.heap.size w u → CkR u b node high off) := fun u hb => h.step hb
  rw [← hM, ← hN]
  rw [← hN] at h1 h2 hc
  have b1 : ((N : Int) == 0) = false := by simp; omega
  have b2 : decide ((64 : Int) < (N : Int)) = false := decide_eq_false (by omega)
  clear hM hX hS hN hrow hca h
  go_enter Try.func11, Try.ntmps11
  go_wp2_with (first | (go_at_call 23; refine (C2.out _ _ B1.out O1.out).mono ?_; rintro e u2 ⟨rfl, g, cp, rfl, hg, hcp, hcell, hb2⟩; have B2 : Hid (RowKit.Below w.heap.size w u2) := hb2; have f2 := (HCK.out u2 hb2).free 2; have c2 := (HCK.out u2 hb2).c2; clear hb2) | (go_at_call 24; refine (C3.out _).mono ?_; rintro e u3 ⟨rfl, hw3⟩; obtain rfl := hw3.symm; clear hw3) | (go_at_call 22; refine (C1.out _ (RowKit.Below.refl _ _)).mono ?_; rintro e u1 ⟨v', rfl, ho, hb1⟩; have O1 : Hid (u1.ownsRow w.heap.size 2 1 v' N (is zs)) := ho; have B1 : Hid (RowKit.Below w.heap.size w u1) := hb1; clear ho hb1))
  go_ret
  exact ⟨rfl, (HCK.out _ B2.out).offset M, (grown_of_below B2.out (some b)).trans (grown_set u2 b 2 _)⟩
/-- Too few or too many: nothing changes. -/
theorem dsample_out (b : Nat) (node high off : Int) (a : Option Addr) (cap n : Nat) (w : World) (h : CkD w b node high off) (h1 : n < 1 ∨ 64 < n) :
    Calls Try.prog 11 #[.pointer (some ⟨b, 0, none⟩), .slice a n cap] w fun e w' => e = .returned (.int .i64 off) ∧ RowKit.Below w.heap.size w w' := by
  have c2 := h.c2
  clear h
  by_cases h0 : n < 1
  · obtain rfl : n = 0 := by omega
    go_enter Try.func11, Try.ntmps11
    go_wp2
    go_ret
    exact ⟨rfl, RowKit.Below.refl _ _⟩
  · have b1 : ((n : Int) == 0) = false := by simp; omega
    have b2 : decide ((64 : Int) < (n : Int)) = true := decide_eq_true (by omega)
    go_enter Try.func11, Try.ntmps11
    go_wp2
    go_ret
    exact ⟨rfl, RowKit.Below.refl _ _⟩
end Go.Proofs.Ytmibmblgaofikaa
