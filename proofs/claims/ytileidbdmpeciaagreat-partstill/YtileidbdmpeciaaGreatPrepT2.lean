/-
  Where an entry stands in a landed table (package prep: find, by slices.BinarySearchFunc).
-/
import Derived.Test.YtileidbdmpeciaaGreatAu71
import Derived.Deep.RegionHeld3
namespace Go.Proofs.YtileidbdmpeciaaGreat
open Go.RowKit
set_option linter.unusedVariables false

/-- Two numbers held against each other. -/
def cmpI (a b : Int) : Int := if a < b then -1 else if b < a then 1 else 0
theorem cmpI_neg {a b : Int} : cmpI a b < 0 ↔ a < b := by unfold cmpI; split <;> (try split) <;> omega
theorem cmpI_zero {a b : Int} : cmpI a b = 0 ↔ a = b := by unfold cmpI; split <;> (try split) <;> omega
set_option maxHeartbeats 2000000 in
theorem pclos_any (x : EntM) (id : Int) (w : World) :
    Calls Tryz.prog 127 #[ev x, .int .i64 id] w fun e w' => e = .returned (.int .i64 (cmpI x.e.id id)) ∧ Below w.heap.size w w' := by
  obtain ⟨i1, s1, m1, t1, n1, L1, h⟩ : ∃ i1 s1 m1 t1 n1 L1, i1 = x.e.id ∧ s1 = x.e.s ∧ m1 = x.e.m ∧ t1 = x.e.t ∧ n1 = x.e.n ∧ L1 = x.e.l.length := ⟨_, _, _, _, _, _, rfl, rfl, rfl, rfl, rfl, rfl⟩
  obtain ⟨e1, e2, e3, e4, e5, e6⟩ := h
  show Calls Tryz.prog 127 #[.agg #[.int .i64 x.e.id, .int .i64 x.e.s, .int .u8 x.e.m, .int .i64 x.e.t, .int .u8 x.e.n, .slice x.a x.e.l.length x.c], .int .i64 id] w fun e w' => e = .returned (.int .i64 (cmpI x.e.id id)) ∧ Below w.heap.size w w'
  rw [← e1, ← e2, ← e3, ← e4, ← e5, ← e6]
  clear e1 e2 e3 e4 e5 e6
  generalize x.a = xa
  generalize x.c = xc
  have HB : Hid (Below w.heap.size w (w.alloc (.cells #[.int .i64 i1, .int .i64 s1, .int .u8 m1, .int .i64 t1, .int .u8 n1, .slice xa L1 xc] 31))) := (Below.refl _ _).alloc (Nat.le_refl _) _
  by_cases h1 : i1 < id
  · have b1 : decide (i1 < id) = true := decide_eq_true h1
    have HR : Hid (cmpI i1 id = -1) := by show _ = _; unfold cmpI; rw [if_pos h1]
    clear h1
    go_enter Tryz.func127, Tryz.ntmps127
    go_wp2
    go_ret
    exact ⟨by rw [HR.out]; rfl, HB.out⟩
  · have b1 : decide (i1 < id) = false := decide_eq_false h1
    by_cases h2 : id < i1
    · have b2 : decide (id < i1) = true := decide_eq_true h2
      have HR : Hid (cmpI i1 id = 1) := by show _ = _; unfold cmpI; rw [if_neg h1, if_pos h2]
      clear h1 h2
      go_enter Tryz.func127, Tryz.ntmps127
      go_wp2
      go_ret
      exact ⟨by rw [HR.out]; rfl, HB.out⟩
    · have b2 : decide (id < i1) = false := decide_eq_false h2
      have HR : Hid (cmpI i1 id = 0) := by show _ = _; unfold cmpI; rw [if_neg h1, if_neg h2]
      clear h1 h2
      go_enter Tryz.func127, Tryz.ntmps127
      go_wp2
      go_ret
      exact ⟨by rw [HR.out]; rfl, HB.out⟩
theorem ents_up {M : List EntM} (h : TabK (ents M)) {i j : Nat} {x y : EntM} (hij : i < j) (hx : M[i]? = some x) (hy : M[j]? = some y) : x.e.id < y.e.id := by
  have hu := h.up
  obtain ⟨hi, rfl⟩ := List.getElem?_eq_some_iff.1 hx
  obtain ⟨hj, rfl⟩ := List.getElem?_eq_some_iff.1 hy
  have := List.pairwise_iff_getElem.1 hu i j (by rw [List.length_map]; exact hi) (by rw [List.length_map]; exact hj) hij
  simpa using this
/-- One of a number is there, just if the one at its place has it. -/
theorem has_place {M : List EntM} (h : TabK (ents M)) (id : Int) {J : Nat} (hJ : placeT (ents M) id = J) : (∀ x, M[J]? = some x → x.e.id = id → hasM M id = some x) ∧ ((∀ x, M[J]? = some x → x.e.id ≠ id) → hasM M id = none) := by
  refine ⟨fun x hx he => find_first hx (decide_eq_true he) (fun j y hj hy => decide_eq_false (fun e => ?_)), fun hn => find_no (fun j y hj hy => decide_eq_false (fun e => ?_))⟩
  · have := ents_up h hj hy hx
    omega
  · rcases Nat.lt_trichotomy j J with h1 | h1 | h1
    · have := place_lt (L := ents M) (id := id) (i := j) (e := y.e) (by omega) (by rw [List.getElem?_map, hy]; rfl)
      omega
    · subst h1; exact hn y hy e
    · have hl : J < M.length := by omega
      have hge := place_ge h.up (id := id) (i := J) (e := (M[J]).e) (by omega) (by rw [List.getElem?_map, List.getElem?_eq_getElem hl]; rfl)
      have := ents_up h h1 (List.getElem?_eq_getElem hl) hy
      omega
set_option maxHeartbeats 4000000 in
set_option maxRecDepth 4000 in
theorem psearch_any (a : Option Addr) (c N : Nat) (M : List EntM) (id : Int) (w : World) (hN : M.length = N) (hu : TabK (ents M)) (hfew : N ≤ 1000) (hrow : PRow w (.slice a M.length c) M) :
    Calls Tryz.prog 126 #[.slice a N c, .int .i64 id, .func (.func 127) #[] #[]] w fun e w' => e = .returned (.tuple #[.int .i64 (placeT (ents M) id : Nat), .bool (hasM M id).isSome]) ∧ Below w.heap.size w w' := by
  have HROW : Hid (∀ u, Below w.heap.size w u → PRow u (.slice a M.length c) M) := fun u hb => own_below hrow hb (Nat.le_refl _)
  have HNL : Hid (M.length = N) := hN
  have HU : Hid (TabK (ents M)) := hu
  obtain ⟨lo, hlo1⟩ : ∃ k, k = placeT (ents M) id := ⟨_, rfl⟩
  obtain ⟨ht, hht⟩ : ∃ b, b = (hasM M id).isSome := ⟨_, rfl⟩
  have HLO : Hid (lo = placeT (ents M) id) := hlo1
  have HHT : Hid (ht = (hasM M id).isSome) := hht
  rw [← hlo1, ← hht]
  have CL : Hid (∀ x : EntM, ∀ u, Calls Tryz.prog 127 #[ev x, .int .i64 id] u fun e w' => e = .returned (.int .i64 (cmpI x.e.id id)) ∧ Below u.heap.size u w') := fun x u => pclos_any x id u
  clear hlo1 hht hN hu hrow
  go_enter Tryz.func126, Tryz.ntmps126
  go_wp2
  go_loopw [9, 10] (fun iv jv wr => ∃ i j : Nat, iv = .int .i64 i ∧ jv = .int .i64 j ∧ i ≤ j ∧ j ≤ N ∧ Hid (Below w.heap.size w wr) ∧ Hid ((∀ k (x : EntM), k < i → M[k]? = some x → x.e.id < id) ∧ (∀ k (x : EntM), j ≤ k → M[k]? = some x → id ≤ x.e.id))) (fun iv jv _ => (intOf jv - intOf iv).toNat)
  case atStart => exact ⟨0, N, rfl, rfl, Nat.zero_le _, Nat.le_refl _, Below.refl _ _, fun k x h => absurd h (Nat.not_lt_zero _), fun k x h1 h2 => by have := (List.getElem?_eq_some_iff.1 h2).1; rw [HNL.out] at this; omega⟩
  case round =>
    obtain ⟨i, j, rfl, rfl, hij, hjN, HW, HI⟩ := hrel
    by_cases hlt : i < j
    · obtain ⟨h, hh⟩ : ∃ h : Nat, h = (i + j) / 2 := ⟨_, rfl⟩
      have hhi : ((i : Int) + (j : Int)) / 2 = (h : Int) := by omega
      have h1 : i ≤ h := by omega
      have h2 : h < j := by omega
      have hhN : h < N := by omega
      clear hh
      obtain ⟨x1, hx1⟩ : ∃ x, M[h]? = some x := ⟨_, List.getElem?_eq_getElem (by rw [HNL.out]; exact hhN)⟩
      have HX : Hid (M[h]? = some x1) := hx1
      obtain ⟨g, hag, _, hat⟩ := (HROW.out wr HW.out).ent hx1
      subst hag
      have FE : Hid (EntAt wr g (h * 6) x1) := hat
      obtain ⟨c1, hc1⟩ : ∃ c, c = cmpI x1.e.id id := ⟨_, rfl⟩
      have HC1 : Hid (c1 = cmpI x1.e.id id) := hc1
      have CL1 : Hid (∀ u, Calls Tryz.prog 127 #[ev x1, .int .i64 id] u fun e w' => e = .returned (.int .i64 c1) ∧ Below u.heap.size u w') := fun u => by rw [hc1]; exact CL.out x1 u
      clear hx1 hc1 hat
      by_cases hc : c1 < 0
      · have bc : decide (c1 < 0) = true := decide_eq_true hc
        go_wp2_with (first | ((with_reducible show wpList _ _ _ (Oper.mk (some 28) _ _ _ _ _ :: _) _ _); refine wpList_load_pent 28 (by rfl) (by rfl) _ (by rfl) g (h * 6) (by rfl) x1 FE.out ?_) | (go_at_call 127; refine (CL1.out _).mono ?_; rintro e w1 ⟨rfl, hb1⟩; have B1 : Hid (Below w.heap.size w w1) := HW.out.trans (hb1.mono HW.out.size); clear hb1))
        go_roundw
        case rel =>
          refine ⟨h + 1, j, by go_num, rfl, by omega, hjN, B1, fun k x hk hx => ?_, HI.out.2⟩
          have h4 := cmpI_neg.1 (by rw [← HC1.out]; exact hc)
          by_cases e : k = h
          · subst e
            rw [HX.out] at hx
            injection hx with hx
            rw [← hx]; exact h4
          · have h3 := ents_up HU.out (by omega) hx HX.out
            omega
        case measure => simp [intOf]; omega
      · have bc : decide (c1 < 0) = false := decide_eq_false hc
        go_wp2_with (first | ((with_reducible show wpList _ _ _ (Oper.mk (some 28) _ _ _ _ _ :: _) _ _); refine wpList_load_pent 28 (by rfl) (by rfl) _ (by rfl) g (h * 6) (by rfl) x1 FE.out ?_) | (go_at_call 127; refine (CL1.out _).mono ?_; rintro e w1 ⟨rfl, hb1⟩; have B1 : Hid (Below w.heap.size w w1) := HW.out.trans (hb1.mono HW.out.size); clear hb1))
        go_roundw
        case rel =>
          have h4 : ¬ x1.e.id < id := fun e => by
            have h5 : c1 < 0 := by rw [HC1.out]; exact cmpI_neg.2 e
            omega
          refine ⟨i, h, rfl, rfl, h1, by omega, B1, HI.out.1, fun k x hk hx => ?_⟩
          by_cases e : k = h
          · subst e
            rw [HX.out] at hx
            injection hx with hx
            rw [← hx]; omega
          · have h3 := ents_up HU.out (by omega) HX.out hx
            omega
        case measure => simp [intOf]; omega
    · obtain rfl : j = i := by omega
      have elo : lo = j := by
        rw [HLO.out]
        refine place_is (by rw [List.length_map, HNL.out]; exact hjN) (fun k e hk he => ?_) ?_
        · rw [List.getElem?_map] at he
          cases hx : M[k]? with
          | none => rw [hx] at he; cases he
          | some x => rw [hx] at he; injection he with he; rw [← he]; exact HI.out.1 k x hk hx
        · by_cases hN : j = (ents M).length
          · exact .inl hN
          · have hlt2 : j < M.length := by rw [List.length_map] at hN; rw [HNL.out] at hN ⊢; omega
            refine .inr ⟨(M[j]).e, by rw [List.getElem?_map, List.getElem?_eq_getElem hlt2]; rfl, ?_⟩
            have := HI.out.2 j _ (Nat.le_refl _) (List.getElem?_eq_getElem hlt2)
            omega
      subst elo
      obtain ⟨hp1, hp2⟩ := has_place HU.out id HLO.out.symm
      by_cases hN : lo < N
      · obtain ⟨x1, hx1⟩ : ∃ x, M[lo]? = some x := ⟨_, List.getElem?_eq_getElem (by rw [HNL.out]; exact hN)⟩
        obtain ⟨g, hag, _, hat⟩ := (HROW.out wr HW.out).ent hx1
        subst hag
        have FE : Hid (EntAt wr g (lo * 6) x1) := hat
        obtain ⟨c1, hc1⟩ : ∃ c, c = cmpI x1.e.id id := ⟨_, rfl⟩
        have CL1 : Hid (∀ u, Calls Tryz.prog 127 #[ev x1, .int .i64 id] u fun e w' => e = .returned (.int .i64 c1) ∧ Below u.heap.size u w') := fun u => by rw [hc1]; exact CL.out x1 u
        have HB2 : Hid (ht = (c1 == 0)) := by
          show ht = _
          by_cases e : x1.e.id = id
          · rw [HHT.out, hp1 x1 hx1 e, hc1, cmpI_zero.2 e]; rfl
          · have e0 : ¬ c1 = 0 := fun e2 => e (cmpI_zero.1 (hc1.symm.trans e2))
            rw [HHT.out, hp2 (fun x hx => by rw [hx1] at hx; injection hx with hx; rw [← hx]; exact e)]
            simpa using e0
        have b1 : decide (lo < N) = true := decide_eq_true hN
        clear hx1 hc1 hat hp1 hp2
        go_wp2_with (first | ((with_reducible show wpList _ _ _ (Oper.mk (some 44) _ _ _ _ _ :: _) _ _); refine wpList_load_pent 44 (by rfl) (by rfl) _ (by rfl) g (lo * 6) (by rfl) x1 FE.out ?_) | (go_at_call 127; refine (CL1.out _).mono ?_; rintro e w1 ⟨rfl, hb1⟩; have B1 : Hid (Below w.heap.size w w1) := HW.out.trans (hb1.mono HW.out.size); clear hb1))
        go_ret2
        rw [HB2.out]
        exact ⟨rfl, B1.out⟩
      · have b1 : decide (lo < N) = false := decide_eq_false hN
        have HH1 : Hid (ht = false) := by
          show ht = false
          rw [HHT.out, hp2 (fun x hx => absurd (List.getElem?_eq_some_iff.1 hx).1 (by rw [HNL.out]; exact hN))]
          rfl
        clear hp1 hp2
        go_wp2
        go_ret2
        rw [HH1.out]
        exact ⟨rfl, HW.out⟩
theorem pfind_any (p : Nat) (M : List EntM) (X : Foot) (id : Int) (w : World) (h : PTab w p M X) :
    Calls Tryz.prog 89 #[.pointer (some ⟨p, 0, none⟩), .int .i64 id] w fun e w' => e = .returned (.tuple #[.int .i64 (placeT (ents M) id : Nat), .bool (hasM M id).isSome]) ∧ Below w.heap.size w w' := by
  obtain ⟨a, c, hc1, hc2, hc3, hcell, _, _⟩ := h.open
  obtain ⟨N, hN⟩ : ∃ N, N = M.length := ⟨_, rfl⟩
  have q0 : w.cell? ⟨p, 0, none⟩ = some (.slice a N c) := by rw [hN]; exact (hcell w (Below.refl _ _)).1
  obtain ⟨lo, hlo⟩ : ∃ k, k = placeT (ents M) id := ⟨_, rfl⟩
  obtain ⟨ht, hht⟩ : ∃ b, b = (hasM M id).isSome := ⟨_, rfl⟩
  have CS : Hid (Calls Tryz.prog 126 #[.slice a N c, .int .i64 id, .func (.func 127) #[] #[]] w fun e w' => e = .returned (.tuple #[.int .i64 (lo : Nat), .bool ht]) ∧ Below w.heap.size w w') := by
    rw [hlo, hht]
    exact psearch_any a c N M id w hN.symm h.tab (by rw [hN]; exact Nat.le_trans h.few (by decide)) (hcell w (Below.refl _ _)).2
  rw [← hlo, ← hht]
  clear hlo hht hN hcell h
  go_enter Tryz.func89, Tryz.ntmps89
  go_wp2_with (go_at_call 126; refine CS.out.mono ?_; rintro e w1 ⟨rfl, hb1⟩; have B1 : Hid (Below w.heap.size w w1) := hb1; clear hb1)
  go_ret2
  exact ⟨rfl, B1.out⟩
end Go.Proofs.YtileidbdmpeciaaGreat
