/-
  slices.DeleteFunc with package coord's closure: a number goes out of a list of one's own; without.
-/
import Derived.Test.YtcppihpehipelaaAu55
namespace Go.Proofs.Ytcppihpehipelaa
open Go.RowKit
set_option linter.unusedVariables false
set_option linter.unusedSimpArgs false

def keptC (l : List Int) (p : Int) (j : Nat) : List Int := (l.take j).filter (fun x => !decide (x = p))
theorem keptC_next {l : List Int} {p x : Int} {j : Nat} (h : l[j]? = some x) : keptC l p (j + 1) = keptC l p j ++ if x = p then [] else [x] := by
  unfold keptC
  rw [List.take_add_one, h, Option.toList_some, List.filter_append]
  congr 1
  by_cases e : x = p <;> simp [e]
/-- Behind j numbers, of which i stay. -/
structure DelS (w wr : World) (g : Nat) (l : List Int) (p : Int) (i j : Nat) : Prop where
  chg : Chg w wr (fun k => k = g)
  size : wr.heap.size = w.heap.size
  row : ∃ cur : Array Value, wr.heap[g]? = some (.cells cur 3 (0, 0)) ∧ l.length ≤ cur.size ∧ (∀ (k : Nat) (z : Int), (keptC l p j)[k]? = some z → cur[k]? = some (.int .i64 z)) ∧ ∀ (k : Nat) (z : Int), j ≤ k → l[k]? = some z → cur[k]? = some (.int .i64 z)
  cnt : (keptC l p j).length = i
  lt : i < j
theorem DelS.lo {w wr : World} {g i j : Nat} {l : List Int} {p : Int} (h : DelS w wr g l p i j) (hg : g < w.heap.size) : Below g w wr := h.chg.below (by omega) (fun k e => by omega)
theorem DelS.start {w : World} {g i : Nat} {l : List Int} {p : Int} (h : IntsO w g l) (hi : l[i]? = some p) (hn : ∀ (j : Nat) (x : Int), j < i → l[j]? = some x → x ≠ p) : DelS w w g l p i (i + 1) := by
  obtain ⟨cur, h1, h2, h3⟩ := h.row
  have hk : keptC l p i = l.take i := by
    unfold keptC
    rw [List.filter_eq_self]
    intro x hx
    obtain ⟨j, hj⟩ := List.mem_iff_getElem?.1 hx
    rw [List.getElem?_take] at hj
    split at hj
    · rename_i hji
      have := hn j x hji hj
      simp [this]
    · cases hj
  have hk2 : keptC l p (i + 1) = l.take i := by rw [keptC_next hi, hk, if_pos rfl, List.append_nil]
  have hil := (List.getElem?_eq_some_iff.1 hi).1
  refine ⟨Chg.refl _ _, rfl, ⟨cur, h1, h2, fun k z hz => ?_, fun k z _ hz => h3 k z hz⟩, by rw [hk2, List.length_take]; omega, by omega⟩
  rw [hk2, List.getElem?_take] at hz
  split at hz
  · exact h3 k z hz
  · cases hz
theorem DelS.at_ {w wr : World} {g i j : Nat} {l : List Int} {p x : Int} (h : DelS w wr g l p i j) (hx : l[j]? = some x) : wr.cell? ⟨g, j, none⟩ = some (.int .i64 x) ∧ (∃ y, wr.cell? ⟨g, i, none⟩ = some y) ∧ wr.frozen? ⟨g, i, none⟩ = false := by
  obtain ⟨cur, h1, h2, h3, h4⟩ := h.row
  have hjl := (List.getElem?_eq_some_iff.1 hx).1
  have hlt := h.lt
  refine ⟨(cell_of_row wr g j cur _ _ h1).trans (h4 j x (Nat.le_refl _) hx), ⟨_, (cell_of_row wr g i cur _ _ h1).trans (Array.getElem?_eq_getElem (by omega))⟩, ?_⟩
  unfold World.frozen?
  rw [h1]
  simp
theorem DelS.drop {w wr : World} {g i j : Nat} {l : List Int} {p x : Int} (h : DelS w wr g l p i j) (hx : l[j]? = some x) (e : x = p) : DelS w wr g l p i (j + 1) := by
  obtain ⟨cur, h1, h2, h3, h4⟩ := h.row
  have hk : keptC l p (j + 1) = keptC l p j := by rw [keptC_next hx, if_pos e, List.append_nil]
  exact ⟨h.chg, h.size, ⟨cur, h1, h2, fun k z hz => h3 k z (by rw [← hk]; exact hz), fun k z hk hz => h4 k z (by omega) hz⟩, by rw [hk]; exact h.cnt, by have := h.lt; omega⟩
theorem DelS.keep {w wr : World} {g i j : Nat} {l : List Int} {p x : Int} (h : DelS w wr g l p i j) (hx : l[j]? = some x) (e : x ≠ p) : DelS w (wr.setCell ⟨g, i, none⟩ (.int .i64 x)) g l p (i + 1) (j + 1) := by
  obtain ⟨cur, h1, h2, h3, h4⟩ := h.row
  have hk : keptC l p (j + 1) = keptC l p j ++ [x] := by rw [keptC_next hx, if_neg e]
  have hlt := h.lt
  have hjl := (List.getElem?_eq_some_iff.1 hx).1
  have hset := setCell_eq_setRow wr g i cur 3 (0, 0) (.int .i64 x) h1
  refine ⟨h.chg.trans (Chg.set wr ⟨g, i, none⟩ _ (X := fun k => k = g) rfl) (fun _ _ y => y), by rw [World.size_setCell]; exact h.size, ⟨cur.setIfInBounds i (.int .i64 x), ?_, by rw [Array.size_setIfInBounds]; exact h2, fun k z hz => ?_, fun k z hjk hz => ?_⟩, by rw [hk, List.length_append, h.cnt]; rfl, by omega⟩
  · rw [hset]; exact setRow_heap wr g cur _ _ _ h1
  · rw [hk] at hz
    by_cases ek : k = i
    · subst ek
      rw [List.getElem?_append_right (by rw [h.cnt]; exact Nat.le_refl _), h.cnt, Nat.sub_self] at hz
      injection hz with hz
      rw [Array.getElem?_setIfInBounds_self_of_lt (by omega), ← hz]
    · rw [Array.getElem?_setIfInBounds_ne (fun e => ek e.symm)]
      have hki : k < i := by
        have := (List.getElem?_eq_some_iff.1 hz).1
        rw [List.length_append, h.cnt] at this
        simp at this
        omega
      rw [List.getElem?_append_left (by rw [h.cnt]; exact hki)] at hz
      exact h3 k z hz
  · rw [Array.getElem?_setIfInBounds_ne (by omega)]
    exact h4 k z (by omega) hz
/-- At the end: what is left is the first of the list, zeros are behind. -/
theorem DelS.done {w wr : World} {g i : Nat} {l : List Int} {p : Int} (h : DelS w wr g l p i l.length) (c : Nat) : ∃ W2, (∀ ty, (Builtin.clear_ #[35] ty #[.slice (some ⟨g, i, none⟩) (l.length - i) (c - i)]).run Try.prog wr = .ok (.tuple #[]) W2) ∧ IntsO W2 g (keptC l p l.length) ∧ Chg w W2 (fun k => k = g) ∧ W2.heap.size = w.heap.size := by
  obtain ⟨cur, h1, h2, h3, h4⟩ := h.row
  have hlt := h.lt
  have hN : 0 < l.length - i := by omega
  obtain ⟨zs, hzl, hcl⟩ := run_clear_els ints_elC int_zeroC wr 0 g i (l.length - i) (c - i) cur h1 hN (by omega)
  refine ⟨_, fun ty => hcl, ⟨⟨_, setRow_heap wr g _ _ 3 _ h1, ?_, fun k z hz => ?_⟩⟩, ?_, ?_⟩
  · rw [h.cnt, List.size_toArray]
    simp only [List.length_append, List.length_take, List.length_drop, Array.length_toList, hzl]
    omega
  · have hk : k < i := by rw [← h.cnt]; exact (List.getElem?_eq_some_iff.1 hz).1
    rw [List.getElem?_toArray, List.append_assoc, List.getElem?_append_left (by rw [List.length_take, Array.length_toList]; omega), List.getElem?_take_of_lt hk, Array.getElem?_toList]
    exact h3 k z hz
  · exact h.chg.trans ⟨rfl, rfl, rfl, by simp, fun k _ hk => setRow_other wr g k _ hk⟩ (fun _ _ y => y)
  · simp [h.size]
theorem keptC_all (l : List Int) (p : Int) : keptC l p l.length = l.filter (fun x => !decide (x = p)) := by unfold keptC; rw [List.take_length]
/-- What DeleteFunc leaves. -/
structure Without (w w' : World) (e : Ending) (g c : Nat) (l : List Int) (p : Int) : Prop where
  out : e = .returned (.slice (some ⟨g, 0, none⟩) (l.filter (fun x => !decide (x = p))).length c)
  ints : IntsO w' g (l.filter (fun x => !decide (x = p)))
  chg : Chg w w' (fun k => k = g)
set_option maxHeartbeats 4000000 in
set_option maxRecDepth 4000 in
theorem cddel_any (g N c : Nat) (l : List Int) (p : Int) (x1 : Nat) (w : World) (hl : l.length = N) (hN : N ≤ 1000) (hc : N ≤ c) (hat : IntsO w g l) (hb : ∀ z ∈ l, -9223372036854775808 ≤ z ∧ z ≤ 9223372036854775807) (h : w.cell? ⟨x1, 0, none⟩ = some (.int .i64 p)) (hx : x1 ≠ g) :
    Calls Try.prog 63 #[.slice (some ⟨g, 0, none⟩) N c, .func (.func 64) #[] #[.pointer (some ⟨x1, 0, none⟩)]] w fun e w' => Without w w' e g c l p := by
  have CI := cdidxf_any (some ⟨g, 0, none⟩) N c l p x1 w hl (by omega) (hat.ints hb) h
  have HL : Hid (l.length = N) := hl
  have HO : Hid (IntsO w g l) := hat
  have CC : Hid (∀ u x, Chg w u (fun k => k = g) → Calls Try.prog 64 #[.int .i64 x, .pointer (some ⟨x1, 0, none⟩)] u fun e w' => e = .returned (.bool (decide (x = p))) ∧ w' = u) := fun u x hu => cdwo1_any x p x1 u ((cell_kept (hu.block x1 (cell_lt h) hx) 0).trans h)
  by_cases hp : p ∈ l
  · have CI : Hid (Calls Try.prog 71 #[.slice (some ⟨g, 0, none⟩) N c, .func (.func 64) #[] #[.pointer (some ⟨x1, 0, none⟩)]] w fun e w' => ∃ i : Nat, e = .returned (.int .i64 i) ∧ i < N ∧ Hid (DelS w w g l p i (i + 1)) ∧ w' = w) := CI.mono fun e w' ⟨h1, h2⟩ => by
      rcases h1 with ⟨_, h1⟩ | ⟨i, h1, h3, h4⟩
      · exact absurd hp h1
      · exact ⟨i, h1, by rw [← hl]; exact (List.getElem?_eq_some_iff.1 h3).1, DelS.start hat h3 h4, h2⟩
    have hne : Hid (∀ i : Nat, ((i : Int) == -1) = false) := fun i => beq_eq_false_iff_ne.2 (by omega)
    have hge : Hid (∀ i : Nat, (0 : Int) ≤ (i : Int) + 1) := fun i => by omega
    have hle : Hid (∀ i : Nat, i < N → (i : Int) + 1 ≤ 2000) := fun i hi => by omega
    clear hat hb h hp hl hx
    go_enter Try.func63, Try.ntmps63
    go_wp2_with (go_at_call 71; refine CI.out.mono ?_; rintro e w1 ⟨i0, rfl, hi0, HD0, hw⟩; obtain rfl := hw.symm; clear hw; have hi00 := hne.out i0; have hi01 := hge.out i0; have hi02 := hle.out i0 hi0)
    go_loopw [5, 6] (fun iv jv wr => ∃ i j : Nat, iv = .int .i64 i ∧ jv = .int .i64 j ∧ j ≤ N ∧ Hid (DelS w wr g l p i j)) (fun _ jv _ => N - (intOf jv).toNat)
    case atStart => exact ⟨i0, i0 + 1, rfl, by go_num, by omega, HD0⟩
    case round =>
      obtain ⟨i, j, rfl, rfl, hj, HD⟩ := hrel
      have hij := HD.out.lt
      have hj0 : (0 : Int) ≤ (j : Int) := by omega
      have hi0' : (0 : Int) ≤ (i : Int) := by omega
      by_cases hlt : j < N
      · have h1 : (j : Int) < (N : Int) := by omega
        have h2 : (i : Int) < (N : Int) := by omega
        obtain ⟨x, hx⟩ : ∃ x, l[j]? = some x := ⟨_, List.getElem?_eq_getElem (by rw [HL.out]; exact hlt)⟩
        obtain ⟨z0, ⟨y, z1⟩, z2⟩ := HD.out.at_ hx
        have CX := CC.out wr x HD.out.chg
        by_cases hid : x = p
        · rw [decide_eq_true hid] at CX
          have CX : Hid (Calls Try.prog 64 #[.int .i64 x, .pointer (some ⟨x1, 0, none⟩)] wr fun e w' => e = .returned (.bool true) ∧ w' = wr) := CX
          have HD2 : Hid (DelS w wr g l p i (j + 1)) := HD.out.drop hx hid
          clear hid hx
          go_wp2_with (go_at_call 64; refine CX.out.mono ?_; rintro e w3 ⟨rfl, hw3⟩; obtain rfl := hw3.symm; clear hw3)
          go_roundw
          case rel => exact ⟨i, j + 1, rfl, by go_num, by omega, HD2⟩
          case measure => simp [intOf]; omega
        · rw [decide_eq_false hid] at CX
          have CX : Hid (Calls Try.prog 64 #[.int .i64 x, .pointer (some ⟨x1, 0, none⟩)] wr fun e w' => e = .returned (.bool false) ∧ w' = wr) := CX
          have HD2 : Hid (DelS w (wr.setCell ⟨g, i, none⟩ (.int .i64 x)) g l p (i + 1) (j + 1)) := HD.out.keep hx hid
          clear hid hx
          go_wp2_with (go_at_call 64; refine CX.out.mono ?_; rintro e w3 ⟨rfl, hw3⟩; obtain rfl := hw3.symm; clear hw3)
          go_roundw
          case rel => exact ⟨i + 1, j + 1, by go_num, by go_num, by omega, HD2⟩
          case measure => simp [intOf]; omega
      · obtain rfl : j = N := by omega
        have HDN : DelS w wr g l p i l.length := by rw [HL.out]; exact HD.out
        obtain ⟨W2, hcl, k1, k2, k3⟩ := HDN.done c
        rw [HL.out] at hcl
        have hcnt := HDN.cnt
        rw [keptC_all] at k1 hcnt
        have HK1 : Hid (IntsO W2 g (l.filter (fun x => !decide (x = p)))) := k1
        have HK2 : Hid (Chg w W2 (fun k => k = g)) := k2
        have HCN : Hid ((l.filter (fun x => !decide (x = p))).length = i) := hcnt
        have hb1 : (i : Int) ≤ (j : Int) := by omega
        have hb2 : (i : Int) ≤ (c : Int) := by omega
        have hb3 : ¬ (c = i) := by omega
        have hb4 : i ≤ j := by omega
        have hb5 : i ≤ c := by omega
        have hb6 : (j : Int) ≤ (c : Int) := by omega
        clear k1 k2 k3 HDN hcnt
        go_wp2
        go_ret
        exact ⟨by rw [HCN.out]; rfl, HK1.out, HK2.out⟩
  · have CI : Hid (Calls Try.prog 71 #[.slice (some ⟨g, 0, none⟩) N c, .func (.func 64) #[] #[.pointer (some ⟨x1, 0, none⟩)]] w fun e w' => e = .returned (.int .i64 (-1)) ∧ w' = w) := CI.mono fun e w' ⟨h1, h2⟩ => by
      rcases h1 with ⟨h1, _⟩ | ⟨i, h1, h3, h4⟩
      · exact ⟨h1, h2⟩
      · exact absurd (List.mem_of_getElem? h3) hp
    have HF : Hid (l.filter (fun x => !decide (x = p)) = l) := filterC_self hp
    clear hat hb h hp hl hx
    go_enter Try.func63, Try.ntmps63
    go_wp2_with (go_at_call 71; refine CI.out.mono ?_; rintro e w1 ⟨rfl, hw⟩; obtain rfl := hw.symm; clear hw)
    go_ret
    exact ⟨by rw [HF.out, HL.out]; rfl, by rw [HF.out]; exact HO.out, Chg.refl _ _⟩
set_option maxHeartbeats 1000000 in
theorem cdwo_any (g N c : Nat) (l : List Int) (p : Int) (w : World) (hl : l.length = N) (hN : N ≤ 1000) (hc : N ≤ c) (hat : IntsO w g l) (hb : ∀ z ∈ l, -9223372036854775808 ≤ z ∧ z ≤ 9223372036854775807) :
    Calls Try.prog 43 #[.slice (some ⟨g, 0, none⟩) N c, .int .i64 p] w fun e w' => Without w w' e g c l p := by
  have HB : Hid (Below w.heap.size w (w.alloc (.cells #[.int .i64 p] 3))) := (Below.refl _ _).alloc (Nat.le_refl _) _
  have h1 : (w.alloc (.cells #[.int .i64 p] 3)).cell? ⟨w.heap.size, 0, none⟩ = some (.int .i64 p) := by rw [World.cell?_alloc_new]; rfl
  have CD : Hid (Calls Try.prog 63 #[.slice (some ⟨g, 0, none⟩) N c, .func (.func 64) #[] #[.pointer (some ⟨w.heap.size, 0, none⟩)]] (w.alloc (.cells #[.int .i64 p] 3)) fun e w' => Without (w.alloc (.cells #[.int .i64 p] 3)) w' e g c l p) := cddel_any g N c l p w.heap.size _ hl hN hc (hat.past HB.out) hb h1 (by have := hat.lt; omega)
  clear hat hb h1 hl
  go_enter Try.func43, Try.ntmps43
  go_wp2_with (go_at_call 63; refine CD.out.mono ?_; rintro e w1 ⟨rfl, h2, h3⟩; have H2 : Hid (IntsO w1 g (l.filter (fun x => !decide (x = p)))) := h2; have H3 : Hid (Chg w w1 (fun k => k = g)) := (Chg.of_below HB.out _).trans h3 (fun _ _ y => y); clear h2 h3)
  go_ret
  exact ⟨rfl, H2.out, H3.out⟩
end Go.Proofs.Ytcppihpehipelaa
