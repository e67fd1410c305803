/-
  slices.Sort at numbers of 64 bits: of none, and of a list of the call's own.
  The document's own table of decisions: Owes, Open.
-/
import Derived.Test.YtcppihpehipelaaCdC8
import Derived.Test.YtcppihpehipelaaShelf
import Derived.Sort.OwnSortedInts
import Derived.Test.YtcppihpehipelaaRefCd2
namespace Go.Proofs.Ytcppihpehipelaa
open Go.RowKit Go.Sort
set_option linter.unusedVariables false
set_option linter.unusedSimpArgs false

theorem cdlen64_zero (w : World) : Calls Try.prog 82 #[.int .u64 0] w fun e w' => e = .returned (.int .i64 0) ∧ w' = w := by
  go_enter Try.func82, Try.ntmps82
  go_wp2
  go_ret
  exact ⟨congrArg (fun z => Ending.returned (.int .i64 z)) (by decide +kernel : wrap64 (wrap64 (Lib.len8 0)) = 0), rfl⟩
theorem cdlen_zero (w : World) : Calls Try.prog 66 #[.int .u64 0] w fun e w' => e = .returned (.int .i64 0) ∧ w' = w := by
  go_enter Try.func66, Try.ntmps66
  go_wp2_with (go_at_call 82; refine (cdlen64_zero _).mono ?_; rintro e w' ⟨rfl, rfl⟩)
  go_ret
  exact ⟨rfl, rfl⟩
theorem cdins_none (p : Option Addr) (cap : Nat) (w : World) : Calls Try.prog 72 #[.slice p 0 cap, .int .i64 0, .int .i64 0] w fun e w' => e = .returned (.tuple #[]) ∧ w' = w := by
  go_enter Try.func72, Try.ntmps72
  go_wp2
  refine wp_loop_rounds 1 ?_
  rw [rounds_succ]
  go_wp2
  go_end0
  exact ⟨rfl, rfl⟩
set_option maxRecDepth 100000 in
theorem cdpdq_none (p : Option Addr) (cap : Nat) (w : World) : Calls Try.prog 65 #[.slice p 0 cap, .int .i64 0, .int .i64 0, .int .i64 0] w fun e w' => e = .returned (.tuple #[]) ∧ w' = w := by
  go_enter Try.func65, Try.ntmps65
  go_wp2
  refine wp_loop_rounds 1 ?_
  rw [rounds_succ]
  go_wp2_with (first | (go_at_call 72; refine (cdins_none p cap _).mono ?_; rintro e w' ⟨rfl, rfl⟩))
  refine bodyPost_ret (results_none rfl _ _ _) rfl ?_
  exact ⟨rfl, rfl⟩
set_option maxRecDepth 100000 in
theorem cdsort_none (p : Option Addr) (cap : Nat) (w : World) : Calls Try.prog 48 #[.slice p 0 cap] w fun e w' => e = .returned (.tuple #[]) ∧ w' = w := by
  go_enter Try.func48, Try.ntmps48
  go_wp2_with (first
    | (go_at_call 66; refine (cdlen_zero _).mono ?_; rintro e w' ⟨rfl, rfl⟩)
    | (go_at_call 65; refine (cdpdq_none p cap _).mono ?_; rintro e w' ⟨rfl, rfl⟩))
  go_end0
  exact ⟨rfl, rfl⟩
/-- Numbers that rise are told by which are there. -/
theorem upC_unique : ∀ a b : List Int, a.Pairwise (fun x y => x < y) → b.Pairwise (fun x y => x < y) → (∀ x, x ∈ a ↔ x ∈ b) → a = b
  | [], [], _, _, _ => rfl
  | [], y :: s, _, _, h => by have := (h y).2 (by simp); simp at this
  | x :: r, [], _, _, h => by have := (h x).1 (by simp); simp at this
  | x :: r, y :: s, ha, hb, h => by
    obtain ⟨a1, a2⟩ := List.pairwise_cons.1 ha
    obtain ⟨b1, b2⟩ := List.pairwise_cons.1 hb
    have hxy : x = y := by
      rcases List.mem_cons.1 ((h x).1 (by simp)) with e | e
      · exact e
      · rcases List.mem_cons.1 ((h y).2 (by simp)) with e' | e'
        · exact e'.symm
        · have h1 := a1 y e'
          have h2 := b1 x e
          omega
    subst hxy
    rw [upC_unique r s a2 b2 (fun z => ?_)]
    have hz := h z
    simp only [List.mem_cons] at hz
    constructor
    · intro hr
      rcases hz.1 (.inr hr) with e | e
      · have := a1 z hr; omega
      · exact e
    · intro hr
      rcases hz.2 (.inr hr) with e | e
      · have := b1 z hr; omega
      · exact e
theorem sortedC_is {L O : List Int} (hn : L.Nodup) (hO : O.Pairwise (fun x y => x < y)) (h : ∀ x, x ∈ L ↔ x ∈ O) : (L.mergeSort fun x y => decide (x ≤ y)) = O := by
  refine upC_unique _ _ ?_ hO (fun x => (List.mergeSort_perm L _).mem_iff.trans (h x))
  have h1 := List.pairwise_mergeSort (le := fun x y : Int => decide (x ≤ y)) (fun a b c h1 h2 => by simp at *; omega) (fun a b => by simp; omega) L
  have h2 : (L.mergeSort fun x y => decide (x ≤ y)).Nodup := (List.mergeSort_perm L _).nodup_iff.2 hn
  exact (h1.and h2).imp (fun {a b} ⟨q1, q2⟩ => by simp at q1; omega)
/-- slices.Sort over a list of the call's own. -/
theorem cdsort_own (B : Nat) (v : Value) (n : Nat) (zs : List Int) (w : World) (hl : zs.length = n) (hn : n ≤ 1000000) (hown : w.ownsRow B 2 1 v n (zs.map (Value.int .i64))) :
    Calls Try.prog 48 #[v] w fun e w' => e = .returned (.tuple #[]) ∧ w'.ownsRow B 2 1 v n ((zs.mergeSort fun x y => decide (x ≤ y)).map (Value.int .i64)) ∧ w.grownBy w' v.ownBlock := by
  rcases hown.2 with ⟨rfl, h0⟩ | ⟨g, cap, cur, rfl, hg, hb, hc, hm, hs, ht⟩
  · subst h0
    have hz := List.eq_nil_of_length_eq_zero hl
    subst hz
    refine (cdsort_none none 0 w).mono ?_
    rintro e w' ⟨rfl, rfl⟩
    exact ⟨rfl, by simpa using hown, ⟨rfl, rfl, rfl, Nat.le_refl _, fun _ _ _ => rfl⟩⟩
  · subst hl
    rw [Nat.mul_one] at ht
    have hH := holds_of_blockI hb ht
    have hlt : g < w.heap.size := (Array.getElem?_eq_some_iff.1 hb).1
    refine (Try.slices_Sort_int g 0 cap zs w hH hlt (by omega)).mono ?_
    rintro e w' ⟨rfl, q, os, rfl⟩
    exact ⟨rfl, ownsRow_sortedI (List.length_mergeSort _) hg hb hc hm hs, grownBy_sortedI _⟩
end Go.Proofs.Ytcppihpehipelaa

namespace Go.Proofs.Ytcppihpehipelaa
open Go.RowKit
set_option linter.unusedVariables false
set_option linter.unusedSimpArgs false

theorem nums_elC : ElT 35 3 1 8 := ElT.mk' (z := .int .i64 0) Try.underlying35 (by kernel_rfl) (by kernel_rfl) (by decide) (by decide)
theorem i64_elC : ElT 44 2 1 8 := ElT.mk' (z := .int .i64 0) Try.underlying44 (by kernel_rfl) (by kernel_rfl) (by decide) (by decide)
theorem own_numsD {w : World} {B e N c : Nat} {a : Option Addr} {zs : List Int} (h : w.ownsRow B e 1 (.slice a N c) N (zs.map (Value.int .i64))) (hl : zs.length = N) : NumsD w a zs ∧ N ≤ c := by
  rcases h.2 with ⟨e, h0⟩ | ⟨g, cap, cur, e, hg, hh, h1, h2, h3, h4⟩
  · cases e
    exact ⟨fun i z hz => by have := (List.getElem?_eq_some_iff.1 hz).1; omega, by omega⟩
  · cases e
    refine ⟨fun i z hz => ⟨g, rfl, ?_⟩, h1⟩
    have hL : Lies w (some ⟨g, 0, none⟩) (zs.map (Value.int .i64)) := own_lies h
    have := hL.at i (.int .i64 z) (by rw [List.getElem?_map, hz]; rfl)
    rwa [Nat.zero_add] at this
/-- Who of the first k parts owes. -/
def owesN (ps : List Int) (ak : List Bool) (k : Nat) : List Int := (((ps.zip ak).take k).filter (fun x => !x.2)).map (fun x => x.1)
theorem owesN_next {ps : List Int} {ak : List Bool} {k : Nat} {p : Int} {b : Bool} (hp : ps[k]? = some p) (hb : ak[k]? = some b) : owesN ps ak (k + 1) = owesN ps ak k ++ if b then [] else [p] := by
  unfold owesN
  have hz : (ps.zip ak)[k]? = some (p, b) := by rw [List.getElem?_zip_eq_some]; exact ⟨hp, hb⟩
  rw [List.take_add_one, hz, Option.toList_some, List.filter_append, List.map_append]
  cases b <;> simp
theorem owesN_all {ps : List Int} {ak : List Bool} (k : Nat) (h : ps.length ≤ k) : owesN ps ak k = (((ps.zip ak)).filter (fun x => !x.2)).map (fun x => x.1) := by
  unfold owesN
  rw [List.take_of_length_le (by rw [List.length_zip]; omega)]
theorem owesN_few (ps : List Int) (ak : List Bool) (k : Nat) : (owesN ps ak k).length ≤ k := by
  unfold owesN
  rw [List.length_map]
  exact Nat.le_trans (List.length_filter_le _ _) (by rw [List.length_take]; omega)
set_option maxHeartbeats 8000000 in
set_option maxRecDepth 8000 in
theorem rcowes_any {q : Nat} {M : List OneM} (id : Int) (w : World) (h : CrdV w q M) (hf : M.length ≤ 1000000) (hps : ∀ x ∈ M, x.d.parts.length ≤ 1000 ∧ x.d.acks.length = x.d.parts.length) :
    Calls Try.prog 31 #[.pointer (some ⟨q, 0, none⟩), .int .i64 id] w fun e w' => ∃ ra m rc, e = .returned (.slice ra m rc) ∧ (owesC (decs M) id).length = m ∧ m ≤ rc ∧ NumsD w' ra (owesC (decs M) id) ∧ Below w.heap.size w w' := by
  obtain ⟨N, hN⟩ : ∃ n, M.length = n := ⟨_, rfl⟩
  obtain ⟨a, c, hc, hcell, hone⟩ := h.open hN
  have CA : Hid (Calls Try.prog 51 #[.pointer (some ⟨q, 0, none⟩), .int .i64 id] w fun e w' => e = .returned (.int .i64 (atC (decs M) id)) ∧ w' = w) := rcat_any id w h hf
  obtain ⟨R, hR⟩ : ∃ r, r = owesC (decs M) id := ⟨_, rfl⟩
  rw [← hR]
  rcases atC_ways M id with ⟨h1, h2⟩ | ⟨i, x, h1, h2, h3, h4⟩
  · have HR : Hid (R = []) := by show _ = _; rw [hR]; unfold owesC; rw [h2]
    rw [h1] at CA
    clear h hcell hone hR h1 h2
    go_enter Try.func31, Try.ntmps31
    go_wp2_with (go_at_call 51; refine CA.out.mono ?_; rintro e w1 ⟨rfl, hw⟩; obtain rfl := hw.symm; clear hw)
    refine wp_loop_rounds 1 ?_
    rw [rounds_succ]
    go_wp2
    go_ret
    exact ⟨none, 0, 0, rfl, by rw [HR.out]; rfl, Nat.le_refl _, by rw [HR.out]; intro j z hz; simp at hz, Below.refl _ _⟩
  · obtain ⟨g, hag, ho⟩ := hone i x h3
    subst hag
    obtain ⟨hp9, hak⟩ := hps x (List.mem_of_getElem? h3)
    rw [h1] at CA
    obtain ⟨P, hP⟩ : ∃ n, n = x.d.parts.length := ⟨_, rfl⟩
    have HP : Hid (P = x.d.parts.length) := hP
    have HAK : Hid (x.d.acks.length = P) := by rw [hP]; exact hak
    have HR : Hid (R = owesN x.d.parts x.d.acks P) := by show _ = _; rw [hR]; unfold owesC; rw [h2]; exact (owesN_all P (by omega)).symm
    have FC : Hid (∀ u, Below w.heap.size w u → u.cell? ⟨q, 0, none⟩ = some (.slice (some ⟨g, 0, none⟩) N c) ∧ u.cell? ⟨g, i * 9 + 3, none⟩ = some (.slice x.pa P x.pc) ∧ u.cell? ⟨g, i * 9 + 8, none⟩ = some (.slice x.aa P x.ac)) := fun u hu => by
      obtain ⟨_, _, _, y3, _, _, _, _, y8⟩ := (ho u hu).cells
      rw [hak, ← hP] at y8
      rw [← hP] at y3
      exact ⟨hcell u hu, y3, y8⟩
    have FP : Hid (∀ u, Below w.heap.size w u → NumsD u x.pa x.d.parts ∧ BoolsD u x.aa x.d.acks) := fun u hu => ⟨(ho u hu).parts, (ho u hu).acks⟩
    have hi0 : (0 : Int) ≤ (i : Int) := by omega
    have hiN : (i : Int) < (N : Int) := by omega
    have hP9 : P ≤ 1000 := by omega
    generalize x.pc = pc at *
    generalize x.ac = ac at *
    generalize x.pa = pa at *
    generalize x.aa = aa at *
    generalize x.d.parts = ps at *
    generalize x.d.acks = ak at *
    clear h hcell hone hR h1 h2 h3 h4 ho hps hp9 hak hP
    go_enter Try.func31, Try.ntmps31
    go_wp2_with (go_at_call 51; refine CA.out.mono ?_; rintro e w1 ⟨rfl, hw⟩; obtain rfl := hw.symm; clear hw)
    go_loopw [6, 7] (fun rv iv wr => ∃ (k m : Nat) (ra : Option Addr) (rc : Nat), iv = .int .i64 k ∧ rv = .slice ra m rc ∧ k ≤ P ∧ Hid (OwnB 3 1 w wr (.slice ra m rc) m ((owesN ps ak k).map (Value.int .i64))) ∧ Hid ((owesN ps ak k).length = m)) (fun _ iv _ => P - (intOf iv).toNat)
    case atStart => exact ⟨0, 0, none, 0, rfl, rfl, Nat.zero_le _, ⟨World.ownsRow_nil _ _ _ _, Below.refl _ _⟩, rfl⟩
    case round =>
      obtain ⟨k, m, ra, rc, rfl, rfl, hk, HO, HM⟩ := hrel
      have hk0 : (0 : Int) ≤ (k : Int) := by omega
      obtain ⟨q0, y3, y8⟩ := FC.out wr HO.out.below
      by_cases hlt : k < P
      · have h1 : (k : Int) < (P : Int) := by omega
        obtain ⟨p, hp⟩ : ∃ p, ps[k]? = some p := ⟨_, List.getElem?_eq_getElem (by rw [← HP.out]; exact hlt)⟩
        obtain ⟨b, hb⟩ : ∃ b, ak[k]? = some b := ⟨_, List.getElem?_eq_getElem (by rw [HAK.out]; exact hlt)⟩
        obtain ⟨fp, fa⟩ := FP.out wr HO.out.below
        obtain ⟨gp, hgp, zp⟩ := fp k p hp
        obtain ⟨ga, hga, za⟩ := fa k b hb
        subst hgp
        subst hga
        have HNX : Hid (owesN ps ak (k + 1) = owesN ps ak k ++ if b then [] else [p]) := owesN_next hp hb
        have hm9 : m + 1 ≤ 1000000 := by have := owesN_few ps ak k; rw [HM.out] at this; omega
        clear fp fa hp hb
        cases b with
        | true =>
          have HX : Hid (owesN ps ak (k + 1) = owesN ps ak k) := by show _ = _; rw [HNX.out]; simp
          clear HNX
          go_wp2
          go_roundw
          case rel => exact ⟨k + 1, m, ra, rc, by go_num, rfl, by omega, by rw [HX.out]; exact HO, by rw [HX.out]; exact HM⟩
          case measure => simp [intOf]; omega
        | false =>
          have HX : Hid ((owesN ps ak k).map (Value.int .i64) ++ [.int .i64 p] = (owesN ps ak (k + 1)).map (Value.int .i64)) := by show _ = _; rw [HNX.out]; simp
          have HL : Hid ((owesN ps ak (k + 1)).length = m + 1) := by show _ = _; rw [HNX.out, List.length_append, HM.out]; rfl
          clear HNX
          go_wp2_with (first
            | (have hgo := HX.out; clear hgo; at_builtin; refine wpList_own nums_elC (w0 := w) rfl (.tmp 40) (.tmp 52) rfl _ m _ [.int .i64 p] rfl (HO.out.alloc _) _ _ _ rfl rfl (lies_made _ _ _) (by intro u hu; simp at hu; rw [hu]; rfl) (fun h => by cases h) (m + 1) rfl hm9 ((owesN ps ak (k + 1)).map (Value.int .i64)) HX.out ?_; intro a6 c6 w6 h1 h2; have O6 : Hid (OwnB 3 1 w w6 (.slice a6 (m + 1) c6) (m + 1) ((owesN ps ak (k + 1)).map (Value.int .i64))) := h1; clear h1 h2))
          go_roundw
          case rel => exact ⟨k + 1, m + 1, a6, c6, by go_num, rfl, by omega, O6, HL⟩
          case measure => simp [intOf]; omega
      · obtain rfl : k = P := by omega
        have h1 : ¬ (k : Int) < (k : Int) := by omega
        go_wp2
        go_ret
        have hd := own_numsD HO.out.own HM.out
        rw [HR.out]
        exact ⟨ra, m, rc, rfl, HM.out, hd.2, hd.1, HO.out.below⟩
end Go.Proofs.Ytcppihpehipelaa

