/-
  What package key answers: Sort; and with it all of the package's contracts.
-/
import Derived.Test.YtfgbgcaackhcmaaKeyColl
import Derived.Test.YtfgbgcaackhcmaaKeyC3
namespace Go.Proofs.Ytfgbgcaackhcmaa
open Go.RowKit
set_option linter.unusedVariables false

theorem appseq_any (Bm m c : Nat) (l : List (List Int)) (w : World) (hBm : Bm < w.heap.size) (hm : w.cell? ⟨Bm, 0, none⟩ = some (.map (some m))) (hset : KSet w m c l) (hc : c ≤ 1000000) :
    Calls Try.prog 38 #[.slice none 0 0, .func (.func 34) #[] #[.pointer (some ⟨Bm, 0, none⟩)]] w fun e w' => ∃ v ss, e = .returned v ∧ Gives l c ss ∧ w'.ownsRow w.heap.size 24 16 v ss.length ((ss.map Subtype.val).flatMap kc) ∧ Below w.heap.size w w' :=
  callsIn_wide.1 (appseq_in 2 (Nat.le_refl _) Bm m c l w hBm hm hset hc)
theorem collect_any (Bm m c : Nat) (l : List (List Int)) (w : World) (hBm : Bm < w.heap.size) (hm : w.cell? ⟨Bm, 0, none⟩ = some (.map (some m))) (hset : KSet w m c l) (hc : c ≤ 1000000) :
    Calls Try.prog 32 #[.func (.func 34) #[] #[.pointer (some ⟨Bm, 0, none⟩)]] w fun e w' => ∃ v ss, e = .returned v ∧ Gives l c ss ∧ w'.ownsRow w.heap.size 24 16 v ss.length ((ss.map Subtype.val).flatMap kc) ∧ Below w.heap.size w w' := by
  have C1 := appseq_any Bm m c l w hBm hm hset hc
  clear hset hm
  go_enter Try.func32, Try.ntmps32
  go_wp2_with (go_at_call 38; refine C1.mono ?_; rintro e w' ⟨v, ss, rfl, hS, hrow, hb⟩)
  go_ret
  exact ⟨v, ss, rfl, hS, hrow, hb⟩
theorem sortn_any (cap : Nat) (fv : Value) (w : World) : Calls Try.prog 33 #[.slice none 0 cap, fv] w fun e w' => e = .returned (.tuple #[]) ∧ w' = w :=
  AnyF.slices_SortFunc_none Try.sortL none cap fv w
theorem sorted_is {l m ss : List (List Int)} (hn : ss.Nodup) (hmem : ∀ k, k ∈ ss ↔ k ∈ l) (hp : m.Perm ss) (hs : m.Pairwise fun x y => lexC x y ≤ 0) : m = sortK l := by
  refine rising_ext (rising_of hs (hp.nodup_iff.2 hn)) (sortK_facts l).1 fun y => ?_
  rw [hp.mem_iff, hmem, (sortK_facts l).2.1]
/-- A list of keys of the call's own is put in order. -/
theorem sortv_any (base : Nat) (w0 w : World) (v : Value) (ss : List (List Int)) (hk : Kys ss) (hN : ss.length ≤ 1000000) (hrow : w.ownsRow base 24 16 v ss.length (ss.flatMap kc)) (hb : Below base w0 w) (hb0 : base ≤ w.heap.size) :
    Calls Try.prog 33 #[v, .func (.func 18) #[] #[]] w fun e w' => e = .returned (.tuple #[]) ∧ ∃ m : List (List Int), m.Perm ss ∧ m.Pairwise (fun x y => lexC x y ≤ 0) ∧ w'.ownsRow base 24 16 v ss.length (m.flatMap kc) ∧ Below base w0 w' := by
  rcases hrow.2 with ⟨rfl, h0⟩ | ⟨g, cap, cur, rfl, hg, hh, h1, h2, h3, h4⟩
  · refine (sortn_any 0 _ w).mono ?_
    rintro e w' ⟨rfl, rfl⟩
    have hn : ss = [] := List.eq_nil_of_length_eq_zero h0
    subst hn
    exact ⟨rfl, [], List.Perm.refl _, List.Pairwise.nil, hrow, hb⟩
  · refine (sortf_any base g cap ss hk w cur hg hh h1 h2 h3 h4 hN).mono ?_
    rintro e w' ⟨rfl, m, hp, hs, ho, hgr⟩
    exact ⟨rfl, m, hp, hs, ho, hb.grown hgr hb0 (fun j e => by injection e with e; subst e; exact hg)⟩
theorem keys_of_own {w : World} {base : Nat} {v : Value} {n : Nat} {m : List (List Int)} (hk : Kys m) (hl : m.length = n) (h : w.ownsRow base 24 16 v n (m.flatMap kc)) : ∃ a cap, v = .slice a n cap ∧ KeysAt w a m ∧ n ≤ cap := by
  rcases h.2 with ⟨rfl, h0⟩ | ⟨g, cap, cur, rfl, hg, hh, h1, h2, h3, h4⟩
  · subst h0
    exact ⟨none, 0, rfl, ⟨lies_none _ _, hk, fun _ => List.eq_nil_of_length_eq_zero hl⟩, Nat.le_refl _⟩
  · exact ⟨_, cap, rfl, ⟨own_lies h, hk, fun h => by cases h⟩, h1⟩
set_option maxHeartbeats 1000000 in
theorem sortedf_any (Bm m c : Nat) (l : List (List Int)) (w : World) (hBm : Bm < w.heap.size) (hm : w.cell? ⟨Bm, 0, none⟩ = some (.map (some m))) (hset : KSet w m c l) (hc : c ≤ 1000000) (hkl : Kys l) :
    Calls Try.prog 26 #[.func (.func 34) #[] #[.pointer (some ⟨Bm, 0, none⟩)], .func (.func 18) #[] #[]] w fun e w' => (∃ a' cap', e = .returned (.slice a' (sortK l).length cap') ∧ KeysAt w' a' (sortK l) ∧ (sortK l).length ≤ cap') ∧ Below w.heap.size w w' := by
  have C1 : Hid (Calls Try.prog 32 #[.func (.func 34) #[] #[.pointer (some ⟨Bm, 0, none⟩)]] w fun e w' => ∃ v ss, e = .returned v ∧ Gives l c ss ∧ w'.ownsRow w.heap.size 24 16 v ss.length ((ss.map Subtype.val).flatMap kc) ∧ Below w.heap.size w w') := collect_any Bm m c l w hBm hm hset hc
  have HC : Hid (c ≤ 1000000) := hc
  have HKL : Hid (Kys l) := hkl
  clear hset hm hBm hc hkl
  obtain ⟨X, hX⟩ : ∃ X, X = sortK l := ⟨_, rfl⟩
  have HX : Hid (X = sortK l) := hX
  rw [← hX]
  clear hX
  go_enter Try.func26, Try.ntmps26
  go_wp2_with (go_at_call 32; refine C1.out.mono ?_; rintro e w1 ⟨v, ss, rfl, hS, hrow, hb⟩; have HS : Hid (Gives l c ss) := hS; have HB : Hid (Below w.heap.size w w1) := hb; have CS : Hid (Calls Try.prog 33 #[v, .func (.func 18) #[] #[]] w1 fun e w' => e = .returned (.tuple #[]) ∧ ∃ m : List (List Int), m.Perm (ss.map Subtype.val) ∧ m.Pairwise (fun x y => lexC x y ≤ 0) ∧ w'.ownsRow w.heap.size 24 16 v (ss.map Subtype.val).length (m.flatMap kc) ∧ Below w.heap.size w w') := sortv_any w.heap.size w w1 v (ss.map Subtype.val) (fun k hk => by obtain ⟨x, _, rfl⟩ := List.mem_map.1 hk; exact x.2) (by rw [List.length_map]; have := hS.2.2; have := HC.out; omega) (by rw [List.length_map]; exact hrow) hb hb.size; clear hS hb hrow C1)
  refine CS.out.mono ?_
  rintro e w2 ⟨rfl, m', hp, hs, ho, hb2⟩
  have hX2 := HX.out
  rw [← sorted_is HS.out.1 HS.out.2.1 hp hs] at hX2
  subst hX2
  obtain ⟨a', cap', rfl, hat, hle⟩ := keys_of_own (fun k hk => by obtain ⟨x, _, rfl⟩ := List.mem_map.1 (hp.mem_iff.1 hk); exact x.2) hp.length_eq ho
  have HF : Hid (Ending.returned (.slice a' (ss.map Subtype.val).length cap') = Ending.returned (.slice a' X.length cap') ∧ KeysAt w2 a' X ∧ X.length ≤ cap' ∧ Below w.heap.size w w2) := ⟨by rw [hp.length_eq], hat, by rw [hp.length_eq]; exact hle, hb2⟩
  clear hp hs ho hat hle hb2 CS HS HX
  generalize (ss.map Subtype.val).length = N at HF ⊢
  go_wp2
  go_ret
  exact ⟨⟨a', cap', HF.out.1, HF.out.2.1, HF.out.2.2.1⟩, HF.out.2.2.2⟩
/-- What Sort's rounds hold. -/
structure SetR (w u : World) (l : List (List Int)) (n : Nat) : Prop where
  below : Below w.heap.size w u
  set : ∃ c, KSet u w.heap.size c (l.take n) ∧ c ≤ n
theorem SetR.round {w u : World} {l : List (List Int)} {n : Nat} (h : SetR w u l n) {u2 : World} (hb : Below u.heap.size u u2) : SetR w u2 l n :=
  ⟨h.below.trans (hb.mono h.below.size), by obtain ⟨c, h1, h2⟩ := h.set; exact ⟨c, h1.past hb, h2⟩⟩
set_option maxHeartbeats 1000000 in
theorem ksort_any (a : Option Addr) (N cap : Nat) (l : List (List Int)) (w : World) (hl : l.length = N) (hN : N ≤ 1000) (hc : N ≤ cap) (hat : KeysAt w a l) :
    Calls Try.prog 11 #[.slice a N cap] w fun e w' => (∃ a' cap', e = .returned (.slice a' (sortK l).length cap') ∧ KeysAt w' a' (sortK l) ∧ (sortK l).length ≤ cap') ∧ Below w.heap.size w w' := by
  have HL : Hid (l.length = N) := hl
  have HA : Hid (KeysAt w a l) := hat
  have H0 : Hid (SetR w (w.alloc (.map #[] 0)) l 0) := ⟨(Below.refl _ _).alloc (Nat.le_refl _) _, 0, by rw [List.take_zero]; exact KSet.made w, Nat.le_refl _⟩
  obtain ⟨X, hX⟩ : ∃ X, X = sortK l := ⟨_, rfl⟩
  have HX : Hid (X = sortK l) := hX
  rw [← hX]
  have hmm := @run_makeMap Try.prog
  clear hX hl hat
  go_enter Try.func11, Try.ntmps11
  go_wp2
  generalize hU : w.alloc (.map #[] 0) = u at *
  clear hU hmm
  go_loopw [9] (fun i wr => ∃ n : Nat, n ≤ N ∧ i = .int .i64 n ∧ Hid (SetR w wr l n)) (fun i _ => N - (intOf i).toNat)
  case atStart => exact ⟨0, Nat.zero_le _, rfl, H0⟩
  case round =>
    obtain ⟨n, hn, rfl, HS⟩ := hrel
    have h0 : (0 : Int) ≤ (n : Int) := by omega
    by_cases hlt : n < N
    · have h1 : (n : Int) < (N : Int) := by omega
      obtain ⟨b, o, rfl, hka, hky⟩ := (HA.out.past (w' := wr) (HS.out.below)).key (i := n) (by rw [HL.out]; exact hlt)
      have HK : Hid (Ky (l.getD n [])) := hky
      have HKA : Hid (KeyAt wr b (o + n * 16) (l.getD n [])) := hka
      have HT : Hid (l.take (n + 1) = l.take n ++ [l.getD n []]) := by
        show _ = _
        rw [List.take_add_one]
        have : n < l.length := by rw [HL.out]; exact hlt
        simp [List.getD, this]
      clear hka hky
      generalize l.getD n [] = k at *
      have hmine := KeyMine.made wr 24 zeroK zeroK_ky
      obtain ⟨hk1, hb1, hz1⟩ := laid_key wr 24 HK.out
      rw [zero_cells] at hmine hk1 hb1 hz1
      have HM : Hid _ := hmine
      have HK1 : Hid _ := hk1
      have H1 : Hid (SetR w _ l n) := HS.out.round hb1
      clear hmine hk1 hb1 hz1
      go_wp2_with (first | (have hgo := HKA.out; clear hgo; refine wpList_load_key (by rfl) _ (by rfl) b (o + n * 16) (by rfl) k HK.out HKA.out ?_) | (have hgo := HM.out; clear hgo; refine wpList_store_keyU (by rfl) _ _ (by rfl) wr.heap.size 0 zeroK k (by rfl) (by rfl) HK.out HM.out ?_; intro u2 hu; rw [← hu] at HK1 H1; clear hu HM HKA) | (have hgo := HK1.out; clear hgo; refine wpList_load_key (by rfl) _ (by rfl) wr.heap.size 0 (by rfl) k HK.out HK1.out.lies ?_) | (have hgo := HK1.out; clear hgo; obtain ⟨c, hcs, hcn⟩ := H1.out.set; refine wpList_store_set (by rfl) _ _ _ 46 (by rfl) 47 Try.underlying46 w.heap.size c (l.take n) (by rfl) hcs (by omega) k HK.out (by rfl) (by rfl) ?_; intro u3 c' hset3 hc3 htn; have H3 : Hid (SetR w u3 l (n + 1)) := ⟨H1.out.below.grown htn.grown H1.out.below.size (fun j e => by injection e with e; rw [← e]; exact Nat.le_refl _), c', by rw [HT.out]; exact hset3, by omega⟩; clear hset3 hc3 htn hcs hcn H1 HK1))
      go_roundw
      case rel => exact ⟨n + 1, by omega, by go_num, H3⟩
      case measure => simp [intOf]; omega
    · obtain rfl : n = N := by omega
      have HT : Hid (l.take n = l) := List.take_of_length_le (by rw [HL.out]; exact Nat.le_refl _)
      obtain ⟨c, hcs, hcn⟩ := HS.out.set
      rw [HT.out] at hcs
      have C1 : Hid (∀ u, Calls Try.prog 27 #[.map (some w.heap.size)] u fun e w' => e = .returned (.func (.func 34) #[] #[.pointer (some ⟨u.heap.size, 0, none⟩)]) ∧ w' = u.alloc (.cells #[.map (some w.heap.size)] 46)) := fun u => mkeys_any _ u
      have hb1 : Below wr.heap.size wr (wr.alloc (.cells #[.map (some w.heap.size)] 46)) := (Below.refl _ _).alloc (Nat.le_refl _) _
      have C2 : Hid (Calls Try.prog 26 #[.func (.func 34) #[] #[.pointer (some ⟨wr.heap.size, 0, none⟩)], .func (.func 18) #[] #[]] (wr.alloc (.cells #[.map (some w.heap.size)] 46)) fun e w' => (∃ a' cap', e = .returned (.slice a' X.length cap') ∧ KeysAt w' a' X ∧ X.length ≤ cap') ∧ Below w.heap.size w w') := by
        refine (sortedf_any wr.heap.size w.heap.size c l _ (by simp) (Boxed.new wr 46 _).cell (hcs.past hb1) (by omega) HA.out.kys).mono ?_
        rintro e w' ⟨h1, h2⟩
        refine ⟨by rw [HX.out]; exact h1, (HS.out.below.trans (hb1.mono HS.out.below.size)).trans (h2.mono ?_)⟩
        have := HS.out.below.size
        simp
        omega
      clear hcs hcn hb1
      go_wp2_with (first | (go_at_call 27; refine (C1.out _).mono ?_; rintro e w1 ⟨rfl, rfl⟩; clear C1) | (go_at_call 26; refine C2.out.mono ?_; rintro e w2 ⟨⟨a', cap', rfl, hka, hle⟩, hb2⟩))
      go_ret
      exact ⟨⟨a', cap', rfl, hka, hle⟩, hb2⟩
end Go.Proofs.Ytfgbgcaackhcmaa
