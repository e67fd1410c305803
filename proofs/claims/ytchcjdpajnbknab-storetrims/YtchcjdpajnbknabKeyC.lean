/-
  What package key answers: Sort; and with it all of the package's contracts.
-/
import Derived.Test.YtchcjdpajnbknabKeyColl
import Derived.Test.YtchcjdpajnbknabKeyC3
namespace Go.Proofs.Ytchcjdpajnbknab
open Go.RowKit
set_option linter.unusedVariables false

theorem appseq_any (Bm m c : Nat) (l : List (List Int)) (w : World) (hBm : Bm < w.heap.size) (hm : w.cell? ⟨Bm, 0, none⟩ = some (.map (some m))) (hset : KSet w m c l) (hc : c ≤ 1000000) :
    Calls Try.prog 48 #[.slice none 0 0, .func (.func 40) #[] #[.pointer (some ⟨Bm, 0, none⟩)]] w fun e w' => ∃ v ss, e = .returned v ∧ Gives l c ss ∧ w'.ownsRow w.heap.size 26 16 v ss.length ((ss.map Subtype.val).flatMap kc) ∧ Below w.heap.size w w' :=
  callsIn_wide.1 (appseq_in 2 (Nat.le_refl _) Bm m c l w hBm hm hset hc)
theorem collect_any (Bm m c : Nat) (l : List (List Int)) (w : World) (hBm : Bm < w.heap.size) (hm : w.cell? ⟨Bm, 0, none⟩ = some (.map (some m))) (hset : KSet w m c l) (hc : c ≤ 1000000) :
    Calls Try.prog 38 #[.func (.func 40) #[] #[.pointer (some ⟨Bm, 0, none⟩)]] w fun e w' => ∃ v ss, e = .returned v ∧ Gives l c ss ∧ w'.ownsRow w.heap.size 26 16 v ss.length ((ss.map Subtype.val).flatMap kc) ∧ Below w.heap.size w w' := by
  have C1 := appseq_any Bm m c l w hBm hm hset hc
  clear hset hm
  go_enter Try.func38, Try.ntmps38
  go_wp2_with (go_at_call 48; refine C1.mono ?_; rintro e w' ⟨v, ss, rfl, hS, hrow, hb⟩)
  go_ret
  exact ⟨v, ss, rfl, hS, hrow, hb⟩
theorem sortn_any (cap : Nat) (fv : Value) (w : World) : Calls Try.prog 39 #[.slice none 0 cap, fv] w fun e w' => e = .returned (.tuple #[]) ∧ w' = w :=
  AnyF.slices_SortFunc_none Try.sortL none cap fv w
theorem sorted_is {l m ss : List (List Int)} (hn : ss.Nodup) (hmem : ∀ k, k ∈ ss ↔ k ∈ l) (hp : m.Perm ss) (hs : m.Pairwise fun x y => lexC x y ≤ 0) : m = sortK l := by
  refine rising_ext (rising_of hs (hp.nodup_iff.2 hn)) (sortK_facts l).1 fun y => ?_
  rw [hp.mem_iff, hmem, (sortK_facts l).2.1]
/-- A list of keys of the call's own is put in order. -/
theorem sortv_any (base : Nat) (w0 w : World) (v : Value) (ss : List (List Int)) (hk : Kys ss) (hN : ss.length ≤ 1000000) (hrow : w.ownsRow base 26 16 v ss.length (ss.flatMap kc)) (hb : Below base w0 w) (hb0 : base ≤ w.heap.size) :
    Calls Try.prog 39 #[v, .func (.func 28) #[] #[]] w fun e w' => e = .returned (.tuple #[]) ∧ ∃ m : List (List Int), m.Perm ss ∧ m.Pairwise (fun x y => lexC x y ≤ 0) ∧ w'.ownsRow base 26 16 v ss.length (m.flatMap kc) ∧ Below base w0 w' := by
  rcases hrow.2 with ⟨rfl, h0⟩ | ⟨g, cap, cur, rfl, hg, hh, h1, h2, h3, h4⟩
  · refine (sortn_any 0 _ w).mono ?_
    rintro e w' ⟨rfl, rfl⟩
    have hn : ss = [] := List.eq_nil_of_length_eq_zero h0
    subst hn
    exact ⟨rfl, [], List.Perm.refl _, List.Pairwise.nil, hrow, hb⟩
  · refine (sortf_any base g cap ss hk w cur hg hh h1 h2 h3 h4 hN).mono ?_
    rintro e w' ⟨rfl, m, hp, hs, ho, hgr⟩
    exact ⟨rfl, m, hp, hs, ho, hb.grown hgr hb0 (fun j e => by injection e with e; subst e; exact hg)⟩
theorem keys_of_own {w : World} {base : Nat} {v : Value} {n : Nat} {m : List (List Int)} (hk : Kys m) (hl : m.length = n) (h : w.ownsRow base 26 16 v n (m.flatMap kc)) : ∃ a cap, v = .slice a n cap ∧ KeysAt w a m ∧ n ≤ cap := by
  rcases h.2 with ⟨rfl, h0⟩ | ⟨g, cap, cur, rfl, hg, hh, h1, h2, h3, h4⟩
  · subst h0
    exact ⟨none, 0, rfl, ⟨lies_none _ _, hk, fun _ => List.eq_nil_of_length_eq_zero hl⟩, Nat.le_refl _⟩
  · exact ⟨_, cap, rfl, ⟨own_lies h, hk, fun h => by cases h⟩, h1⟩
set_option maxHeartbeats 1000000 in
theorem sortedf_any (Bm m c : Nat) (l : List (List Int)) (w : World) (hBm : Bm < w.heap.size) (hm : w.cell? ⟨Bm, 0, none⟩ = some (.map (some m))) (hset : KSet w m c l) (hc : c ≤ 1000000) (hkl : Kys l) :
    Calls Try.prog 26 #[.func (.func 40) #[] #[.pointer (some ⟨Bm, 0, none⟩)], .func (.func 28) #[] #[]] w fun e w' => (∃ a' cap', e = .returned (.slice a' (sortK l).length cap') ∧ KeysAt w' a' (sortK l) ∧ (sortK l).length ≤ cap') ∧ Below w.heap.size w w' := by
  have C1 : Hid (Calls Try.prog 38 #[.func (.func 40) #[] #[.pointer (some ⟨Bm, 0, none⟩)]] w fun e w' => ∃ v ss, e = .returned v ∧ Gives l c ss ∧ w'.ownsRow w.heap.size 26 16 v ss.length ((ss.map Subtype.val).flatMap kc) ∧ Below w.heap.size w w') := collect_any Bm m c l w hBm hm hset hc
  have HC : Hid (c ≤ 1000000) := hc
  have HKL : Hid (Kys l) := hkl
  clear hset hm hBm hc hkl
  obtain ⟨X, hX⟩ : ∃ X, X = sortK l := ⟨_, rfl⟩
  have HX : Hid (X = sortK l) := hX
  rw [← hX]
  clear hX
  go_enter Try.func26, Try.ntmps26
  go_wp2_with (go_at_call 38; refine C1.out.mono ?_; rintro e w1 ⟨v, ss, rfl, hS, hrow, hb⟩; have HS : Hid (Gives l c ss) := hS; have HB : Hid (Below w.heap.size w w1) := hb; have CS : Hid (Calls Try.prog 39 #[v, .func (.func 28) #[] #[]] w1 fun e w' => e = .returned (.tuple #[]) ∧ ∃ m : List (List Int), m.Perm (ss.map Subtype.val) ∧ m.Pairwise (fun x y => lexC x y ≤ 0) ∧ w'.ownsRow w.heap.size 26 16 v (ss.map Subtype.val).length (m.flatMap kc) ∧ Below w.heap.size w w') := sortv_any w.heap.size w w1 v (ss.map Subtype.val) (fun k hk => by obtain ⟨x, _, rfl⟩ := List.mem_map.1 hk; exact x.2) (by rw [List.length_map]; have := hS.2.2; have := HC.out; omega) (by rw [List.length_map]; exact hrow) hb hb.size; clear hS hb hrow C1)
  refine CS.out.mono ?_
  rintro e w2 ⟨rfl, m', hp, hs, ho, hb2⟩
  have hX2 := HX.out
  rw [← sorted_is HS.out.1 HS.out.2.1 hp hs] at hX2
  subst hX2
  obtain ⟨a', cap', rfl, hat, hle⟩ := keys_of_own (fun k hk => by obtain ⟨x, _, rfl⟩ := List.mem_map.1 (hp.mem_iff.1 hk); exact x.2) hp.length_eq ho
  have HF : Hid (Ending.returned (.slice a' (ss.map Subtype.val).length cap') = Ending.returned (.slice a' X.length cap') ∧ KeysAt w2 a' X ∧ X.length ≤ cap' ∧ Below w.heap.size w w2) := ⟨by rw [hp.length_eq], hat, by rw [hp.length_eq]; exact hle, hb2⟩
  clear hp hs ho hat hle hb2 CS HS HX
  generalize (ss.map Subtype.val).length = N at HF ⊢
  go_wp2
  go_ret
  exact ⟨⟨a', cap', HF.out.1, HF.out.2.1, HF.out.2.2.1⟩, HF.out.2.2.2⟩
/-- What Sort's rounds hold. -/
structure SetR (w u : World) (l : List (List Int)) (n : Nat) : Prop where
  below : Below w.heap.size w u
  set : ∃ c, KSet u w.heap.size c (l.take n) ∧ c ≤ n
theorem SetR.round {w u : World} {l : List (List Int)} {n : Nat} (h : SetR w u l n) {u2 : World} (hb : Below u.heap.size u u2) : SetR w u2 l n :=
  ⟨h.below.trans (hb.mono h.below.size), by obtain ⟨c, h1, h2⟩ := h.set; exact ⟨c, h1.past hb, h2⟩⟩
end Go.Proofs.Ytchcjdpajnbknab
