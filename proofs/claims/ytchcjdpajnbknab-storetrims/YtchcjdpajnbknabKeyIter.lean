/-
  What the library's maps.Keys answers at a map of keys: an iterator that gives each key once.
-/
import Derived.Test.YtchcjdpajnbknabKeySortF
import Derived.Test.YtchcjdpajnbknabKeySet
import Derived.Test.YtchcjdpajnbknabRefKeyOf
import Derived.RangeFuncBound
import Derived.RangeFuncCalls
import Derived.RangeFuncLeaves
import Derived.Shelf.Abstract
import Derived.WalkKit
import Derived.OwnWalkIn
import Derived.TacticsInMore
import Derived.LoopNIn
import Derived.LoopIn
namespace Go.Proofs.Ytchcjdpajnbknab
open Go.RowKit
open Go.Maps (Keyed)
set_option linter.unusedVariables false

/-- What has come of l: each once; what is no longer to come has come. -/
structure Coll (l : List (List Int)) (left : Lit → Bool) (ss : List (List Int)) : Prop where
  nodup : ss.Nodup
  of : ∀ k ∈ ss, k ∈ l ∧ left (kyl k) = false
  all : ∀ k ∈ l, left (kyl k) = false → k ∈ ss
theorem Coll.step {l ss : List (List Int)} {left : Lit → Bool} {k : List Int} (h : Coll l left ss) (hl : Kys l) (hk : k ∈ l) (hlk : left (kyl k) = true) : Coll l (fun z => left z && !z.sameKey (kyl k)) (ss ++ [k]) := by
  have hky := hl k hk
  have hne : ∀ {y}, y ∈ l → y ≠ k → (kyl y).sameKey (kyl k) = false := fun hy hne => Maps.sameKey_ne (fun e => hne (kyl_inj (hl _ hy) hky e))
  refine ⟨?_, fun y hy => ?_, fun y hy hf => ?_⟩
  · rw [List.nodup_append]
    refine ⟨h.nodup, by simp, fun a ha b hb => ?_⟩
    simp at hb
    subst hb
    intro e
    subst e
    rw [(h.of _ ha).2] at hlk
    cases hlk
  · rcases List.mem_append.1 hy with hy | hy
    · exact ⟨(h.of y hy).1, by simp [(h.of y hy).2]⟩
    · simp at hy
      subst hy
      exact ⟨hk, by simp [WideAt.sameKey_self (kyl_key hky)]⟩
  · by_cases e : y = k
    · simp [e]
    · have hf : left (kyl y) = false := by simpa [hne hy e] using hf
      exact List.mem_append_left _ (h.all y hy hf)
set_option maxRecDepth 100000 in
set_option maxHeartbeats 1000000 in
theorem iter_in (n : Nat) (hn : 1 ≤ n) (lp Bm m c : Nat) (l : List (List Int)) (J Jx : List KyT → World → Prop)
    (hY : ∀ pre (x : KyT) W, J pre W → pre.length < c → YieldAt Fence.wide (n - 1) Try.prog lp #[kv x.1] W fun e W' =>
      (e = .returned (.bool true) ∧ J (pre ++ [x]) W' ∧ KeepsWalks W W') ∨ (e = .returned (.bool false) ∧ Jx (pre ++ [x]) W'))
    (W : World) (hJ : AbidesFrom W.heap.size J) (hm : W.cell? ⟨Bm, 0, none⟩ = some (.map (some m))) (hset : KSet W m c l) (h0 : J [] W) :
    CallsIn Fence.wide n Try.prog 40 #[.func (.yield lp) #[] #[], .pointer (some ⟨Bm, 0, none⟩)] W fun e W' => (∃ v, e = .returned v) ∧
      ((∃ ss : List KyT, ((ss.map Subtype.val).Nodup ∧ (∀ k, k ∈ ss.map Subtype.val ↔ k ∈ l) ∧ ss.length ≤ c) ∧ J ss W') ∨ (∃ pre : List KyT, True ∧ Jx pre W')) := by
  obtain ⟨D, hown, hsz, hkys, hhas⟩ := hset
  refine callsIn_of_wp Try.func40 rfl trivial ?_ rfl
  simp only [Try.ntmps40, List.size_toArray, List.length_cons, List.length_nil, Nat.reduceAdd, Nat.reduceSub, Array.replicate_succ, Array.replicate_zero, List.push_toArray, List.append_toArray, List.nil_append, List.cons_append]
  gi_wp2_with (gi_at_range; refine wpListIn_range_own _ rfl _ 49 rfl 26 58 kLaw Try.underlying49 _ m c _ rfl hown ?_; intro w0 hrg0 hg0 hs0)
  go_frame
  gi_loopw [3] (fun _ wr => ∃ (left : Lit → Bool) (cnt : Nat) (ss : List KyT), wr.ranges Try.prog 26 anyE m W.heap.size c D left cnt ∧ ss.length + cnt ≤ Maps.size D ∧ Coll l left (ss.map Subtype.val) ∧ J ss wr)
    (fun _ wr => wr.rangeLeft m W.heap.size)
  case atStart =>
    refine ⟨_, _, [], hrg0, by simp, ⟨by simp, by simp, fun k hk hf => ?_⟩, hJ [] W w0 none h0 hg0 (fun r e => by cases e)⟩
    rw [(hhas (kyl k)).2 ⟨k, hk, rfl⟩] at hf
    cases hf
  case round =>
    obtain ⟨left, cnt, ss, hrg, hcs, hC, hJs⟩ := hrel
    gi_wp2_with (gi_at_next; refine wpListIn_next_ranges _ rfl _ rfl 26 kLaw anyE (id : Value → Value) (id : Value → Value) (fun key kl hk => ⟨key, rfl⟩) (fun v _ _ => ⟨v, rfl⟩) m W.heap.size c _ _ _ rfl hrg ?_ ?_)
    · intro hc0 hl0
      gi_wp2
      go_end0
      exact ⟨⟨_, rfl⟩, .inl ⟨ss, ⟨hC.nodup, fun k => ⟨fun hk => (hC.of k hk).1, fun hk => hC.all k hk (hl0 _)⟩, by omega⟩, hJs⟩⟩
    · intro x cv kl yd yp w2 cnt2 hkey hlk hv hat hrg2 hlt hg2 hs2 hen
      obtain ⟨k, hkl, rfl⟩ := (hhas kl).1 (Maps.has_true_of_atKey hat)
      have hk := hkys k hkl
      obtain rfl : x = kv k := kyl_back hk hkey
      have hJ2 : J ss w2 := hJ ss wr w2 (some W.heap.size) hJs hg2 (fun r e => by cases e; exact ⟨Nat.le_refl _, hrg.iter_walk⟩)
      have hmine := KeyMine.made w2 26 zeroK zeroK_ky
      obtain ⟨hk1, hb1, hz1⟩ := laid_key w2 26 hk
      rw [zero_cells] at hmine hk1 hb1 hz1
      have hJ3 := hJ ss w2 _ none hJ2 (grown_none hb1) (fun r e => by cases e)
      obtain ⟨fn, tmps, assign, body, hy, hR⟩ := hY ss ⟨k, hk⟩ _ hJ3 (by omega)
      have hw3 : KeepsWalks w2 _ := KeepsWalks.of_grownBy (grown_none hb1) (fun r o e => by cases e)
      have hC2 := hC.step hkys hkl hlk
      clear hs2
      gi_wp2_with (first | (refine wpListIn_store_key rfl _ _ rfl w2.heap.size 0 zeroK k rfl rfl hk hmine ?_; intro u hu; subst hu) | (refine wpListIn_load_key rfl _ rfl w2.heap.size 0 rfl k hk hk1.lies ?_))
      refine hR.mono ?_
      rintro e W3 (⟨rfl, hJ4, hk3⟩ | ⟨rfl, hJx3⟩)
      · gi_wp2
        have hrg3 := (hrg2.of_walks hw3).of_walks hk3
        go_roundw
        case rel => exact ⟨_, cnt2, ss ++ [⟨k, hk⟩], hrg3, by simp; omega, by rw [List.map_append]; exact hC2, hJ4⟩
        case measure => rw [hrg3.left_eq, hrg.left_eq]; exact hlt
      · gi_wp2
        refine bodyPost_ret (results_none rfl _ _ _) rfl ?_
        exact ⟨⟨_, rfl⟩, .inr ⟨ss ++ [⟨k, hk⟩], trivial, hJx3⟩⟩
/-- What the iterator gives: each key of l once. -/
def Gives (l : List (List Int)) (c : Nat) (ss : List KyT) : Prop := (ss.map Subtype.val).Nodup ∧ (∀ k, k ∈ ss.map Subtype.val ↔ k ∈ l) ∧ ss.length ≤ c
theorem iter_stops (n : Nat) (hn : 1 ≤ n) (Bm m c : Nat) (l : List (List Int)) (w : World) (hBm : Bm < w.heap.size) (hm : w.cell? ⟨Bm, 0, none⟩ = some (.map (some m))) (hset : KSet w m c l) :
    SeqStopsK Fence.wide n Try.prog 40 #[.pointer (some ⟨Bm, 0, none⟩)] (fun x : KyT => #[kv x.1]) KeepsWalks (Gives l c) (fun _ => True) c w := fun lp J Jx W hW hJ _ hY h0 =>
  iter_in n hn lp Bm m c l J Jx hY W hJ ((hW.cell (p := ⟨Bm, 0, none⟩) hBm).trans hm) (hset.past hW) h0
theorem mkeys_any (m : Nat) (w : World) :
    Calls Try.prog 27 #[.map (some m)] w fun e w' => e = .returned (.func (.func 40) #[] #[.pointer (some ⟨w.heap.size, 0, none⟩)]) ∧ w' = w.alloc (.cells #[.map (some m)] 49) := by
  go_enter Try.func27, Try.ntmps27
  go_wp2
  go_ret
  exact ⟨rfl, rfl⟩
end Go.Proofs.Ytchcjdpajnbknab
