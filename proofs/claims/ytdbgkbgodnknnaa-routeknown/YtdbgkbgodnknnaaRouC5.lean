/-
  What the landed route answers: Parts, Cover.
-/
import Derived.Test.YtdbgkbgodnknnaaRouC4
namespace Go.Proofs.Ytdbgkbgodnknnaa
open Go.RowKit
set_option linter.unusedVariables false
set_option linter.unusedSimpArgs false

theorem nums_nextR (q : Nat → Bool) (n : Nat) (h : q n = true) : (numsR q (n + 1)).map (Value.int .i64) = (numsR q n).map (Value.int .i64) ++ [.int .i64 (n : Int)] := by rw [numsR_next, if_pos h, List.map_append]; rfl
theorem nums_skipR (q : Nat → Bool) (n : Nat) (h : q n = false) : numsR q (n + 1) = numsR q n := by rw [numsR_next, h]; simp
theorem nums_len1 (q : Nat → Bool) (n : Nat) (h : q n = true) : (numsR q (n + 1)).length = (numsR q n).length + 1 := by rw [numsR_next, if_pos h, List.length_append]; rfl
/-- A list of numbers that grows as a walk goes over the nodes. -/
structure GrowR (w0 u : World) (q : Nat → Bool) (i : Nat) (a : Option Addr) (m c : Nat) : Prop where
  own : OwnB 3 1 w0 u (.slice a m c) m ((numsR q i).map (Value.int .i64))
  len : (numsR q i).length = m
theorem GrowR.start (w : World) (q : Nat → Bool) : GrowR w w q 0 none 0 0 := ⟨⟨World.ownsRow_nil _ _ _ _, Below.refl _ _⟩, rfl⟩
theorem GrowR.past {w0 u u' : World} {q : Nat → Bool} {i m c : Nat} {a : Option Addr} (h : GrowR w0 u q i a m c) (hb : Below u.heap.size u u') : GrowR w0 u' q i a m c := ⟨h.own.past hb, h.len⟩
theorem GrowR.skip {w0 u : World} {q : Nat → Bool} {i m c : Nat} {a : Option Addr} (h : GrowR w0 u q i a m c) (hq : q i = false) : GrowR w0 u q (i + 1) a m c := ⟨by rw [nums_skipR q i hq]; exact h.own, by rw [nums_skipR q i hq]; exact h.len⟩
theorem GrowR.few {w0 u : World} {q : Nat → Bool} {i m c : Nat} {a : Option Addr} (h : GrowR w0 u q i a m c) : m ≤ i := by rw [← h.len]; exact numsR_len q i
theorem GrowR.more {w0 u : World} {q : Nat → Bool} {i m c : Nat} {a : Option Addr} (hq : q i = true) (hl : (numsR q i).length = m) (h : OwnB 3 1 w0 u (.slice a (m + 1) c) (m + 1) ((numsR q (i + 1)).map (Value.int .i64))) : GrowR w0 u q (i + 1) a (m + 1) c := ⟨h, by rw [nums_len1 q i hq, hl]⟩
theorem GrowR.done {w0 u : World} {q : Nat → Bool} {i m c : Nat} {a : Option Addr} (h : GrowR w0 u q i a m c) : NumsR u a (numsR q i) ∧ m ≤ c := own_numsR h.own.own h.len
set_option maxHeartbeats 4000000 in
set_option maxRecDepth 4000 in
theorem roparts_any {q : Nat} {P : List (List Int)} (a : Option Addr) (M cap : Nat) (l : List Wrt) (w : World) (h : RtAt w q P) (hf : P.length ≤ 1000) (hl : l.length = M) (hc : M ≤ cap) (hM : M ≤ 1000000) (hat : WrtsAt w a l) :
    Calls Try.prog 13 #[.pointer (some ⟨q, 0, none⟩), .slice a M cap] w fun e w' => ∃ ra m rc, e = .returned (.slice ra m rc) ∧ (partsR P l).length = m ∧ m ≤ rc ∧ NumsR w' ra (partsR P l) ∧ Below w.heap.size w w' := by
  obtain ⟨N, hN⟩ : ∃ n, P.length = n := ⟨_, rfl⟩
  have HN : Hid (P.length = N) := hN
  have CS : Hid (Calls Try.prog 10 #[.pointer (some ⟨q, 0, none⟩), .slice a M cap] w fun e w' => ∃ g, e = .returned (.slice (some ⟨g, 0, none⟩) (N + 1) (N + 1)) ∧ SpAt w' g (splitR P l) ∧ Below w.heap.size w w') := by rw [← hN]; exact rosplit_any a M cap l w h hf hl hc hM hat
  rw [hN] at hf
  clear h hl hat hN
  go_enter Try.func13, Try.ntmps13
  go_wp2_with (go_at_call 10; refine CS.out.mono ?_; rintro e w1 ⟨g, rfl, hs, hb⟩; have HS : Hid (SpAt w1 g (splitR P l)) := hs; have HB1 : Hid (Below w.heap.size w w1) := hb; clear hs hb)
  go_loopw [5, 12] (fun rv iv wr => ∃ (i m : Nat) (ra : Option Addr) (rc : Nat), iv = .int .i64 i ∧ rv = .slice ra m rc ∧ i ≤ N + 1 ∧ Hid (GrowR w1 wr (hasR P l) i ra m rc)) (fun _ iv _ => N + 1 - (intOf iv).toNat)
  case atStart => exact ⟨0, 0, none, 0, rfl, rfl, Nat.zero_le _, GrowR.start w1 _⟩
  case round =>
    obtain ⟨i, m, ra, rc, rfl, rfl, hi, HO⟩ := hrel
    have hi0 : (0 : Int) ≤ (i : Int) := by omega
    by_cases hlt : i < N + 1
    · have h1 : (i : Int) < (N : Int) + 1 := by omega
      obtain ⟨a2, c2, q1, -, -⟩ := (HS.out.past HO.out.own.below).each i _ (split_at (P := P) (l := l) (by rw [HN.out]; exact hlt))
      obtain ⟨n, hn⟩ : ∃ n, n = (nodeW P l i).length := ⟨_, rfl⟩
      rw [← hn] at q1
      have hn0 : (0 : Int) ≤ (n : Int) := by omega
      have hm1 : m + 1 ≤ 1000000 := by have := HO.out.few; omega
      by_cases hp : 0 < n
      · have hp2 : (0 : Int) < (n : Int) := by omega
        have HQ : Hid (hasR P l i = true) := decide_eq_true (by rw [← hn]; exact hp)
        have HNX : Hid _ := nums_nextR (hasR P l) i HQ.out
        clear hn
        go_wp2_with (first
          | (have hgo := HO.out; clear hgo; at_builtin; refine wpList_own nums_elR (w0 := w1) rfl (.tmp 20) (.tmp 22) rfl _ m _ [.int .i64 (i : Int)] rfl (HO.out.own.alloc _) _ _ _ rfl rfl (lies_made _ _ _) (by intro u hu; simp at hu; rw [hu]; rfl) (fun h => by cases h) (m + 1) rfl hm1 ((numsR (hasR P l) (i + 1)).map (Value.int .i64)) HNX.out.symm ?_; intro a6 c6 w6 h1 h2; have O6 : Hid (GrowR w1 w6 (hasR P l) (i + 1) a6 (m + 1) c6) := GrowR.more HQ.out HO.out.len h1; clear h1 h2))
        go_roundw
        case rel => exact ⟨i + 1, m + 1, a6, c6, by go_num, rfl, by omega, O6⟩
        case measure => simp [intOf]; omega
      · have hp2 : ¬ (0 : Int) < (n : Int) := by omega
        have HQ : Hid (hasR P l i = false) := decide_eq_false (by rw [← hn]; exact hp)
        clear hn
        go_wp2
        go_roundw
        case rel => exact ⟨i + 1, m, ra, rc, by go_num, rfl, by omega, HO.out.skip HQ.out⟩
        case measure => simp [intOf]; omega
    · obtain rfl : i = N + 1 := by omega
      have hi1 : ¬ ((N : Int) + 1 < (N : Int) + 1) := by omega
      go_wp2
      go_ret
      have hd := HO.out.done
      have hlen := HO.out.len
      have hbel := HO.out.own.below
      have e : numsR (hasR P l) (N + 1) = partsR P l := by unfold partsR; rw [HN.out]
      rw [e] at hd hlen
      exact ⟨ra, m, rc, rfl, hlen, hd.2, hd.1, HB1.out.trans (hbel.mono HB1.out.size)⟩
end Go.Proofs.Ytdbgkbgodnknnaa
