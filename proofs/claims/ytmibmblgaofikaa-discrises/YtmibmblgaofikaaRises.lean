/-
  DiscRises: each stamp that is issued is above all that were issued, or seen, ahead of it, for all acts.
-/
import Derived.Test.YtmibmblgaofikaaRows
import Derived.Test.YtmibmblgaofikaaDiscTurn
import Derived.Test.YtmibmblgaofikaaActsOpen
import Derived.WalkKit
import Derived.ProofKit
import Derived.OpenShut
import Derived.ShutString
import Derived.ChangeOld
import Derived.Below
import Derived.Carry
namespace Go.Proofs.Ytmibmblgaofikaa.discRises
open Go.ChangeShapes Go.WideShapes Go.ChangeAt Go.RowKit
open Go.ChangeMaps (open_string shut_string)
set_option linter.unusedVariables false

theorem own : ownKnob Try.prog.godebug = none := by kernel_rfl
theorem laidOut : laidOutB Try.prog = true := by kernel_rfl
/-- A slice of integers that came in: nil, or a row of 'cap' cells, of which the first 'len' are its elements. -/
def IsRow (k : IntKind) (w : World) (a : Option Addr) (len cap : Nat) (zs : List Int) : Prop :=
  (a = none ∧ len = 0 ∧ cap = 0 ∧ zs = []) ∨
  ∃ x, a = some x ∧ len ≤ cap ∧ cap ≤ maxLen ∧ zs.length = cap ∧ (∀ i, i < zs.length → w.cell? (x.add i) = some (.int k (zs.getD i 0))) ∧ ∀ n ∈ zs, (Lit.int k n).wf = true

set_option maxRecDepth 4000 in
set_option maxHeartbeats 4000000 in
theorem walk (a0 : Int) (a1 : Option Addr) (len1 cap1 : Nat) (z1 : List ActV) (w : World) (w0 : (Lit.int .i64 a0).wf = true) (l1 : z1.length = len1) (w1 : ActsOf w a1 cap1 z1) :
    Calls Try.prog 5 #[.int .i64 a0, .slice a1 len1 cap1] w fun e w' => e = .returned (.bool true) ∧ Below w.heap.size w w' := by
  have by0 := bounds_i64 w0
  have AW : Hid (∀ u, Calls Try.prog 9 #[] u fun e w' => e = .returned (.bool true) ∧ Below u.heap.size u w') := fun u => awake_any u
  have HA : Hid (ActsOf w a1 cap1 z1) := w1
  have HL : Hid (z1.length = len1) := l1
  clear w0 w1 l1
  by_cases h0 : a0 < -1
  · have b0 : decide (a0 < -1) = true := decide_eq_true h0
    go_enter Try.func5, Try.ntmps5
    go_wp2_with (go_at_call 9; refine (AW.out _).mono ?_; rintro e v1 ⟨rfl, hb1⟩; have B1 : Hid (Below w.heap.size w v1) := hb1; clear hb1)
    go_ret
    exact ⟨rfl, B1.out⟩
  · have b0 : decide (a0 < -1) = false := decide_eq_false h0
    by_cases h1 : 36028797018963967 < a0
    · have b1 : decide (36028797018963967 < a0) = true := decide_eq_true h1
      go_enter Try.func5, Try.ntmps5
      go_wp2_with (go_at_call 9; refine (AW.out _).mono ?_; rintro e v1 ⟨rfl, hb1⟩; have B1 : Hid (Below w.heap.size w v1) := hb1; clear hb1)
      go_ret
      exact ⟨rfl, B1.out⟩
    · have b1 : decide (36028797018963967 < a0) = false := decide_eq_false h1
      by_cases h2 : 60 < len1
      · have b2 : (60 : Int) < (len1 : Int) := by omega
        go_enter Try.func5, Try.ntmps5
        go_wp2_with (go_at_call 9; refine (AW.out _).mono ?_; rintro e v1 ⟨rfl, hb1⟩; have B1 : Hid (Below w.heap.size w v1) := hb1; clear hb1)
        go_ret
        exact ⟨rfl, B1.out⟩
      · have b2 : ¬ (60 : Int) < (len1 : Int) := by omega
        have CN : Hid (∀ u, Below w.heap.size w u → Calls Try.prog 10 #[.int .u8 1, .int .i64 a0] u fun e w' => ∃ b, e = .returned (.tuple #[.pointer (some ⟨b, 0, none⟩), .int .i64 0]) ∧ Play w w' b 1 a0 0) := fun u hb => (dnew_ok 1 a0 u (by omega) (by omega) (by omega)).mono (by rintro e u' ⟨b, rfl, h1, h2, h3⟩; exact ⟨b, rfl, Play.made hb h1 h2 h3⟩)
        go_enter Try.func5, Try.ntmps5
        go_wp2_with (first | (go_at_call 10; refine (CN.out _ B1.out).mono ?_; rintro e v2 ⟨b, rfl, hp2⟩; have P2 : Hid (Play w v2 b 1 a0 0) := hp2; clear hp2) | (go_at_call 9; refine (AW.out _).mono ?_; rintro e v1 ⟨rfl, hb1⟩; have B1 : Hid (Below w.heap.size w v1) := hb1; clear hb1))
        go_loopw [7, 8] (fun lv iv wr => ∃ (i : Nat) (L o : Int), iv = .int .i64 i ∧ lv = .int .i64 L ∧ i ≤ len1 ∧ -1 ≤ L ∧ L ≤ 36028797018963967 ∧ -1099511627776 ≤ o ∧ o ≤ 1099511627776 ∧ Hid (Play w wr b 1 L o)) (fun _ iv _ => len1 - (intOf iv).toNat)
        case atStart => exact ⟨0, a0, 0, rfl, rfl, by omega, by omega, by omega, by omega, by omega, P2⟩
        case round =>
          clear P2
          obtain ⟨i, L, o, rfl, rfl, hi, l1, l2, o1, o2, PL⟩ := hrel
          by_cases hlt : i < len1
          · obtain ⟨ba, oa, ⟨p, v, a, c, zs, t, n⟩, rfl, hx⟩ : ∃ ba oa X, a1 = some ⟨ba, oa, none⟩ ∧ ActAt w ba (oa + i * 5) X := by
              have hil : i < z1.length := by rw [HL.out]; exact hlt
              rcases HA.out.cells with h' | ⟨ba, oa, h', hc⟩
              · rw [h'] at hil; simp at hil
              · exact ⟨ba, oa, z1[i], h', hc i _ (List.getElem?_eq_getElem hil)⟩
            have v12 := hx.bv
            obtain ⟨v1, v2⟩ := v12
            obtain ⟨m, hm⟩ : ∃ m, m = zs.length := ⟨_, rfl⟩
            have q0 : wr.cell? ⟨ba, oa + i * 5, none⟩ = some (.int .i64 p) := (PL.out.below.cell (p := ⟨ba, oa + i * 5, none⟩) (lt_of_cell hx.c0)).trans hx.c0
            have q1 : wr.cell? ⟨ba, oa + i * 5 + 1, none⟩ = some (.int .i64 v) := (PL.out.below.cell (p := ⟨ba, oa + i * 5 + 1, none⟩) (lt_of_cell hx.c1)).trans hx.c1
            have q2 : wr.cell? ⟨ba, oa + i * 5 + 2, none⟩ = some (.slice a m c) := by rw [hm]; exact (PL.out.below.cell (p := ⟨ba, oa + i * 5 + 2, none⟩) (lt_of_cell hx.c2)).trans hx.c2
            have q3 : wr.cell? ⟨ba, oa + i * 5 + 3, none⟩ = some (.int .i64 t) := (PL.out.below.cell (p := ⟨ba, oa + i * 5 + 3, none⟩) (lt_of_cell hx.c3)).trans hx.c3
            have q4 : wr.cell? ⟨ba, oa + i * 5 + 4, none⟩ = some (.int .u8 n) := (PL.out.below.cell (p := ⟨ba, oa + i * 5 + 4, none⟩) (lt_of_cell hx.c4)).trans hx.c4
            have HM : Hid (zs.length = m) := hm.symm
            have HMC : Hid (m ≤ c) := by rw [hm]; exact hx.room
            have HRW : Hid (Row64 w a zs) := hx.row
            have T0 : Hid (Turn w (wr.alloc (.cells #[.int .i64 p, .int .i64 v, .slice a m c, .int .i64 t, .int .u8 n] 41)) b wr.heap.size 1 L o p v a m c t n) := Turn.made 41 PL.out l1 l2 o1 o2
            have s0 := T0.out.c0
            have s1 := T0.out.c1
            have s2 := T0.out.c2
            have s3 := T0.out.c3
            have s4 := T0.out.c4
            clear hx hm
            by_cases hp0 : p = 0
            · subst hp0
              by_cases hs : L = 36028797018963967
              · subst hs
                go_wp2_with (go_at_call 14; refine (T0.out.spent (by omega) (by omega)).mono ?_; rintro e v3 ⟨rfl, ht⟩; have T1 : Hid _ := ht.past (.cells #[.int .i64 0, .int .u8 0] 32); clear ht)
                exact ⟨⟨i + 1, _, _, by simp, rfl, by omega, T1.out.l1, T1.out.l2, T1.out.o1, T1.out.o2, T1.out.play⟩, by simp [intOf]; omega⟩
              · obtain ⟨W, hW⟩ : ∃ W, W = issueN o L v := ⟨_, rfl⟩
                have w1 : L < W := by rw [hW]; exact issue_gt o L v
                have w2 : W ≤ 36028797018963967 := by rw [hW]; exact (issue_range l1 (by omega)).2
                have CI : Hid (Calls Try.prog 14 #[.pointer (some ⟨b, 0, none⟩), .int .i64 v] (wr.alloc (.cells #[.int .i64 0, .int .i64 v, .slice a m c, .int .i64 t, .int .u8 n] 41)) fun e w' => e = .returned (.tuple #[.agg #[.int .i64 W, .int .u8 1], .int .i64 0]) ∧ Turn w w' b wr.heap.size 1 W o 0 v a m c t n) := by
                  have c := T0.out.issue (by omega) v1 v2
                  rw [← hW] at c
                  exact c
                have d1 : decide (W ≤ L) = false := decide_eq_false (by omega)
                have d2 : decide (36028797018963967 < W) = false := decide_eq_false (by omega)
                clear hW
                obtain ⟨R, hR⟩ : ∃ R, R = readN (o) (W) v := ⟨_, rfl⟩
                have bR : decide (R < W) = false := decide_eq_false (by rw [hR]; have := read_ge (o) (W) v; omega)
                have CR : Hid (∀ u, Turn w u b wr.heap.size 1 (W) (o) 0 v a m c t n → Calls Try.prog 12 #[.pointer (some ⟨b, 0, none⟩), .int .i64 v] u fun e w' => e = .returned (.int .i64 R) ∧ Turn w w' b wr.heap.size 1 (W) (o) 0 v a m c t n) := fun u h => by rw [hR]; exact h.read v1 v2
                clear hR
                go_wp2_with (first | (go_at_call 20; have hgo := T2.out; clear hgo; refine T2.out.high.mono ?_; rintro e v5 ⟨rfl, ht⟩; have T3 : Hid _ := ht; clear ht) | (go_at_call 12; have hgo := T1.out; clear hgo; refine (CR.out _ T1.out).mono ?_; rintro e v4 ⟨rfl, ht⟩; have T2 : Hid _ := ht; clear ht) | (go_at_call 14; refine CI.out.mono ?_; rintro e v3 ⟨rfl, ht⟩; have T1 : Hid (Turn w (v3.alloc (.cells #[.int .i64 W, .int .u8 1] 32)) b wr.heap.size 1 W o 0 v a m c t n) := ht.past _; have r1 := T1.out.c1; clear ht))
                exact ⟨⟨i + 1, _, _, by simp, rfl, by omega, T3.out.l1, T3.out.l2, T3.out.o1, T3.out.o2, T3.out.play⟩, by simp [intOf]; omega⟩
            · have p0 : (p == 0) = false := by simpa using hp0
              by_cases hp1 : p = 1
              · subst hp1
                by_cases h80 : 80 < m
                · have d0 : (80 : Int) < (m : Int) := by omega
                  go_wp2
                  go_ret
                  exact ⟨rfl, T0.out.play.below⟩
                · have d0 : ¬ (80 : Int) < (m : Int) := by omega
                  obtain ⟨S, hS⟩ : ∃ S, S = sampN o zs := ⟨_, rfl⟩
                  have CS : Hid (Calls Try.prog 11 #[.pointer (some ⟨b, 0, none⟩), .slice a m c] (wr.alloc (.cells #[.int .i64 1, .int .i64 v, .slice a m c, .int .i64 t, .int .u8 n] 41)) fun e w' => e = .returned (.int .i64 S) ∧ Turn w w' b wr.heap.size 1 L S 1 v a m c t n) := by
                    have c := T0.out.sample HM.out HMC.out HRW.out
                    rw [← hS] at c
                    exact c
                  clear hS
                  obtain ⟨R, hR⟩ : ∃ R, R = readN (S) (L) v := ⟨_, rfl⟩
                  have bR : decide (R < L) = false := decide_eq_false (by rw [hR]; have := read_ge (S) (L) v; omega)
                  have CR : Hid (∀ u, Turn w u b wr.heap.size 1 (L) (S) 1 v a m c t n → Calls Try.prog 12 #[.pointer (some ⟨b, 0, none⟩), .int .i64 v] u fun e w' => e = .returned (.int .i64 R) ∧ Turn w w' b wr.heap.size 1 (L) (S) 1 v a m c t n) := fun u h => by rw [hR]; exact h.read v1 v2
                  clear hR
                  go_wp2_with (first | (go_at_call 20; have hgo := T2.out; clear hgo; refine T2.out.high.mono ?_; rintro e v5 ⟨rfl, ht⟩; have T3 : Hid _ := ht; clear ht) | (go_at_call 12; have hgo := T1.out; clear hgo; refine (CR.out _ T1.out).mono ?_; rintro e v4 ⟨rfl, ht⟩; have T2 : Hid _ := ht; clear ht) | (go_at_call 11; refine CS.out.mono ?_; rintro e v3 ⟨rfl, ht⟩; have T1 : Hid (Turn w v3 b wr.heap.size 1 L S 1 v a m c t n) := ht; have r1 := T1.out.c1; clear ht))
                  exact ⟨⟨i + 1, _, _, by simp, rfl, by omega, T3.out.l1, T3.out.l2, T3.out.o1, T3.out.o2, T3.out.play⟩, by simp [intOf]; omega⟩
              · have p1 : (p == 1) = false := by simpa using hp1
                by_cases ho : okT t
                · by_cases hl : L < t
                  · have es : seeN L t = t := if_pos ⟨ho, hl⟩
                    have d1 : decide (L < t) = true := decide_eq_true hl
                    have CE : Hid (Calls Try.prog 13 #[.pointer (some ⟨b, 0, none⟩), .agg #[.int .i64 t, .int .u8 n]] (wr.alloc (.cells #[.int .i64 p, .int .i64 v, .slice a m c, .int .i64 t, .int .u8 n] 41)) fun e w' => (∃ x : Bool, e = .returned (.bool x)) ∧ Turn w w' b wr.heap.size 1 (t) o p v a m c t n) := by
                      have c := T0.out.see
                      rw [es] at c
                      exact c.mono (by rintro e u' ⟨rfl, h⟩; exact ⟨⟨_, rfl⟩, h⟩)
                    have CG : Hid (∀ u, Turn w u b wr.heap.size 1 (t) o p v a m c t n → Calls Try.prog 21 #[.agg #[.int .i64 t, .int .u8 n]] u fun e w' => e = .returned (.bool true) ∧ Turn w w' b wr.heap.size 1 (t) o p v a m c t n) := fun u h => by
                      have c := h.good
                      rw [decide_eq_true ho] at c
                      exact c
                    clear es
                    obtain ⟨R, hR⟩ : ∃ R, R = readN (o) (t) v := ⟨_, rfl⟩
                    have bR : decide (R < t) = false := decide_eq_false (by rw [hR]; have := read_ge (o) (t) v; omega)
                    have CR : Hid (∀ u, Turn w u b wr.heap.size 1 (t) (o) p v a m c t n → Calls Try.prog 12 #[.pointer (some ⟨b, 0, none⟩), .int .i64 v] u fun e w' => e = .returned (.int .i64 R) ∧ Turn w w' b wr.heap.size 1 (t) (o) p v a m c t n) := fun u h => by rw [hR]; exact h.read v1 v2
                    clear hR
                    go_wp2_with (first | (go_at_call 20; have hgo := T2.out; clear hgo; refine T2.out.high.mono ?_; rintro e v5 ⟨rfl, ht⟩; have T3 : Hid _ := ht; clear ht) | (go_at_call 12; have hgo := T1.out; clear hgo; refine (CR.out _ T1.out).mono ?_; rintro e v4 ⟨rfl, ht⟩; have T2 : Hid _ := ht; clear ht) | (go_at_call 21; have hgo := TS.out; clear hgo; refine (CG.out _ TS.out).mono ?_; rintro e v6 ⟨rfl, ht⟩; have T1 : Hid (Turn w v6 b wr.heap.size 1 (t) o p v a m c t n) := ht; have r1 := T1.out.c1; have r3 := T1.out.c3; clear ht) | (go_at_call 13; refine CE.out.mono ?_; rintro e v3 ⟨⟨x, rfl⟩, ht⟩; have TS : Hid (Turn w v3 b wr.heap.size 1 (t) o p v a m c t n) := ht; have k3 := TS.out.c3; have k4 := TS.out.c4; clear ht))
                    exact ⟨⟨i + 1, _, _, by simp, rfl, by omega, T3.out.l1, T3.out.l2, T3.out.o1, T3.out.o2, T3.out.play⟩, by simp [intOf]; omega⟩
                  · have es : seeN L t = L := if_neg (fun h => hl h.2)
                    have d1 : decide (L < t) = false := decide_eq_false hl
                    have CE : Hid (Calls Try.prog 13 #[.pointer (some ⟨b, 0, none⟩), .agg #[.int .i64 t, .int .u8 n]] (wr.alloc (.cells #[.int .i64 p, .int .i64 v, .slice a m c, .int .i64 t, .int .u8 n] 41)) fun e w' => (∃ x : Bool, e = .returned (.bool x)) ∧ Turn w w' b wr.heap.size 1 (L) o p v a m c t n) := by
                      have c := T0.out.see
                      rw [es] at c
                      exact c.mono (by rintro e u' ⟨rfl, h⟩; exact ⟨⟨_, rfl⟩, h⟩)
                    have CG : Hid (∀ u, Turn w u b wr.heap.size 1 (L) o p v a m c t n → Calls Try.prog 21 #[.agg #[.int .i64 t, .int .u8 n]] u fun e w' => e = .returned (.bool true) ∧ Turn w w' b wr.heap.size 1 (L) o p v a m c t n) := fun u h => by
                      have c := h.good
                      rw [decide_eq_true ho] at c
                      exact c
                    clear es
                    obtain ⟨R, hR⟩ : ∃ R, R = readN (o) (L) v := ⟨_, rfl⟩
                    have bR : decide (R < L) = false := decide_eq_false (by rw [hR]; have := read_ge (o) (L) v; omega)
                    have CR : Hid (∀ u, Turn w u b wr.heap.size 1 (L) (o) p v a m c t n → Calls Try.prog 12 #[.pointer (some ⟨b, 0, none⟩), .int .i64 v] u fun e w' => e = .returned (.int .i64 R) ∧ Turn w w' b wr.heap.size 1 (L) (o) p v a m c t n) := fun u h => by rw [hR]; exact h.read v1 v2
                    clear hR
                    go_wp2_with (first | (go_at_call 20; have hgo := T2.out; clear hgo; refine T2.out.high.mono ?_; rintro e v5 ⟨rfl, ht⟩; have T3 : Hid _ := ht; clear ht) | (go_at_call 12; have hgo := T1.out; clear hgo; refine (CR.out _ T1.out).mono ?_; rintro e v4 ⟨rfl, ht⟩; have T2 : Hid _ := ht; clear ht) | (go_at_call 21; have hgo := TS.out; clear hgo; refine (CG.out _ TS.out).mono ?_; rintro e v6 ⟨rfl, ht⟩; have T1 : Hid (Turn w v6 b wr.heap.size 1 (L) o p v a m c t n) := ht; have r1 := T1.out.c1; have r3 := T1.out.c3; clear ht) | (go_at_call 13; refine CE.out.mono ?_; rintro e v3 ⟨⟨x, rfl⟩, ht⟩; have TS : Hid (Turn w v3 b wr.heap.size 1 (L) o p v a m c t n) := ht; have k3 := TS.out.c3; have k4 := TS.out.c4; clear ht))
                    exact ⟨⟨i + 1, _, _, by simp, rfl, by omega, T3.out.l1, T3.out.l2, T3.out.o1, T3.out.o2, T3.out.play⟩, by simp [intOf]; omega⟩
                · have es : seeN L t = L := if_neg (fun h => ho h.1)
                  have CE : Hid (Calls Try.prog 13 #[.pointer (some ⟨b, 0, none⟩), .agg #[.int .i64 t, .int .u8 n]] (wr.alloc (.cells #[.int .i64 p, .int .i64 v, .slice a m c, .int .i64 t, .int .u8 n] 41)) fun e w' => (∃ x : Bool, e = .returned (.bool x)) ∧ Turn w w' b wr.heap.size 1 (L) o p v a m c t n) := by
                    have c := T0.out.see
                    rw [es] at c
                    exact c.mono (by rintro e u' ⟨rfl, h⟩; exact ⟨⟨_, rfl⟩, h⟩)
                  have CG : Hid (∀ u, Turn w u b wr.heap.size 1 (L) o p v a m c t n → Calls Try.prog 21 #[.agg #[.int .i64 t, .int .u8 n]] u fun e w' => e = .returned (.bool false) ∧ Turn w w' b wr.heap.size 1 (L) o p v a m c t n) := fun u h => by
                    have c := h.good
                    rw [decide_eq_false ho] at c
                    exact c
                  clear es
                  obtain ⟨R, hR⟩ : ∃ R, R = readN (o) (L) v := ⟨_, rfl⟩
                  have bR : decide (R < L) = false := decide_eq_false (by rw [hR]; have := read_ge (o) (L) v; omega)
                  have CR : Hid (∀ u, Turn w u b wr.heap.size 1 (L) (o) p v a m c t n → Calls Try.prog 12 #[.pointer (some ⟨b, 0, none⟩), .int .i64 v] u fun e w' => e = .returned (.int .i64 R) ∧ Turn w w' b wr.heap.size 1 (L) (o) p v a m c t n) := fun u h => by rw [hR]; exact h.read v1 v2
                  clear hR
                  go_wp2_with (first | (go_at_call 20; have hgo := T2.out; clear hgo; refine T2.out.high.mono ?_; rintro e v5 ⟨rfl, ht⟩; have T3 : Hid _ := ht; clear ht) | (go_at_call 12; have hgo := T1.out; clear hgo; refine (CR.out _ T1.out).mono ?_; rintro e v4 ⟨rfl, ht⟩; have T2 : Hid _ := ht; clear ht) | (go_at_call 21; have hgo := TS.out; clear hgo; refine (CG.out _ TS.out).mono ?_; rintro e v6 ⟨rfl, ht⟩; have T1 : Hid (Turn w v6 b wr.heap.size 1 (L) o p v a m c t n) := ht; have r1 := T1.out.c1; have r3 := T1.out.c3; clear ht) | (go_at_call 13; refine CE.out.mono ?_; rintro e v3 ⟨⟨x, rfl⟩, ht⟩; have TS : Hid (Turn w v3 b wr.heap.size 1 (L) o p v a m c t n) := ht; have k3 := TS.out.c3; have k4 := TS.out.c4; clear ht))
                  exact ⟨⟨i + 1, _, _, by simp, rfl, by omega, T3.out.l1, T3.out.l2, T3.out.o1, T3.out.o2, T3.out.play⟩, by simp [intOf]; omega⟩
          · go_wp2
            go_ret
            exact ⟨rfl, PL.out.below⟩

set_option maxRecDepth 100000 in
theorem lifted (os : Os) (started : os.Started) (H : Type) (enc : TypeId × Value → H) :
    ReturnsInHanded {} Try.checked os 5 .any (Rows.discRisesSpec.pre6 enc Try.prog Try.f5 Rows.discRisesRow.domain false) (Rows.discRisesSpec.post enc Try.prog Try.f5 false true false false) := by
  refine returnsInHanded_of_change (C := Try.checked) own started (by kernel_rfl) Try.func5
    (ChangeSpec.witness6 (enc := enc) (C := Try.checked) false ⟨#[], #[.int .i64 0, .slice none 0 0], []⟩ 8 (by kernel_rfl) (by kernel_rfl) (by kernel_rfl) (by kernel_rfl)) ?_
  intro W base args ds gs before hval0 hW hcnd _
  have hval : ∀ (j : Nat) t v, Try.f5.params[j]? = some t → args[j]? = some v → Value.okWide Try.prog W .any base t v := hval0
  have hW' := hW
  obtain ⟨p, q, hA0, hV, rfl, hfz, hnd⟩ := hW
  have hA : DataW.TrodAll enc Try.prog W 0 (fun _ => true) true Try.f5.params.toList args.toList ds p := hA0
  rw [Try.params5] at hA hval
  obtain ⟨v0, vs0, d0, ds0, p0, q0, hargs, rfl, rfl, h0, r0⟩ := trodAll_cons hA
  obtain ⟨v1, vs1, d1, ds1, p1, q1, rfl, rfl, rfl, h1, r1⟩ := trodAll_cons r0
  obtain ⟨rfl, rfl, rfl⟩ := trodAll_nil r1
  obtain rfl : args = #[v0, v1] := by cases args; simp_all
  obtain ⟨rfl, rfl⟩ := trodVars_none hV
  have k0 := h0
  have lt0 : ∀ x ∈ p0, x.block < W.heap.size := by obtain ⟨m, hm⟩ := k0; exact DataW.trod_lt m _ _ _ hm
  obtain ⟨a0, rfl, rfl, rfl, w0⟩ := open_int Try.underlying2 (hval 0 2 v0 rfl rfl) h0
  obtain ⟨a1, len1, cap1, rfl⟩ := okWide_slice Try.underlying36 (hval 1 36 v1 rfl rfl)
  have k1 := h1
  have lt1 : ∀ x ∈ p1, x.block < W.heap.size := by obtain ⟨m, hm⟩ := k1; exact DataW.trod_lt m _ _ _ hm
  obtain ⟨z1, l1, w1⟩ : ∃ xs : List ActV, xs.length = len1 ∧ ActsOf W a1 cap1 xs := by
    obtain ⟨fuel, hf⟩ := h1
    exact acts_open Try.underlying36 Try.underlying41 Try.underlying3 Try.underlying2 Try.underlying28 Try.underlying2 Try.underlying32 Try.underlying2 Try.underlying5 rfl rfl rfl rfl rfl rfl (by kernel_rfl) (by kernel_rfl) (by kernel_rfl) (by kernel_rfl) (by kernel_rfl) (by kernel_rfl) (by kernel_rfl) (by kernel_rfl) hf
  clear hA0 hval0
  refine (walk a0 a1 len1 cap1 z1 W w0 l1 w1).mono fun e W' ⟨he, bel⟩ => ?_
  subst he
  exact ⟨_, rfl, _, _, _, [], _, [], hW', trodAll_mk1 (shut_bool Try.underlying4 _), (trodAll_cons_mk (Below.trod laidOut (by kernel_rfl) (of_decide_eq_true (by kernel_rfl)) k0 bel lt0) (trodAll_cons_mk (Below.trod laidOut (by kernel_rfl) (of_decide_eq_true (by kernel_rfl)) k1 bel lt1) trodAll_mk0)), rfl, bel.frame _, fun h => by cases h⟩

theorem over : Rows.discRisesRow.holds Try.pinned (OpenSpec.ofChange Rows.discRisesSpec) :=
  OpenClaim.holds_of_wide 5 Try.f5 rfl rfl rfl rfl rfl rfl rfl ⟨rfl, rfl, rfl, rfl, rfl⟩ rfl rfl rfl rfl rfl (by kernel_rfl) Try.func5 (by kernel_rfl)
    (of_decide_eq_true (by kernel_rfl)) (by unfold Func.isWrapper; first | (rw [if_pos (by decide +kernel)]; kernel_rfl) | (rw [if_neg (by decide +kernel)]; exact ⟨rfl, rfl⟩))
    (fun os started H enc _ => lifted os started H enc)
theorem proved : Rows.DiscRisesSaid := over
#print axioms proved
end Go.Proofs.Ytmibmblgaofikaa.discRises
namespace Go.Proofs.Ytmibmblgaofikaa
/-- DiscRises, as given. -/
theorem discRises_holds : Rows.DiscRisesSaid := discRises.proved
end Go.Proofs.Ytmibmblgaofikaa
