/-
  DiscPlays: all that is issued, sampled, seen and read is as the document says, for all acts.
-/
import Derived.Test.YtmibmblgaofikaaRows
import Derived.Test.YtmibmblgaofikaaDiscBoth
import Derived.Test.YtmibmblgaofikaaActsOpen
import Derived.WalkKit
import Derived.ProofKit
import Derived.OpenShut
import Derived.ShutString
import Derived.ChangeOld
import Derived.Below
import Derived.Carry
namespace Go.Proofs.Ytmibmblgaofikaa.discPlays
open Go.ChangeShapes Go.WideShapes Go.ChangeAt Go.RowKit
open Go.ChangeMaps (open_string shut_string)
set_option linter.unusedVariables false

theorem own : ownKnob Try.prog.godebug = none := by kernel_rfl
theorem laidOut : laidOutB Try.prog = true := by kernel_rfl
/-- A slice of integers that came in: nil, or a row of 'cap' cells, of which the first 'len' are its elements. -/
def IsRow (k : IntKind) (w : World) (a : Option Addr) (len cap : Nat) (zs : List Int) : Prop :=
  (a = none ∧ len = 0 ∧ cap = 0 ∧ zs = []) ∨
  ∃ x, a = some x ∧ len ≤ cap ∧ cap ≤ maxLen ∧ zs.length = cap ∧ (∀ i, i < zs.length → w.cell? (x.add i) = some (.int k (zs.getD i 0))) ∧ ∀ n ∈ zs, (Lit.int k n).wf = true

set_option maxRecDepth 4000 in
set_option maxHeartbeats 4000000 in
theorem walk (a0 : Int) (a1 : Int) (a2 : Option Addr) (len2 cap2 : Nat) (z2 : List ActV) (w : World) (w0 : (Lit.int .u8 a0).wf = true) (w1 : (Lit.int .i64 a1).wf = true) (l2 : z2.length = len2) (w2 : ActsOf w a2 cap2 z2) :
    Calls Try.prog 4 #[.int .u8 a0, .int .i64 a1, .slice a2 len2 cap2] w fun e w' => e = .returned (.bool true) ∧ Below w.heap.size w w' := by
  have by0 := bounds_u8 w0
  have by1 := bounds_i64 w1
  have AW : Hid (∀ u, Calls Try.prog 9 #[] u fun e w' => e = .returned (.bool true) ∧ Below u.heap.size u w') := fun u => awake_any u
  have HA : Hid (ActsOf w a2 cap2 z2) := w2
  have HL : Hid (z2.length = len2) := l2
  clear w0 w1 w2 l2
  by_cases hbad : a1 < -1 ∨ 36028797018963967 < a1
  · have CN : Hid (∀ u, Below w.heap.size w u → Calls Try.prog 10 #[.int .u8 a0, .int .i64 a1] u fun e w' => e = .returned (.tuple #[.pointer none, .int .i64 1]) ∧ Below w.heap.size w w') := fun u hb => (dnew_bad a0 a1 u by0 hbad).mono (by rintro e u' ⟨rfl, h⟩; exact ⟨rfl, hb.trans (h.mono hb.size)⟩)
    by_cases h0 : a1 < -1
    · have b0 : decide (a1 < -1) = true := decide_eq_true h0
      go_enter Try.func4, Try.ntmps4
      go_wp2_with (first | (go_at_call 10; refine (CN.out _ B1.out).mono ?_; rintro e v2 ⟨rfl, hp2⟩; have B2 : Hid (Below w.heap.size w v2) := hp2; clear hp2) | (go_at_call 9; refine (AW.out _).mono ?_; rintro e v1 ⟨rfl, hb1⟩; have B1 : Hid (Below w.heap.size w v1) := hb1; clear hb1))
      go_ret
      exact ⟨rfl, B2.out⟩
    · have b0 : decide (a1 < -1) = false := decide_eq_false h0
      have b1 : decide (36028797018963967 < a1) = true := decide_eq_true (by omega)
      go_enter Try.func4, Try.ntmps4
      go_wp2_with (first | (go_at_call 10; refine (CN.out _ B1.out).mono ?_; rintro e v2 ⟨rfl, hp2⟩; have B2 : Hid (Below w.heap.size w v2) := hp2; clear hp2) | (go_at_call 9; refine (AW.out _).mono ?_; rintro e v1 ⟨rfl, hb1⟩; have B1 : Hid (Below w.heap.size w v1) := hb1; clear hb1))
      go_ret
      exact ⟨rfl, B2.out⟩
  · have b0 : decide (a1 < -1) = false := decide_eq_false (by omega)
    have b1 : decide (36028797018963967 < a1) = false := decide_eq_false (by omega)
    have k0 : -1 ≤ a1 := by omega
    have k1 : a1 ≤ 36028797018963967 := by omega
    have CN : Hid (∀ u, Below w.heap.size w u → Calls Try.prog 10 #[.int .u8 a0, .int .i64 a1] u fun e w' => ∃ b, e = .returned (.tuple #[.pointer (some ⟨b, 0, none⟩), .int .i64 0]) ∧ Play w w' b a0 a1 0) := fun u hb => (dnew_ok a0 a1 u by0 k0 k1).mono (by rintro e u' ⟨b, rfl, h1, h2, h3⟩; exact ⟨b, rfl, Play.made hb h1 h2 h3⟩)
    by_cases h2 : 60 < len2
    · have b2 : (60 : Int) < (len2 : Int) := by omega
      go_enter Try.func4, Try.ntmps4
      go_wp2_with (first | (go_at_call 10; refine (CN.out _ B1.out).mono ?_; rintro e v2 ⟨b, rfl, hp2⟩; have P2 : Hid (Play w v2 b a0 a1 0) := hp2; clear hp2) | (go_at_call 9; refine (AW.out _).mono ?_; rintro e v1 ⟨rfl, hb1⟩; have B1 : Hid (Below w.heap.size w v1) := hb1; clear hb1))
      go_ret
      exact ⟨rfl, P2.out.below⟩
    · have b2 : ¬ (60 : Int) < (len2 : Int) := by omega
      go_enter Try.func4, Try.ntmps4
      go_wp2_with (first | (go_at_call 10; refine (CN.out _ B1.out).mono ?_; rintro e v2 ⟨b, rfl, hp2⟩; have P2 : Hid (Play w v2 b a0 a1 0) := hp2; clear hp2) | (go_at_call 9; refine (AW.out _).mono ?_; rintro e v1 ⟨rfl, hb1⟩; have B1 : Hid (Below w.heap.size w v1) := hb1; clear hb1))
      go_loopw [10] (fun iv wr => ∃ (i : Nat) (L o : Int), iv = .int .i64 i ∧ i ≤ len2 ∧ -1 ≤ L ∧ L ≤ 36028797018963967 ∧ -1099511627776 ≤ o ∧ o ≤ 1099511627776 ∧ Hid (Play w wr b a0 L o) ∧ Hid (CkR wr v2.heap.size a0 L o)) (fun iv _ => len2 - (intOf iv).toNat)
      case atStart => exact ⟨0, a1, 0, rfl, by omega, by omega, by omega, by omega, by omega, P2.out.past _, CkR.made v2 39 a0 a1 0⟩
      case round =>
        obtain ⟨i, L, o, rfl, hi, l1, l2, o1, o2, PL, RK⟩ := hrel
        by_cases hlt : i < len2
        · obtain ⟨ba, oa, ⟨p, v, a, c, zs, t, n⟩, rfl, hx⟩ : ∃ ba oa X, a2 = some ⟨ba, oa, none⟩ ∧ ActAt w ba (oa + i * 5) X := by
            have hil : i < z2.length := by rw [HL.out]; exact hlt
            rcases HA.out.cells with h' | ⟨ba, oa, h', hc⟩
            · rw [h'] at hil; simp at hil
            · exact ⟨ba, oa, z2[i], h', hc i _ (List.getElem?_eq_getElem hil)⟩
          have v12 := hx.bv
          obtain ⟨v1, v1'⟩ := v12
          obtain ⟨m, hm⟩ : ∃ m, m = zs.length := ⟨_, rfl⟩
          have q0 : wr.cell? ⟨ba, oa + i * 5, none⟩ = some (.int .i64 p) := (PL.out.below.cell (p := ⟨ba, oa + i * 5, none⟩) (lt_of_cell hx.c0)).trans hx.c0
          have q1 : wr.cell? ⟨ba, oa + i * 5 + 1, none⟩ = some (.int .i64 v) := (PL.out.below.cell (p := ⟨ba, oa + i * 5 + 1, none⟩) (lt_of_cell hx.c1)).trans hx.c1
          have q2 : wr.cell? ⟨ba, oa + i * 5 + 2, none⟩ = some (.slice a m c) := by rw [hm]; exact (PL.out.below.cell (p := ⟨ba, oa + i * 5 + 2, none⟩) (lt_of_cell hx.c2)).trans hx.c2
          have q3 : wr.cell? ⟨ba, oa + i * 5 + 3, none⟩ = some (.int .i64 t) := (PL.out.below.cell (p := ⟨ba, oa + i * 5 + 3, none⟩) (lt_of_cell hx.c3)).trans hx.c3
          have q4 : wr.cell? ⟨ba, oa + i * 5 + 4, none⟩ = some (.int .u8 n) := (PL.out.below.cell (p := ⟨ba, oa + i * 5 + 4, none⟩) (lt_of_cell hx.c4)).trans hx.c4
          have HM : Hid (zs.length = m) := hm.symm
          have HMC : Hid (m ≤ c) := by rw [hm]; exact hx.room
          have HRW : Hid (Row64 w a zs) := hx.row
          have hnb : v2.heap.size ≠ b := by have := P2.out.ck.lt; omega
          obtain ⟨U, hU⟩ : ∃ U, U = wr.alloc (.cells #[.int .i64 p, .int .i64 v, .slice a m c, .int .i64 t, .int .u8 n] 41) := ⟨_, rfl⟩
          have B0 : Hid (Both w U b v2.heap.size wr.heap.size a0 (L) (o) (L) (o) p v a m c t n) := by rw [hU]; exact Both.made 41 PL.out RK.out hnb P2.out.below.size l1 l2 o1 o2
          have s0 := B0.out.turn.c0
          have s1 := B0.out.turn.c1
          have s2 := B0.out.turn.c2
          have s3 := B0.out.turn.c3
          have s4 := B0.out.turn.c4
          rw [hU] at s0 s1 s2 s3 s4
          clear hx hm PL RK hnb
          by_cases h80 : 80 < m
          · have d0 : (80 : Int) < (m : Int) := by omega
            go_wp2
            go_ret
            rw [← hU]
            exact ⟨rfl, B0.out.turn.play.below⟩
          · have d0 : ¬ (80 : Int) < (m : Int) := by omega
            by_cases hp0 : p = 0
            · subst hp0
              by_cases hs : L = 36028797018963967
              · subst hs
                have C1 : Hid (∀ u, Both w u b v2.heap.size wr.heap.size a0 (36028797018963967) (o) (36028797018963967) (o) 0 v a m c t n → Calls Try.prog 14 #[.pointer (some ⟨b, 0, none⟩), .int .i64 v] u fun e w' => e = .returned (.tuple #[.agg #[.int .i64 0, .int .u8 0], .int .i64 12]) ∧ Both w w' b v2.heap.size wr.heap.size a0 (36028797018963967) (o) (36028797018963967) (o) 0 v a m c t n) := fun u h => h.spent v1 v1'
                have C2 : Hid (∀ u, Both w u b v2.heap.size wr.heap.size a0 (36028797018963967) (o) (36028797018963967) (o) 0 v a m c t n → Calls Try.prog 16 #[.pointer (some ⟨v2.heap.size, 0, none⟩), .int .i64 v] u fun e w' => e = .returned (.tuple #[.agg #[.int .i64 0, .int .u8 0], .int .i64 12]) ∧ Both w w' b v2.heap.size wr.heap.size a0 (36028797018963967) (o) (36028797018963967) (o) 0 v a m c t n ∧ u.grownBy w' (some v2.heap.size)) := fun u h => (rissue_spent v2.heap.size a0 o v u h.rk).mono (by rintro e u' ⟨rfl, hb⟩; exact ⟨rfl, h.step hb, grown_of_below hb _⟩)
                rw [hU] at B0
                clear hU
                obtain ⟨R, hR⟩ : ∃ R, R = readN (o) (36028797018963967) v := ⟨_, rfl⟩
                have DR : Hid (∀ u, Both w u b v2.heap.size wr.heap.size a0 (36028797018963967) (o) (36028797018963967) (o) 0 v a m c t n → Calls Try.prog 12 #[.pointer (some ⟨b, 0, none⟩), .int .i64 v] u fun e w' => e = .returned (.int .i64 R) ∧ Both w w' b v2.heap.size wr.heap.size a0 (36028797018963967) (o) (36028797018963967) (o) 0 v a m c t n) := fun u h => by rw [hR]; exact h.read v1 v1'
                have RR : Hid (∀ u, Both w u b v2.heap.size wr.heap.size a0 (36028797018963967) (o) (36028797018963967) (o) 0 v a m c t n → Calls Try.prog 19 #[.pointer (some ⟨v2.heap.size, 0, none⟩), .int .i64 v] u fun e w' => e = .returned (.int .i64 R) ∧ Both w w' b v2.heap.size wr.heap.size a0 (36028797018963967) (o) (36028797018963967) (o) 0 v a m c t n) := fun u h => by rw [hR]; exact h.rread h.turn.o1 h.turn.o2
                have DH : Hid (∀ u, Both w u b v2.heap.size wr.heap.size a0 (36028797018963967) (o) (36028797018963967) (o) 0 v a m c t n → Calls Try.prog 20 #[.pointer (some ⟨b, 0, none⟩)] u fun e w' => e = .returned (.int .i64 (36028797018963967)) ∧ Both w w' b v2.heap.size wr.heap.size a0 (36028797018963967) (o) (36028797018963967) (o) 0 v a m c t n) := fun u h => h.high
                have DO : Hid (∀ u, Both w u b v2.heap.size wr.heap.size a0 (36028797018963967) (o) (36028797018963967) (o) 0 v a m c t n → Calls Try.prog 15 #[.pointer (some ⟨b, 0, none⟩)] u fun e w' => e = .returned (.int .i64 (o)) ∧ Both w w' b v2.heap.size wr.heap.size a0 (36028797018963967) (o) (36028797018963967) (o) 0 v a m c t n) := fun u h => h.offset
                have KT : Hid (∀ {u : World}, Both w u b v2.heap.size wr.heap.size a0 (36028797018963967) (o) (36028797018963967) (o) 0 v a m c t n → u.cell? ⟨wr.heap.size, 1, none⟩ = some (.int .i64 v) ∧ u.cell? ⟨v2.heap.size, 1, none⟩ = some (.int .i64 (36028797018963967)) ∧ u.cell? ⟨v2.heap.size, 2, none⟩ = some (.int .i64 (o))) := fun h => ⟨h.turn.c1, h.rk.c1, h.rk.c2⟩
                clear hR
                go_wp2_with (first | (go_at_call 16; refine (C2.out _ B3.out).mono ?_; rintro e v4 ⟨rfl, hb4, hg4⟩; have B4 : Hid (Both w (v4.alloc (.cells #[.int .i64 0, .int .u8 0] 32)) b v2.heap.size wr.heap.size a0 (36028797018963967) (o) (36028797018963967) (o) 0 v a m c t n) := hb4.past _; have S4 : Hid (StAt (v4.alloc (.cells #[.int .i64 0, .int .u8 0] 32)) v3.heap.size 0 0) := (S3.out.kept hg4 (by have := N3.out; simp; omega)).past _; have k0 := S4.out.c0; have k1 := S4.out.c1; have D4 : Hid (Both w (v4.alloc (.cells #[.int .i64 0, .int .u8 0] 32)) b v2.heap.size wr.heap.size a0 (36028797018963967) (o) (36028797018963967) (o) 0 v a m c t n) := B4.out; have D4d : Hid (Both w (v4.alloc (.cells #[.int .i64 0, .int .u8 0] 32)).drew b v2.heap.size wr.heap.size a0 (36028797018963967) (o) (36028797018963967) (o) 0 v a m c t n) := D4.out.step (Below.refl _ _).drew; clear hb4 hg4) | (go_at_call 14; refine (C1.out _ B0.out).mono ?_; rintro e v3 ⟨rfl, hb3⟩; have N3 : Hid (v2.heap.size < v3.heap.size) := hb3.rk.lt; have B3 : Hid (Both w (v3.alloc (.cells #[.int .i64 0, .int .u8 0] 32)) b v2.heap.size wr.heap.size a0 (36028797018963967) (o) (36028797018963967) (o) 0 v a m c t n) := hb3.past _; have S3 : Hid (StAt (v3.alloc (.cells #[.int .i64 0, .int .u8 0] 32)) v3.heap.size 0 0) := StAt.made _ _ _ _ _ rfl; have j1 := B3.out.turn.c1; clear hb3))
                go_region_held3 (fun u => u.cell? ⟨wr.heap.size, 1, none⟩ = some (.int .i64 v) ∧ u.cell? ⟨v2.heap.size, 1, none⟩ = some (.int .i64 (36028797018963967)) ∧ u.cell? ⟨v2.heap.size, 2, none⟩ = some (.int .i64 (o))) (first | exact KT.out E4.out | exact KT.out E3.out | exact KT.out E2.out | exact KT.out E1.out | exact KT.out D4d.out | exact KT.out D4.out) (first | (go_at_call 15; refine (DO.out _ E3.out).mono ?_; rintro e x4 ⟨rfl, hb⟩; have E4 : Hid _ := hb; clear hb) | (go_at_call 20; refine (DH.out _ E2.out).mono ?_; rintro e x3 ⟨rfl, hb⟩; have E3 : Hid _ := hb; clear hb) | (go_at_call 19; refine (RR.out _ E1.out).mono ?_; rintro e x2 ⟨rfl, hb⟩; have E2 : Hid _ := hb; clear hb) | (go_at_call 12; refine (DR.out _ (by first | exact D4d.out | exact D4.out)).mono ?_; rintro e x1 ⟨rfl, hb⟩; have E1 : Hid _ := hb; clear hb))
                all_goals go_wp2
                all_goals exact ⟨⟨i + 1, _, _, by simp, by omega, E4.out.turn.l1, E4.out.turn.l2, E4.out.turn.o1, E4.out.turn.o2, E4.out.turn.play, E4.out.rk⟩, by simp [intOf]; omega⟩
              · obtain ⟨W, hW⟩ : ∃ W, W = issueN o L v := ⟨_, rfl⟩
                have C1 : Hid (∀ u, Both w u b v2.heap.size wr.heap.size a0 (L) (o) (L) (o) 0 v a m c t n → Calls Try.prog 14 #[.pointer (some ⟨b, 0, none⟩), .int .i64 v] u fun e w' => e = .returned (.tuple #[.agg #[.int .i64 W, .int .u8 a0], .int .i64 0]) ∧ Both w w' b v2.heap.size wr.heap.size a0 (W) (o) (L) (o) 0 v a m c t n) := fun u h => by rw [hW]; exact h.issue (by omega) v1 v1'
                have C2 : Hid (∀ u, Both w u b v2.heap.size wr.heap.size a0 (W) (o) (L) (o) 0 v a m c t n → Calls Try.prog 16 #[.pointer (some ⟨v2.heap.size, 0, none⟩), .int .i64 v] u fun e w' => e = .returned (.tuple #[.agg #[.int .i64 W, .int .u8 a0], .int .i64 0]) ∧ Both w w' b v2.heap.size wr.heap.size a0 (W) (o) (W) (o) 0 v a m c t n ∧ u.grownBy w' (some v2.heap.size)) := fun u h => by rw [hW] at h ⊢; exact (rissue_any v2.heap.size a0 L o v u h.rk o1 o2 l1 (by omega)).mono (by rintro e u' ⟨rfl, hg⟩; exact ⟨rfl, h.rwent hg, hg.grown⟩)
                clear hW
                rw [hU] at B0
                clear hU
                obtain ⟨R, hR⟩ : ∃ R, R = readN (o) (W) v := ⟨_, rfl⟩
                have DR : Hid (∀ u, Both w u b v2.heap.size wr.heap.size a0 (W) (o) (W) (o) 0 v a m c t n → Calls Try.prog 12 #[.pointer (some ⟨b, 0, none⟩), .int .i64 v] u fun e w' => e = .returned (.int .i64 R) ∧ Both w w' b v2.heap.size wr.heap.size a0 (W) (o) (W) (o) 0 v a m c t n) := fun u h => by rw [hR]; exact h.read v1 v1'
                have RR : Hid (∀ u, Both w u b v2.heap.size wr.heap.size a0 (W) (o) (W) (o) 0 v a m c t n → Calls Try.prog 19 #[.pointer (some ⟨v2.heap.size, 0, none⟩), .int .i64 v] u fun e w' => e = .returned (.int .i64 R) ∧ Both w w' b v2.heap.size wr.heap.size a0 (W) (o) (W) (o) 0 v a m c t n) := fun u h => by rw [hR]; exact h.rread h.turn.o1 h.turn.o2
                have DH : Hid (∀ u, Both w u b v2.heap.size wr.heap.size a0 (W) (o) (W) (o) 0 v a m c t n → Calls Try.prog 20 #[.pointer (some ⟨b, 0, none⟩)] u fun e w' => e = .returned (.int .i64 (W)) ∧ Both w w' b v2.heap.size wr.heap.size a0 (W) (o) (W) (o) 0 v a m c t n) := fun u h => h.high
                have DO : Hid (∀ u, Both w u b v2.heap.size wr.heap.size a0 (W) (o) (W) (o) 0 v a m c t n → Calls Try.prog 15 #[.pointer (some ⟨b, 0, none⟩)] u fun e w' => e = .returned (.int .i64 (o)) ∧ Both w w' b v2.heap.size wr.heap.size a0 (W) (o) (W) (o) 0 v a m c t n) := fun u h => h.offset
                have KT : Hid (∀ {u : World}, Both w u b v2.heap.size wr.heap.size a0 (W) (o) (W) (o) 0 v a m c t n → u.cell? ⟨wr.heap.size, 1, none⟩ = some (.int .i64 v) ∧ u.cell? ⟨v2.heap.size, 1, none⟩ = some (.int .i64 (W)) ∧ u.cell? ⟨v2.heap.size, 2, none⟩ = some (.int .i64 (o))) := fun h => ⟨h.turn.c1, h.rk.c1, h.rk.c2⟩
                clear hR
                go_wp2_with (first | (go_at_call 16; refine (C2.out _ B3.out).mono ?_; rintro e v4 ⟨rfl, hb4, hg4⟩; have B4 : Hid (Both w (v4.alloc (.cells #[.int .i64 W, .int .u8 a0] 32)) b v2.heap.size wr.heap.size a0 (W) (o) (W) (o) 0 v a m c t n) := hb4.past _; have S4 : Hid (StAt (v4.alloc (.cells #[.int .i64 W, .int .u8 a0] 32)) v3.heap.size W a0) := (S3.out.kept hg4 (by have := N3.out; simp; omega)).past _; have k0 := S4.out.c0; have k1 := S4.out.c1; have D4 : Hid (Both w (v4.alloc (.cells #[.int .i64 W, .int .u8 a0] 32)) b v2.heap.size wr.heap.size a0 (W) (o) (W) (o) 0 v a m c t n) := B4.out; have D4d : Hid (Both w (v4.alloc (.cells #[.int .i64 W, .int .u8 a0] 32)).drew b v2.heap.size wr.heap.size a0 (W) (o) (W) (o) 0 v a m c t n) := D4.out.step (Below.refl _ _).drew; clear hb4 hg4) | (go_at_call 14; refine (C1.out _ B0.out).mono ?_; rintro e v3 ⟨rfl, hb3⟩; have N3 : Hid (v2.heap.size < v3.heap.size) := hb3.rk.lt; have B3 : Hid (Both w (v3.alloc (.cells #[.int .i64 W, .int .u8 a0] 32)) b v2.heap.size wr.heap.size a0 (W) (o) (L) (o) 0 v a m c t n) := hb3.past _; have S3 : Hid (StAt (v3.alloc (.cells #[.int .i64 W, .int .u8 a0] 32)) v3.heap.size W a0) := StAt.made _ _ _ _ _ rfl; have j1 := B3.out.turn.c1; clear hb3))
                go_region_held3 (fun u => u.cell? ⟨wr.heap.size, 1, none⟩ = some (.int .i64 v) ∧ u.cell? ⟨v2.heap.size, 1, none⟩ = some (.int .i64 (W)) ∧ u.cell? ⟨v2.heap.size, 2, none⟩ = some (.int .i64 (o))) (first | exact KT.out E4.out | exact KT.out E3.out | exact KT.out E2.out | exact KT.out E1.out | exact KT.out D4d.out | exact KT.out D4.out) (first | (go_at_call 15; refine (DO.out _ E3.out).mono ?_; rintro e x4 ⟨rfl, hb⟩; have E4 : Hid _ := hb; clear hb) | (go_at_call 20; refine (DH.out _ E2.out).mono ?_; rintro e x3 ⟨rfl, hb⟩; have E3 : Hid _ := hb; clear hb) | (go_at_call 19; refine (RR.out _ E1.out).mono ?_; rintro e x2 ⟨rfl, hb⟩; have E2 : Hid _ := hb; clear hb) | (go_at_call 12; refine (DR.out _ (by first | exact D4d.out | exact D4.out)).mono ?_; rintro e x1 ⟨rfl, hb⟩; have E1 : Hid _ := hb; clear hb))
                all_goals go_wp2
                all_goals exact ⟨⟨i + 1, _, _, by simp, by omega, E4.out.turn.l1, E4.out.turn.l2, E4.out.turn.o1, E4.out.turn.o2, E4.out.turn.play, E4.out.rk⟩, by simp [intOf]; omega⟩
            · have p0 : (p == 0) = false := by simpa using hp0
              by_cases hp1 : p = 1
              · subst hp1
                obtain ⟨S, hS⟩ : ∃ S, S = sampN o zs := ⟨_, rfl⟩
                have C1 : Hid (∀ u, Both w u b v2.heap.size wr.heap.size a0 (L) (o) (L) (o) 1 v a m c t n → Calls Try.prog 11 #[.pointer (some ⟨b, 0, none⟩), .slice a m c] u fun e w' => e = .returned (.int .i64 S) ∧ Both w w' b v2.heap.size wr.heap.size a0 (L) (S) (L) (o) 1 v a m c t n) := fun u h => by rw [hS]; exact h.sample HM.out HMC.out HRW.out
                have C2 : Hid (∀ u, Both w u b v2.heap.size wr.heap.size a0 (L) (S) (L) (o) 1 v a m c t n → Calls Try.prog 17 #[.pointer (some ⟨v2.heap.size, 0, none⟩), .slice a m c] u fun e w' => e = .returned (.int .i64 S) ∧ Both w w' b v2.heap.size wr.heap.size a0 (L) (S) (L) (S) 1 v a m c t n) := fun u h => by rw [hS] at h ⊢; exact h.rsample HM.out HRW.out
                have KS : Hid (∀ {u : World} {x1 x2 x3 x4 : Int}, Both w u b v2.heap.size wr.heap.size a0 (x1) (x2) (x3) (x4) 1 v a m c t n → u.cell? ⟨wr.heap.size, 2, none⟩ = some (.slice a m c)) := fun h => h.turn.c2
                have B0d : Hid (Both w U.drew b v2.heap.size wr.heap.size a0 (L) (o) (L) (o) 1 v a m c t n) := B0.out.step (Below.refl _ _).drew
                clear hS
                go_wp2
                rw [← hU]
                clear hU
                go_region_held3 (fun u => u.cell? ⟨wr.heap.size, 2, none⟩ = some (.slice a m c)) (first | exact KS.out B4.out | exact KS.out B3.out | exact KS.out B0d.out | exact KS.out B0.out) (first | (go_at_call 17; refine (C2.out _ B3.out).mono ?_; rintro e v4 ⟨rfl, hb4⟩; have B4 : Hid _ := hb4; clear hb4) | (go_at_call 11; refine (C1.out _ (by first | exact B0d.out | exact B0.out)).mono ?_; rintro e v3 ⟨rfl, hb3⟩; have B3 : Hid _ := hb3; clear hb3))
                all_goals
                  obtain ⟨R, hR⟩ : ∃ R, R = readN (S) (L) v := ⟨_, rfl⟩
                  have DR : Hid (∀ u, Both w u b v2.heap.size wr.heap.size a0 (L) (S) (L) (S) 1 v a m c t n → Calls Try.prog 12 #[.pointer (some ⟨b, 0, none⟩), .int .i64 v] u fun e w' => e = .returned (.int .i64 R) ∧ Both w w' b v2.heap.size wr.heap.size a0 (L) (S) (L) (S) 1 v a m c t n) := fun u h => by rw [hR]; exact h.read v1 v1'
                  have RR : Hid (∀ u, Both w u b v2.heap.size wr.heap.size a0 (L) (S) (L) (S) 1 v a m c t n → Calls Try.prog 19 #[.pointer (some ⟨v2.heap.size, 0, none⟩), .int .i64 v] u fun e w' => e = .returned (.int .i64 R) ∧ Both w w' b v2.heap.size wr.heap.size a0 (L) (S) (L) (S) 1 v a m c t n) := fun u h => by rw [hR]; exact h.rread h.turn.o1 h.turn.o2
                  have DH : Hid (∀ u, Both w u b v2.heap.size wr.heap.size a0 (L) (S) (L) (S) 1 v a m c t n → Calls Try.prog 20 #[.pointer (some ⟨b, 0, none⟩)] u fun e w' => e = .returned (.int .i64 (L)) ∧ Both w w' b v2.heap.size wr.heap.size a0 (L) (S) (L) (S) 1 v a m c t n) := fun u h => h.high
                  have DO : Hid (∀ u, Both w u b v2.heap.size wr.heap.size a0 (L) (S) (L) (S) 1 v a m c t n → Calls Try.prog 15 #[.pointer (some ⟨b, 0, none⟩)] u fun e w' => e = .returned (.int .i64 (S)) ∧ Both w w' b v2.heap.size wr.heap.size a0 (L) (S) (L) (S) 1 v a m c t n) := fun u h => h.offset
                  have KT : Hid (∀ {u : World}, Both w u b v2.heap.size wr.heap.size a0 (L) (S) (L) (S) 1 v a m c t n → u.cell? ⟨wr.heap.size, 1, none⟩ = some (.int .i64 v) ∧ u.cell? ⟨v2.heap.size, 1, none⟩ = some (.int .i64 (L)) ∧ u.cell? ⟨v2.heap.size, 2, none⟩ = some (.int .i64 (S))) := fun h => ⟨h.turn.c1, h.rk.c1, h.rk.c2⟩
                  have D4 : Hid (Both w v4 b v2.heap.size wr.heap.size a0 (L) (S) (L) (S) 1 v a m c t n) := B4.out
                  have D4d : Hid (Both w v4.drew b v2.heap.size wr.heap.size a0 (L) (S) (L) (S) 1 v a m c t n) := D4.out.step (Below.refl _ _).drew
                  clear hR
                  go_wp2
                  go_region_held3 (fun u => u.cell? ⟨wr.heap.size, 1, none⟩ = some (.int .i64 v) ∧ u.cell? ⟨v2.heap.size, 1, none⟩ = some (.int .i64 (L)) ∧ u.cell? ⟨v2.heap.size, 2, none⟩ = some (.int .i64 (S))) (first | exact KT.out E4.out | exact KT.out E3.out | exact KT.out E2.out | exact KT.out E1.out | exact KT.out D4d.out | exact KT.out D4.out) (first | (go_at_call 15; refine (DO.out _ E3.out).mono ?_; rintro e x4 ⟨rfl, hb⟩; have E4 : Hid _ := hb; clear hb) | (go_at_call 20; refine (DH.out _ E2.out).mono ?_; rintro e x3 ⟨rfl, hb⟩; have E3 : Hid _ := hb; clear hb) | (go_at_call 19; refine (RR.out _ E1.out).mono ?_; rintro e x2 ⟨rfl, hb⟩; have E2 : Hid _ := hb; clear hb) | (go_at_call 12; refine (DR.out _ (by first | exact D4d.out | exact D4.out)).mono ?_; rintro e x1 ⟨rfl, hb⟩; have E1 : Hid _ := hb; clear hb))
                  all_goals go_wp2
                  all_goals exact ⟨⟨i + 1, _, _, by simp, by omega, E4.out.turn.l1, E4.out.turn.l2, E4.out.turn.o1, E4.out.turn.o2, E4.out.turn.play, E4.out.rk⟩, by simp [intOf]; omega⟩
              · have p1 : (p == 1) = false := by simpa using hp1
                obtain ⟨G, hG⟩ : ∃ G, G = seeN L t := ⟨_, rfl⟩
                obtain ⟨X, hX⟩ : ∃ X, X = decide (okT t ∧ L < t) := ⟨_, rfl⟩
                have C1 : Hid (∀ u, Both w u b v2.heap.size wr.heap.size a0 (L) (o) (L) (o) p v a m c t n → Calls Try.prog 13 #[.pointer (some ⟨b, 0, none⟩), .agg #[.int .i64 t, .int .u8 n]] u fun e w' => e = .returned (.bool X) ∧ Both w w' b v2.heap.size wr.heap.size a0 (G) (o) (L) (o) p v a m c t n) := fun u h => by rw [hG, hX]; exact h.see
                have C2 : Hid (∀ u, Both w u b v2.heap.size wr.heap.size a0 (G) (o) (L) (o) p v a m c t n → Calls Try.prog 18 #[.pointer (some ⟨v2.heap.size, 0, none⟩), .agg #[.int .i64 t, .int .u8 n]] u fun e w' => e = .returned (.bool X) ∧ Both w w' b v2.heap.size wr.heap.size a0 (G) (o) (G) (o) p v a m c t n) := fun u h => by rw [hG] at h ⊢; rw [hX]; exact h.rsee
                have KS : Hid (∀ {u : World} {x1 x2 x3 x4 : Int}, Both w u b v2.heap.size wr.heap.size a0 (x1) (x2) (x3) (x4) p v a m c t n → u.cell? ⟨wr.heap.size, 3, none⟩ = some (.int .i64 t) ∧ u.cell? ⟨wr.heap.size, 4, none⟩ = some (.int .u8 n)) := fun h => ⟨h.turn.c3, h.turn.c4⟩
                have B0d : Hid (Both w U.drew b v2.heap.size wr.heap.size a0 (L) (o) (L) (o) p v a m c t n) := B0.out.step (Below.refl _ _).drew
                clear hG hX
                go_wp2
                rw [← hU]
                clear hU
                go_region_held3 (fun u => u.cell? ⟨wr.heap.size, 3, none⟩ = some (.int .i64 t) ∧ u.cell? ⟨wr.heap.size, 4, none⟩ = some (.int .u8 n)) (first | exact KS.out B4.out | exact KS.out B3.out | exact KS.out B0d.out | exact KS.out B0.out) (first | (go_at_call 18; refine (C2.out _ B3.out).mono ?_; rintro e v4 ⟨rfl, hb4⟩; have B4 : Hid _ := hb4; clear hb4) | (go_at_call 13; refine (C1.out _ (by first | exact B0d.out | exact B0.out)).mono ?_; rintro e v3 ⟨rfl, hb3⟩; have B3 : Hid _ := hb3; clear hb3))
                all_goals
                  obtain ⟨R, hR⟩ : ∃ R, R = readN (o) (G) v := ⟨_, rfl⟩
                  have DR : Hid (∀ u, Both w u b v2.heap.size wr.heap.size a0 (G) (o) (G) (o) p v a m c t n → Calls Try.prog 12 #[.pointer (some ⟨b, 0, none⟩), .int .i64 v] u fun e w' => e = .returned (.int .i64 R) ∧ Both w w' b v2.heap.size wr.heap.size a0 (G) (o) (G) (o) p v a m c t n) := fun u h => by rw [hR]; exact h.read v1 v1'
                  have RR : Hid (∀ u, Both w u b v2.heap.size wr.heap.size a0 (G) (o) (G) (o) p v a m c t n → Calls Try.prog 19 #[.pointer (some ⟨v2.heap.size, 0, none⟩), .int .i64 v] u fun e w' => e = .returned (.int .i64 R) ∧ Both w w' b v2.heap.size wr.heap.size a0 (G) (o) (G) (o) p v a m c t n) := fun u h => by rw [hR]; exact h.rread h.turn.o1 h.turn.o2
                  have DH : Hid (∀ u, Both w u b v2.heap.size wr.heap.size a0 (G) (o) (G) (o) p v a m c t n → Calls Try.prog 20 #[.pointer (some ⟨b, 0, none⟩)] u fun e w' => e = .returned (.int .i64 (G)) ∧ Both w w' b v2.heap.size wr.heap.size a0 (G) (o) (G) (o) p v a m c t n) := fun u h => h.high
                  have DO : Hid (∀ u, Both w u b v2.heap.size wr.heap.size a0 (G) (o) (G) (o) p v a m c t n → Calls Try.prog 15 #[.pointer (some ⟨b, 0, none⟩)] u fun e w' => e = .returned (.int .i64 (o)) ∧ Both w w' b v2.heap.size wr.heap.size a0 (G) (o) (G) (o) p v a m c t n) := fun u h => h.offset
                  have KT : Hid (∀ {u : World}, Both w u b v2.heap.size wr.heap.size a0 (G) (o) (G) (o) p v a m c t n → u.cell? ⟨wr.heap.size, 1, none⟩ = some (.int .i64 v) ∧ u.cell? ⟨v2.heap.size, 1, none⟩ = some (.int .i64 (G)) ∧ u.cell? ⟨v2.heap.size, 2, none⟩ = some (.int .i64 (o))) := fun h => ⟨h.turn.c1, h.rk.c1, h.rk.c2⟩
                  have D4 : Hid (Both w v4 b v2.heap.size wr.heap.size a0 (G) (o) (G) (o) p v a m c t n) := B4.out
                  have D4d : Hid (Both w v4.drew b v2.heap.size wr.heap.size a0 (G) (o) (G) (o) p v a m c t n) := D4.out.step (Below.refl _ _).drew
                  clear hR
                  go_wp2
                  go_region_held3 (fun u => u.cell? ⟨wr.heap.size, 1, none⟩ = some (.int .i64 v) ∧ u.cell? ⟨v2.heap.size, 1, none⟩ = some (.int .i64 (G)) ∧ u.cell? ⟨v2.heap.size, 2, none⟩ = some (.int .i64 (o))) (first | exact KT.out E4.out | exact KT.out E3.out | exact KT.out E2.out | exact KT.out E1.out | exact KT.out D4d.out | exact KT.out D4.out) (first | (go_at_call 15; refine (DO.out _ E3.out).mono ?_; rintro e x4 ⟨rfl, hb⟩; have E4 : Hid _ := hb; clear hb) | (go_at_call 20; refine (DH.out _ E2.out).mono ?_; rintro e x3 ⟨rfl, hb⟩; have E3 : Hid _ := hb; clear hb) | (go_at_call 19; refine (RR.out _ E1.out).mono ?_; rintro e x2 ⟨rfl, hb⟩; have E2 : Hid _ := hb; clear hb) | (go_at_call 12; refine (DR.out _ (by first | exact D4d.out | exact D4.out)).mono ?_; rintro e x1 ⟨rfl, hb⟩; have E1 : Hid _ := hb; clear hb))
                  all_goals go_wp2
                  all_goals exact ⟨⟨i + 1, _, _, by simp, by omega, E4.out.turn.l1, E4.out.turn.l2, E4.out.turn.o1, E4.out.turn.o2, E4.out.turn.play, E4.out.rk⟩, by simp [intOf]; omega⟩
        · go_wp2
          go_ret
          exact ⟨rfl, PL.out.below⟩

set_option maxRecDepth 100000 in
theorem lifted (os : Os) (started : os.Started) (H : Type) (enc : TypeId × Value → H) :
    ReturnsInHanded {} Try.checked os 4 .any (Rows.discPlaysSpec.pre6 enc Try.prog Try.f4 Rows.discPlaysRow.domain false) (Rows.discPlaysSpec.post enc Try.prog Try.f4 false true false false) := by
  refine returnsInHanded_of_change (C := Try.checked) own started (by kernel_rfl) Try.func4
    (ChangeSpec.witness6 (enc := enc) (C := Try.checked) false ⟨#[], #[.int .u8 0, .int .i64 0, .slice none 0 0], []⟩ 8 (by kernel_rfl) (by kernel_rfl) (by kernel_rfl) (by kernel_rfl)) ?_
  intro W base args ds gs before hval0 hW hcnd _
  have hval : ∀ (j : Nat) t v, Try.f4.params[j]? = some t → args[j]? = some v → Value.okWide Try.prog W .any base t v := hval0
  have hW' := hW
  obtain ⟨p, q, hA0, hV, rfl, hfz, hnd⟩ := hW
  have hA : DataW.TrodAll enc Try.prog W 0 (fun _ => true) true Try.f4.params.toList args.toList ds p := hA0
  rw [Try.params4] at hA hval
  obtain ⟨v0, vs0, d0, ds0, p0, q0, hargs, rfl, rfl, h0, r0⟩ := trodAll_cons hA
  obtain ⟨v1, vs1, d1, ds1, p1, q1, rfl, rfl, rfl, h1, r1⟩ := trodAll_cons r0
  obtain ⟨v2, vs2, d2, ds2, p2, q2, rfl, rfl, rfl, h2, r2⟩ := trodAll_cons r1
  obtain ⟨rfl, rfl, rfl⟩ := trodAll_nil r2
  obtain rfl : args = #[v0, v1, v2] := by cases args; simp_all
  obtain ⟨rfl, rfl⟩ := trodVars_none hV
  have k0 := h0
  have lt0 : ∀ x ∈ p0, x.block < W.heap.size := by obtain ⟨m, hm⟩ := k0; exact DataW.trod_lt m _ _ _ hm
  obtain ⟨a0, rfl, rfl, rfl, w0⟩ := open_int Try.underlying5 (hval 0 5 v0 rfl rfl) h0
  have k1 := h1
  have lt1 : ∀ x ∈ p1, x.block < W.heap.size := by obtain ⟨m, hm⟩ := k1; exact DataW.trod_lt m _ _ _ hm
  obtain ⟨a1, rfl, rfl, rfl, w1⟩ := open_int Try.underlying2 (hval 1 2 v1 rfl rfl) h1
  obtain ⟨a2, len2, cap2, rfl⟩ := okWide_slice Try.underlying36 (hval 2 36 v2 rfl rfl)
  have k2 := h2
  have lt2 : ∀ x ∈ p2, x.block < W.heap.size := by obtain ⟨m, hm⟩ := k2; exact DataW.trod_lt m _ _ _ hm
  obtain ⟨z2, l2, w2⟩ : ∃ xs : List ActV, xs.length = len2 ∧ ActsOf W a2 cap2 xs := by
    obtain ⟨fuel, hf⟩ := h2
    exact acts_open Try.underlying36 Try.underlying41 Try.underlying3 Try.underlying2 Try.underlying28 Try.underlying2 Try.underlying32 Try.underlying2 Try.underlying5 rfl rfl rfl rfl rfl rfl (by kernel_rfl) (by kernel_rfl) (by kernel_rfl) (by kernel_rfl) (by kernel_rfl) (by kernel_rfl) (by kernel_rfl) (by kernel_rfl) hf
  clear hA0 hval0
  refine (walk a0 a1 a2 len2 cap2 z2 W w0 w1 l2 w2).mono fun e W' ⟨he, bel⟩ => ?_
  subst he
  exact ⟨_, rfl, _, _, _, [], _, [], hW', trodAll_mk1 (shut_bool Try.underlying4 _), (trodAll_cons_mk (Below.trod laidOut (by kernel_rfl) (of_decide_eq_true (by kernel_rfl)) k0 bel lt0) (trodAll_cons_mk (Below.trod laidOut (by kernel_rfl) (of_decide_eq_true (by kernel_rfl)) k1 bel lt1) (trodAll_cons_mk (Below.trod laidOut (by kernel_rfl) (of_decide_eq_true (by kernel_rfl)) k2 bel lt2) trodAll_mk0))), rfl, bel.frame _, fun h => by cases h⟩

theorem over : Rows.discPlaysRow.holds Try.pinned (OpenSpec.ofChange Rows.discPlaysSpec) :=
  OpenClaim.holds_of_wide 4 Try.f4 rfl rfl rfl rfl rfl rfl rfl ⟨rfl, rfl, rfl, rfl, rfl⟩ rfl rfl rfl rfl rfl (by kernel_rfl) Try.func4 (by kernel_rfl)
    (of_decide_eq_true (by kernel_rfl)) (by unfold Func.isWrapper; first | (rw [if_pos (by decide +kernel)]; kernel_rfl) | (rw [if_neg (by decide +kernel)]; exact ⟨rfl, rfl⟩))
    (fun os started H enc _ => lifted os started H enc)
theorem proved : Rows.DiscPlaysSaid := over
#print axioms proved
end Go.Proofs.Ytmibmblgaofikaa.discPlays
namespace Go.Proofs.Ytmibmblgaofikaa
/-- DiscPlays, as given. -/
theorem discPlays_holds : Rows.DiscPlaysSaid := discPlays.proved
end Go.Proofs.Ytmibmblgaofikaa
