/-
  LeapTexts: a count's text has its day's date, and rises with it, second by second, by every table (of a text of at most 2000 bytes, else the statement asks nothing), for every day and second; conditions: the library's tables and its two errors hold what the program's own text lays (the card ties them, over the pruned copy).
-/
import Derived.Test.YthkafbeojeedbaaDoorRows
import Derived.Test.YthkafbeojeedbaaDoorLeapAwake
import Derived.Test.YthkafbeojeedbaaDoorLeapLex
import Derived.Test.YthkafbeojeedbaaDoorRowBase
import Derived.Test.YthkafbeojeedbaaDoorCards
import Derived.Test.YthkafbeojeedbaaDoorTie
import Derived.Test.YthkafbeojeedbaaDoorCivilLaid
import Derived.Test.YthkafbeojeedbaaDoorLeapLaid
import Derived.WalkKit
import Derived.ProofKit
import Derived.OpenShut
import Derived.ShutString
import Derived.ChangeOld
import Derived.Below
import Derived.Carry
import Derived.Deep.RegionHeld3
import Derived.SevenTiedAt
import Derived.SizedLaws
import Derived.JoinedAt
namespace Go.Proofs.YthkafbeojeedbaaDoor.leapTexts
open Go.ChangeShapes Go.WideShapes Go.ChangeAt Go.RowKit
open Go.ChangeMaps (open_string shut_string)
set_option linter.unusedVariables false

theorem own : ownKnob Tryd.prog.godebug = none := by kernel_rfl
theorem laidOut : laidOutB Tryd.prog = true := by kernel_rfl
/-- A slice of integers that came in: nil, or a row of 'cap' cells, of which the first 'len' are its elements. -/
def IsRow (k : IntKind) (w : World) (a : Option Addr) (len cap : Nat) (zs : List Int) : Prop :=
  (a = none ∧ len = 0 ∧ cap = 0 ∧ zs = []) ∨
  ∃ x, a = some x ∧ len ≤ cap ∧ cap ≤ maxLen ∧ zs.length = cap ∧ (∀ i, i < zs.length → w.cell? (x.add i) = some (.int k (zs.getD i 0))) ∧ ∀ n ∈ zs, (Lit.int k n).wf = true

set_option maxRecDepth 100000 in
set_option maxHeartbeats 4000000 in
theorem walk (a0 : ByteArray) (a1 : Int) (a2 : Int) (w : World) (w0 : a0.size ≤ maxLen) (w1 : (Lit.int .i64 a1).wf = true) (w2 : (Lit.int .i64 a2).wf = true) (hR : Ready w) (hE : LE w) :
    Calls Tryd.prog 7 #[.string a0, .int .i64 a1, .int .i64 a2] w fun e w' => e = .returned (.bool true) ∧ Below w.heap.size w w' := by
  have by1 := bounds_i64 w1
  have by2 := bounds_i64 w2
  have AW : Hid (Calls Tryd.prog 9 #[] w fun e w' => e = .returned (.bool true) ∧ Below w.heap.size w w') := awake_any w hR hE
  obtain ⟨xs, hxs, hb, hl⟩ := str_bytes a0
  clear w0 w1 w2
  by_cases r1 : 2000 < a0.size
  · have r1' : (2000 : Int) < (a0.size : Int) := by omega
    clear hxs hb hl hR hE
    go_enter Tryd.func7, Tryd.ntmps7
    go_wp2_with (go_at_call 9; refine AW.out.mono ?_; rintro e v1 ⟨rfl, hb1⟩; have B1 : Hid (Below w.heap.size w v1) := hb1; clear hb1)
    go_ret
    exact ⟨rfl, B1.out⟩
  have r1' : ¬ (2000 : Int) < (a0.size : Int) := by omega
  have RR : Hid (Ready w) := hR
  rcases parse_ways a0 xs hxs hb (by omega) w hR hE with ⟨k, hk, c⟩ | ⟨tb, hg, _, c⟩
  · have C1 : Hid (∀ v, Below w.heap.size w v → Calls Tryd.prog 10 #[.string a0] v fun e w' => e = .returned (.tuple #[.pointer none, .int .i64 k]) ∧ Below v.heap.size v w') := c
    have hk0 : ¬ k = 0 := by omega
    clear c hk hxs hb hl hR hE
    go_enter Tryd.func7, Tryd.ntmps7
    go_wp2_with (first | (go_at_call 10; refine (C1.out _ B1.out).mono ?_; rintro e v2 ⟨rfl, hb2⟩; have B2 : Hid (Below w.heap.size w v2) := B1.out.trans (hb2.mono B1.out.size); clear hb2) | (go_at_call 9; refine AW.out.mono ?_; rintro e v1 ⟨rfl, hb1⟩; have B1 : Hid (Below w.heap.size w v1) := hb1; clear hb1))
    go_ret
    exact ⟨rfl, B2.out⟩
  have C1 : Hid (∀ v, Below w.heap.size w v → Calls Tryd.prog 10 #[.string a0] v fun e w' => (∃ p, e = .returned (.tuple #[.pointer (some p), .int .i64 0]) ∧ TB w' p tb xs) ∧ Below v.heap.size v w') := c
  clear c hxs hb hl hR hE
  rcases tai_ways tb xs hg a1 a2 by1.1 by1.2 by2.1 by2.2 with ⟨A, hat, c⟩ | ⟨k, hk, _, _, c⟩
  case inr =>
    have C2 : Hid (∀ p u, TB u p tb xs → Calls Tryd.prog 12 #[.pointer (some p), .int .i64 a1, .int .i64 a2] u fun e w' => e = .returned (.tuple #[.int .i64 0, .int .i64 k]) ∧ Below u.heap.size u w') := c
    have hk0 : ¬ k = 0 := by omega
    clear c hk
    go_enter Tryd.func7, Tryd.ntmps7
    go_wp2_with (first | (go_at_call 12; refine (C2.out _ _ K2.out).mono ?_; rintro e v3 ⟨rfl, hb3⟩; have B3 : Hid (Below w.heap.size w v3) := B2.out.trans (hb3.mono B2.out.size); have K3 : Hid (TB v3 p tb xs) := K2.out.step hb3 (Nat.le_refl _); clear hb3) | (go_at_call 10; refine (C1.out _ B1.out).mono ?_; rintro e v2 ⟨⟨p, rfl, ht2⟩, hb2⟩; have B2 : Hid (Below w.heap.size w v2) := B1.out.trans (hb2.mono B1.out.size); have K2 : Hid (TB v2 p tb xs) := ht2; clear hb2 ht2) | (go_at_call 9; refine AW.out.mono ?_; rintro e v1 ⟨rfl, hb1⟩; have B1 : Hid (Below w.heap.size w v1) := hb1; clear hb1))
    go_ret
    exact ⟨rfl, B3.out⟩
  case inl =>
    have C2 : Hid (∀ p u, TB u p tb xs → Calls Tryd.prog 12 #[.pointer (some p), .int .i64 a1, .int .i64 a2] u fun e w' => e = .returned (.tuple #[.int .i64 A, .int .i64 0]) ∧ Below u.heap.size u w') := c
    have hAr := at_range hg hat
    have hkn := hat.known
    obtain ⟨y, m, d, hgd, hday⟩ := day_ex hkn.1 hkn.2.1
    have hm := hgd.month; have hd := hgd.day
    have hsr : 0 ≤ a2 ∧ a2 ≤ 86400 := ⟨hat.lo, by have := hat.hi; have := lenT_range hg hkn; omega⟩
    have CO : Hid (∀ u, Calls Tryd.prog 16 #[.int .i64 a1] u fun e w' => e = .returned (.tuple #[.agg #[.int .i64 y, .int .i64 m, .int .i64 d], .int .i64 0]) ∧ Below u.heap.size u w') := fun u => (of_in a1 u hkn.1 hkn.2.1).mono (by
      rintro e w' ⟨y', m', d', rfl, hg', hd', hb⟩
      obtain ⟨rfl, rfl, rfl⟩ := day_inj hg' hgd (hd'.trans hday.symm)
      exact ⟨rfl, hb⟩)
    obtain ⟨X, hX⟩ : ∃ X, X = strOfNums (ckt y m d a2) := ⟨_, rfl⟩
    obtain ⟨T, hT⟩ : ∃ T, T = strOfNums (txt y m d) := ⟨_, rfl⟩
    have CK1 : Hid (∀ p u, Ready u → TB u p tb xs → Calls Tryd.prog 15 #[.pointer (some p), .int .i64 A] u fun e w' => e = .returned (.string X) ∧ Below u.heap.size u w') := fun p u r h => (lclock_any p tb xs A u r h hg (by omega) (by omega)).mono (by rintro e w' ⟨⟨h1, _⟩, hb⟩; exact ⟨by rw [hX]; exact h1 a1 a2 y m d hat hgd hday, hb⟩)
    have CT : Hid (∀ u, Ready u → Calls Tryd.prog 17 #[.agg #[.int .i64 y, .int .i64 m, .int .i64 d]] u fun e w' => e = .returned (.string T) ∧ Below u.heap.size u w') := fun u r => by
      have h := text_any y m d u r (by have := hgd.1; omega) (by have := hgd.2.1; omega) (by omega) (by omega) (by omega) (by omega)
      rw [if_pos hgd, ← hT] at h
      exact h
    obtain ⟨Y, CK2, HY⟩ : ∃ Y : ByteArray, Hid (∀ p u, Ready u → TB u p tb xs → Calls Tryd.prog 15 #[.pointer (some p), .int .i64 (A + 1)] u fun e w' => e = .returned (.string Y) ∧ Below u.heap.size u w') ∧ Hid (Y = ⟨#[]⟩ ∨ (0 ≤ y → Y.size = X.size ∧ Op.bytesLess X.toList Y.toList = true) ∧ Y.toList.isEmpty = false) := by
      by_cases hx : ∃ day sec, At tb (A + 1) day sec
      · obtain ⟨d2, s2, ha2⟩ := hx
        obtain ⟨y2, m2, e2, hg2, hday2⟩ := day_ex ha2.known.1 ha2.known.2.1
        have hs2 : 0 ≤ s2 ∧ s2 ≤ 86400 := ⟨ha2.lo, by have := ha2.hi; have := lenT_range hg ha2.known; omega⟩
        have hord := (at_lt hg hat ha2).1 (by omega)
        refine ⟨strOfNums (ckt y2 m2 e2 s2), fun p u r h => (lclock_any p tb xs (A + 1) u r h hg (by omega) (by omega)).mono (by rintro e w' ⟨⟨h1, _⟩, hb⟩; exact ⟨h1 d2 s2 y2 m2 e2 ha2 hg2 hday2, hb⟩), .inr ⟨fun hy => ?_, ?_⟩⟩
        · have hy2 : 0 ≤ y2 := by
            rcases hord with h | h
            · rw [← hday, ← hday2] at h
              have := (day_lt hgd hg2).1 h
              unfold Ahead at this
              omega
            · obtain ⟨h, _⟩ := h
              rw [← hday, ← hday2] at h
              obtain ⟨rfl, _, _⟩ := day_inj hgd hg2 h
              exact hy
          have t1 : (txt y m d).length = 10 := by unfold txt; rw [if_neg (by omega)]; exact body_len y m d
          have t2 : (txt y2 m2 e2).length = 10 := by unfold txt; rw [if_neg (by omega)]; exact body_len y2 m2 e2
          refine ⟨by rw [hX, strOfNums_size, strOfNums_size, ckt_len, ckt_len, t1, t2], ?_⟩
          rw [hX, less_lex _ _ (ckt_by hgd) (ckt_by hg2)]
          exact ckt_lex hgd hg2 hy hy2 hsr.1 hsr.2 hs2.1 hs2.2 (by rw [hday, hday2]; exact hord)
        · cases h : (strOfNums (ckt y2 m2 e2 s2)).toList with
          | cons z r => rfl
          | nil =>
            have h1 := str_inj (ckt_by hg2) (fun z hz => by simp at hz) (h.trans (by rw [ByteArray.toList_eq]; rfl : ([] : List UInt8) = (strOfNums []).toList))
            have h2 := ckt_len y2 m2 e2 s2
            rw [h1] at h2
            simp at h2
      · exact ⟨⟨#[]⟩, fun p u r h => (lclock_any p tb xs (A + 1) u r h hg (by omega) (by omega)).mono (by rintro e w' ⟨⟨_, h1⟩, hb⟩; exact ⟨h1 (fun day sec h => hx ⟨day, sec, h⟩), hb⟩), .inl rfl⟩
    have hcat := ckt_at y m d a2
    have hclen := ckt_len y m d a2
    have hcb := ckt_by (s := a2) hgd
    have hcut : X.extract 0 (txt y m d).length = T := by
      rw [hX, hT, nums_cut]
      congr 1
      rw [List.drop_zero, Nat.sub_zero]
      unfold ckt
      rw [List.take_left' rfl]
    have hxsz : X.size = (txt y m d).length + 10 := by rw [hX, strOfNums_size, hclen]
    have htsz : T.size = (txt y m d).length := by rw [hT, strOfNums_size]
    have hx1 : ∀ h, ((X[(txt y m d).length]'h).toNat : Int) = 84 := by
      rw [hX]; intro h; rw [nums_at _ hcb _ h]; exact hcat.1
    have hx2 : ∀ h, ((X[(txt y m d).length + 9]'h).toNat : Int) = 90 := by
      rw [hX]; intro h; rw [nums_at _ hcb _ h]; exact hcat.2
    clear hcat hclen hcb c hat hkn hsr hX hT hg hday
    by_cases hy : y < 0
    · have hn : (txt y m d).length = 11 := by unfold txt; rw [if_pos hy]; simp [body_len]
      rw [hn] at hcut hxsz htsz hx1 hx2
      clear hn hgd
      go_enter Tryd.func7, Tryd.ntmps7
      go_wp2_with (first | (go_at_call 17; refine (CT.out _ (RR.out.on B6.out)).mono ?_; rintro e v7 ⟨rfl, hb7⟩; have B7 : Hid (Below w.heap.size w v7) := B6.out.trans (hb7.mono B6.out.size); have D7 : Hid (DateAt v7 v4.heap.size y m d) := D6.out.below hb7 (lt_of_cell D6.out.c0); have q3 := D7.out.c0; have q4 := D7.out.c1; have q5 := D7.out.c2; clear hb7) | (go_at_call 15; have hgo := K5.out; clear hgo; refine (CK2.out _ _ (RR.out.on B5.out) K5.out).mono ?_; rintro e v6 ⟨rfl, hb6⟩; have B6 : Hid (Below w.heap.size w v6) := B5.out.trans (hb6.mono B5.out.size); have K6 : Hid (TB v6 p tb xs) := K5.out.step hb6 (Nat.le_refl _); have D6 : Hid (DateAt v6 v4.heap.size y m d) := D5.out.below hb6 (lt_of_cell D5.out.c0); have q0 := D6.out.c0; have q1 := D6.out.c1; have q2 := D6.out.c2; clear hb6) | (go_at_call 15; refine (CK1.out _ _ (RR.out.on B4.out) K4.out).mono ?_; rintro e v5 ⟨rfl, hb5⟩; have B5 : Hid (Below w.heap.size w v5) := B4.out.trans (hb5.mono B4.out.size); have K5 : Hid (TB v5 p tb xs) := K4.out.step hb5 (Nat.le_refl _); have D5 : Hid (DateAt v5 v4.heap.size y m d) := D4.out.below hb5 (lt_of_cell D4.out.c0); clear hb5) | (go_at_call 16; refine (CO.out _).mono ?_; rintro e v4 ⟨rfl, hb4⟩; have B4 : Hid (Below w.heap.size w (v4.alloc (.cells #[.int .i64 y, .int .i64 m, .int .i64 d] 38))) := (B3.out.trans (hb4.mono B3.out.size)).alloc (Nat.le_trans B3.out.size hb4.size) _; have K4 : Hid (TB (v4.alloc (.cells #[.int .i64 y, .int .i64 m, .int .i64 d] 38)) p tb xs) := (K3.out.step hb4 (Nat.le_refl _)).step ((Below.refl _ _).alloc (Nat.le_refl _) _) (Nat.le_refl _); have D4 : Hid (DateAt (v4.alloc (.cells #[.int .i64 y, .int .i64 m, .int .i64 d] 38)) v4.heap.size y m d) := DateAt.made v4 38 y m d; clear hb4) | (go_at_call 12; refine (C2.out _ _ K2.out).mono ?_; rintro e v3 ⟨rfl, hb3⟩; have B3 : Hid (Below w.heap.size w v3) := B2.out.trans (hb3.mono B2.out.size); have K3 : Hid (TB v3 p tb xs) := K2.out.step hb3 (Nat.le_refl _); clear hb3) | (go_at_call 10; refine (C1.out _ B1.out).mono ?_; rintro e v2 ⟨⟨p, rfl, ht2⟩, hb2⟩; have B2 : Hid (Below w.heap.size w v2) := B1.out.trans (hb2.mono B1.out.size); have K2 : Hid (TB v2 p tb xs) := ht2; clear hb2 ht2) | (go_at_call 9; refine AW.out.mono ?_; rintro e v1 ⟨rfl, hb1⟩; have B1 : Hid (Below w.heap.size w v1) := hb1; clear hb1))
      obtain ⟨HKD⟩ : Nonempty (Hid (∀ u, Below v7.heap.size v7 u → DateAt u v4.heap.size y m d)) := ⟨fun u hb => D7.out.below hb (lt_of_cell D7.out.c0)⟩
      have KS : Hid (∀ u, Below v7.heap.size v7 u → u.cell? ⟨v4.heap.size, 0, none⟩ = some (.int .i64 y) ∧ u.cell? ⟨v4.heap.size, 1, none⟩ = some (.int .i64 m) ∧ u.cell? ⟨v4.heap.size, 2, none⟩ = some (.int .i64 d)) := fun u hb => ⟨(HKD.out u hb).c0, (HKD.out u hb).c1, (HKD.out u hb).c2⟩
      have QT : Hid (∀ u, Below v7.heap.size v7 u → Calls Tryd.prog 17 #[.agg #[.int .i64 y, .int .i64 m, .int .i64 d]] u fun e u' => e = .returned (.string T) ∧ Below v7.heap.size v7 u') := fun u hb => (CT.out u (RR.out.on (B7.out.trans (hb.mono B7.out.size)))).mono (by rintro e u' ⟨rfl, h'⟩; exact ⟨rfl, hb.trans (h'.mono hb.size)⟩)
      have hwa : IntKind.i64.wrap 21 = 21 := by rw [IntKind.wrap_i64]; omega
      have hwb : IntKind.i64.wrap 20 = 20 := by rw [IntKind.wrap_i64]; omega
      have b1 : ((X.size : Int) != 21) = false := by rw [hxsz]; rfl
      have b2 : (11 : Int) ≤ (X.size : Int) := by omega
      have b3 : (11 : Int) < (X.size : Int) := by omega
      have b4 : (20 : Int) < (X.size : Int) := by omega
      have b5 : 11 ≤ X.size := by omega
      have b6 : 11 < X.size := by omega
      have b7 : 20 < X.size := by omega
      have HYB : Hid (y < 0) := hy
      clear hxsz htsz by1 by2 r1 r1' hAr hm hd q0 q1 q2 hy
      go_region_held3 (fun u => u.cell? ⟨v4.heap.size, 0, none⟩ = some (.int .i64 y) ∧ u.cell? ⟨v4.heap.size, 1, none⟩ = some (.int .i64 m) ∧ u.cell? ⟨v4.heap.size, 2, none⟩ = some (.int .i64 d)) (first | exact KS.out _ (by assumption) | exact KS.out _ (Below.refl _ _).drew) (first | (go_at_call 17; refine (QT.out _ (by first | assumption | exact (Below.refl _ _).drew)).mono ?_; rintro e v8 ⟨rfl, hb8⟩))
      have B8 : Hid (Below w.heap.size w v8) := B7.out.trans (hb8.mono B7.out.size)
      have q8 := (KS.out v8 hb8).1
      clear hb8 b1 b2 b3 b4 b5 b6 b7 hwa hwb hx1 hx2 hcut q3 q4 q5
      rcases HY.out with hY | ⟨hY1, hY2⟩
      · subst hY
        go_wp2
        go_ret
        exact ⟨rfl, B8.out⟩
      · have hyb : decide (y < 0) = true := decide_eq_true HYB.out
        clear hY1
        go_wp2
        go_ret
        exact ⟨rfl, B8.out⟩
    · have hn : (txt y m d).length = 10 := by unfold txt; rw [if_neg hy]; exact body_len y m d
      rw [hn] at hcut hxsz htsz hx1 hx2
      clear hn hgd
      go_enter Tryd.func7, Tryd.ntmps7
      go_wp2_with (first | (go_at_call 17; refine (CT.out _ (RR.out.on B6.out)).mono ?_; rintro e v7 ⟨rfl, hb7⟩; have B7 : Hid (Below w.heap.size w v7) := B6.out.trans (hb7.mono B6.out.size); have D7 : Hid (DateAt v7 v4.heap.size y m d) := D6.out.below hb7 (lt_of_cell D6.out.c0); have q3 := D7.out.c0; have q4 := D7.out.c1; have q5 := D7.out.c2; clear hb7) | (go_at_call 15; have hgo := K5.out; clear hgo; refine (CK2.out _ _ (RR.out.on B5.out) K5.out).mono ?_; rintro e v6 ⟨rfl, hb6⟩; have B6 : Hid (Below w.heap.size w v6) := B5.out.trans (hb6.mono B5.out.size); have K6 : Hid (TB v6 p tb xs) := K5.out.step hb6 (Nat.le_refl _); have D6 : Hid (DateAt v6 v4.heap.size y m d) := D5.out.below hb6 (lt_of_cell D5.out.c0); have q0 := D6.out.c0; have q1 := D6.out.c1; have q2 := D6.out.c2; clear hb6) | (go_at_call 15; refine (CK1.out _ _ (RR.out.on B4.out) K4.out).mono ?_; rintro e v5 ⟨rfl, hb5⟩; have B5 : Hid (Below w.heap.size w v5) := B4.out.trans (hb5.mono B4.out.size); have K5 : Hid (TB v5 p tb xs) := K4.out.step hb5 (Nat.le_refl _); have D5 : Hid (DateAt v5 v4.heap.size y m d) := D4.out.below hb5 (lt_of_cell D4.out.c0); clear hb5) | (go_at_call 16; refine (CO.out _).mono ?_; rintro e v4 ⟨rfl, hb4⟩; have B4 : Hid (Below w.heap.size w (v4.alloc (.cells #[.int .i64 y, .int .i64 m, .int .i64 d] 38))) := (B3.out.trans (hb4.mono B3.out.size)).alloc (Nat.le_trans B3.out.size hb4.size) _; have K4 : Hid (TB (v4.alloc (.cells #[.int .i64 y, .int .i64 m, .int .i64 d] 38)) p tb xs) := (K3.out.step hb4 (Nat.le_refl _)).step ((Below.refl _ _).alloc (Nat.le_refl _) _) (Nat.le_refl _); have D4 : Hid (DateAt (v4.alloc (.cells #[.int .i64 y, .int .i64 m, .int .i64 d] 38)) v4.heap.size y m d) := DateAt.made v4 38 y m d; clear hb4) | (go_at_call 12; refine (C2.out _ _ K2.out).mono ?_; rintro e v3 ⟨rfl, hb3⟩; have B3 : Hid (Below w.heap.size w v3) := B2.out.trans (hb3.mono B2.out.size); have K3 : Hid (TB v3 p tb xs) := K2.out.step hb3 (Nat.le_refl _); clear hb3) | (go_at_call 10; refine (C1.out _ B1.out).mono ?_; rintro e v2 ⟨⟨p, rfl, ht2⟩, hb2⟩; have B2 : Hid (Below w.heap.size w v2) := B1.out.trans (hb2.mono B1.out.size); have K2 : Hid (TB v2 p tb xs) := ht2; clear hb2 ht2) | (go_at_call 9; refine AW.out.mono ?_; rintro e v1 ⟨rfl, hb1⟩; have B1 : Hid (Below w.heap.size w v1) := hb1; clear hb1))
      obtain ⟨HKD⟩ : Nonempty (Hid (∀ u, Below v7.heap.size v7 u → DateAt u v4.heap.size y m d)) := ⟨fun u hb => D7.out.below hb (lt_of_cell D7.out.c0)⟩
      have KS : Hid (∀ u, Below v7.heap.size v7 u → u.cell? ⟨v4.heap.size, 0, none⟩ = some (.int .i64 y) ∧ u.cell? ⟨v4.heap.size, 1, none⟩ = some (.int .i64 m) ∧ u.cell? ⟨v4.heap.size, 2, none⟩ = some (.int .i64 d)) := fun u hb => ⟨(HKD.out u hb).c0, (HKD.out u hb).c1, (HKD.out u hb).c2⟩
      have QT : Hid (∀ u, Below v7.heap.size v7 u → Calls Tryd.prog 17 #[.agg #[.int .i64 y, .int .i64 m, .int .i64 d]] u fun e u' => e = .returned (.string T) ∧ Below v7.heap.size v7 u') := fun u hb => (CT.out u (RR.out.on (B7.out.trans (hb.mono B7.out.size)))).mono (by rintro e u' ⟨rfl, h'⟩; exact ⟨rfl, hb.trans (h'.mono hb.size)⟩)
      have hwa : IntKind.i64.wrap 20 = 20 := by rw [IntKind.wrap_i64]; omega
      have hwb : IntKind.i64.wrap 19 = 19 := by rw [IntKind.wrap_i64]; omega
      have b1 : ((X.size : Int) != 20) = false := by rw [hxsz]; rfl
      have b2 : (10 : Int) ≤ (X.size : Int) := by omega
      have b3 : (10 : Int) < (X.size : Int) := by omega
      have b4 : (19 : Int) < (X.size : Int) := by omega
      have b5 : 10 ≤ X.size := by omega
      have b6 : 10 < X.size := by omega
      have b7 : 19 < X.size := by omega
      have HYB : Hid (0 ≤ y) := by show 0 ≤ y; omega
      clear hxsz htsz by1 by2 r1 r1' hAr hm hd q0 q1 q2 hy
      go_region_held3 (fun u => u.cell? ⟨v4.heap.size, 0, none⟩ = some (.int .i64 y) ∧ u.cell? ⟨v4.heap.size, 1, none⟩ = some (.int .i64 m) ∧ u.cell? ⟨v4.heap.size, 2, none⟩ = some (.int .i64 d)) (first | exact KS.out _ (by assumption) | exact KS.out _ (Below.refl _ _).drew) (first | (go_at_call 17; refine (QT.out _ (by first | assumption | exact (Below.refl _ _).drew)).mono ?_; rintro e v8 ⟨rfl, hb8⟩))
      have B8 : Hid (Below w.heap.size w v8) := B7.out.trans (hb8.mono B7.out.size)
      have q8 := (KS.out v8 hb8).1
      clear hb8 b1 b2 b3 b4 b5 b6 b7 hwa hwb hx1 hx2 hcut q3 q4 q5
      rcases HY.out with hY | ⟨hY1, hY2⟩
      · subst hY
        go_wp2
        go_ret
        exact ⟨rfl, B8.out⟩
      · have hyb : decide (y < 0) = false := decide_eq_false (by have := HYB.out; omega)
        obtain ⟨hY3, hY4⟩ := hY1 HYB.out
        clear hY1
        go_wp2
        go_ret
        exact ⟨rfl, B8.out⟩

set_option maxRecDepth 100000 in
theorem lifted (os : Os) (started : os.Started) (H : Type) (enc : TypeId × Value → H) :
    ReturnsInHanded {} Tryd.checked os 7 .any (fun w args => (Rows.leapTextsSpec.pre enc Tryd.prog Tryd.f7 Rows.leapTextsRow.domain false w args ∧ laidMet Tryd.prog laid5 w) ∧ sizedMet enc Tryd.prog Tryd.f7 (OpenSpec.ofChange Rows.leapTextsSpec) false w args)
      (Rows.leapTextsSpec.post enc Tryd.prog Tryd.f7 false true false false) := by
  refine returnsInHanded_of_change_and (C := Tryd.checked) (X := fun w _ => laidMet Tryd.prog laid5 w) (fun _ _ _ hh h => h.of_heap hh) own started (by kernel_rfl) Tryd.func7
    (ChangeSpec.witness_at (enc := enc) (C := Tryd.checked) (os := os) (X := fun w _ => laidMet Tryd.prog laid5 w) false (laidWorld5 os) #[.string ⟨#[]⟩, .int .i64 0, .int .i64 0] 8 rfl (by kernel_rfl) (by kernel_rfl) (by kernel_rfl) (by kernel_rfl) (by kernel_rfl) (laid5_met os _)) ?_
  intro W base args ds gs before hval0 hW _ _ hL _
  have hval : ∀ (j : Nat) t v, Tryd.f7.params[j]? = some t → args[j]? = some v → Value.okWide Tryd.prog W .any base t v := hval0
  have hW' := hW
  obtain ⟨p, q, hA0, hV, rfl, hfz, hnd⟩ := hW
  have hA : DataW.TrodAll enc Tryd.prog W 0 (fun _ => true) true Tryd.f7.params.toList args.toList ds p := hA0
  rw [Tryd.params7] at hA hval
  obtain ⟨v0, vs0, d0, ds0, p0, q0, hargs, rfl, rfl, h0, r0⟩ := trodAll_cons hA
  obtain ⟨v1, vs1, d1, ds1, p1, q1, rfl, rfl, rfl, h1, r1⟩ := trodAll_cons r0
  obtain ⟨v2, vs2, d2, ds2, p2, q2, rfl, rfl, rfl, h2, r2⟩ := trodAll_cons r1
  obtain ⟨rfl, rfl, rfl⟩ := trodAll_nil r2
  obtain rfl : args = #[v0, v1, v2] := by cases args; simp_all
  obtain ⟨rfl, rfl⟩ := trodVars_none hV
  have k0 := h0
  have lt0 : ∀ x ∈ p0, x.block < W.heap.size := by obtain ⟨m, hm⟩ := k0; exact DataW.trod_lt m _ _ _ hm
  obtain ⟨a0, rfl, rfl, rfl, w0⟩ := open_string Tryd.underlying9 (hval 0 9 v0 rfl rfl) h0
  have k1 := h1
  have lt1 : ∀ x ∈ p1, x.block < W.heap.size := by obtain ⟨m, hm⟩ := k1; exact DataW.trod_lt m _ _ _ hm
  obtain ⟨a1, rfl, rfl, rfl, w1⟩ := open_int Tryd.underlying2 (hval 1 2 v1 rfl rfl) h1
  have k2 := h2
  have lt2 : ∀ x ∈ p2, x.block < W.heap.size := by obtain ⟨m, hm⟩ := k2; exact DataW.trod_lt m _ _ _ hm
  obtain ⟨a2, rfl, rfl, rfl, w2⟩ := open_int Tryd.underlying3 (hval 2 3 v2 rfl rfl) h2
  clear hA0 hval0
  refine (walk a0 a1 a2 W w0 w1 w2 (ready_of hL) (le_of hL)).mono fun e W' ⟨he, bel⟩ => ?_
  subst he
  exact ⟨_, rfl, _, _, _, [], _, [], hW', trodAll_mk1 (shut_bool Tryd.underlying4 _), (trodAll_cons_mk (Below.trod laidOut (by kernel_rfl) (of_decide_eq_true (by kernel_rfl)) k0 bel lt0) (trodAll_cons_mk (Below.trod laidOut (by kernel_rfl) (of_decide_eq_true (by kernel_rfl)) k1 bel lt1) (trodAll_cons_mk (Below.trod laidOut (by kernel_rfl) (of_decide_eq_true (by kernel_rfl)) k2 bel lt2) trodAll_mk0))), rfl, bel.frame _, fun h => by cases h⟩

theorem over : Rows.leapTextsRow.holds Tryd.pinned (OpenSpec.ofChange Rows.leapTextsSpec) :=
  OpenClaim.holds_of_wide 7 Tryd.f7 rfl rfl rfl rfl rfl rfl rfl ⟨rfl, rfl, rfl, rfl, rfl⟩ rfl rfl rfl rfl rfl (by kernel_rfl) Tryd.func7 (by kernel_rfl)
    (of_decide_eq_true (by kernel_rfl)) (by unfold Func.isWrapper; first | (rw [if_pos (by decide +kernel)]; kernel_rfl) | (rw [if_neg (by decide +kernel)]; exact ⟨rfl, rfl⟩))
    (fun os started H enc _ => lifted os started H enc)
theorem carded : Rows.LeapTextsCardSaid :=
  Claim7.holds_tied_plain_at .later [] [.data, .data, .data, .sentinel, .sentinel] true (true, "72f713a098904629023c27e22fcd14849cabfc9045bb6cfdb3350a65775f249f") true
    over (fun _ h => by cases h) (by kernel_rfl) (fun _ h => by cases h) leapTexts_row_tie rfl ⟨rfl, rfl⟩ (by kernel_rfl) rfl
    (fun f fn hf hfn => by
      obtain rfl : f = 7 := Option.some.inj ((show Tryd.prog.funcNamed "hourglass/hourglasslaw5.LeapTexts" = some 7 by kernel_rfl).symm.trans hf) |>.symm
      obtain rfl : fn = Tryd.f7 := (Option.some.inj (Tryd.func7.symm.trans hfn)).symm
      exact ⟨by kernel_rfl, fun j t ht => by
        rw [Tryd.params7] at ht
        have hm : t ∈ [9, 2, 3] := by simpa using Array.mem_of_getElem? ht
        have hall : ([9, 2, 3].all fun u => !Tryd.prog.wantsStandIn u) = true := by kernel_rfl
        exact (show Tryd.prog.wantsStandIn t = false by simpa using List.all_eq_true.1 hall t hm)⟩)
    (by kernel_rfl)
#print axioms carded
end Go.Proofs.YthkafbeojeedbaaDoor.leapTexts
namespace Go.Proofs.YthkafbeojeedbaaDoor
/-- LeapTexts, as given. -/
theorem leapTexts_holds : Rows.LeapTextsCardSaid := leapTexts.carded
end Go.Proofs.YthkafbeojeedbaaDoor
