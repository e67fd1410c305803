/-
  What package disc's clocks answer: New, Read, Issue, See, High, Offset.
-/
import Derived.Test.YtmibmblgaofikaaRefSample
import Derived.Test.YtmibmblgaofikaaActsOpen
import Derived.Lib.MinMax
import Derived.Deep.QuietTactic
import Derived.BigQuiet
import Derived.BigRegion
namespace Go.Proofs.Ytmibmblgaofikaa
open Go.RowKit
set_option linter.unusedVariables false

/-- A clock of the program's in memory: it lies just as the document's own. -/
abbrev CkD := @CkR
/-- What a clock of the program's leaves. -/
abbrev WentD := @Went
theorem Went.drew {w u : World} {b : Nat} {node high off : Int} (h : Went w u b node high off) : Went w u.drew b node high off :=
  ⟨⟨h.ck.c0, h.ck.c1, h.ck.c2, h.ck.free⟩, ⟨h.grown.os, h.grown.tape, h.grown.output, h.grown.size, h.grown.block⟩⟩
theorem held_min (v lo hi : Int) (h : lo ≤ hi) : min (max v lo) hi = hold v lo hi := by
  unfold hold
  (repeat' split) <;> omega
theorem dheld_any (v lo hi : Int) (w : World) (h : lo ≤ hi) :
    Calls Try.prog 24 #[.int .i64 v, .int .i64 lo, .int .i64 hi] w fun e w' => e = .returned (.int .i64 (hold v lo hi)) ∧ w' = w := by
  rw [← held_min v lo hi h]
  go_enter Try.func24, Try.ntmps24
  go_wp2
  go_ret
  exact ⟨rfl, rfl⟩
theorem dhigh_any (b : Nat) (node high off : Int) (w : World) (h : CkD w b node high off) :
    Calls Try.prog 20 #[.pointer (some ⟨b, 0, none⟩)] w fun e w' => e = .returned (.int .i64 high) ∧ Below w.heap.size w w' := by
  have c1 := h.c1
  go_enter Try.func20, Try.ntmps20
  go_wp2
  go_ret
  exact ⟨rfl, Below.refl _ _⟩
theorem doffset_any (b : Nat) (node high off : Int) (w : World) (h : CkD w b node high off) :
    Calls Try.prog 15 #[.pointer (some ⟨b, 0, none⟩)] w fun e w' => e = .returned (.int .i64 off) ∧ Below w.heap.size w w' := by
  have c2 := h.c2
  go_enter Try.func15, Try.ntmps15
  go_wp2
  go_ret
  exact ⟨rfl, Below.refl _ _⟩
theorem dnew_bad (node high : Int) (w : World) (hn : 0 ≤ node ∧ node ≤ 255) (h : high < -1 ∨ 36028797018963967 < high) :
    Calls Try.prog 10 #[.int .u8 node, .int .i64 high] w fun e w' => e = .returned (.tuple #[.pointer none, .int .i64 1]) ∧ Below w.heap.size w w' := by
  by_cases h1 : high < -1
  · have b1 : decide (high < -1) = true := decide_eq_true h1
    go_enter Try.func10, Try.ntmps10
    go_wp2
    go_returns
    exact ⟨rfl, Below.refl _ _⟩
  · have b1 : decide (high < -1) = false := decide_eq_false h1
    have h2 : 36028797018963967 < high := by omega
    have b2 : decide (36028797018963967 < high) = true := decide_eq_true h2
    go_enter Try.func10, Try.ntmps10
    go_wp2
    go_returns
    exact ⟨rfl, Below.refl _ _⟩
theorem ck_made (w : World) (T : TypeId) (node high off : Int) : CkD (w.alloc (.cells #[.int .u8 node, .int .i64 high, .int .i64 off] T)) w.heap.size node high off :=
  ⟨by rw [World.cell?_alloc_new]; rfl, by rw [World.cell?_alloc_new]; rfl, by rw [World.cell?_alloc_new]; rfl, fun j => World.frozen?_alloc_new _ _ _ _⟩
theorem dnew_ok (node high : Int) (w : World) (hn : 0 ≤ node ∧ node ≤ 255) (h1 : -1 ≤ high) (h2 : high ≤ 36028797018963967) :
    Calls Try.prog 10 #[.int .u8 node, .int .i64 high] w fun e w' => ∃ b, e = .returned (.tuple #[.pointer (some ⟨b, 0, none⟩), .int .i64 0]) ∧ w.heap.size ≤ b ∧ CkD w' b node high 0 ∧ Below w.heap.size w w' := by
  have b1 : decide (high < -1) = false := decide_eq_false (by omega)
  have b2 : decide (36028797018963967 < high) = false := decide_eq_false (by omega)
  go_enter Try.func10, Try.ntmps10
  go_wp2
  go_returns
  exact ⟨_, rfl, Nat.le_refl _, ck_made _ _ _ _ _, (Below.refl _ _).alloc (Nat.le_refl _) _⟩
theorem read_max (off high raw : Int) (o1 : -1099511627776 ≤ off) (o2 : off ≤ 1099511627776) : max (hold (hold raw (-1099511627776) 36029896530591743 + off) 0 36028797018963967) high = readN off high raw := by
  unfold readN rawN hold
  (repeat' split) <;> omega
theorem below_drews (w : World) (n : Nat) : Below w.heap.size w (w.drewN n) := ⟨rfl, rfl, rfl, Nat.le_refl _, fun _ _ => rfl⟩
theorem dread_q (b : Nat) (node high off raw : Int) (w : World) (h : CkD w b node high off) (o1 : -1099511627776 ≤ off) (o2 : off ≤ 1099511627776) (g1 : -1 ≤ high) (g2 : high ≤ 36028797018963967) (r1 : -9223372036854775808 ≤ raw) (r2 : raw ≤ 9223372036854775807) :
    Calls Try.prog 12 #[.pointer (some ⟨b, 0, none⟩), .int .i64 raw] w fun e w' => e = .returned (.int .i64 (readN off high raw)) ∧ ∃ n, w' = w.drewN n := by
  obtain ⟨V, hV⟩ : ∃ V, V = hold raw (-1099511627776) 36029896530591743 := ⟨_, rfl⟩
  obtain ⟨X, hX⟩ : ∃ X, X = hold (V + off) 0 36028797018963967 := ⟨_, rfl⟩
  have hVr := hold_range (v := raw) (lo := -1099511627776) (hi := 36029896530591743) (by omega)
  rw [← hV] at hVr
  have C1 : Hid (∀ u, Calls Try.prog 24 #[.int .i64 raw, .int .i64 (-1099511627776), .int .i64 36029896530591743] u fun e w' => e = .returned (.int .i64 V) ∧ w' = u) := fun u => by rw [hV]; exact dheld_any _ _ _ u (by omega)
  have C2 : Hid (∀ u, Calls Try.prog 24 #[.int .i64 (V + off), .int .i64 0, .int .i64 36028797018963967] u fun e w' => e = .returned (.int .i64 X) ∧ w' = u) := fun u => by rw [hX]; exact dheld_any _ _ _ u (by omega)
  have HR : Hid (max X high = readN off high raw) := by show _ = _; rw [hX, hV]; exact read_max off high raw o1 o2
  have c1 := h.c1
  have c2 := h.c2
  have HB : Hid (CkD w b node high off) := h
  clear hV hX h
  rw [← HR.out]
  clear HR
  go_enter Try.func12, Try.ntmps12
  go_wp2_with (go_at_call 24; refine (C1.out _).mono ?_; rintro e v1 ⟨rfl, hw1⟩; obtain rfl := hw1.symm; clear hw1)
  go_quiet ((go_at_call 24; exact Calls.quiet_of_same (C2.out _)))
  go_wp2
  go_ret
  exact ⟨rfl, _, rfl⟩
theorem dread_any (b : Nat) (node high off raw : Int) (w : World) (h : CkD w b node high off) (o1 : -1099511627776 ≤ off) (o2 : off ≤ 1099511627776) (g1 : -1 ≤ high) (g2 : high ≤ 36028797018963967) (r1 : -9223372036854775808 ≤ raw) (r2 : raw ≤ 9223372036854775807) :
    Calls Try.prog 12 #[.pointer (some ⟨b, 0, none⟩), .int .i64 raw] w fun e w' => e = .returned (.int .i64 (readN off high raw)) ∧ Below w.heap.size w w' :=
  (dread_q b node high off raw w h o1 o2 g1 g2 r1 r2).mono (by rintro e w' ⟨rfl, n, rfl⟩; exact ⟨rfl, below_drews _ _⟩)
theorem dissue_spent (b : Nat) (node off raw : Int) (w : World) (h : CkD w b node 36028797018963967 off) (r1 : -9223372036854775808 ≤ raw) (r2 : raw ≤ 9223372036854775807) :
    Calls Try.prog 14 #[.pointer (some ⟨b, 0, none⟩), .int .i64 raw] w fun e w' => e = .returned (.tuple #[.agg #[.int .i64 0, .int .u8 0], .int .i64 12]) ∧ Below w.heap.size w w' := by
  have c1 := (OutCk.made h 32).ck.c1
  clear h
  go_enter Try.func14, Try.ntmps14
  go_wp2
  go_returns
  exact ⟨rfl, (Below.refl _ _).alloc (Nat.le_refl _) _⟩
theorem issue_max (off high raw : Int) : max (readN off high raw) (high + 1) = issueN off high raw := by
  unfold issueN
  split <;> omega
set_option maxHeartbeats 1000000 in
theorem dissue_any (b : Nat) (node high off raw : Int) (w : World) (h : CkD w b node high off) (o1 : -1099511627776 ≤ off) (o2 : off ≤ 1099511627776) (g1 : -1 ≤ high) (g2 : high < 36028797018963967) (r1 : -9223372036854775808 ≤ raw) (r2 : raw ≤ 9223372036854775807) :
    Calls Try.prog 14 #[.pointer (some ⟨b, 0, none⟩), .int .i64 raw] w fun e w' => e = .returned (.tuple #[.agg #[.int .i64 (issueN off high raw), .int .u8 node], .int .i64 0]) ∧ WentD w w' b node (issueN off high raw) off := by
  obtain ⟨V, hV⟩ : ∃ V, V = w.alloc (.cells #[.int .i64 0, .int .u8 0] 32) := ⟨_, rfl⟩
  have M0 : Hid (OutCk w V b node high off) := by rw [hV]; exact OutCk.made h 32
  have G0 : Hid (∀ u, Below V.heap.size V u → OutCk w u b node high off) := fun u hb => by
    have hlt : w.heap.size < V.heap.size := by rw [hV]; simp
    exact ⟨M0.out.ck.step hb, (hb.cell (p := ⟨w.heap.size, 0, none⟩) hlt).trans M0.out.c0, (hb.cell (p := ⟨w.heap.size, 1, none⟩) hlt).trans M0.out.c1, fun j => (World.frozen?_of_block (a := ⟨w.heap.size, j, none⟩) (hb.block _ hlt)).trans (M0.out.free j), M0.out.ne⟩
  have HG : Hid (∀ u, Below V.heap.size V u → w.grownBy u (some b)) := fun u hb => by
    have h1 : Below w.heap.size w V := by rw [hV]; exact (Below.refl _ _).alloc (Nat.le_refl _) _
    exact grown_of_below (h1.trans (hb.mono h1.size)) _
  obtain ⟨X, hX⟩ : ∃ X, X = readN off high raw := ⟨_, rfl⟩
  have CR : Hid (∀ u, Below V.heap.size V u → Calls Try.prog 12 #[.pointer (some ⟨b, 0, none⟩), .int .i64 raw] u fun e w' => e = .returned (.int .i64 X) ∧ Below V.heap.size V w') := fun u hb => by
    rw [hX]
    exact (dread_any b node high off raw u (G0.out u hb).ck o1 o2 g1 (by omega) r1 r2).mono (by rintro e u' ⟨rfl, h'⟩; exact ⟨rfl, hb.trans (h'.mono hb.size)⟩)
  have HI : Hid (max X (high + 1) = issueN off high raw) := by show _ = _; rw [hX]; exact issue_max off high raw
  obtain ⟨I, hI⟩ : ∃ I, I = issueN off high raw := ⟨_, rfl⟩
  have HI2 : Hid (max X (high + 1) = I) := HI.out.trans hI.symm
  rw [← hI]
  have c1a : (w.alloc (.cells #[.int .i64 0, .int .u8 0] 32)).cell? ⟨b, 1, none⟩ = some (.int .i64 high) := by rw [← hV]; exact M0.out.ck.c1
  have hmx : (high == 36028797018963967) = false := by simp; omega
  clear hX hI HI h
  go_enter Try.func14, Try.ntmps14
  go_wp2
  rw [← hV] at c1a ⊢
  have f1 := M0.out.ck.free 1
  clear hV
  go_region_with (go_at_call 12; refine (CR.out _ (by first | exact Below.refl _ _ | exact (Below.refl _ _).drew)).mono ?_; rintro e v1 ⟨rfl, hb1⟩; have B1 : Hid (Below V.heap.size V v1) := hb1; have k0 := (G0.out v1 hb1).ck.c0; have k1 := (G0.out v1 hb1).ck.c1; have k2 := (G0.out v1 hb1).ck.free 1; have z0 := (G0.out v1 hb1).c0; have z1 := (G0.out v1 hb1).c1; clear hb1)
  all_goals
    have e1 : IntKind.i64.wrap (high + 1) = high + 1 := by rw [IntKind.wrap_i64]; omega
    rw [e1, HI2.out]
    obtain ⟨V2, hV2⟩ : ∃ V2, V2 = v1.setCell ⟨b, 1, none⟩ (.int .i64 I) := ⟨_, rfl⟩
    have MV : Hid (OutCk w V2 b node I off) := by rw [hV2]; exact (G0.out v1 B1.out).high I
    have GV : Hid (w.grownBy V2 (some b)) := by rw [hV2]; exact (HG.out v1 B1.out).trans (grown_set _ b 1 _)
    rw [← hV2]
    clear hV2 k0 k1 k2 z0 z1 c1a f1 e1
    have k0 := MV.out.ck.c0
    have k1 := MV.out.ck.c1
    have z0 := MV.out.c0
    have z1 := MV.out.c1
    have y0 := MV.out.free 0
    have y1 := MV.out.free 1
    go_wp2
    go_region
    go_wp2
    obtain ⟨s1, s2⟩ := pair_set z0 z1
    (try simp only [Exit.inBlock, Exit.then])
    refine bodyPost_ret (v := .tuple #[.agg #[.int .i64 I, .int .u8 node], .int .i64 0]) (by simp [results, Try.results14, go_sem, s1, s2]) rfl ?_
    exact ⟨rfl, (went_of MV.out GV.out).drew⟩
theorem dgood_any (t n : Int) (w : World) :
    Calls Try.prog 25 #[.agg #[.int .i64 t, .int .u8 n]] w fun e w' => e = .returned (.bool (decide (okT t))) ∧ Below w.heap.size w w' := by
  have HB : Hid (Below w.heap.size w (w.alloc (.cells #[.int .i64 t, .int .u8 n] 32))) := (Below.refl _ _).alloc (Nat.le_refl _) _
  by_cases h0 : 0 ≤ t
  · have b0 : decide (0 ≤ t) = true := decide_eq_true h0
    by_cases h1 : t ≤ 36028797018963967
    · have b1 : decide (t ≤ 36028797018963967) = true := decide_eq_true h1
      rw [decide_eq_true (show okT t from ⟨h0, h1⟩)]
      go_enter Try.func25, Try.ntmps25
      go_wp2
      go_ret
      exact ⟨rfl, HB.out⟩
    · have b1 : decide (t ≤ 36028797018963967) = false := decide_eq_false h1
      rw [decide_eq_false (show ¬ okT t from fun h => h1 h.2)]
      go_enter Try.func25, Try.ntmps25
      go_wp2
      go_ret
      exact ⟨rfl, HB.out⟩
  · have b0 : decide (0 ≤ t) = false := decide_eq_false h0
    rw [decide_eq_false (show ¬ okT t from fun h => h0 h.1)]
    go_enter Try.func25, Try.ntmps25
    go_wp2
    go_ret
    exact ⟨rfl, HB.out⟩
end Go.Proofs.Ytmibmblgaofikaa
