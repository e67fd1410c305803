/-
  What the document's own clocks (hourglassref6: held, Read, Issue, See of a Clock, Good) answer.
-/
import Derived.Test.YtmibmblgaofikaaCivilBase
import Derived.Test.YtmibmblgaofikaaDiscPlain
import Derived.Laws.AppendOwn
import Derived.Maps.AppendAt
import Derived.Deep.RegionHeld3
namespace Go.Proofs.Ytmibmblgaofikaa
open Go.RowKit
set_option linter.unusedVariables false

/-- A clock in memory: whose it is, the last time, the offset. -/
structure CkR (u : World) (b : Nat) (node high off : Int) : Prop where
  c0 : u.cell? ⟨b, 0, none⟩ = some (.int .u8 node)
  c1 : u.cell? ⟨b, 1, none⟩ = some (.int .i64 high)
  c2 : u.cell? ⟨b, 2, none⟩ = some (.int .i64 off)
  free : ∀ j, u.frozen? ⟨b, j, none⟩ = false
theorem CkR.lt {u : World} {b : Nat} {node high off : Int} (h : CkR u b node high off) : b < u.heap.size := by
  have h0 := h.c0
  rcases Nat.lt_or_ge b u.heap.size with h' | h'
  · exact h'
  · simp [World.cell?, Array.getElem?_eq_none h'] at h0
theorem CkR.kept {u u' : World} {b : Nat} {node high off : Int} {row : Option Nat} (h : CkR u b node high off) (hg : u.grownBy u' row) (hne : some b ≠ row) : CkR u' b node high off := by
  have hk := hg.block b h.lt hne
  exact ⟨(World.cell?_of_block (a := ⟨b, 0, none⟩) hk).trans h.c0, (World.cell?_of_block (a := ⟨b, 1, none⟩) hk).trans h.c1, (World.cell?_of_block (a := ⟨b, 2, none⟩) hk).trans h.c2, fun j => (World.frozen?_of_block (a := ⟨b, j, none⟩) hk).trans (h.free j)⟩
theorem grown_of_below {u u' : World} (h : Below u.heap.size u u') (row : Option Nat) : u.grownBy u' row := ⟨h.os, h.tape, h.output, h.size, fun k hk _ => h.block k hk⟩
theorem CkR.step {u u' : World} {b : Nat} {node high off : Int} (h : CkR u b node high off) (hb : Below u.heap.size u u') : CkR u' b node high off := h.kept (grown_of_below hb none) (by simp)
theorem CkR.high {u : World} {b : Nat} {node high off : Int} (h : CkR u b node high off) (x : Int) : CkR (u.setCell ⟨b, 1, none⟩ (.int .i64 x)) b node x off :=
  ⟨(World.cell?_setCell_other _ _ _ _ (by intro e; injection e with _ e2; omega)).trans h.c0, World.cell?_setCell_same _ _ _ h.c1, (World.cell?_setCell_other _ _ _ _ (by intro e; injection e with _ e2; omega)).trans h.c2, fun j => by rw [World.frozen?_setCell]; exact h.free j⟩
theorem CkR.offset {u : World} {b : Nat} {node high off : Int} (h : CkR u b node high off) (x : Int) : CkR (u.setCell ⟨b, 2, none⟩ (.int .i64 x)) b node high x :=
  ⟨(World.cell?_setCell_other _ _ _ _ (by intro e; injection e with _ e2; omega)).trans h.c0, (World.cell?_setCell_other _ _ _ _ (by intro e; injection e with _ e2; omega)).trans h.c1, World.cell?_setCell_same _ _ _ h.c2, fun j => by rw [World.frozen?_setCell]; exact h.free j⟩
theorem grown_set (u : World) (b j : Nat) (x : Value) : u.grownBy (u.setCell ⟨b, j, none⟩ x) (some b) :=
  ⟨rfl, rfl, rfl, by rw [World.size_setCell]; exact Nat.le_refl _, fun k _ hk => Below.heap_setCell _ ⟨b, j, none⟩ _ k (fun e => hk (by rw [e]))⟩
theorem rheld_any (v lo hi : Int) (w : World) (h : lo ≤ hi) :
    Calls Try.prog 26 #[.int .i64 v, .int .i64 lo, .int .i64 hi] w fun e w' => e = .returned (.int .i64 (hold v lo hi)) ∧ w' = w := by
  by_cases h1 : v < lo
  · have e : hold v lo hi = lo := if_pos h1
    rw [e]
    have b1 : decide (v < lo) = true := decide_eq_true h1
    go_enter Try.func26, Try.ntmps26
    go_wp2
    go_ret
    exact ⟨rfl, rfl⟩
  · have b1 : decide (v < lo) = false := decide_eq_false h1
    by_cases h2 : hi < v
    · have e : hold v lo hi = hi := by unfold hold; rw [if_neg h1, if_pos h2]
      rw [e]
      have b2 : decide (hi < v) = true := decide_eq_true h2
      go_enter Try.func26, Try.ntmps26
      go_wp2
      go_ret
      exact ⟨rfl, rfl⟩
    · have e : hold v lo hi = v := by unfold hold; rw [if_neg h1, if_neg h2]
      rw [e]
      have b2 : decide (hi < v) = false := decide_eq_false h2
      go_enter Try.func26, Try.ntmps26
      go_wp2
      go_ret
      exact ⟨rfl, rfl⟩
theorem rread_any (b : Nat) (node high off raw : Int) (w : World) (h : CkR w b node high off) (o1 : -1099511627776 ≤ off) (o2 : off ≤ 1099511627776) :
    Calls Try.prog 19 #[.pointer (some ⟨b, 0, none⟩), .int .i64 raw] w fun e w' => e = .returned (.int .i64 (readN off high raw)) ∧ w' = w := by
  obtain ⟨V, hV⟩ : ∃ V, V = hold raw (-1152921504606846976) 1152921504606846976 := ⟨_, rfl⟩
  obtain ⟨X, hX⟩ : ∃ X, X = hold (V + off) 0 36028797018963967 := ⟨_, rfl⟩
  have hVr := hold_range (v := raw) (lo := -1152921504606846976) (hi := 1152921504606846976) (by omega)
  rw [← hV] at hVr
  have hXr : X = rawN off raw := by rw [hX, hV]; exact raw_far o1 o2 (by omega)
  have C1 : Hid (∀ u, Calls Try.prog 26 #[.int .i64 raw, .int .i64 (-1152921504606846976), .int .i64 1152921504606846976] u fun e w' => e = .returned (.int .i64 V) ∧ w' = u) := fun u => by rw [hV]; exact rheld_any _ _ _ u (by omega)
  have C2 : Hid (∀ u, Calls Try.prog 26 #[.int .i64 (V + off), .int .i64 0, .int .i64 36028797018963967] u fun e w' => e = .returned (.int .i64 X) ∧ w' = u) := fun u => by rw [hX]; exact rheld_any _ _ _ u (by omega)
  have c1 := h.c1
  have c2 := h.c2
  have HRD : Hid (readN off high raw = if X < high then high else X) := by show _ = _; rw [hXr]; rfl
  obtain ⟨R, hR⟩ : ∃ R, R = readN off high raw := ⟨_, rfl⟩
  rw [← hR]
  have HR : Hid (R = if X < high then high else X) := hR.trans HRD.out
  clear hV hX hXr hR h HRD
  by_cases hlt : X < high
  · have b1 : decide (X < high) = true := decide_eq_true hlt
    have HF : Hid (R = high) := by have := HR.out; rw [if_pos hlt] at this; exact this
    clear HR
    go_enter Try.func19, Try.ntmps19
    go_wp2_with (first | (go_at_call 26; have hgo := M1.out; clear hgo; refine (C2.out _).mono ?_; rintro e v2 ⟨rfl, hw2⟩; obtain rfl := hw2.symm; clear hw2) | (go_at_call 26; refine (C1.out _).mono ?_; rintro e v1 ⟨rfl, hw1⟩; obtain rfl := hw1.symm; clear hw1; have M1 : Hid True := trivial))
    go_ret
    exact ⟨by rw [HF.out]; rfl, rfl⟩
  · have b1 : decide (X < high) = false := decide_eq_false hlt
    have HF : Hid (R = X) := by have := HR.out; rw [if_neg hlt] at this; exact this
    clear HR
    go_enter Try.func19, Try.ntmps19
    go_wp2_with (first | (go_at_call 26; have hgo := M1.out; clear hgo; refine (C2.out _).mono ?_; rintro e v2 ⟨rfl, hw2⟩; obtain rfl := hw2.symm; clear hw2) | (go_at_call 26; refine (C1.out _).mono ?_; rintro e v1 ⟨rfl, hw1⟩; obtain rfl := hw1.symm; clear hw1; have M1 : Hid True := trivial))
    go_ret
    exact ⟨by rw [HF.out]; rfl, rfl⟩
/-- A stamp's two cells that are to go out, and the clock beside them. -/
structure OutCk (w u : World) (b : Nat) (node high off : Int) : Prop where
  ck : CkR u b node high off
  c0 : u.cell? ⟨w.heap.size, 0, none⟩ = some (.int .i64 0)
  c1 : u.cell? ⟨w.heap.size, 1, none⟩ = some (.int .u8 0)
  free : ∀ j, u.frozen? ⟨w.heap.size, j, none⟩ = false
  ne : b ≠ w.heap.size
theorem OutCk.made {w : World} {b : Nat} {node high off : Int} (h : CkR w b node high off) (T : TypeId) : OutCk w (w.alloc (.cells #[.int .i64 0, .int .u8 0] T)) b node high off :=
  ⟨h.step ((Below.refl _ _).alloc (Nat.le_refl _) _), by rw [World.cell?_alloc_new]; rfl, by rw [World.cell?_alloc_new]; rfl, fun j => World.frozen?_alloc_new _ _ _ _, by have := h.lt; omega⟩
theorem OutCk.high {w u : World} {b : Nat} {node high off : Int} (h : OutCk w u b node high off) (x : Int) : OutCk w (u.setCell ⟨b, 1, none⟩ (.int .i64 x)) b node x off :=
  ⟨h.ck.high x, (World.cell?_setCell_other _ _ _ _ (by intro e; injection e with e1 _; exact h.ne e1)).trans h.c0, (World.cell?_setCell_other _ _ _ _ (by intro e; injection e with e1 _; exact h.ne e1)).trans h.c1, fun j => by rw [World.frozen?_setCell]; exact h.free j, h.ne⟩
theorem CkR.far {u : World} {b g j : Nat} {node high off : Int} (h : CkR u b node high off) (hne : b ≠ g) (x : Value) : CkR (u.setCell ⟨g, j, none⟩ x) b node high off :=
  h.kept (grown_set u g j x) (by simp; exact hne)
theorem pair_set {w : World} {g : Nat} {a b : Value} (h0 : w.cell? ⟨g, 0, none⟩ = some a) (h1 : w.cell? ⟨g, 1, none⟩ = some b) : (∀ x y, ((w.setCell ⟨g, 0, none⟩ x).setCell ⟨g, 1, none⟩ y).cell? ⟨g, 1, none⟩ = some y) ∧ (∀ x y, ((w.setCell ⟨g, 0, none⟩ x).setCell ⟨g, 1, none⟩ y).cell? ⟨g, 0, none⟩ = some x) :=
  ⟨fun x y => World.cell?_setCell_same _ _ _ ((World.cell?_setCell_other _ _ _ _ (by intro h'; injection h' with _ h2; omega)).trans h1), fun x y => (World.cell?_setCell_other _ _ _ _ (by intro h'; injection h' with _ h2; omega)).trans (World.cell?_setCell_same _ _ _ h0)⟩
/-- What a new stamp leaves: the clock goes on, what else was there stays. -/
structure Went (w w' : World) (b : Nat) (node high off : Int) : Prop where
  ck : CkR w' b node high off
  grown : w.grownBy w' (some b)
theorem went_of {w : World} {b : Nat} {node x off n : Int} {u : World} (h : OutCk w u b node x off) (hg : w.grownBy u (some b)) : Went w ((u.setCell ⟨w.heap.size, 0, none⟩ (.int .i64 x)).setCell ⟨w.heap.size, 1, none⟩ (.int .u8 n)) b node x off := by
  refine ⟨(h.ck.far h.ne _).far h.ne _, ?_⟩
  have e1 : ∀ (v : World) (j : Nat) (y : Value), w.grownBy v (some b) → w.grownBy (v.setCell ⟨w.heap.size, j, none⟩ y) (some b) := fun v j y hv =>
    ⟨hv.os, hv.tape, hv.output, by rw [World.size_setCell]; exact hv.size, fun k hk hne => by rw [Below.heap_setCell _ ⟨w.heap.size, j, none⟩ _ k (by show k ≠ w.heap.size; omega)]; exact hv.block k hk hne⟩
  exact e1 _ _ _ (e1 _ _ _ hg)
set_option maxHeartbeats 1000000 in
theorem rissue_any (b : Nat) (node high off raw : Int) (w : World) (h : CkR w b node high off) (o1 : -1099511627776 ≤ off) (o2 : off ≤ 1099511627776) (g1 : -1 ≤ high) (g2 : high < 36028797018963967) :
    Calls Try.prog 16 #[.pointer (some ⟨b, 0, none⟩), .int .i64 raw] w fun e w' => e = .returned (.tuple #[.agg #[.int .i64 (issueN off high raw), .int .u8 node], .int .i64 0]) ∧ Went w w' b node (issueN off high raw) off := by
  have M0 : Hid (OutCk w (w.alloc (.cells #[.int .i64 0, .int .u8 0] 32)) b node high off) := OutCk.made h 32
  have G0 : Hid (w.grownBy (w.alloc (.cells #[.int .i64 0, .int .u8 0] 32)) (some b)) := grown_of_below ((Below.refl _ _).alloc (Nat.le_refl _) _) _
  obtain ⟨X, hX⟩ : ∃ X, X = readN off high raw := ⟨_, rfl⟩
  have hXr := read_range (off := off) (raw := raw) g1 (by omega : high ≤ 36028797018963967)
  have CR : Hid (Calls Try.prog 19 #[.pointer (some ⟨b, 0, none⟩), .int .i64 raw] (w.alloc (.cells #[.int .i64 0, .int .u8 0] 32)) fun e w' => e = .returned (.int .i64 X) ∧ w' = w.alloc (.cells #[.int .i64 0, .int .u8 0] 32)) := by rw [hX]; exact rread_any b node high off raw _ M0.out.ck o1 o2
  rw [← hX] at hXr
  have HI : Hid (issueN off high raw = if X ≤ high then high + 1 else X) := by show _ = _; rw [hX]; rfl
  obtain ⟨I, hI⟩ : ∃ I, I = issueN off high raw := ⟨_, rfl⟩
  have HI2 : Hid (I = if X ≤ high then high + 1 else X) := hI.trans HI.out
  rw [← hI]
  have c0 := M0.out.ck.c0
  have c1 := M0.out.ck.c1
  have f1 := M0.out.ck.free 1
  have hmx : (high == 36028797018963967) = false := by simp; omega
  clear hX hI HI h
  by_cases hle : X ≤ high
  · have HF : Hid (I = (high + 1)) := by have := HI2.out; rw [if_pos hle] at this; exact this
    have bl : decide (X ≤ high) = true := decide_eq_true hle
    obtain ⟨V, hV⟩ : ∃ V, V = ((w.alloc (.cells #[.int .i64 0, .int .u8 0] 32)).setCell ⟨b, 1, none⟩ (.int .i64 (high + 1))) := ⟨_, rfl⟩
    have MV : Hid (OutCk w V b node (high + 1) off) := by rw [hV]; exact M0.out.high (high + 1)
    have GV : Hid (w.grownBy V (some b)) := by rw [hV]; exact G0.out.trans (grown_set _ b 1 _)
    have d0 : ((w.alloc (.cells #[.int .i64 0, .int .u8 0] 32)).setCell ⟨b, 1, none⟩ (.int .i64 (high + 1))).cell? ⟨b, 0, none⟩ = some (.int .u8 node) := by rw [← hV]; exact MV.out.ck.c0
    have z0 : ((w.alloc (.cells #[.int .i64 0, .int .u8 0] 32)).setCell ⟨b, 1, none⟩ (.int .i64 (high + 1))).cell? ⟨w.heap.size, 0, none⟩ = some (.int .i64 0) := by rw [← hV]; exact MV.out.c0
    have z1 : ((w.alloc (.cells #[.int .i64 0, .int .u8 0] 32)).setCell ⟨b, 1, none⟩ (.int .i64 (high + 1))).cell? ⟨w.heap.size, 1, none⟩ = some (.int .u8 0) := by rw [← hV]; exact MV.out.c1
    have y0 : ((w.alloc (.cells #[.int .i64 0, .int .u8 0] 32)).setCell ⟨b, 1, none⟩ (.int .i64 (high + 1))).frozen? ⟨w.heap.size, 0, none⟩ = false := by rw [← hV]; exact MV.out.free 0
    have y1 : ((w.alloc (.cells #[.int .i64 0, .int .u8 0] 32)).setCell ⟨b, 1, none⟩ (.int .i64 (high + 1))).frozen? ⟨w.heap.size, 1, none⟩ = false := by rw [← hV]; exact MV.out.free 1
    clear HI2
    go_enter Try.func16, Try.ntmps16
    go_wp2_with (go_at_call 19; refine CR.out.mono ?_; rintro e v1 ⟨rfl, hw1⟩; obtain rfl := hw1.symm; clear hw1)
    rw [← hV] at z0 z1 ⊢
    obtain ⟨r1, r2⟩ := pair_set z0 z1
    (try simp only [Exit.inBlock, Exit.then])
    refine bodyPost_ret (v := .tuple #[.agg #[.int .i64 (high + 1), .int .u8 node], .int .i64 0]) (by simp [results, Try.results16, go_sem, r1, r2]) rfl ?_
    rw [HF.out]
    exact ⟨rfl, went_of MV.out GV.out⟩
  · have HF : Hid (I = X) := by have := HI2.out; rw [if_neg hle] at this; exact this
    have bl : decide (X ≤ high) = false := decide_eq_false hle
    obtain ⟨V, hV⟩ : ∃ V, V = ((w.alloc (.cells #[.int .i64 0, .int .u8 0] 32)).setCell ⟨b, 1, none⟩ (.int .i64 X)) := ⟨_, rfl⟩
    have MV : Hid (OutCk w V b node X off) := by rw [hV]; exact M0.out.high X
    have GV : Hid (w.grownBy V (some b)) := by rw [hV]; exact G0.out.trans (grown_set _ b 1 _)
    have d0 : ((w.alloc (.cells #[.int .i64 0, .int .u8 0] 32)).setCell ⟨b, 1, none⟩ (.int .i64 X)).cell? ⟨b, 0, none⟩ = some (.int .u8 node) := by rw [← hV]; exact MV.out.ck.c0
    have z0 : ((w.alloc (.cells #[.int .i64 0, .int .u8 0] 32)).setCell ⟨b, 1, none⟩ (.int .i64 X)).cell? ⟨w.heap.size, 0, none⟩ = some (.int .i64 0) := by rw [← hV]; exact MV.out.c0
    have z1 : ((w.alloc (.cells #[.int .i64 0, .int .u8 0] 32)).setCell ⟨b, 1, none⟩ (.int .i64 X)).cell? ⟨w.heap.size, 1, none⟩ = some (.int .u8 0) := by rw [← hV]; exact MV.out.c1
    have y0 : ((w.alloc (.cells #[.int .i64 0, .int .u8 0] 32)).setCell ⟨b, 1, none⟩ (.int .i64 X)).frozen? ⟨w.heap.size, 0, none⟩ = false := by rw [← hV]; exact MV.out.free 0
    have y1 : ((w.alloc (.cells #[.int .i64 0, .int .u8 0] 32)).setCell ⟨b, 1, none⟩ (.int .i64 X)).frozen? ⟨w.heap.size, 1, none⟩ = false := by rw [← hV]; exact MV.out.free 1
    clear HI2
    go_enter Try.func16, Try.ntmps16
    go_wp2_with (go_at_call 19; refine CR.out.mono ?_; rintro e v1 ⟨rfl, hw1⟩; obtain rfl := hw1.symm; clear hw1)
    rw [← hV] at z0 z1 ⊢
    obtain ⟨r1, r2⟩ := pair_set z0 z1
    (try simp only [Exit.inBlock, Exit.then])
    refine bodyPost_ret (v := .tuple #[.agg #[.int .i64 X, .int .u8 node], .int .i64 0]) (by simp [results, Try.results16, go_sem, r1, r2]) rfl ?_
    rw [HF.out]
    exact ⟨rfl, went_of MV.out GV.out⟩
theorem rissue_spent (b : Nat) (node off raw : Int) (w : World) (h : CkR w b node 36028797018963967 off) :
    Calls Try.prog 16 #[.pointer (some ⟨b, 0, none⟩), .int .i64 raw] w fun e w' => e = .returned (.tuple #[.agg #[.int .i64 0, .int .u8 0], .int .i64 12]) ∧ Below w.heap.size w w' := by
  have c1 := (OutCk.made h 32).ck.c1
  clear h
  go_enter Try.func16, Try.ntmps16
  go_wp2
  go_returns
  exact ⟨rfl, (Below.refl _ _).alloc (Nat.le_refl _) _⟩
/-- May a stamp of this time be? -/
abbrev okT (t : Int) : Prop := 0 ≤ t ∧ t ≤ 36028797018963967
theorem rgood7_any (t n : Int) (w : World) :
    Calls Try.prog 21 #[.agg #[.int .i64 t, .int .u8 n]] w fun e w' => e = .returned (.bool (decide (okT t))) ∧ Below w.heap.size w w' := by
  have HB : Hid (Below w.heap.size w (w.alloc (.cells #[.int .i64 t, .int .u8 n] 32))) := (Below.refl _ _).alloc (Nat.le_refl _) _
  by_cases h0 : 0 ≤ t
  · have b0 : decide (0 ≤ t) = true := decide_eq_true h0
    by_cases h1 : t ≤ 36028797018963967
    · have b1 : decide (t ≤ 36028797018963967) = true := decide_eq_true h1
      rw [decide_eq_true (show okT t from ⟨h0, h1⟩)]
      go_enter Try.func21, Try.ntmps21
      go_wp2
      go_ret
      exact ⟨rfl, HB.out⟩
    · have b1 : decide (t ≤ 36028797018963967) = false := decide_eq_false h1
      rw [decide_eq_false (show ¬ okT t from fun h => h1 h.2)]
      go_enter Try.func21, Try.ntmps21
      go_wp2
      go_ret
      exact ⟨rfl, HB.out⟩
  · have b0 : decide (0 ≤ t) = false := decide_eq_false h0
    rw [decide_eq_false (show ¬ okT t from fun h => h0 h.1)]
    go_enter Try.func21, Try.ntmps21
    go_wp2
    go_ret
    exact ⟨rfl, HB.out⟩
/-! Operations of See's test that are passed over where the stamp may not be. -/
def opS9 (p : String) : Oper := { dst := some 9, op := Op.fieldAddr 32 (Operand.tmp 3) 0, type := 0, pos := p, after := #[{ on := 3, ground := Ground.guard }], guard := some (3, false) }
def opS10 (p : String) : Oper := { dst := some 10, op := Op.load 2 (Operand.tmp 9), type := 2, pos := p, after := #[{ on := 4, ground := Ground.data }, { on := 3, ground := Ground.guard }], guard := some (3, false) }
def opS11 (p : String) : Oper := { dst := some 11, op := Op.move (Operand.tmp 0), type := 37, pos := p, after := #[{ on := 3, ground := Ground.guard }], guard := some (3, false) }
def opS12 (p : String) : Oper := { dst := some 12, op := Op.nilCheck (Operand.tmp 11), type := 0, pos := p, after := #[{ on := 6, ground := Ground.data }, { on := 3, ground := Ground.guard }], guard := some (3, false) }
def opS13 (p : String) : Oper := { dst := some 13, op := Op.fieldAddr 39 (Operand.tmp 12) 1, type := 0, pos := p, after := #[{ on := 7, ground := Ground.data }, { on := 3, ground := Ground.guard }], guard := some (3, false) }
def opS14 (p : String) : Oper := { dst := some 14, op := Op.load 2 (Operand.tmp 13), type := 2, pos := p, after := #[{ on := 8, ground := Ground.data }, { on := 3, ground := Ground.guard }], guard := some (3, false) }
def opS15 (p : String) : Oper := { dst := some 15, op := Op.binOp BinOp.leq 2 (Operand.tmp 10) (Operand.tmp 14) 2, type := 4, pos := p, after := #[{ on := 5, ground := Ground.data }, { on := 9, ground := Ground.data }, { on := 3, ground := Ground.guard }], guard := some (3, false) }
/-- What a stamp that is seen leaves. -/
def seeN (high t : Int) : Int := if okT t ∧ high < t then t else high
theorem CkR.past {u : World} {b : Nat} {node high off : Int} (h : CkR u b node high off) (o : Obj) : CkR (u.alloc o) b node high off := h.step ((Below.refl _ _).alloc (Nat.le_refl _) o)
set_option maxHeartbeats 1000000 in
theorem rsee_any (b : Nat) (node high off t n : Int) (w : World) (h : CkR w b node high off) :
    Calls Try.prog 18 #[.pointer (some ⟨b, 0, none⟩), .agg #[.int .i64 t, .int .u8 n]] w fun e w' => e = .returned (.bool (decide (okT t ∧ high < t))) ∧ Went w w' b node (seeN high t) off := by
  obtain ⟨V, hV⟩ : ∃ V, V = w.alloc (.cells #[.int .i64 t, .int .u8 n] 32) := ⟨_, rfl⟩
  have HVB : Hid (Below w.heap.size w V) := by rw [hV]; exact (Below.refl _ _).alloc (Nat.le_refl _) _
  have q0 : V.cell? ⟨w.heap.size, 0, none⟩ = some (.int .i64 t) := by rw [hV, World.cell?_alloc_new]; rfl
  have q1 : V.cell? ⟨w.heap.size, 1, none⟩ = some (.int .u8 n) := by rw [hV, World.cell?_alloc_new]; rfl
  have hVs : w.heap.size < V.heap.size := by rw [hV]; simp
  have HC : Hid (∀ u, Below V.heap.size V u → CkR u b node high off) := fun u hb => (by rw [hV] at hb; exact (h.past _).step hb)
  have HT : Hid (∀ u, Below V.heap.size V u → u.cell? ⟨w.heap.size, 0, none⟩ = some (.int .i64 t)) := fun u hb => by rw [hb.cell (p := ⟨w.heap.size, 0, none⟩) hVs]; exact q0
  have CG : Hid (∀ u, Below V.heap.size V u → Calls Try.prog 21 #[.agg #[.int .i64 t, .int .u8 n]] u fun e w' => e = .returned (.bool (decide (okT t))) ∧ Below V.heap.size V w') := fun u hb => (rgood7_any t n u).mono (by rintro e u' ⟨rfl, h'⟩; exact ⟨rfl, hb.trans (h'.mono hb.size)⟩)
  have GV : Hid (∀ u, Below V.heap.size V u → w.grownBy u (some b)) := fun u hb => grown_of_below (HVB.out.trans (hb.mono HVB.out.size)) _
  by_cases ho : okT t
  · rw [decide_eq_true ho] at CG
    by_cases hl : high < t
    · rw [decide_eq_true (show okT t ∧ high < t from ⟨ho, hl⟩)]
      have es : seeN high t = t := if_pos ⟨ho, hl⟩
      rw [es]
      have hlb : ¬ t ≤ high := by omega
      have hlb2 : decide (t ≤ high) = false := decide_eq_false hlb
      clear es ho hVs h
      go_enter Try.func18, Try.ntmps18
      go_wp2
      rw [← hV]
      clear hV
      go_region_with (go_at_call 21; refine (CG.out _ (by first | exact Below.refl _ _ | exact (Below.refl _ _).drew)).mono ?_; rintro e v1 ⟨rfl, hb1⟩; have B1 : Hid (Below V.heap.size V v1) := hb1; have t1 := HT.out v1 hb1; have k1 := (HC.out v1 hb1).c1; have f1 := (HC.out v1 hb1).free 1; clear hb1)
      all_goals go_wp2
      all_goals go_ret
      all_goals exact ⟨rfl, (HC.out v1 B1.out).high t, (GV.out v1 B1.out).trans (grown_set _ b 1 _)⟩
    · rw [decide_eq_false (show ¬ (okT t ∧ high < t) from fun h => hl h.2)]
      have es : seeN high t = high := if_neg (fun h => hl h.2)
      rw [es]
      have hlb : t ≤ high := by omega
      have hlb2 : decide (t ≤ high) = true := decide_eq_true hlb
      clear es ho hVs h hl
      go_enter Try.func18, Try.ntmps18
      go_wp2
      rw [← hV]
      clear hV
      go_region_with (go_at_call 21; refine (CG.out _ (by first | exact Below.refl _ _ | exact (Below.refl _ _).drew)).mono ?_; rintro e v1 ⟨rfl, hb1⟩; have B1 : Hid (Below V.heap.size V v1) := hb1; have t1 := HT.out v1 hb1; have k1 := (HC.out v1 hb1).c1; have f1 := (HC.out v1 hb1).free 1; clear hb1)
      all_goals go_wp2
      all_goals go_ret
      all_goals exact ⟨rfl, HC.out v1 B1.out, GV.out v1 B1.out⟩
  · rw [decide_eq_false ho] at CG
    rw [decide_eq_false (show ¬ (okT t ∧ high < t) from fun h => ho h.1)]
    have KS0 : Hid (∀ u, Below V.heap.size V u → u.cell? ⟨w.heap.size, 0, none⟩ = some (.int .i64 t) ∧ u.cell? ⟨w.heap.size, 1, none⟩ = some (.int .u8 n)) := fun u hb => ⟨HT.out u hb, by rw [hb.cell (p := ⟨w.heap.size, 1, none⟩) hVs]; exact q1⟩
    have es : seeN high t = high := if_neg (fun h => ho h.1)
    rw [es]
    clear es ho hVs h
    go_enter Try.func18, Try.ntmps18
    go_wp2
    rw [← hV]
    clear hV
    have KS : Hid (∀ u, Below V.heap.size V u → u.cell? ⟨w.heap.size, 0, none⟩ = some (.int .i64 t) ∧ u.cell? ⟨w.heap.size, 1, none⟩ = some (.int .u8 n)) := KS0
    have hop9 : ∀ p, opS9 p = { dst := some 9, op := Op.fieldAddr 32 (Operand.tmp 3) 0, type := 0, pos := p, after := #[{ on := 3, ground := Ground.guard }], guard := some (3, false) } := fun _ => rfl
    have hop10 : ∀ p, opS10 p = { dst := some 10, op := Op.load 2 (Operand.tmp 9), type := 2, pos := p, after := #[{ on := 4, ground := Ground.data }, { on := 3, ground := Ground.guard }], guard := some (3, false) } := fun _ => rfl
    have hop11 : ∀ p, opS11 p = { dst := some 11, op := Op.move (Operand.tmp 0), type := 37, pos := p, after := #[{ on := 3, ground := Ground.guard }], guard := some (3, false) } := fun _ => rfl
    have hop12 : ∀ p, opS12 p = { dst := some 12, op := Op.nilCheck (Operand.tmp 11), type := 0, pos := p, after := #[{ on := 6, ground := Ground.data }, { on := 3, ground := Ground.guard }], guard := some (3, false) } := fun _ => rfl
    have hop13 : ∀ p, opS13 p = { dst := some 13, op := Op.fieldAddr 39 (Operand.tmp 12) 1, type := 0, pos := p, after := #[{ on := 7, ground := Ground.data }, { on := 3, ground := Ground.guard }], guard := some (3, false) } := fun _ => rfl
    have hop14 : ∀ p, opS14 p = { dst := some 14, op := Op.load 2 (Operand.tmp 13), type := 2, pos := p, after := #[{ on := 8, ground := Ground.data }, { on := 3, ground := Ground.guard }], guard := some (3, false) } := fun _ => rfl
    have hop15 : ∀ p, opS15 p = { dst := some 15, op := Op.binOp BinOp.leq 2 (Operand.tmp 10) (Operand.tmp 14) 2, type := 4, pos := p, after := #[{ on := 5, ground := Ground.data }, { on := 9, ground := Ground.data }, { on := 3, ground := Ground.guard }], guard := some (3, false) } := fun _ => rfl
    rw [← hop9, ← hop10, ← hop11, ← hop12, ← hop13, ← hop14, ← hop15]
    go_region_held3 (fun u => u.cell? ⟨w.heap.size, 0, none⟩ = some (.int .i64 t) ∧ u.cell? ⟨w.heap.size, 1, none⟩ = some (.int .u8 n)) (first | exact KS.out _ (by assumption) | exact KS.out _ (Below.refl _ _).drew) (first | (go_at_call 21; refine (CG.out _ (by first | assumption | exact (Below.refl _ _).drew)).mono ?_; rintro e v1 ⟨rfl, hb1⟩))
    all_goals go_wp2
    all_goals go_ret
    all_goals exact ⟨rfl, HC.out v1 hb1, GV.out v1 hb1⟩
end Go.Proofs.Ytmibmblgaofikaa
