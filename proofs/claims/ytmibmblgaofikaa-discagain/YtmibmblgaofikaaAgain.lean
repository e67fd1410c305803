/-
  DiscAgain: a clock made anew from the last time goes on above it, for all raw times.
-/
import Derived.Test.YtmibmblgaofikaaRows
import Derived.Test.YtmibmblgaofikaaDiscPlay
import Derived.WalkKit
import Derived.ProofKit
import Derived.OpenShut
import Derived.ShutString
import Derived.ChangeOld
import Derived.Below
import Derived.Carry
namespace Go.Proofs.Ytmibmblgaofikaa.discAgain
open Go.ChangeShapes Go.WideShapes Go.ChangeAt Go.RowKit
open Go.ChangeMaps (open_string shut_string)
set_option linter.unusedVariables false

theorem own : ownKnob Try.prog.godebug = none := by kernel_rfl
theorem laidOut : laidOutB Try.prog = true := by kernel_rfl
/-- A slice of integers that came in: nil, or a row of 'cap' cells, of which the first 'len' are its elements. -/
def IsRow (k : IntKind) (w : World) (a : Option Addr) (len cap : Nat) (zs : List Int) : Prop :=
  (a = none ∧ len = 0 ∧ cap = 0 ∧ zs = []) ∨
  ∃ x, a = some x ∧ len ≤ cap ∧ cap ≤ maxLen ∧ zs.length = cap ∧ (∀ i, i < zs.length → w.cell? (x.add i) = some (.int k (zs.getD i 0))) ∧ ∀ n ∈ zs, (Lit.int k n).wf = true

set_option maxRecDepth 4000 in
set_option maxHeartbeats 2000000 in
theorem walk (a0 : Option Addr) (len0 cap0 : Nat) (z0 : List Int) (a1 : Option Addr) (len1 cap1 : Nat) (z1 : List Int) (w : World) (w0 : IsRow .i64 w a0 len0 cap0 z0) (w1 : IsRow .i64 w a1 len1 cap1 z1) :
    Calls Try.prog 8 #[.slice a0 len0 cap0, .slice a1 len1 cap1] w fun e w' => e = .returned (.bool true) ∧ Below w.heap.size w w' := by
  have AW : Hid (∀ u, Calls Try.prog 9 #[] u fun e w' => e = .returned (.bool true) ∧ Below u.heap.size u w') := fun u => awake_any u
  have CN : Hid (∀ u (h : Int), -1 ≤ h → h ≤ 36028797018963967 → Below w.heap.size w u → Calls Try.prog 10 #[.int .u8 2, .int .i64 h] u fun e w' => ∃ b, e = .returned (.tuple #[.pointer (some ⟨b, 0, none⟩), .int .i64 0]) ∧ Play w w' b 2 h 0 ∧ Below u.heap.size u w') := fun u h g1 g2 hb => (dnew_ok 2 h u (by omega) g1 g2).mono (by rintro e u' ⟨b, rfl, h1, h2, h3⟩; exact ⟨b, rfl, Play.made hb h1 h2 h3, h3⟩)
  have CH : Hid (∀ u b (h : Int), Play w u b 2 h 0 → Calls Try.prog 20 #[.pointer (some ⟨b, 0, none⟩)] u fun e w' => e = .returned (.int .i64 h) ∧ Play w w' b 2 h 0) := fun u b h p => (dhigh_any b 2 h 0 u p.ck).mono (by rintro e u' ⟨rfl, hb⟩; exact ⟨rfl, p.step hb⟩)
  have CB : Hid (∀ u b (h : Int), Play w u b 2 h 0 → Calls Try.prog 20 #[.pointer (some ⟨b, 0, none⟩)] u fun e w' => e = .returned (.int .i64 h) ∧ Below u.heap.size u w') := fun u b h p => dhigh_any b 2 h 0 u p.ck
  have CI : Hid (∀ u b (L r : Int), Play w u b 2 L 0 → -1 ≤ L → L < 36028797018963967 → -9223372036854775808 ≤ r → r ≤ 9223372036854775807 → Calls Try.prog 14 #[.pointer (some ⟨b, 0, none⟩), .int .i64 r] u fun e w' => ∃ W, e = .returned (.tuple #[.agg #[.int .i64 W, .int .u8 2], .int .i64 0]) ∧ L < W ∧ W ≤ 36028797018963967 ∧ Play w w' b 2 W 0) := fun u b L r p l1 l2 r1 r2 => (dissue_any b 2 L 0 r u p.ck (by omega) (by omega) l1 l2 r1 r2).mono (by rintro e u' ⟨rfl, hg⟩; exact ⟨_, rfl, issue_gt 0 L r, (issue_range l1 l2).2, p.went hg⟩)
  have CS : Hid (∀ u b (r : Int), Play w u b 2 36028797018963967 0 → -9223372036854775808 ≤ r → r ≤ 9223372036854775807 → Calls Try.prog 14 #[.pointer (some ⟨b, 0, none⟩), .int .i64 r] u fun e w' => e = .returned (.tuple #[.agg #[.int .i64 0, .int .u8 0], .int .i64 12]) ∧ Play w w' b 2 36028797018963967 0) := fun u b r p r1 r2 => (dissue_spent b 2 0 r u p.ck r1 r2).mono (by rintro e u' ⟨rfl, hb⟩; exact ⟨rfl, p.step hb⟩)
  obtain ⟨xs, hxl, _, hx⟩ := row64_in w0
  obtain ⟨ys, hyl, _, hy⟩ := row64_in w1
  have HX : Hid (Row64 w a0 xs) := hx
  have HY : Hid (Row64 w a1 ys) := hy
  have HXL : Hid (xs.length = len0) := hxl
  have HYL : Hid (ys.length = len1) := hyl
  clear w0 w1 hx hy hxl hyl
  by_cases h0 : 30 < len0
  · have b0 : (30 : Int) < (len0 : Int) := by omega
    go_enter Try.func8, Try.ntmps8
    go_wp2_with (go_at_call 9; refine (AW.out _).mono ?_; rintro e v1 ⟨rfl, hb1⟩; have B1 : Hid (Below w.heap.size w v1) := hb1; clear hb1)
    go_ret
    exact ⟨rfl, B1.out⟩
  · have b0 : ¬ (30 : Int) < (len0 : Int) := by omega
    by_cases h1 : 30 < len1
    · have b1 : (30 : Int) < (len1 : Int) := by omega
      go_enter Try.func8, Try.ntmps8
      go_wp2_with (go_at_call 9; refine (AW.out _).mono ?_; rintro e v1 ⟨rfl, hb1⟩; have B1 : Hid (Below w.heap.size w v1) := hb1; clear hb1)
      go_ret
      exact ⟨rfl, B1.out⟩
    · have b1 : ¬ (30 : Int) < (len1 : Int) := by omega
      go_enter Try.func8, Try.ntmps8
      go_wp2_with (first | (go_at_call 10; refine (CN.out _ _ (by omega) (by omega) B1.out).mono ?_; rintro e v2 ⟨b, rfl, hp2, _⟩; have P2 : Hid (Play w v2 b 2 (-1) 0) := hp2; clear hp2) | (go_at_call 9; refine (AW.out _).mono ?_; rintro e v1 ⟨rfl, hb1⟩; have B1 : Hid (Below w.heap.size w v1) := hb1; clear hb1))
      go_loopw [7, 8] (fun lv iv wr => ∃ (i : Nat) (L : Int), iv = .int .i64 i ∧ lv = .int .i64 L ∧ i ≤ len0 ∧ -1 ≤ L ∧ L ≤ 36028797018963967 ∧ Hid (Play w wr b 2 L 0)) (fun _ iv _ => len0 - (intOf iv).toNat)
      case atStart => exact ⟨0, -1, rfl, rfl, by omega, by omega, by omega, P2⟩
      case round =>
        obtain ⟨i, L, rfl, rfl, hi, l1, l2, PL⟩ := hrel
        by_cases hlt : i < len0
        · obtain ⟨ba, oa, Y, rfl, -, y1, y2, hc⟩ := HX.out.at (i := i) (by rw [HXL.out]; exact hlt)
          have ci := hc _ PL.out.below
          clear hc
          by_cases hs : L = 36028797018963967
          · subst hs
            go_wp2_with (go_at_call 14; refine (CS.out _ _ _ PL.out (by omega) (by omega)).mono ?_; rintro e v3 ⟨rfl, hp3⟩; have P3 : Hid (Play w (v3.alloc (.cells #[.int .i64 0, .int .u8 0] 32)) b 2 36028797018963967 0) := hp3.past _; clear hp3)
            exact ⟨⟨i + 1, _, by simp, rfl, by omega, by omega, by omega, P3⟩, by simp [intOf]; omega⟩
          · go_wp2_with (go_at_call 14; refine (CI.out _ _ _ _ PL.out (by omega) (by omega) (by omega) (by omega)).mono ?_; rintro e v3 ⟨W, rfl, w1, w2, hp3⟩; have P3 : Hid (Play w (v3.alloc (.cells #[.int .i64 W, .int .u8 2] 32)) b 2 W 0) := hp3.past _; clear hp3)
            exact ⟨⟨i + 1, _, by simp, rfl, by omega, by omega, by omega, P3⟩, by simp [intOf]; omega⟩
        · go_wp2_with (first | (go_at_call 20; have hgo := PD.out; clear hgo; refine (CB.out _ _ _ PC.out).mono ?_; rintro e v6 ⟨rfl, hb6⟩; have P6 : Hid (Play w v6 b2 2 L 0) := PD.out.step hb6; clear hb6) | (go_at_call 10; have hgo := P4.out; clear hgo; refine (CN.out _ _ (by omega) (by omega) P4.out.below).mono ?_; rintro e v5 ⟨b2, rfl, hp5, hb5⟩; have PD : Hid (Play w v5 b2 2 L 0) := hp5; have PC : Hid (Play w v5 b 2 L 0) := P4.out.step hb5; clear hp5 hb5) | (go_at_call 20; refine (CH.out _ _ _ PL.out).mono ?_; rintro e v4 ⟨rfl, hp4⟩; have P4 : Hid (Play w v4 b 2 L 0) := hp4; clear hp4))
          go_loopw [7, 13] (fun lv iv wr => ∃ (j : Nat) (L : Int), iv = .int .i64 j ∧ lv = .int .i64 L ∧ j ≤ len1 ∧ -1 ≤ L ∧ L ≤ 36028797018963967 ∧ Hid (Play w wr b2 2 L 0)) (fun _ iv _ => len1 - (intOf iv).toNat)
          case atStart => exact ⟨0, L, rfl, rfl, by omega, by omega, by omega, P6⟩
          case round =>
            clear P6 PL PC PD P4 P2 l1 l2
            obtain ⟨j, L, rfl, rfl, hj, l1, l2, PL⟩ := hrel
            by_cases hlt2 : j < len1
            · obtain ⟨ba, oa, Y, rfl, -, y1, y2, hc⟩ := HY.out.at (i := j) (by rw [HYL.out]; exact hlt2)
              have ci := hc _ PL.out.below
              clear hc
              by_cases hs : L = 36028797018963967
              · subst hs
                go_wp2_with (go_at_call 14; refine (CS.out _ _ _ PL.out (by omega) (by omega)).mono ?_; rintro e v3 ⟨rfl, hp3⟩; have P3 : Hid (Play w (v3.alloc (.cells #[.int .i64 0, .int .u8 0] 32)) b2 2 36028797018963967 0) := hp3.past _; clear hp3)
                go_ret
                exact ⟨rfl, P3.out.below⟩
              · go_wp2_with (go_at_call 14; refine (CI.out _ _ _ _ PL.out (by omega) (by omega) (by omega) (by omega)).mono ?_; rintro e v3 ⟨W, rfl, w1, w2, hp3⟩; have P3 : Hid (Play w (v3.alloc (.cells #[.int .i64 W, .int .u8 2] 32)) b2 2 W 0) := hp3.past _; have bw : decide (W ≤ L) = false := decide_eq_false (by omega); clear hp3)
                exact ⟨⟨j + 1, _, by simp, rfl, by omega, by omega, by omega, P3⟩, by simp [intOf]; omega⟩
            · go_wp2
              go_ret
              exact ⟨rfl, PL.out.below⟩

set_option maxRecDepth 100000 in
theorem lifted (os : Os) (started : os.Started) (H : Type) (enc : TypeId × Value → H) :
    ReturnsInHanded {} Try.checked os 8 .any (Rows.discAgainSpec.pre6 enc Try.prog Try.f8 Rows.discAgainRow.domain false) (Rows.discAgainSpec.post enc Try.prog Try.f8 false true false false) := by
  refine returnsInHanded_of_change (C := Try.checked) own started (by kernel_rfl) Try.func8
    (ChangeSpec.witness6 (enc := enc) (C := Try.checked) false ⟨#[], #[.slice none 0 0, .slice none 0 0], []⟩ 8 (by kernel_rfl) (by kernel_rfl) (by kernel_rfl) (by kernel_rfl)) ?_
  intro W base args ds gs before hval0 hW hcnd _
  have hval : ∀ (j : Nat) t v, Try.f8.params[j]? = some t → args[j]? = some v → Value.okWide Try.prog W .any base t v := hval0
  have hW' := hW
  obtain ⟨p, q, hA0, hV, rfl, hfz, hnd⟩ := hW
  have hA : DataW.TrodAll enc Try.prog W 0 (fun _ => true) true Try.f8.params.toList args.toList ds p := hA0
  rw [Try.params8] at hA hval
  obtain ⟨v0, vs0, d0, ds0, p0, q0, hargs, rfl, rfl, h0, r0⟩ := trodAll_cons hA
  obtain ⟨v1, vs1, d1, ds1, p1, q1, rfl, rfl, rfl, h1, r1⟩ := trodAll_cons r0
  obtain ⟨rfl, rfl, rfl⟩ := trodAll_nil r1
  obtain rfl : args = #[v0, v1] := by cases args; simp_all
  obtain ⟨rfl, rfl⟩ := trodVars_none hV
  obtain ⟨a0, len0, cap0, rfl⟩ := okWide_slice Try.underlying28 (hval 0 28 v0 rfl rfl)
  have k0 := h0
  have lt0 : ∀ x ∈ p0, x.block < W.heap.size := by obtain ⟨m, hm⟩ := k0; exact DataW.trod_lt m _ _ _ hm
  obtain ⟨z0, w0⟩ : ∃ zs, IsRow .i64 W a0 len0 cap0 zs := by
    obtain ⟨fuel, hf⟩ := h0
    rcases open_ints Try.underlying28 Try.underlying2 (by kernel_rfl) hf with ⟨hcs, _⟩ | ⟨x, l, c, zs, hcs, _, hl, hm, hz, _, hcell, hwz⟩
    · simp [Value.cells] at hcs
      obtain ⟨rfl, rfl, rfl⟩ := hcs
      exact ⟨[], .inl ⟨rfl, rfl, rfl, rfl⟩⟩
    · simp [Value.cells] at hcs
      obtain ⟨rfl, rfl, rfl⟩ := hcs
      exact ⟨zs, .inr ⟨_, rfl, hl, hm, by simpa using hz, hcell, hwz⟩⟩
  obtain ⟨a1, len1, cap1, rfl⟩ := okWide_slice Try.underlying28 (hval 1 28 v1 rfl rfl)
  have k1 := h1
  have lt1 : ∀ x ∈ p1, x.block < W.heap.size := by obtain ⟨m, hm⟩ := k1; exact DataW.trod_lt m _ _ _ hm
  obtain ⟨z1, w1⟩ : ∃ zs, IsRow .i64 W a1 len1 cap1 zs := by
    obtain ⟨fuel, hf⟩ := h1
    rcases open_ints Try.underlying28 Try.underlying2 (by kernel_rfl) hf with ⟨hcs, _⟩ | ⟨x, l, c, zs, hcs, _, hl, hm, hz, _, hcell, hwz⟩
    · simp [Value.cells] at hcs
      obtain ⟨rfl, rfl, rfl⟩ := hcs
      exact ⟨[], .inl ⟨rfl, rfl, rfl, rfl⟩⟩
    · simp [Value.cells] at hcs
      obtain ⟨rfl, rfl, rfl⟩ := hcs
      exact ⟨zs, .inr ⟨_, rfl, hl, hm, by simpa using hz, hcell, hwz⟩⟩
  clear hA0 hval0
  refine (walk a0 len0 cap0 z0 a1 len1 cap1 z1 W w0 w1).mono fun e W' ⟨he, bel⟩ => ?_
  subst he
  exact ⟨_, rfl, _, _, _, [], _, [], hW', trodAll_mk1 (shut_bool Try.underlying4 _), (trodAll_cons_mk (Below.trod laidOut (by kernel_rfl) (of_decide_eq_true (by kernel_rfl)) k0 bel lt0) (trodAll_cons_mk (Below.trod laidOut (by kernel_rfl) (of_decide_eq_true (by kernel_rfl)) k1 bel lt1) trodAll_mk0)), rfl, bel.frame _, fun h => by cases h⟩

theorem over : Rows.discAgainRow.holds Try.pinned (OpenSpec.ofChange Rows.discAgainSpec) :=
  OpenClaim.holds_of_wide 8 Try.f8 rfl rfl rfl rfl rfl rfl rfl ⟨rfl, rfl, rfl, rfl, rfl⟩ rfl rfl rfl rfl rfl (by kernel_rfl) Try.func8 (by kernel_rfl)
    (of_decide_eq_true (by kernel_rfl)) (by unfold Func.isWrapper; first | (rw [if_pos (by decide +kernel)]; kernel_rfl) | (rw [if_neg (by decide +kernel)]; exact ⟨rfl, rfl⟩))
    (fun os started H enc _ => lifted os started H enc)
theorem proved : Rows.DiscAgainSaid := over
#print axioms proved
end Go.Proofs.Ytmibmblgaofikaa.discAgain
namespace Go.Proofs.Ytmibmblgaofikaa
/-- DiscAgain, as given. -/
theorem discAgain_holds : Rows.DiscAgainSaid := discAgain.proved
end Go.Proofs.Ytmibmblgaofikaa
