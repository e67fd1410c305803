/-
  DiscSteady: a raw clock that goes on by itself: its stamps are its own times, once each, for every start and every steps.
-/
import Derived.Test.YtmibmblgaofikaaRows
import Derived.Test.YtmibmblgaofikaaDiscPlay
import Derived.WalkKit
import Derived.ProofKit
import Derived.OpenShut
import Derived.ShutString
import Derived.ChangeOld
import Derived.Below
import Derived.Carry
namespace Go.Proofs.Ytmibmblgaofikaa.discSteady
open Go.ChangeShapes Go.WideShapes Go.ChangeAt Go.RowKit
open Go.ChangeMaps (open_string shut_string)
set_option linter.unusedVariables false

theorem own : ownKnob Try.prog.godebug = none := by kernel_rfl
theorem laidOut : laidOutB Try.prog = true := by kernel_rfl
/-- A slice of integers that came in: nil, or a row of 'cap' cells, of which the first 'len' are its elements. -/
def IsRow (k : IntKind) (w : World) (a : Option Addr) (len cap : Nat) (zs : List Int) : Prop :=
  (a = none ∧ len = 0 ∧ cap = 0 ∧ zs = []) ∨
  ∃ x, a = some x ∧ len ≤ cap ∧ cap ≤ maxLen ∧ zs.length = cap ∧ (∀ i, i < zs.length → w.cell? (x.add i) = some (.int k (zs.getD i 0))) ∧ ∀ n ∈ zs, (Lit.int k n).wf = true

theorem issue_steady {L r : Int} (h0 : 0 ≤ r) (h1 : r ≤ 36028797018963967) : issueN 0 L r = if r ≤ L then L + 1 else r := by
  unfold issueN readN rawN hold
  (repeat' split) <;> omega
set_option maxRecDepth 4000 in
set_option maxHeartbeats 2000000 in
theorem walk (a0 : Int) (a1 : Option Addr) (len1 cap1 : Nat) (z1 : List Int) (w : World) (w0 : (Lit.int .i64 a0).wf = true) (w1 : IsRow .u8 w a1 len1 cap1 z1) :
    Calls Try.prog 7 #[.int .i64 a0, .slice a1 len1 cap1] w fun e w' => e = .returned (.bool true) ∧ Below w.heap.size w w' := by
  have by0 := bounds_i64 w0
  have AW : Hid (∀ u, Calls Try.prog 9 #[] u fun e w' => e = .returned (.bool true) ∧ Below u.heap.size u w') := fun u => awake_any u
  have CN : Hid (∀ u, Below w.heap.size w u → Calls Try.prog 10 #[.int .u8 1, .int .i64 (-1)] u fun e w' => ∃ b, e = .returned (.tuple #[.pointer (some ⟨b, 0, none⟩), .int .i64 0]) ∧ Play w w' b 1 (-1) 0) := fun u hb => (dnew_ok 1 (-1) u (by omega) (by omega) (by omega)).mono (by rintro e u' ⟨b, rfl, h1, h2, h3⟩; exact ⟨b, rfl, Play.made hb h1 h2 h3⟩)
  obtain ⟨zs, hzl, hrow⟩ := row_of w1
  have HR : Hid (Row w a1 zs) := hrow
  have HZL : Hid (zs.length = len1) := hzl
  clear w0 w1 hrow hzl
  by_cases h0 : a0 < 0
  · have b0 : decide (a0 < 0) = true := decide_eq_true h0
    go_enter Try.func7, Try.ntmps7
    go_wp2_with (go_at_call 9; refine (AW.out _).mono ?_; rintro e v1 ⟨rfl, hb1⟩; have B1 : Hid (Below w.heap.size w v1) := hb1; clear hb1)
    go_ret
    exact ⟨rfl, B1.out⟩
  · have b0 : decide (a0 < 0) = false := decide_eq_false h0
    by_cases h1 : 1125899906842624 < a0
    · have b1 : decide (1125899906842624 < a0) = true := decide_eq_true h1
      go_enter Try.func7, Try.ntmps7
      go_wp2_with (go_at_call 9; refine (AW.out _).mono ?_; rintro e v1 ⟨rfl, hb1⟩; have B1 : Hid (Below w.heap.size w v1) := hb1; clear hb1)
      go_ret
      exact ⟨rfl, B1.out⟩
    · have b1 : decide (1125899906842624 < a0) = false := decide_eq_false h1
      by_cases h2 : 60 < len1
      · have b2 : (60 : Int) < (len1 : Int) := by omega
        go_enter Try.func7, Try.ntmps7
        go_wp2_with (go_at_call 9; refine (AW.out _).mono ?_; rintro e v1 ⟨rfl, hb1⟩; have B1 : Hid (Below w.heap.size w v1) := hb1; clear hb1)
        go_ret
        exact ⟨rfl, B1.out⟩
      · have b2 : ¬ (60 : Int) < (len1 : Int) := by omega
        go_enter Try.func7, Try.ntmps7
        go_wp2_with (first | (go_at_call 10; refine (CN.out _ B1.out).mono ?_; rintro e v2 ⟨b, rfl, hp2⟩; have P2 : Hid (Play w v2 b 1 (-1) 0) := hp2; clear hp2) | (go_at_call 9; refine (AW.out _).mono ?_; rintro e v1 ⟨rfl, hb1⟩; have B1 : Hid (Below w.heap.size w v1) := hb1; clear hb1))
        go_loopw [7, 8, 9] (fun rv lv iv wr => ∃ (i : Nat) (R L : Int), iv = .int .i64 i ∧ rv = .int .i64 R ∧ lv = .int .i64 L ∧ i ≤ len1 ∧ a0 ≤ R ∧ R ≤ a0 + 255 * i ∧ -1 ≤ L ∧ L ≤ a0 + 256 * i ∧ Hid (Play w wr b 1 L 0)) (fun _ _ iv _ => len1 - (intOf iv).toNat)
        case atStart => exact ⟨0, a0, -1, rfl, rfl, rfl, by omega, by omega, by omega, by omega, by omega, P2⟩
        case round =>
          obtain ⟨i, R, L, rfl, rfl, rfl, hi, r1, r2, l1, l2, PL⟩ := hrel
          by_cases hlt : i < len1
          · obtain ⟨ba, oa, rfl, hca⟩ : ∃ ba oa, a1 = some ⟨ba, oa, none⟩ ∧ ∀ j, j < zs.length → w.cell? ⟨ba, oa + j, none⟩ = some (.int .u8 (zs.getD j 0)) := by
              rcases HR.out.cells with h' | h'
              · have := HZL.out; rw [h'] at this; simp at this; omega
              · exact h'
            obtain ⟨Y, hY⟩ : ∃ Y, Y = zs.getD i 0 := ⟨_, rfl⟩
            have hc0 := hca i (by rw [HZL.out]; exact hlt)
            rw [← hY] at hc0
            have yb : 0 ≤ Y ∧ Y ≤ 255 := by
              rw [hY]
              refine HR.out.bytes _ ?_
              have : i < zs.length := by rw [HZL.out]; exact hlt
              simp [List.getD, this]
            have ci : wr.cell? ⟨ba, oa + i, none⟩ = some (.int .u8 Y) := (PL.out.below.cell (p := ⟨ba, oa + i, none⟩) (lt_of_cell hc0)).trans hc0
            obtain ⟨X, hX⟩ : ∃ X, X = R + Y := ⟨_, rfl⟩
            obtain ⟨W, hW⟩ : ∃ W, W = if X ≤ L then L + 1 else X := ⟨_, rfl⟩
            have CI : Hid (∀ u, Play w u b 1 L 0 → Calls Try.prog 14 #[.pointer (some ⟨b, 0, none⟩), .int .i64 (R + Y)] u fun e w' => e = .returned (.tuple #[.agg #[.int .i64 W, .int .u8 1], .int .i64 0]) ∧ WentD u w' b 1 W 0) := fun u h => by
              have c := dissue_any b 1 L 0 (R + Y) u h.ck (by omega) (by omega) (by omega) (by omega) (by omega) (by omega)
              rw [issue_steady (by omega) (by omega), ← hX, ← hW] at c
              rw [← hX]
              exact c
            have e1 : IntKind.i64.wrap (R + Y) = R + Y := by rw [IntKind.wrap_i64]; omega
            clear hY hca hc0
            by_cases hle : R + Y ≤ L
            · have hWl : W = L + 1 := by rw [hW, hX, if_pos hle]
              have bl : decide (R + Y ≤ L) = true := decide_eq_true hle
              clear hW hX
              subst hWl
              go_wp2_with (go_at_call 14; refine (CI.out _ PL.out).mono ?_; rintro e v3 ⟨rfl, hg3⟩; have P3 : Hid (Play w (v3.alloc (.cells #[.int .i64 (L + 1), .int .u8 1] 32)) b 1 (L + 1) 0) := (PL.out.went hg3).past _; clear hg3)
              exact ⟨⟨i + 1, R + Y, L + 1, by simp, by simp, by simp, by omega, by omega, by omega, by omega, by omega, P3⟩, by simp [intOf]; omega⟩
            · have hWl : W = R + Y := by rw [hW, hX, if_neg hle]
              have bl : decide (R + Y ≤ L) = false := decide_eq_false hle
              clear hW hX
              subst hWl
              go_wp2_with (go_at_call 14; refine (CI.out _ PL.out).mono ?_; rintro e v3 ⟨rfl, hg3⟩; have P3 : Hid (Play w (v3.alloc (.cells #[.int .i64 (R + Y), .int .u8 1] 32)) b 1 (R + Y) 0) := (PL.out.went hg3).past _; clear hg3)
              exact ⟨⟨i + 1, R + Y, R + Y, by simp, by simp, by simp, by omega, by omega, by omega, by omega, by omega, P3⟩, by simp [intOf]; omega⟩
          · go_wp2
            go_ret
            exact ⟨rfl, PL.out.below⟩

set_option maxRecDepth 100000 in
theorem lifted (os : Os) (started : os.Started) (H : Type) (enc : TypeId × Value → H) :
    ReturnsInHanded {} Try.checked os 7 .any (Rows.discSteadySpec.pre6 enc Try.prog Try.f7 Rows.discSteadyRow.domain false) (Rows.discSteadySpec.post enc Try.prog Try.f7 false true false false) := by
  refine returnsInHanded_of_change (C := Try.checked) own started (by kernel_rfl) Try.func7
    (ChangeSpec.witness6 (enc := enc) (C := Try.checked) false ⟨#[], #[.int .i64 0, .slice none 0 0], []⟩ 8 (by kernel_rfl) (by kernel_rfl) (by kernel_rfl) (by kernel_rfl)) ?_
  intro W base args ds gs before hval0 hW hcnd _
  have hval : ∀ (j : Nat) t v, Try.f7.params[j]? = some t → args[j]? = some v → Value.okWide Try.prog W .any base t v := hval0
  have hW' := hW
  obtain ⟨p, q, hA0, hV, rfl, hfz, hnd⟩ := hW
  have hA : DataW.TrodAll enc Try.prog W 0 (fun _ => true) true Try.f7.params.toList args.toList ds p := hA0
  rw [Try.params7] at hA hval
  obtain ⟨v0, vs0, d0, ds0, p0, q0, hargs, rfl, rfl, h0, r0⟩ := trodAll_cons hA
  obtain ⟨v1, vs1, d1, ds1, p1, q1, rfl, rfl, rfl, h1, r1⟩ := trodAll_cons r0
  obtain ⟨rfl, rfl, rfl⟩ := trodAll_nil r1
  obtain rfl : args = #[v0, v1] := by cases args; simp_all
  obtain ⟨rfl, rfl⟩ := trodVars_none hV
  have k0 := h0
  have lt0 : ∀ x ∈ p0, x.block < W.heap.size := by obtain ⟨m, hm⟩ := k0; exact DataW.trod_lt m _ _ _ hm
  obtain ⟨a0, rfl, rfl, rfl, w0⟩ := open_int Try.underlying2 (hval 0 2 v0 rfl rfl) h0
  obtain ⟨a1, len1, cap1, rfl⟩ := okWide_slice Try.underlying45 (hval 1 45 v1 rfl rfl)
  have k1 := h1
  have lt1 : ∀ x ∈ p1, x.block < W.heap.size := by obtain ⟨m, hm⟩ := k1; exact DataW.trod_lt m _ _ _ hm
  obtain ⟨z1, w1⟩ : ∃ zs, IsRow .u8 W a1 len1 cap1 zs := by
    obtain ⟨fuel, hf⟩ := h1
    rcases open_ints Try.underlying45 Try.underlying5 (by kernel_rfl) hf with ⟨hcs, _⟩ | ⟨x, l, c, zs, hcs, _, hl, hm, hz, _, hcell, hwz⟩
    · simp [Value.cells] at hcs
      obtain ⟨rfl, rfl, rfl⟩ := hcs
      exact ⟨[], .inl ⟨rfl, rfl, rfl, rfl⟩⟩
    · simp [Value.cells] at hcs
      obtain ⟨rfl, rfl, rfl⟩ := hcs
      exact ⟨zs, .inr ⟨_, rfl, hl, hm, by simpa using hz, hcell, hwz⟩⟩
  clear hA0 hval0
  refine (walk a0 a1 len1 cap1 z1 W w0 w1).mono fun e W' ⟨he, bel⟩ => ?_
  subst he
  exact ⟨_, rfl, _, _, _, [], _, [], hW', trodAll_mk1 (shut_bool Try.underlying4 _), (trodAll_cons_mk (Below.trod laidOut (by kernel_rfl) (of_decide_eq_true (by kernel_rfl)) k0 bel lt0) (trodAll_cons_mk (Below.trod laidOut (by kernel_rfl) (of_decide_eq_true (by kernel_rfl)) k1 bel lt1) trodAll_mk0)), rfl, bel.frame _, fun h => by cases h⟩

theorem over : Rows.discSteadyRow.holds Try.pinned (OpenSpec.ofChange Rows.discSteadySpec) :=
  OpenClaim.holds_of_wide 7 Try.f7 rfl rfl rfl rfl rfl rfl rfl ⟨rfl, rfl, rfl, rfl, rfl⟩ rfl rfl rfl rfl rfl (by kernel_rfl) Try.func7 (by kernel_rfl)
    (of_decide_eq_true (by kernel_rfl)) (by unfold Func.isWrapper; first | (rw [if_pos (by decide +kernel)]; kernel_rfl) | (rw [if_neg (by decide +kernel)]; exact ⟨rfl, rfl⟩))
    (fun os started H enc _ => lifted os started H enc)
theorem proved : Rows.DiscSteadySaid := over
#print axioms proved
end Go.Proofs.Ytmibmblgaofikaa.discSteady
namespace Go.Proofs.Ytmibmblgaofikaa
/-- DiscSteady, as given. -/
theorem discSteady_holds : Rows.DiscSteadySaid := discSteady.proved
end Go.Proofs.Ytmibmblgaofikaa
