/-
  BitsKnown: the law's Go text, a closed one, returns true: what chapter 1 says at the ends. No conditions.
-/
import Derived.Test.YtpbjdhinogphfaaRows
import Derived.Test.YtpbjdhinogphfaaArgs
import Derived.Test.YtpbjdhinogphfaaLeafA
import Derived.WalkKit
import Derived.ProofKit
import Derived.OpenShut
import Derived.ShutString
import Derived.ChangeOld
import Derived.Below
namespace Go.Proofs.Ytpbjdhinogphfaa.bitsKnown
open Go.ChangeShapes Go.WideShapes Go.ChangeAt Go.RowKit
open Go.ChangeMaps (open_string shut_string)
set_option linter.unusedVariables false      -- a walk need not use every 'w<i>' (that an integer argument fits its kind)

theorem own : ownKnob Try.prog.godebug = none := by kernel_rfl

theorem lit_row (w : World) (zs : List Int) (hb : ∀ z ∈ zs, 0 ≤ z ∧ z ≤ 255) : Row (w.alloc (.cells (bs zs).toArray 5)) (some ⟨w.heap.size, 0, none⟩) zs := by
  refine ⟨hb, .inr ⟨_, _, rfl, fun j hj => ?_⟩⟩
  rw [World.cell?_alloc_new, List.getElem?_toArray]
  simp [bs, hj]
/-- Get of bytes that are written out. -/
theorem get_lit (zs : List Int) (n : Nat) (v k e0 : Int) (hn : zs.length = n) (hb : ∀ z ∈ zs, 0 ≤ z ∧ z ≤ 255) (hg : Pl.getI zs = (v, k, e0)) (hm : n ≤ 100) (w : World) :
    Calls Try.prog 10 #[.slice (some ⟨w.heap.size, 0, none⟩) n n] (w.alloc (.cells (bs zs).toArray 5)) fun e w' => e = .returned (.tuple #[.int .u64 v, .int .i64 k, .int .i64 e0]) ∧ Below w.heap.size w w' := by
  have h := get_any (some ⟨w.heap.size, 0, none⟩) n zs _ (lit_row w zs hb) (by omega)
  rw [hg, hn] at h
  refine h.mono ?_
  rintro e w' ⟨rfl, rfl⟩
  exact ⟨rfl, (Below.refl _ _).alloc (Nat.le_refl _) _⟩
theorem get_nil (w : World) : Calls Try.prog 10 #[.slice none 0 0] w fun e w' => e = .returned (.tuple #[.int .u64 0, .int .i64 0, .int .i64 3]) ∧ w' = w :=
  get_any none 0 [] w (Row.nil _ _) (by simp)
theorem g2 (w : World) : Calls Try.prog 10 #[.slice (some ⟨w.heap.size, 0, none⟩) 2 2] (w.alloc (.cells #[.int .u8 128, .int .u8 0] 5)) fun e w' => e = .returned (.tuple #[.int .u64 0, .int .i64 0, .int .i64 3]) ∧ Below w.heap.size w w' :=
  get_lit [128, 0] 2 0 0 3 rfl (by decide) (by decide +kernel) (by decide) w
theorem g10 (w : World) : Calls Try.prog 10 #[.slice (some ⟨w.heap.size, 0, none⟩) 10 10] (w.alloc (.cells #[.int .u8 255, .int .u8 255, .int .u8 255, .int .u8 255, .int .u8 255, .int .u8 255, .int .u8 255, .int .u8 255, .int .u8 255, .int .u8 2] 5)) fun e w' => e = .returned (.tuple #[.int .u64 0, .int .i64 0, .int .i64 3]) ∧ Below w.heap.size w w' :=
  get_lit [255, 255, 255, 255, 255, 255, 255, 255, 255, 2] 10 0 0 3 rfl (by decide) (by decide +kernel) (by decide) w
theorem g11 (w : World) : Calls Try.prog 10 #[.slice (some ⟨w.heap.size, 0, none⟩) 11 11] (w.alloc (.cells #[.int .u8 255, .int .u8 255, .int .u8 255, .int .u8 255, .int .u8 255, .int .u8 255, .int .u8 255, .int .u8 255, .int .u8 255, .int .u8 1, .int .u8 7] 5)) fun e w' => e = .returned (.tuple #[.int .u64 18446744073709551615, .int .i64 10, .int .i64 0]) ∧ Below w.heap.size w w' :=
  get_lit [255, 255, 255, 255, 255, 255, 255, 255, 255, 1, 7] 11 18446744073709551615 10 0 rfl (by decide) (by decide +kernel) (by decide) w
theorem c1 (w : World) : Calls Try.prog 11 #[.int .i64 (-1), .int .i64 8] w fun e w' => e = .returned (.tuple #[.int .u64 255, .bool true]) ∧ w' = w :=
  cut_any (-1) 8 w (by decide) (by decide) (by decide) (by decide)
theorem c2 (w : World) : Calls Try.prog 11 #[.int .i64 128, .int .i64 8] w fun e w' => e = .returned (.tuple #[.int .u64 128, .bool false]) ∧ w' = w :=
  cut_any 128 8 w (by decide) (by decide) (by decide) (by decide)
theorem z1 (x : Int) (hx : x = -9223372036854775808) (w : World) : Calls Try.prog 12 #[.int .i64 x] w fun e w' => e = .returned (.int .u64 18446744073709551615) ∧ w' = w := by
  have h : Pl.zigI (-9223372036854775808) = 18446744073709551615 := by decide +kernel
  subst hx
  have := zig_any (-9223372036854775808) w (by decide) (by decide)
  rw [h] at this; exact this
theorem z2 (w : World) : Calls Try.prog 13 #[.int .u64 18446744073709551615] w fun e w' => e = .returned (.int .i64 (-9223372036854775808)) ∧ w' = w := by
  have h : Pl.zagI 18446744073709551615 = -9223372036854775808 := by decide +kernel
  have := zag_any 18446744073709551615 w (by decide) (by decide)
  rw [h] at this; exact this
theorem s_lit (v n r : Int) (w : World) (h0 : 0 ≤ v) (h1 : v ≤ 18446744073709551615) (n0 : -9223372036854775808 ≤ n) (n1 : n ≤ 9223372036854775807) (h : Pl.signI v n = r) :
    Calls Try.prog 14 #[.int .u64 v, .int .i64 n] w fun e w' => e = .returned (.int .i64 r) ∧ w' = w := by
  rw [← h]; exact sign_any v n w h0 h1 n0 n1
theorem l_lit (v : Int) (n : Int) (w : World) (h0 : 0 ≤ v) (h1 : v ≤ 18446744073709551615) (h : ((Pl.putI v).length : Int) = n) :
    Calls Try.prog 15 #[.int .u64 v] w fun e w' => e = .returned (.int .i64 n) ∧ w' = w := by
  rw [← h]; exact len_any v w h0 h1

set_option maxHeartbeats 2000000 in
theorem walk (w : World) :
    Calls Try.prog 3 #[] w fun e w' => e = .returned (.bool true) ∧ Below w.heap.size w w' := by
  go_enter Try.func3, Try.ntmps3
  go_wp2_with (first | (go_at_call 9; refine (awake_any _).mono ?_; rintro e w1 ⟨rfl, hb1⟩) | (go_at_call_of 10 (Value.slice none 0 0); refine (get_nil _).mono ?_; rintro e w2 ⟨rfl, hw⟩; obtain rfl := hw.symm; clear hw))
  refine (g2 _).mono ?_
  rintro e w2 ⟨rfl, hb2⟩
  go_wp2_with fail
  refine (g10 _).mono ?_
  rintro e w3 ⟨rfl, hb3⟩
  go_wp2_with fail
  refine (g11 _).mono ?_
  rintro e w4 ⟨rfl, hb4⟩
  go_wp2_with fail
  refine (c1 _).mono ?_
  rintro e w5 ⟨rfl, hw⟩
  obtain rfl := hw.symm
  clear hw
  go_wp2_with fail
  refine (c2 _).mono ?_
  rintro e w5 ⟨rfl, hw⟩
  obtain rfl := hw.symm
  clear hw
  go_wp2_with fail
  refine (z1 _ (by decide) _).mono ?_
  rintro e w5 ⟨rfl, hw⟩
  obtain rfl := hw.symm
  clear hw
  go_wp2_with (first | (go_at_call 13; refine (z2 _).mono ?_; rintro e w5 ⟨rfl, hw⟩; obtain rfl := hw.symm; clear hw) | (go_at_call_of 14 (Value.int IntKind.u64 128); refine (s_lit 128 8 (-128) _ (by decide) (by decide) (by decide) (by decide) (by decide +kernel)).mono ?_; rintro e w5 ⟨rfl, hw⟩; obtain rfl := hw.symm; clear hw) | (go_at_call_of 14 (Value.int IntKind.u64 127); refine (s_lit 127 8 127 _ (by decide) (by decide) (by decide) (by decide) (by decide +kernel)).mono ?_; rintro e w5 ⟨rfl, hw⟩; obtain rfl := hw.symm; clear hw) | (go_at_call_of 14 (Value.int IntKind.u64 5); refine (s_lit 5 0 5 _ (by decide) (by decide) (by decide) (by decide) (by decide +kernel)).mono ?_; rintro e w5 ⟨rfl, hw⟩; obtain rfl := hw.symm; clear hw) | (go_at_call_of 14 (Value.int IntKind.u64 9223372036854775808); refine (s_lit 9223372036854775808 64 (-9223372036854775808) _ (by decide) (by decide) (by decide) (by decide) (by decide +kernel)).mono ?_; rintro e w5 ⟨rfl, hw⟩; obtain rfl := hw.symm; clear hw) | (go_at_call_of 15 (Value.int IntKind.u64 0); refine (l_lit 0 1 _ (by decide) (by decide) (by decide +kernel)).mono ?_; rintro e w5 ⟨rfl, hw⟩; obtain rfl := hw.symm; clear hw) | (go_at_call_of 15 (Value.int IntKind.u64 128); refine (l_lit 128 2 _ (by decide) (by decide) (by decide +kernel)).mono ?_; rintro e w5 ⟨rfl, hw⟩; obtain rfl := hw.symm; clear hw) | (go_at_call_of 15 (Value.int IntKind.u64 9223372036854775808); refine (l_lit 9223372036854775808 10 _ (by decide) (by decide) (by decide +kernel)).mono ?_; rintro e w5 ⟨rfl, hw⟩; obtain rfl := hw.symm; clear hw))
  go_ret
  have s1 := hb1.size
  have s2 := hb2.size
  have s3 := hb3.size
  exact ⟨rfl, hb1.trans ((hb2.mono s1).trans ((hb3.mono (by omega)).trans (hb4.mono (by omega))))⟩

/-! ### THE ROW's STEP: WRITTEN OUT: LEAVE IT -/
set_option maxRecDepth 100000 in
theorem lifted (os : Os) (started : os.Started) (H : Type) (enc : TypeId × Value → H) :
    ReturnsInHanded {} Try.checked os 3 .any (Rows.bitsKnownSpec.pre6 enc Try.prog Try.f3 Rows.bitsKnownRow.domain false) (Rows.bitsKnownSpec.post enc Try.prog Try.f3 false true false false) := by
  refine returnsInHanded_of_change (C := Try.checked) own started (by kernel_rfl) Try.func3
    (ChangeSpec.witness6 (enc := enc) (C := Try.checked) false ⟨#[], #[], []⟩ 8 (by kernel_rfl) (by kernel_rfl) (by kernel_rfl) (by kernel_rfl)) ?_
  intro W base args ds gs before hval0 hW hcnd _
  have hval : ∀ (j : Nat) t v, Try.f3.params[j]? = some t → args[j]? = some v → Value.okWide Try.prog W .any base t v := hval0
  have hW' := hW
  obtain ⟨p, q, hA0, hV, rfl, hfz, hnd⟩ := hW
  have hA : DataW.TrodAll enc Try.prog W 0 (fun _ => true) true Try.f3.params.toList args.toList ds p := hA0
  rw [Try.params3] at hA hval
  obtain ⟨rfl, rfl, rfl⟩ := trodAll_none hA
  obtain ⟨rfl, rfl⟩ := trodVars_none hV
  clear hA0 hval0
  refine (walk  W).mono fun e W' ⟨he, hg⟩ => ?_
  subst he
  exact ⟨_, rfl, _, _, _, [], _, [], hW', trodAll_mk1 (shut_bool Try.underlying4 _), rfl, rfl, hg.frame _, fun h => by cases h⟩

theorem over : Rows.bitsKnownRow.holds Try.pinned (OpenSpec.ofChange Rows.bitsKnownSpec) :=
  OpenClaim.holds_of_wide 3 Try.f3 rfl rfl rfl rfl rfl rfl rfl ⟨rfl, rfl, rfl, rfl, rfl⟩ rfl rfl rfl rfl rfl (by kernel_rfl) Try.func3 (by kernel_rfl)
    (of_decide_eq_true (by kernel_rfl)) (by unfold Func.isWrapper; first | (rw [if_pos (by decide +kernel)]; kernel_rfl) | (rw [if_neg (by decide +kernel)]; exact ⟨rfl, rfl⟩))
    (fun os started H enc _ => lifted os started H enc)

/-- ████ THE STATEMENT ████ -/
theorem proved : Rows.BitsKnownSaid :=
  over
#print axioms proved
end Go.Proofs.Ytpbjdhinogphfaa.bitsKnown
namespace Go.Proofs.Ytpbjdhinogphfaa
/-- BitsKnown, as given. -/
theorem bitsKnown_holds : Rows.BitsKnownSaid := bitsKnown.proved
end Go.Proofs.Ytpbjdhinogphfaa
