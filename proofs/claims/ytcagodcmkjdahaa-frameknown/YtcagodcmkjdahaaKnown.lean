/-
  FrameKnown: two frames are read again, a record of 8001 bytes is refused with nothing beside, one of 8000 bytes is put, its frame without the last byte is none, and nothing at all is whole.
-/
import Derived.Test.YtcagodcmkjdahaaRows
import Derived.Test.YtcagodcmkjdahaaFrameAwake
import Derived.WalkKit
import Derived.ProofKit
import Derived.OpenShut
import Derived.ShutString
import Derived.ChangeOld
import Derived.Below
namespace Go.Proofs.Ytcagodcmkjdahaa.frameKnown
open Go.ChangeShapes Go.WideShapes Go.ChangeAt Go.RowKit
open Go.ChangeMaps (open_string shut_string)
set_option linter.unusedVariables false      -- a walk need not use every 'w<i>' (that an integer argument fits its kind)

theorem own : ownKnob Try.prog.godebug = none := by kernel_rfl

theorem cut_scan : scanN ((frameN (List.replicate 8000 0)).take 8011) = ([], 0, false) := by
  have hl := frame_len (List.replicate 8000 (0 : Int))
  rw [List.length_replicate] at hl
  refine scan_none ?_ (take_cut _ (by rw [List.length_replicate]; omega) 8011 (by omega))
  intro h
  have := congrArg List.length h
  rw [List.length_take, hl] at this
  simp at this
theorem by_zeros (n : Nat) : By (List.replicate n (0 : Int)) := fun z hz => by rw [(List.mem_replicate.1 hz).2]; omega
set_option maxHeartbeats 2000000 in
theorem walk (w : World) : Calls Try.prog 3 #[] w fun e w' => e = .returned (.bool true) ∧ Below w.heap.size w w' := by
  have hk1 : ∀ w1, (Instr.makeSlice 23 (.int .i64 8001) (.int .i64 8001)).run Try.prog w1 = .ok (.slice (some ⟨w1.heap.size, 0, none⟩) 8001 8001) (w1.alloc (.cells (zeros 8001) 5)) := fun w1 => run_bytes w1 8001 (by omega)
  have hk2 : ∀ w1, (Instr.makeSlice 23 (.int .i64 8000) (.int .i64 8000)).run Try.prog w1 = .ok (.slice (some ⟨w1.heap.size, 0, none⟩) 8000 8000) (w1.alloc (.cells (zeros 8000) 5)) := fun w1 => run_bytes w1 8000 (by omega)
  have P1 : Hid (∀ w1 a c, Calls Try.prog 8 #[.slice none 0 0, .slice a 8001 c] w1 fun e w' => ∃ ax cx, e = .returned (.tuple #[.slice ax 0 cx, .int .i64 2]) ∧ Below w1.heap.size w1 w') := fun w1 a c => put_long none 0 [] 0 a c 8001 w1 (by omega) (by omega)
  have P2 : Hid (∀ w1 : World, Calls Try.prog 8 #[.slice none 0 0, .slice (some ⟨w1.heap.size, 0, none⟩) 8000 8000] (w1.alloc (.cells (zeros 8000) 5)) fun e w' => ∃ g cx, e = .returned (.tuple #[.slice (some ⟨g, 0, none⟩) 8012 cx, .int .i64 0]) ∧ 8012 ≤ cx ∧ Row w' (some ⟨g, 0, none⟩) (frameN (List.replicate 8000 0)) ∧ Below w1.heap.size w1 w') := fun w1 => by
    refine (put_ok none 0 [] 0 (some ⟨w1.heap.size, 0, none⟩) 8000 (List.replicate 8000 0) 8000 _ rfl (List.length_replicate ..) (Row.nil _ _) (mine_zeros w1 8000).row (fun _ => ⟨rfl, rfl⟩) (fun h => by cases h) (by omega) (by omega)).mono ?_
    rintro e w' ⟨ax, cx, rfl, h1, h2⟩
    rw [List.nil_append] at h1
    obtain ⟨g, rfl, _, hm, _⟩ := mine_of_own h1 (frame_by _ (by_zeros 8000)) (by omega)
    exact ⟨g, cx, rfl, own_cap h1, hm.row, ((Below.refl _ _).alloc (Nat.le_refl _) _).trans (h2.mono (by simp))⟩
  have S1 : Hid (∀ w1 g c, Row w1 (some ⟨g, 0, none⟩) (frameN (List.replicate 8000 0)) → 8011 ≤ c → Calls Try.prog 9 #[.slice (some ⟨g, 0, none⟩) 8011 c] w1 fun e w' => ∃ ax cx, e = .returned (.tuple #[.slice ax 0 cx, .int .i64 0, .bool false]) ∧ Below w1.heap.size w1 w') := fun w1 g c h1 h2 => by
    refine (scan_any (some ⟨g, 0, none⟩) c ((frameN (List.replicate 8000 0)).take 8011) 8011 w1 (by rw [List.length_take, frame_len, List.length_replicate]; rfl) (h1.take 8011) h2 (by omega)).mono ?_
    rintro e w' ⟨ay, n, cy, rfl, h3, h4⟩
    rw [cut_scan] at h3 ⊢
    have hl := h3.len
    simp at hl
    subst hl
    exact ⟨ay, cy, rfl, h4⟩
  have S2 : Hid (∀ w1, Calls Try.prog 9 #[.slice none 0 0] w1 fun e w' => ∃ ax cx, e = .returned (.tuple #[.slice ax 0 cx, .int .i64 0, .bool true]) ∧ Below w1.heap.size w1 w') := fun w1 => by
    refine (scan_any none 0 [] 0 w1 rfl (Row.nil _ _) (Nat.le_refl _) (by omega)).mono ?_
    rintro e w' ⟨ay, n, cy, rfl, h3, h4⟩
    rw [scan_nil] at h3 ⊢
    have hl := h3.len
    simp at hl
    subst hl
    exact ⟨ay, cy, rfl, h4⟩
  go_enter Try.func3, Try.ntmps3
  go_wp2_with (first | (have hgo := HB4.out; clear hgo; go_at_call 9; refine (S2.out _).mono ?_; rintro e w5 ⟨a5, c5, rfl, hb5⟩; have HB5 : Hid _ := hb5; clear hb5) | (have hgo := HR3.out; clear hgo; go_at_call 9; refine (S1.out _ _ _ HR3.out (by omega)).mono ?_; rintro e w4 ⟨a4, c4, rfl, hb4⟩; have HB4 : Hid _ := hb4; clear hb4) | (have hgo := HB2.out; clear hgo; go_at_call 8; refine (P2.out _).mono ?_; rintro e w3 ⟨g3, c3, rfl, hc3, hr3, hb3⟩; have HR3 : Hid _ := hr3; have HB3 : Hid _ := hb3; clear hr3 hb3) | (have hgo := HB1.out; clear hgo; go_at_call 8; refine (P1.out _ _ _).mono ?_; rintro e w2 ⟨a2, c2, rfl, hb2⟩; have HB2 : Hid _ := hb2; clear hb2) | (go_at_call 7; refine (awake_any _).mono ?_; rintro e w1 ⟨rfl, hb1⟩; have HB1 : Hid _ := hb1; clear hb1))
  go_ret
  refine ⟨rfl, ?_⟩
  have h2 : Below w.heap.size w w2 := (HB1.out.alloc HB1.out.size _).trans (HB2.out.mono (by simp; exact Nat.le_trans HB1.out.size (Nat.le_succ _)))
  have h3 : Below w.heap.size w w3 := h2.trans (HB3.out.mono h2.size)
  have h4 : Below w.heap.size w w4 := h3.trans (HB4.out.mono h3.size)
  exact h4.trans (HB5.out.mono h4.size)

/-! ### THE ROW's STEP: WRITTEN OUT: LEAVE IT -/
set_option maxRecDepth 100000 in
theorem lifted (os : Os) (started : os.Started) (H : Type) (enc : TypeId × Value → H) :
    ReturnsInHanded {} Try.checked os 3 .any (Rows.frameKnownSpec.pre6 enc Try.prog Try.f3 Rows.frameKnownRow.domain false) (Rows.frameKnownSpec.post enc Try.prog Try.f3 false true false false) := by
  refine returnsInHanded_of_change (C := Try.checked) own started (by kernel_rfl) Try.func3
    (ChangeSpec.witness6 (enc := enc) (C := Try.checked) false ⟨#[], #[], []⟩ 8 (by kernel_rfl) (by kernel_rfl) (by kernel_rfl) (by kernel_rfl)) ?_
  intro W base args ds gs before hval0 hW hcnd _
  have hval : ∀ (j : Nat) t v, Try.f3.params[j]? = some t → args[j]? = some v → Value.okWide Try.prog W .any base t v := hval0
  have hW' := hW
  obtain ⟨p, q, hA0, hV, rfl, hfz, hnd⟩ := hW
  have hA : DataW.TrodAll enc Try.prog W 0 (fun _ => true) true Try.f3.params.toList args.toList ds p := hA0
  rw [Try.params3] at hA hval
  obtain ⟨rfl, rfl, rfl⟩ := trodAll_none hA
  obtain ⟨rfl, rfl⟩ := trodVars_none hV
  clear hA0 hval0
  refine (walk  W).mono fun e W' ⟨he, hg⟩ => ?_
  subst he
  exact ⟨_, rfl, _, _, _, [], _, [], hW', trodAll_mk1 (shut_bool Try.underlying4 _), rfl, rfl, hg.frame _, fun h => by cases h⟩

theorem over : Rows.frameKnownRow.holds Try.pinned (OpenSpec.ofChange Rows.frameKnownSpec) :=
  OpenClaim.holds_of_wide 3 Try.f3 rfl rfl rfl rfl rfl rfl rfl ⟨rfl, rfl, rfl, rfl, rfl⟩ rfl rfl rfl rfl rfl (by kernel_rfl) Try.func3 (by kernel_rfl)
    (of_decide_eq_true (by kernel_rfl)) (by unfold Func.isWrapper; first | (rw [if_pos (by decide +kernel)]; kernel_rfl) | (rw [if_neg (by decide +kernel)]; exact ⟨rfl, rfl⟩))
    (fun os started H enc _ => lifted os started H enc)

/-- ████ THE STATEMENT ████ -/
theorem proved : Rows.FrameKnownSaid :=
  over
#print axioms proved
end Go.Proofs.Ytcagodcmkjdahaa.frameKnown
namespace Go.Proofs.Ytcagodcmkjdahaa
/-- FrameKnown, as given. -/
theorem frameKnown_holds : Rows.FrameKnownSaid := frameKnown.proved
end Go.Proofs.Ytcagodcmkjdahaa
