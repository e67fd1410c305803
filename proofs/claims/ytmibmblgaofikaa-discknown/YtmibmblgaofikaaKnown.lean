/-
  DiscKnown: what chapter 7 says at the ends is answered so.
-/
import Derived.Test.YtmibmblgaofikaaRows
import Derived.Test.YtmibmblgaofikaaDiscPlay
import Derived.WalkKit
import Derived.ProofKit
import Derived.OpenShut
import Derived.ShutString
import Derived.ChangeOld
import Derived.Below
import Derived.Carry
namespace Go.Proofs.Ytmibmblgaofikaa.discKnown
open Go.ChangeShapes Go.WideShapes Go.ChangeAt Go.RowKit
open Go.ChangeMaps (open_string shut_string)
set_option linter.unusedVariables false

theorem own : ownKnob Try.prog.godebug = none := by kernel_rfl
theorem laidOut : laidOutB Try.prog = true := by kernel_rfl
/-- A slice of integers that came in: nil, or a row of 'cap' cells, of which the first 'len' are its elements. -/
def IsRow (k : IntKind) (w : World) (a : Option Addr) (len cap : Nat) (zs : List Int) : Prop :=
  (a = none ∧ len = 0 ∧ cap = 0 ∧ zs = []) ∨
  ∃ x, a = some x ∧ len ≤ cap ∧ cap ≤ maxLen ∧ zs.length = cap ∧ (∀ i, i < zs.length → w.cell? (x.add i) = some (.int k (zs.getD i 0))) ∧ ∀ n ∈ zs, (Lit.int k n).wf = true

theorem row64_new (v : World) (zs : List Int) (hz : ∀ z ∈ zs, -9223372036854775808 ≤ z ∧ z ≤ 9223372036854775807) : Row64 (v.alloc (.cells (is zs).toArray 2)) (some ⟨v.heap.size, 0, none⟩) zs := by
  refine ⟨hz, .inr ⟨v.heap.size, 0, rfl, fun j hj => ?_⟩⟩
  rw [Nat.zero_add, World.cell?_alloc_new]
  simp [is, List.getD, hj]
theorem known_sample {w : World} (zs : List Int) (hz : ∀ z ∈ zs, -9223372036854775808 ≤ z ∧ z ≤ 9223372036854775807) (h1 : 1 ≤ zs.length) (h2 : zs.length ≤ 64) (v : World) (b : Nat) (L o : Int) (h : Play w v b 1 L o) :
    Calls Try.prog 11 #[.pointer (some ⟨b, 0, none⟩), .slice (some ⟨v.heap.size, 0, none⟩) zs.length zs.length] (v.alloc (.cells (is zs).toArray 2)) fun e w' => e = .returned (.int .i64 (midN zs)) ∧ Play w w' b 1 L (midN zs) :=
  (dsample_in b 1 L o _ _ zs _ (h.past _).ck (row64_new v zs hz) h1 h2 (Nat.le_refl _)).mono (by rintro e u' ⟨rfl, hg⟩; exact ⟨rfl, (h.past _).went hg⟩)
set_option maxRecDepth 4000 in
set_option maxHeartbeats 4000000 in
theorem walk  (w : World)  :
    Calls Try.prog 3 #[] w fun e w' => e = .returned (.bool true) ∧ Below w.heap.size w w' := by
  have AW : Hid (∀ u, Calls Try.prog 9 #[] u fun e w' => e = .returned (.bool true) ∧ Below u.heap.size u w') := fun u => awake_any u
  have N1 : Hid (∀ u, Below w.heap.size w u → Calls Try.prog 10 #[.int .u8 0, .int .i64 (-2)] u fun e w' => e = .returned (.tuple #[.pointer none, .int .i64 1]) ∧ Below w.heap.size w w') := fun u hb => (dnew_bad 0 (-2) u (by omega) (by omega)).mono (by rintro e u' ⟨rfl, h⟩; exact ⟨rfl, hb.trans (h.mono hb.size)⟩)
  have N2 : Hid (∀ u, Below w.heap.size w u → Calls Try.prog 10 #[.int .u8 0, .int .i64 36028797018963968] u fun e w' => e = .returned (.tuple #[.pointer none, .int .i64 1]) ∧ Below w.heap.size w w') := fun u hb => (dnew_bad 0 36028797018963968 u (by omega) (by omega)).mono (by rintro e u' ⟨rfl, h⟩; exact ⟨rfl, hb.trans (h.mono hb.size)⟩)
  have N3 : Hid (∀ u, Below w.heap.size w u → Calls Try.prog 10 #[.int .u8 1, .int .i64 10] u fun e w' => ∃ b, e = .returned (.tuple #[.pointer (some ⟨b, 0, none⟩), .int .i64 0]) ∧ Play w w' b 1 10 0) := fun u hb => (dnew_ok 1 10 u (by omega) (by omega) (by omega)).mono (by rintro e u' ⟨b, rfl, h1, h2, h3⟩; exact ⟨b, rfl, Play.made hb h1 h2 h3⟩)
  have SO : Hid (∀ (u : World) (b : Nat) (L o : Int) (a : Option Addr) (n c : Nat), (n < 1 ∨ 64 < n) → Play w u b 1 L o → Calls Try.prog 11 #[.pointer (some ⟨b, 0, none⟩), .slice a n c] u fun e w' => e = .returned (.int .i64 o) ∧ Play w w' b 1 L o) := fun u b L o a n c hn h => (dsample_out b 1 L o a c n u h.ck hn).mono (by rintro e u' ⟨rfl, hb⟩; exact ⟨rfl, h.step hb⟩)
  have S1 : Hid (∀ (v : World) (b : Nat), Play w v b 1 10 0 → Calls Try.prog 11 #[.pointer (some ⟨b, 0, none⟩), .slice (some ⟨v.heap.size, 0, none⟩) 3 3] (v.alloc (.cells #[.int .i64 5, .int .i64 1, .int .i64 3] 2)) fun e w' => e = .returned (.int .i64 3) ∧ Play w w' b 1 10 3) := fun v b h => known_sample [5, 1, 3] (by simp) (by simp) (by simp) v b 10 0 h
  have S2 : Hid (∀ (v : World) (b : Nat), Play w v b 1 10 3 → Calls Try.prog 11 #[.pointer (some ⟨b, 0, none⟩), .slice (some ⟨v.heap.size, 0, none⟩) 2 2] (v.alloc (.cells #[.int .i64 4611686018427387904, .int .i64 7] 2)) fun e w' => e = .returned (.int .i64 7) ∧ Play w w' b 1 10 7) := fun v b h => known_sample [4611686018427387904, 7] (by simp) (by simp) (by simp) v b 10 3 h
  have S3 : Hid (∀ (v : World) (b : Nat), Play w v b 1 10 7 → Calls Try.prog 11 #[.pointer (some ⟨b, 0, none⟩), .slice (some ⟨v.heap.size, 0, none⟩) 1 1] (v.alloc (.cells #[.int .i64 (-9223372036854775808)] 2)) fun e w' => e = .returned (.int .i64 (-1099511627776)) ∧ Play w w' b 1 10 (-1099511627776)) := fun v b h => known_sample [-9223372036854775808] (by simp) (by simp) (by simp) v b 10 7 h
  have S4 : Hid (∀ (v : World) (b : Nat), Play w v b 1 10 (-1099511627776) → Calls Try.prog 11 #[.pointer (some ⟨b, 0, none⟩), .slice (some ⟨v.heap.size, 0, none⟩) 1 1] (v.alloc (.cells #[.int .i64 1125899906842624] 2)) fun e w' => e = .returned (.int .i64 1099511627776) ∧ Play w w' b 1 10 1099511627776) := fun v b h => known_sample [1125899906842624] (by simp) (by simp) (by simp) v b 10 (-1099511627776) h
  have R1 : Hid (∀ u b, Play w u b 1 10 (-1099511627776) → Calls Try.prog 12 #[.pointer (some ⟨b, 0, none⟩), .int .i64 9223372036854775807] u fun e w' => e = .returned (.int .i64 36028797018963967) ∧ Play w w' b 1 10 (-1099511627776)) := fun u b h => (dread_any b 1 10 (-1099511627776) 9223372036854775807 u h.ck (by omega) (by omega) (by omega) (by omega) (by omega) (by omega)).mono (by rintro e u' ⟨rfl, hb⟩; exact ⟨rfl, h.step hb⟩)
  have R2 : Hid (∀ u b, Play w u b 1 10 1099511627776 → Calls Try.prog 12 #[.pointer (some ⟨b, 0, none⟩), .int .i64 5] u fun e w' => e = .returned (.int .i64 1099511627781) ∧ Play w w' b 1 10 1099511627776) := fun u b h => (dread_any b 1 10 1099511627776 5 u h.ck (by omega) (by omega) (by omega) (by omega) (by omega) (by omega)).mono (by rintro e u' ⟨rfl, hb⟩; exact ⟨rfl, h.step hb⟩)
  have R3 : Hid (∀ u b, Play w u b 1 36028797018963967 1099511627776 → Calls Try.prog 12 #[.pointer (some ⟨b, 0, none⟩), .int .i64 (-1)] u fun e w' => e = .returned (.int .i64 36028797018963967) ∧ Play w w' b 1 36028797018963967 1099511627776) := fun u b h => (dread_any b 1 36028797018963967 1099511627776 (-1) u h.ck (by omega) (by omega) (by omega) (by omega) (by omega) (by omega)).mono (by rintro e u' ⟨rfl, hb⟩; exact ⟨rfl, h.step hb⟩)
  have E1 : Hid (∀ u b, Play w u b 1 10 1099511627776 → Calls Try.prog 13 #[.pointer (some ⟨b, 0, none⟩), .agg #[.int .i64 10, .int .u8 0]] u fun e w' => e = .returned (.bool false) ∧ Play w w' b 1 10 1099511627776) := fun u b h => (dsee_any b 1 10 1099511627776 10 0 u h.ck (by omega) (by omega)).mono (by rintro e u' ⟨rfl, hg⟩; exact ⟨rfl, h.went hg⟩)
  have E2 : Hid (∀ u b, Play w u b 1 10 1099511627776 → Calls Try.prog 13 #[.pointer (some ⟨b, 0, none⟩), .agg #[.int .i64 36028797018963967, .int .u8 0]] u fun e w' => e = .returned (.bool true) ∧ Play w w' b 1 36028797018963967 1099511627776) := fun u b h => (dsee_any b 1 10 1099511627776 36028797018963967 0 u h.ck (by omega) (by omega)).mono (by rintro e u' ⟨rfl, hg⟩; exact ⟨rfl, h.went hg⟩)
  have I1 : Hid (∀ u b, Play w u b 1 36028797018963967 1099511627776 → Calls Try.prog 14 #[.pointer (some ⟨b, 0, none⟩), .int .i64 0] u fun e w' => e = .returned (.tuple #[.agg #[.int .i64 0, .int .u8 0], .int .i64 12]) ∧ Play w w' b 1 36028797018963967 1099511627776) := fun u b h => (dissue_spent b 1 1099511627776 0 u h.ck (by omega) (by omega)).mono (by rintro e u' ⟨rfl, hb⟩; exact ⟨rfl, h.step hb⟩)
  have O1 : Hid (∀ u b, Play w u b 1 36028797018963967 1099511627776 → Calls Try.prog 15 #[.pointer (some ⟨b, 0, none⟩)] u fun e w' => e = .returned (.int .i64 1099511627776) ∧ Play w w' b 1 36028797018963967 1099511627776) := fun u b h => (doffset_any b 1 36028797018963967 1099511627776 u h.ck).mono (by rintro e u' ⟨rfl, hb⟩; exact ⟨rfl, h.step hb⟩)
  have hmk : ∀ u : World, (Instr.makeSlice 28 (.int .i64 65) (.int .i64 65)).run Try.prog u = .ok (.slice (some ⟨u.heap.size, 0, none⟩) 65 65) (u.alloc (.cells (zer 65) 2)) := fun u => run_i64s u 65 (by omega)
  go_enter Try.func3, Try.ntmps3
  go_wp2_with (first | (go_at_call 11; have hgo := P15.out; clear hgo; refine (SO.out _ _ _ _ _ _ _ (.inr (by omega)) (by first | exact P15.out | exact P15.out.past _)).mono ?_; rintro e v16 ⟨rfl, hp⟩; have P16 : Hid (Play w v16 b 1 36028797018963967 1099511627776) := hp; clear hp) | (go_at_call 15; have hgo := P14.out; clear hgo; refine (O1.out _ _ (by first | exact P14.out | exact P14.out.past _)).mono ?_; rintro e v15 ⟨rfl, hp⟩; have P15 : Hid (Play w v15 b 1 36028797018963967 1099511627776) := hp; clear hp) | (go_at_call 12; have hgo := P13.out; clear hgo; refine (R3.out _ _ (by first | exact P13.out | exact P13.out.past _)).mono ?_; rintro e v14 ⟨rfl, hp⟩; have P14 : Hid (Play w v14 b 1 36028797018963967 1099511627776) := hp; clear hp) | (go_at_call 14; have hgo := P12.out; clear hgo; refine (I1.out _ _ (by first | exact P12.out | exact P12.out.past _)).mono ?_; rintro e v13 ⟨rfl, hp⟩; have P13 : Hid (Play w v13 b 1 36028797018963967 1099511627776) := hp; clear hp) | (go_at_call 13; have hgo := P11.out; clear hgo; refine (E2.out _ _ (by first | exact P11.out | exact P11.out.past _)).mono ?_; rintro e v12 ⟨rfl, hp⟩; have P12 : Hid (Play w v12 b 1 36028797018963967 1099511627776) := hp; clear hp) | (go_at_call 13; have hgo := P10.out; clear hgo; refine (E1.out _ _ (by first | exact P10.out | exact P10.out.past _)).mono ?_; rintro e v11 ⟨rfl, hp⟩; have P11 : Hid (Play w v11 b 1 10 1099511627776) := hp; clear hp) | (go_at_call 12; have hgo := P9.out; clear hgo; refine (R2.out _ _ (by first | exact P9.out | exact P9.out.past _)).mono ?_; rintro e v10 ⟨rfl, hp⟩; have P10 : Hid (Play w v10 b 1 10 1099511627776) := hp; clear hp) | (go_at_call 11; have hgo := P8.out; clear hgo; refine (S4.out _ _ P8.out).mono ?_; rintro e v9 ⟨rfl, hp⟩; have P9 : Hid (Play w v9 b 1 10 1099511627776) := hp; clear hp) | (go_at_call 12; have hgo := P7.out; clear hgo; refine (R1.out _ _ (by first | exact P7.out | exact P7.out.past _)).mono ?_; rintro e v8 ⟨rfl, hp⟩; have P8 : Hid (Play w v8 b 1 10 (-1099511627776)) := hp; clear hp) | (go_at_call 11; have hgo := P6.out; clear hgo; refine (S3.out _ _ P6.out).mono ?_; rintro e v7 ⟨rfl, hp⟩; have P7 : Hid (Play w v7 b 1 10 (-1099511627776)) := hp; clear hp) | (go_at_call 11; have hgo := P5.out; clear hgo; refine (S2.out _ _ P5.out).mono ?_; rintro e v6 ⟨rfl, hp⟩; have P6 : Hid (Play w v6 b 1 10 7) := hp; clear hp) | (go_at_call 11; have hgo := P4.out; clear hgo; refine (S1.out _ _ P4.out).mono ?_; rintro e v5 ⟨rfl, hp⟩; have P5 : Hid (Play w v5 b 1 10 3) := hp; clear hp) | (go_at_call 11; have hgo := P3.out; clear hgo; refine (SO.out _ _ _ _ _ _ _ (.inl (by omega)) (by first | exact P3.out | exact P3.out.past _)).mono ?_; rintro e v4 ⟨rfl, hp⟩; have P4 : Hid (Play w v4 b 1 10 0) := hp; clear hp) | (go_at_call 10; have hgo := B2.out; clear hgo; refine (N3.out _ B2.out).mono ?_; rintro e v3 ⟨b, rfl, hp⟩; have P3 : Hid (Play w v3 b 1 10 0) := hp; clear hp) | (go_at_call 10; have hgo := B1.out; clear hgo; refine (N2.out _ B1.out).mono ?_; rintro e v2 ⟨rfl, hp⟩; have B2 : Hid (Below w.heap.size w v2) := hp; clear hp) | (go_at_call 10; have hgo := B0.out; clear hgo; refine (N1.out _ B0.out).mono ?_; rintro e v1 ⟨rfl, hp⟩; have B1 : Hid (Below w.heap.size w v1) := hp; clear hp) | (go_at_call 9; refine (AW.out _).mono ?_; rintro e v0 ⟨rfl, hp⟩; have B0 : Hid (Below w.heap.size w v0) := hp; clear hp))
  go_ret
  exact ⟨rfl, P16.out.below⟩

set_option maxRecDepth 100000 in
theorem lifted (os : Os) (started : os.Started) (H : Type) (enc : TypeId × Value → H) :
    ReturnsInHanded {} Try.checked os 3 .any (Rows.discKnownSpec.pre6 enc Try.prog Try.f3 Rows.discKnownRow.domain false) (Rows.discKnownSpec.post enc Try.prog Try.f3 false true false false) := by
  refine returnsInHanded_of_change (C := Try.checked) own started (by kernel_rfl) Try.func3
    (ChangeSpec.witness6 (enc := enc) (C := Try.checked) false ⟨#[], #[], []⟩ 8 (by kernel_rfl) (by kernel_rfl) (by kernel_rfl) (by kernel_rfl)) ?_
  intro W base args ds gs before hval0 hW hcnd _
  have hval : ∀ (j : Nat) t v, Try.f3.params[j]? = some t → args[j]? = some v → Value.okWide Try.prog W .any base t v := hval0
  have hW' := hW
  obtain ⟨p, q, hA0, hV, rfl, hfz, hnd⟩ := hW
  have hA : DataW.TrodAll enc Try.prog W 0 (fun _ => true) true Try.f3.params.toList args.toList ds p := hA0
  rw [Try.params3] at hA hval
  obtain ⟨hargs, rfl, rfl⟩ := trodAll_nil hA
  obtain rfl : args = #[] := by cases args; simp_all
  obtain ⟨rfl, rfl⟩ := trodVars_none hV
  clear hA0 hval0
  refine (walk  W ).mono fun e W' ⟨he, bel⟩ => ?_
  subst he
  exact ⟨_, rfl, _, _, _, [], _, [], hW', trodAll_mk1 (shut_bool Try.underlying4 _), trodAll_mk0, rfl, bel.frame _, fun h => by cases h⟩

theorem over : Rows.discKnownRow.holds Try.pinned (OpenSpec.ofChange Rows.discKnownSpec) :=
  OpenClaim.holds_of_wide 3 Try.f3 rfl rfl rfl rfl rfl rfl rfl ⟨rfl, rfl, rfl, rfl, rfl⟩ rfl rfl rfl rfl rfl (by kernel_rfl) Try.func3 (by kernel_rfl)
    (of_decide_eq_true (by kernel_rfl)) (by unfold Func.isWrapper; first | (rw [if_pos (by decide +kernel)]; kernel_rfl) | (rw [if_neg (by decide +kernel)]; exact ⟨rfl, rfl⟩))
    (fun os started H enc _ => lifted os started H enc)
theorem proved : Rows.DiscKnownSaid := over
#print axioms proved
end Go.Proofs.Ytmibmblgaofikaa.discKnown
namespace Go.Proofs.Ytmibmblgaofikaa
/-- DiscKnown, as given. -/
theorem discKnown_holds : Rows.DiscKnownSaid := discKnown.proved
end Go.Proofs.Ytmibmblgaofikaa
