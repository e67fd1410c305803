/-
  BitsBack: for every number and every bytes behind it the law's Go text returns true: the number is read back, signs are unfolded as they were folded, both ways. No conditions.
-/
import Derived.Test.YtpbjdhinogphfaaRows
import Derived.Test.YtpbjdhinogphfaaAppend
import Derived.Test.YtpbjdhinogphfaaLeafA
import Derived.WalkKit
import Derived.ProofKit
import Derived.OpenShut
import Derived.ShutString
import Derived.ChangeOld
import Derived.Below
namespace Go.Proofs.Ytpbjdhinogphfaa.bitsBack
open Go.ChangeShapes Go.WideShapes Go.ChangeAt Go.RowKit
open Go.ChangeMaps (open_string shut_string)
set_option linter.unusedVariables false

theorem own : ownKnob Try.prog.godebug = none := by kernel_rfl
theorem laidOut : laidOutB Try.prog = true := by kernel_rfl

/-- WHAT THE WALK IS TOLD OF A SLICE OF INTEGERS THAT CAME IN: it is nil; or it leads to a row of 'cap' cells, the numbers 'zs' (the first 'len' are its elements, the rest its spare room), each fitting its kind. -/
def IsRow (k : IntKind) (w : World) (a : Option Addr) (len cap : Nat) (zs : List Int) : Prop :=
  (a = none ∧ len = 0 ∧ cap = 0 ∧ zs = []) ∨
  ∃ x, a = some x ∧ len ≤ cap ∧ cap ≤ maxLen ∧ zs.length = cap ∧ (∀ i, i < zs.length → w.cell? (x.add i) = some (.int k (zs.getD i 0))) ∧ ∀ n ∈ zs, (Lit.int k n).wf = true

theorem get_back (v : Int) (h0 : 0 ≤ v) (h1 : v ≤ 18446744073709551615) (zs : List Int) (len : Nat) (hl : zs.length = len) (hlen : len ≤ 100) (a : Option Addr) (c base : Nat) (w : World)
    (hown : w.ownsRow base 5 1 (.slice a ((Pl.putI v).length + len) c) ((Pl.putI v).length + len) (bs (Pl.putI v ++ zs))) (hz : ∀ z ∈ Pl.putI v ++ zs, 0 ≤ z ∧ z ≤ 255) :
    Calls Try.prog 10 #[.slice a ((Pl.putI v).length + len) c] w fun e w' => e = .returned (.tuple #[.int .u64 v, .int .i64 ((Pl.putI v).length : Int), .int .i64 0]) ∧ w' = w := by
  have hp : (Pl.putI v).length ≤ 10 := Pl.put_length_le 9 v
  have h := get_any a c (Pl.putI v ++ zs) w (own_row hown hz) (by rw [List.length_append]; omega)
  rw [Pl.get_put v zs h0 h1, List.length_append, hl] at h
  exact h

theorem walk (a0 : Int) (a1 : Option Addr) (len1 cap1 : Nat) (z1 : List Int) (w : World) (w0 : (Lit.int .u64 a0).wf = true) (w1 : IsRow .u8 w a1 len1 cap1 z1) :
    Calls Try.prog 6 #[.int .u64 a0, .slice a1 len1 cap1] w fun e w' => e = .returned (.bool true) ∧ Below w.heap.size w w' := by
  obtain ⟨l0, l1⟩ := bounds_u64 w0
  have hnil : a1 = none → len1 = 0 ∧ cap1 = 0 := by
    rcases w1 with ⟨_, h, h', _⟩ | ⟨x, rfl, _⟩
    · exact fun _ => ⟨h, h'⟩
    · intro h; cases h
  obtain ⟨zs, hl, hrow⟩ := row_of w1
  clear w0 w1
  by_cases h100 : 100 < len1
  · have h100' : (100 : Int) < (len1 : Int) := by omega
    clear hl hrow hnil
    go_enter Try.func6, Try.ntmps6
    go_wp2_with (go_at_call 9; refine (awake_any _).mono ?_; rintro e w1 ⟨rfl, hb⟩)
    go_ret
    exact ⟨rfl, hb⟩
  · have HP : Hid (∀ w1, Calls Try.prog 18 #[.slice none 0 0, .int .u64 a0] w1 fun e w' => e = .returned (.slice (some ⟨w1.heap.size, 0, none⟩) (Pl.putI a0).length (Pl.putI a0).length) ∧ Row w' (some ⟨w1.heap.size, 0, none⟩) (Pl.putI a0) ∧ Below w1.heap.size w1 w' ∧ w1.heap.size < w'.heap.size) := by
      intro w1; simpa using put_row none 0 [] a0 w1 (Row.nil _ _) (by simp) l0 l1
    have hwb : -9223372036854775808 ≤ wrap64 a0 ∧ wrap64 a0 ≤ 9223372036854775807 := by unfold wrap64; omega
    have hzb := Pl.zig_bd (wrap64 a0) hwb.1 hwb.2
    have hgb := Pl.zag_bd a0 l0 l1
    have Z1 : Hid (∀ w1, Calls Try.prog 12 #[.int .i64 (wrap64 a0)] w1 fun e w' => e = .returned (.int .u64 (Pl.zigI (wrap64 a0))) ∧ w' = w1) := fun w1 => zig_any _ w1 hwb.1 hwb.2
    have Z2 : Hid (∀ w1, Calls Try.prog 13 #[.int .u64 (Pl.zigI (wrap64 a0))] w1 fun e w' => e = .returned (.int .i64 (wrap64 a0)) ∧ w' = w1) := fun w1 => by
      have := zag_any _ w1 hzb.1 hzb.2; rw [Pl.zag_zig] at this; exact this
    have Z3 : Hid (∀ w1, Calls Try.prog 13 #[.int .u64 a0] w1 fun e w' => e = .returned (.int .i64 (Pl.zagI a0)) ∧ w' = w1) := fun w1 => zag_any _ w1 l0 l1
    have Z4 : Hid (∀ w1, Calls Try.prog 12 #[.int .i64 (Pl.zagI a0)] w1 fun e w' => e = .returned (.int .u64 a0) ∧ w' = w1) := fun w1 => by
      have := zig_any _ w1 hgb.1 hgb.2; rw [Pl.zig_zag a0 l0] at this; exact this
    have HL : Hid (zs.length = len1) := hl
    have HR : Hid (Row w a1 zs) := hrow
    have HN : Hid (a1 = none → len1 = 0 ∧ cap1 = 0) := hnil
    have hpl : (Pl.putI a0).length ≤ 10 := Pl.put_length_le 9 a0
    have HPB : Hid (∀ z ∈ Pl.putI a0, 0 ≤ z ∧ z ≤ 255) := Pl.put_bytes 9 a0 (Pl.fits_start a0 l0 l1)
    have HAB : Hid (∀ z ∈ Pl.putI a0 ++ zs, 0 ≤ z ∧ z ≤ 255) := fun z hz => by
      rcases List.mem_append.1 hz with h | h
      · exact HPB.out z h
      · exact hrow.bytes z h
    clear hl hrow hnil
    go_enter Try.func6, Try.ntmps6
    go_wp2_with (first | (go_at_call 9; refine (awake_any _).mono ?_; rintro e w1 ⟨rfl, hb⟩) | (go_at_call 18; refine (HP.out _).mono ?_; rintro e w2 ⟨rfl, hrow2, hb2, hs2⟩; have HROW2 : Hid (Row w2 (some ⟨w1.heap.size, 0, none⟩) (Pl.putI a0)) := hrow2; clear hrow2) | (at_builtin; refine wpList_append_new rfl (.tmp 17) (.tmp 18) rfl rfl (Pl.putI a0) _ _ _ rfl HROW2.out rfl (fun h => by cases h) (by omega) ?_; intro b3 c3 w3 hown3 hb3; have HOWN3 : Hid (w3.ownsRow w2.heap.size 5 1 (.slice b3 (Pl.putI a0).length c3) (Pl.putI a0).length (bs (Pl.putI a0))) := hown3; clear hown3) | (at_builtin; refine wpList_append_on rfl (.tmp 19) (.tmp 20) rfl w2.heap.size w2 hb3 hb3.size _ _ (Pl.putI a0) zs rfl HOWN3.out _ _ _ rfl (((HR.out.below hb (Nat.le_refl _)).below hb2 (Nat.le_refl _)).below hb3 (Nat.le_refl _)) HL.out HN.out HPB.out (by omega) ?_; intro b4 c4 w4 hown4 hb4; have HOWN4 : Hid _ := hown4; clear hown4) | (go_at_call 10; refine (get_back a0 l0 l1 zs len1 HL.out (by omega) b4 c4 w2.heap.size _ HOWN4.out HAB.out).mono ?_; rintro e w5 ⟨rfl, hw⟩; obtain rfl := hw.symm; clear hw) | (go_at_call_of 12 (Value.int IntKind.i64 (wrap64 a0)); refine (Z1.out _).mono ?_; rintro e w5 ⟨rfl, hw⟩; obtain rfl := hw.symm; clear hw) | (go_at_call_of 13 (Value.int IntKind.u64 (Pl.zigI (wrap64 a0))); refine (Z2.out _).mono ?_; rintro e w5 ⟨rfl, hw⟩; obtain rfl := hw.symm; clear hw) | (go_at_call_of 13 (Value.int IntKind.u64 a0); refine (Z3.out _).mono ?_; rintro e w5 ⟨rfl, hw⟩; obtain rfl := hw.symm; clear hw) | (go_at_call_of 12 (Value.int IntKind.i64 (Pl.zagI a0)); refine (Z4.out _).mono ?_; rintro e w5 ⟨rfl, hw⟩; obtain rfl := hw.symm; clear hw))
    go_ret
    exact ⟨rfl, hb.trans ((hb2.mono hb.size).trans (hb4.mono (Nat.le_trans hb.size hb2.size)))⟩

/-! ### THE ROW's STEP: WRITTEN OUT: LEAVE IT -/
set_option maxRecDepth 100000 in
theorem lifted (os : Os) (started : os.Started) (H : Type) (enc : TypeId × Value → H) :
    ReturnsInHanded {} Try.checked os 6 .any (Rows.bitsBackSpec.pre6 enc Try.prog Try.f6 Rows.bitsBackRow.domain false) (Rows.bitsBackSpec.post enc Try.prog Try.f6 false true false false) := by
  refine returnsInHanded_of_change (C := Try.checked) own started (by kernel_rfl) Try.func6
    (ChangeSpec.witness6 (enc := enc) (C := Try.checked) false ⟨#[], #[.int .u64 0, .slice none 0 0], []⟩ 8 (by kernel_rfl) (by kernel_rfl) (by kernel_rfl) (by kernel_rfl)) ?_
  intro W base args ds gs before hval0 hW hcnd _
  have hval : ∀ (j : Nat) t v, Try.f6.params[j]? = some t → args[j]? = some v → Value.okWide Try.prog W .any base t v := hval0
  have hW' := hW
  obtain ⟨p, q, hA0, hV, rfl, hfz, hnd⟩ := hW
  have hA : DataW.TrodAll enc Try.prog W 0 (fun _ => true) true Try.f6.params.toList args.toList ds p := hA0
  rw [Try.params6] at hA hval
  obtain ⟨v0, vs0, d0, ds0, p0, q0, hargs, rfl, rfl, h0, r0⟩ := trodAll_cons hA
  obtain ⟨v1, vs1, d1, ds1, p1, q1, rfl, rfl, rfl, h1, r1⟩ := trodAll_cons r0
  obtain ⟨rfl, rfl, rfl⟩ := trodAll_nil r1
  obtain rfl : args = #[v0, v1] := by cases args; simp_all
  obtain ⟨rfl, rfl⟩ := trodVars_none hV
  obtain ⟨a0, rfl, rfl, rfl, w0⟩ := open_int Try.underlying23 (hval 0 23 v0 rfl rfl) h0
  obtain ⟨a1, len1, cap1, rfl⟩ := okWide_slice Try.underlying27 (hval 1 27 v1 rfl rfl)
  have k1 := h1
  have lt1 : ∀ x ∈ p1, x.block < W.heap.size := by obtain ⟨m, hm⟩ := k1; exact DataW.trod_lt m _ _ _ hm
  obtain ⟨z1, w1⟩ : ∃ zs, IsRow .u8 W a1 len1 cap1 zs := by
    obtain ⟨fuel, hf⟩ := h1
    rcases open_ints Try.underlying27 Try.underlying5 (by kernel_rfl) hf with ⟨hcs, _⟩ | ⟨x, l, c, zs, hcs, _, hl, hm, hz, _, hcell, hwz⟩
    · simp [Value.cells] at hcs
      obtain ⟨rfl, rfl, rfl⟩ := hcs
      exact ⟨[], .inl ⟨rfl, rfl, rfl, rfl⟩⟩
    · simp [Value.cells] at hcs
      obtain ⟨rfl, rfl, rfl⟩ := hcs
      exact ⟨zs, .inr ⟨_, rfl, hl, hm, by simpa using hz, hcell, hwz⟩⟩
  clear hA0 hval0
  refine (walk a0 a1 len1 cap1 z1 W w0 w1).mono fun e W' ⟨he, bel⟩ => ?_
  subst he
  exact ⟨_, rfl, _, _, _, [], _, [], hW', trodAll_mk1 (shut_bool Try.underlying4 _), (trodAll_cons_mk (shut_int Try.underlying23 w0) (trodAll_cons_mk (Below.trod laidOut (by kernel_rfl) (of_decide_eq_true (by kernel_rfl)) k1 bel lt1) trodAll_mk0)), rfl, bel.frame _, fun h => by cases h⟩

theorem over : Rows.bitsBackRow.holds Try.pinned (OpenSpec.ofChange Rows.bitsBackSpec) :=
  OpenClaim.holds_of_wide 6 Try.f6 rfl rfl rfl rfl rfl rfl rfl ⟨rfl, rfl, rfl, rfl, rfl⟩ rfl rfl rfl rfl rfl (by kernel_rfl) Try.func6 (by kernel_rfl)
    (of_decide_eq_true (by kernel_rfl)) (by unfold Func.isWrapper; first | (rw [if_pos (by decide +kernel)]; kernel_rfl) | (rw [if_neg (by decide +kernel)]; exact ⟨rfl, rfl⟩))
    (fun os started H enc _ => lifted os started H enc)

/-- ████ THE STATEMENT ████ -/
theorem proved : Rows.BitsBackSaid := over
#print axioms proved
end Go.Proofs.Ytpbjdhinogphfaa.bitsBack
namespace Go.Proofs.Ytpbjdhinogphfaa
/-- BitsBack, as given. -/
theorem bitsBack_holds : Rows.BitsBackSaid := bitsBack.proved
end Go.Proofs.Ytpbjdhinogphfaa
