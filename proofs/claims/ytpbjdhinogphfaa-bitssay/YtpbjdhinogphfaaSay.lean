/-
  BitsSay: for every number, every count of bits and every bytes ahead the law's Go text returns true: a number's bytes, folded, cut, with a sign, are as the document's own reckoning says. No conditions.
-/
import Derived.Test.YtpbjdhinogphfaaRows
import Derived.Test.YtpbjdhinogphfaaAppend
import Derived.Test.YtpbjdhinogphfaaRefPut
import Derived.Test.YtpbjdhinogphfaaRef
import Derived.WalkKit
import Derived.ProofKit
import Derived.OpenShut
import Derived.ShutString
import Derived.ChangeOld
import Derived.Below
import Derived.Deep.RegionHeld3
namespace Go.Proofs.Ytpbjdhinogphfaa.bitsSay
open Go.ChangeShapes Go.WideShapes Go.ChangeAt Go.RowKit
open Go.ChangeMaps (open_string shut_string)
set_option linter.unusedVariables false

theorem own : ownKnob Try.prog.godebug = none := by kernel_rfl
theorem laidOut : laidOutB Try.prog = true := by kernel_rfl

/-- WHAT THE WALK IS TOLD OF A SLICE OF INTEGERS THAT CAME IN: it is nil; or it leads to a row of 'cap' cells, the numbers 'zs' (the first 'len' are its elements, the rest its spare room), each fitting its kind. -/
def IsRow (k : IntKind) (w : World) (a : Option Addr) (len cap : Nat) (zs : List Int) : Prop :=
  (a = none ∧ len = 0 ∧ cap = 0 ∧ zs = []) ∨
  ∃ x, a = some x ∧ len ≤ cap ∧ cap ≤ maxLen ∧ zs.length = cap ∧ (∀ i, i < zs.length → w.cell? (x.add i) = some (.int k (zs.getD i 0))) ∧ ∀ n ∈ zs, (Lit.int k n).wf = true

/-- One operation of the law's last statement, behind a name of its own: the bytes that Put has answered, as a text. -/
def op5 (p : String) : Oper := { dst := some 38, op := Op.convert 27 9 (Operand.tmp 37), type := 9, pos := p, after := #[{ on := 4, ground := Ground.data }], guard := none }
theorem say_str (zs ps : List Int) : ((strOfNums (zs ++ ps)).toList == (strOfNums zs ++ strOfNums ps).toList) = true := by
  rw [ByteArray.toList_eq, ByteArray.toList_eq, ByteArray.data_append]
  simp [strOfNums]
theorem put_new (ax : Option Addr) (n cx : Nat) (zs : List Int) (v : Int) (w : World) (hn : zs.length = n) (hrow : Row w ax zs) (hm : n ≤ 400) (h0 : 0 ≤ v) (h1 : v ≤ 18446744073709551615) :
    Calls Try.prog 18 #[.slice ax n cx, .int .u64 v] w fun e w' => ∃ a' m, e = .returned (.slice a' m m) ∧ (zs ++ Pl.putI v).length = m ∧ Row w' a' (zs ++ Pl.putI v) ∧ Below w.heap.size w w' := by
  subst hn
  refine (put_row ax cx zs v w hrow (by omega) h0 h1).mono ?_
  rintro e w' ⟨rfl, h2, h3, _⟩
  exact ⟨_, _, rfl, rfl, h2, h3⟩
theorem rput_new (x : Int) (w : World) (h0 : 0 ≤ x) (h1 : x ≤ 18446744073709551615) :
    Calls Try.prog 16 #[.int .u64 x] w fun e w' => ∃ a cap, e = .returned (.slice a (Pl.putI x).length cap) ∧ Row w' a (Pl.putI x) ∧ Below w.heap.size w w' :=
  rput_any 9 x w (Nat.le_refl _) (Pl.fits_start x h0 h1) h0 h1
theorem str_at {w : World} {a : Option Addr} {zs : List Int} {n : Nat} (hn : zs.length = n) (h : Row w a zs) (cap : Nat) :
    (convert 27 9 (.slice a n cap)).run Try.prog w = .ok (.string (strOfNums zs)) w := by subst hn; exact str_of_row h cap

set_option maxHeartbeats 800000 in
theorem walk (a0 : Int) (a1 : Int) (a2 : Option Addr) (len2 cap2 : Nat) (z2 : List Int) (w : World) (w0 : (Lit.int .u64 a0).wf = true) (w1 : (Lit.int .i64 a1).wf = true) (w2 : IsRow .u8 w a2 len2 cap2 z2) :
    Calls Try.prog 4 #[.int .u64 a0, .int .i64 a1, .slice a2 len2 cap2] w fun e w' => e = .returned (.bool true) ∧ Below w.heap.size w w' := by
  obtain ⟨l0, l1⟩ := bounds_u64 w0
  obtain ⟨m0, m1⟩ := bounds_i64 w1
  have hnil : a2 = none → len2 = 0 ∧ cap2 = 0 := by
    rcases w2 with ⟨_, h, h', _⟩ | ⟨x, rfl, _⟩
    · exact fun _ => ⟨h, h'⟩
    · intro h; cases h
  obtain ⟨zs, hl, hrow⟩ := row_of w2
  clear w0 w1 w2
  by_cases h100 : 100 < len2
  · have h100' : (100 : Int) < (len2 : Int) := by omega
    clear hl hrow hnil
    go_enter Try.func4, Try.ntmps4
    go_wp2_with (go_at_call 9; refine (awake_any _).mono ?_; rintro e w1 ⟨rfl, hb⟩)
    go_ret
    exact ⟨rfl, hb⟩
  · have hwb : -9223372036854775808 ≤ wrap64 a0 ∧ wrap64 a0 ≤ 9223372036854775807 := by unfold wrap64; omega
    have hpl : (Pl.putI a0).length ≤ 10 := Pl.put_length_le 9 a0
    have hp1 : 1 ≤ (Pl.putI a0).length := Pl.put_length_pos 9 a0
    have RP : Hid (∀ w1, Calls Try.prog 16 #[.int .u64 a0] w1 fun e w' => ∃ a cap, e = .returned (.slice a (Pl.putI a0).length cap) ∧ Row w' a (Pl.putI a0) ∧ Below w1.heap.size w1 w') := fun w1 => rput_new a0 w1 l0 l1
    have CU : Hid (∀ w1, Calls Try.prog 11 #[.int .i64 (wrap64 a0), .int .i64 a1] w1 fun e w' => e = .returned (.tuple #[.int .u64 (Pl.lowI (wrap64 a0) a1), .bool (Pl.signI (wrap64 a0) a1 == wrap64 a0)]) ∧ w' = w1) := fun w1 => cut_any _ a1 w1 hwb.1 hwb.2 m0 m1
    have RC : Hid (∀ w1, Calls Try.prog 17 #[.int .i64 (wrap64 a0), .int .i64 a1] w1 fun e w' => e = .returned (.tuple #[.int .u64 (Pl.lowI (wrap64 a0) a1), .bool (Pl.signI (wrap64 a0) a1 == wrap64 a0)]) ∧ w' = w1) := fun w1 => rcut_any _ a1 w1 hwb.1 hwb.2 m0 m1
    have LE : Hid (∀ w1, Calls Try.prog 15 #[.int .u64 a0] w1 fun e w' => e = .returned (.int .i64 (Pl.putI a0).length) ∧ w' = w1) := fun w1 => len_any a0 w1 l0 l1
    have ew : IntKind.i64.wrap a0 = wrap64 a0 := by rw [IntKind.wrap_i64]; unfold wrap64; rfl
    have ZI : Hid (∀ w1, Calls Try.prog 12 #[.int .i64 (IntKind.i64.wrap a0)] w1 fun e w' => e = .returned (.int .u64 (Pl.zigI (wrap64 a0))) ∧ w' = w1) := fun w1 => by rw [ew]; exact zig_any _ w1 hwb.1 hwb.2
    have RZ : Hid (∀ w1, Calls Try.prog 19 #[.int .i64 (IntKind.i64.wrap a0)] w1 fun e w' => e = .returned (.int .u64 (Pl.zigI (wrap64 a0))) ∧ w' = w1) := fun w1 => by rw [ew]; exact rzig_any _ w1 hwb.1 hwb.2
    have ZA : Hid (∀ w1, Calls Try.prog 13 #[.int .u64 a0] w1 fun e w' => e = .returned (.int .i64 (Pl.zagI a0)) ∧ w' = w1) := fun w1 => zag_any _ w1 l0 l1
    have RA : Hid (∀ w1, Calls Try.prog 20 #[.int .u64 a0] w1 fun e w' => e = .returned (.int .i64 (Pl.zagI a0)) ∧ w' = w1) := fun w1 => rzag_any _ w1 l0 l1
    have SI : Hid (∀ w1, Calls Try.prog 14 #[.int .u64 a0, .int .i64 a1] w1 fun e w' => e = .returned (.int .i64 (Pl.signI a0 a1)) ∧ w' = w1) := fun w1 => sign_any a0 a1 w1 l0 l1 m0 m1
    have RS : Hid (∀ w1, Calls Try.prog 21 #[.int .u64 a0, .int .i64 a1] w1 fun e w' => e = .returned (.int .i64 (Pl.signI a0 a1)) ∧ w' = w1) := fun w1 => rsign_any a0 a1 w1 l0 l1 m0 m1
    have HL : Hid (zs.length = len2) := hl
    have HR : Hid (Row w a2 zs) := hrow
    have HN : Hid (a2 = none → len2 = 0 ∧ cap2 = 0) := hnil
    clear hl hrow hnil hwb ew
    generalize Pl.lowI (wrap64 a0) a1 = LO at *
    generalize (Pl.signI (wrap64 a0) a1 == wrap64 a0) = OK at *
    generalize Pl.signI a0 a1 = SG at *
    go_enter Try.func4, Try.ntmps4
    go_wp2_with (first | (go_at_call 9; refine (awake_any _).mono ?_; rintro e w1 ⟨rfl, hb⟩) | (go_at_call 16; refine (RP.out _).mono ?_; rintro e w2 ⟨ap, cp, rfl, hrow2, hb2⟩) | (go_at_call 11; refine (CU.out _).mono ?_; rintro e w5 ⟨rfl, hw⟩; obtain rfl := hw.symm; clear hw) | (go_at_call 17; refine (RC.out _).mono ?_; rintro e w5 ⟨rfl, hw⟩; obtain rfl := hw.symm; clear hw))
    have HB : Hid (Below w.heap.size w w2) := hb.trans (hb2.mono hb.size)
    have HRB : Hid (Row w2 a2 zs) := (HR.out.below hb (Nat.le_refl _)).below hb2 (Nat.le_refl _)
    have HRP : Hid (Row w2 ap (Pl.putI a0)) := hrow2
    clear hb hb2 hrow2 HR RP CU RC
    have KS : Hid (∀ w', Below w2.heap.size w2 w' → Below w2.heap.size w2 w' ∧ (convert 27 9 (.slice a2 len2 cap2)).run Try.prog w' = .ok (.string (strOfNums zs)) w' ∧ (convert 27 9 (.slice ap (Pl.putI a0).length cp)).run Try.prog w' = .ok (.string (strOfNums (Pl.putI a0))) w') :=
      fun w' h => ⟨h, str_at HL.out (HRB.out.below h (Nat.le_refl _)) cap2, str_at rfl (HRP.out.below h (Nat.le_refl _)) cp⟩
    have hadd : ∀ w', (Op.stringOp .add (strOfNums zs) (strOfNums (Pl.putI a0))).run Try.prog w' = .ok (.string (strOfNums zs ++ strOfNums (Pl.putI a0))) w' := fun w' => run_string_add_sum w' _ _ (by rw [strOfNums_size, strOfNums_size, HL.out]; omega)
    have heq := say_str zs (Pl.putI a0)
    have hop5 : ∀ p, op5 p = { dst := some 38, op := Op.convert 27 9 (Operand.tmp 37), type := 9, pos := p, after := #[{ on := 4, ground := Ground.data }], guard := none } := fun _ => rfl
    rw [← hop5]
    have HZ : Hid (∀ z ∈ zs, 0 ≤ z ∧ z ≤ 255) := HRB.out.bytes
    go_region_held3 (fun w' => Below w2.heap.size w2 w' ∧ (convert 27 9 (.slice a2 len2 cap2)).run Try.prog w' = .ok (.string (strOfNums zs)) w' ∧ (convert 27 9 (.slice ap (Pl.putI a0).length cp)).run Try.prog w' = .ok (.string (strOfNums (Pl.putI a0))) w') (first | exact KS.out _ (by assumption) | exact KS.out _ (Below.refl _ _).drew | exact KS.out _ ((Below.refl _ _).alloc (Nat.le_refl _) _).drew) (first | (refine step_append_first rfl (.tmp 33) (.tmp 34) rfl w2.heap.size _ zs rfl (World.ownsRow_made w2 #[] 0 (Nat.le_refl _) (by decide) rfl).drew _ _ _ rfl (HRB.out.below ((Below.refl _ _).alloc (Nat.le_refl _) _).drew (Nat.le_refl _)) HL.out HN.out (by omega) (by simp) w2 ((Below.refl _ _).alloc (Nat.le_refl _) _).drew ?_; intro a3 c3 w3 hown3 hb3; have HOWN3 : Hid (Row w3 a3 zs) := own_row hown3 HZ.out; clear hown3) | (go_at_call 18; refine (put_new _ _ _ zs a0 _ HL.out HOWN3.out (by omega) l0 l1).mono ?_; rintro e w5 ⟨a5, m5, rfl, hm5, hrow5, hb5⟩; have hb6 : Below w2.heap.size w2 w5 := hb3.trans (hb5.mono hb3.size); have hcv5 := str_at hm5 hrow5 m5; clear hm5 hrow5 hb5) | (go_at_call 15; refine (LE.out _).mono ?_; rintro e w6 ⟨rfl, hw⟩; obtain rfl := hw.symm; clear hw) | (go_at_call 12; refine (ZI.out _).mono ?_; rintro e w6 ⟨rfl, hw⟩; obtain rfl := hw.symm; clear hw) | (go_at_call 19; refine (RZ.out _).mono ?_; rintro e w6 ⟨rfl, hw⟩; obtain rfl := hw.symm; clear hw) | (go_at_call 13; refine (ZA.out _).mono ?_; rintro e w6 ⟨rfl, hw⟩; obtain rfl := hw.symm; clear hw) | (go_at_call 20; refine (RA.out _).mono ?_; rintro e w6 ⟨rfl, hw⟩; obtain rfl := hw.symm; clear hw) | (go_at_call 14; refine (SI.out _).mono ?_; rintro e w6 ⟨rfl, hw⟩; obtain rfl := hw.symm; clear hw) | (go_at_call 21; refine (RS.out _).mono ?_; rintro e w6 ⟨rfl, hw⟩; obtain rfl := hw.symm; clear hw))
    go_wp2
    go_ret
    exact ⟨rfl, HB.out.trans (hb6.mono HB.out.size)⟩

/-! ### THE ROW's STEP: WRITTEN OUT: LEAVE IT -/
set_option maxRecDepth 100000 in
theorem lifted (os : Os) (started : os.Started) (H : Type) (enc : TypeId × Value → H) :
    ReturnsInHanded {} Try.checked os 4 .any (Rows.bitsSaySpec.pre6 enc Try.prog Try.f4 Rows.bitsSayRow.domain false) (Rows.bitsSaySpec.post enc Try.prog Try.f4 false true false false) := by
  refine returnsInHanded_of_change (C := Try.checked) own started (by kernel_rfl) Try.func4
    (ChangeSpec.witness6 (enc := enc) (C := Try.checked) false ⟨#[], #[.int .u64 0, .int .i64 0, .slice none 0 0], []⟩ 8 (by kernel_rfl) (by kernel_rfl) (by kernel_rfl) (by kernel_rfl)) ?_
  intro W base args ds gs before hval0 hW hcnd _
  have hval : ∀ (j : Nat) t v, Try.f4.params[j]? = some t → args[j]? = some v → Value.okWide Try.prog W .any base t v := hval0
  have hW' := hW
  obtain ⟨p, q, hA0, hV, rfl, hfz, hnd⟩ := hW
  have hA : DataW.TrodAll enc Try.prog W 0 (fun _ => true) true Try.f4.params.toList args.toList ds p := hA0
  rw [Try.params4] at hA hval
  obtain ⟨v0, vs0, d0, ds0, p0, q0, hargs, rfl, rfl, h0, r0⟩ := trodAll_cons hA
  obtain ⟨v1, vs1, d1, ds1, p1, q1, rfl, rfl, rfl, h1, r1⟩ := trodAll_cons r0
  obtain ⟨v2, vs2, d2, ds2, p2, q2, rfl, rfl, rfl, h2, r2⟩ := trodAll_cons r1
  obtain ⟨rfl, rfl, rfl⟩ := trodAll_nil r2
  obtain rfl : args = #[v0, v1, v2] := by cases args; simp_all
  obtain ⟨rfl, rfl⟩ := trodVars_none hV
  obtain ⟨a0, rfl, rfl, rfl, w0⟩ := open_int Try.underlying23 (hval 0 23 v0 rfl rfl) h0
  obtain ⟨a1, rfl, rfl, rfl, w1⟩ := open_int Try.underlying3 (hval 1 3 v1 rfl rfl) h1
  obtain ⟨a2, len2, cap2, rfl⟩ := okWide_slice Try.underlying27 (hval 2 27 v2 rfl rfl)
  have k2 := h2
  have lt2 : ∀ x ∈ p2, x.block < W.heap.size := by obtain ⟨m, hm⟩ := k2; exact DataW.trod_lt m _ _ _ hm
  obtain ⟨z2, w2⟩ : ∃ zs, IsRow .u8 W a2 len2 cap2 zs := by
    obtain ⟨fuel, hf⟩ := h2
    rcases open_ints Try.underlying27 Try.underlying5 (by kernel_rfl) hf with ⟨hcs, _⟩ | ⟨x, l, c, zs, hcs, _, hl, hm, hz, _, hcell, hwz⟩
    · simp [Value.cells] at hcs
      obtain ⟨rfl, rfl, rfl⟩ := hcs
      exact ⟨[], .inl ⟨rfl, rfl, rfl, rfl⟩⟩
    · simp [Value.cells] at hcs
      obtain ⟨rfl, rfl, rfl⟩ := hcs
      exact ⟨zs, .inr ⟨_, rfl, hl, hm, by simpa using hz, hcell, hwz⟩⟩
  clear hA0 hval0
  refine (walk a0 a1 a2 len2 cap2 z2 W w0 w1 w2).mono fun e W' ⟨he, bel⟩ => ?_
  subst he
  exact ⟨_, rfl, _, _, _, [], _, [], hW', trodAll_mk1 (shut_bool Try.underlying4 _), (trodAll_cons_mk (shut_int Try.underlying23 w0) (trodAll_cons_mk (shut_int Try.underlying3 w1) (trodAll_cons_mk (Below.trod laidOut (by kernel_rfl) (of_decide_eq_true (by kernel_rfl)) k2 bel lt2) trodAll_mk0))), rfl, bel.frame _, fun h => by cases h⟩

theorem over : Rows.bitsSayRow.holds Try.pinned (OpenSpec.ofChange Rows.bitsSaySpec) :=
  OpenClaim.holds_of_wide 4 Try.f4 rfl rfl rfl rfl rfl rfl rfl ⟨rfl, rfl, rfl, rfl, rfl⟩ rfl rfl rfl rfl rfl (by kernel_rfl) Try.func4 (by kernel_rfl)
    (of_decide_eq_true (by kernel_rfl)) (by unfold Func.isWrapper; first | (rw [if_pos (by decide +kernel)]; kernel_rfl) | (rw [if_neg (by decide +kernel)]; exact ⟨rfl, rfl⟩))
    (fun os started H enc _ => lifted os started H enc)

/-- ████ THE STATEMENT ████ -/
theorem proved : Rows.BitsSaySaid := over
#print axioms proved
end Go.Proofs.Ytpbjdhinogphfaa.bitsSay
namespace Go.Proofs.Ytpbjdhinogphfaa
/-- BitsSay, as given. -/
theorem bitsSay_holds : Rows.BitsSaySaid := bitsSay.proved
end Go.Proofs.Ytpbjdhinogphfaa
