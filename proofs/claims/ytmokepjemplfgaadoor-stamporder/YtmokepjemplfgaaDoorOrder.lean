/-
  StampOrder: of every three stamps the order is one: turned about it turns, and goes on; the greatest is one; conditions: the library's tables hold what the program's own text lays (the card ties them, over the pruned copy).
-/
import Derived.Test.YtmokepjemplfgaaDoorRows
import Derived.Test.YtmokepjemplfgaaDoorStampAwake
import Derived.Test.YtmokepjemplfgaaDoorOrdGt1yl
import Derived.Test.YtmokepjemplfgaaDoorOrdGt1yg
import Derived.Test.YtmokepjemplfgaaDoorOrdGt2yl
import Derived.Test.YtmokepjemplfgaaDoorOrdGt2yg
import Derived.Test.YtmokepjemplfgaaDoorOrdLt1yg
import Derived.Test.YtmokepjemplfgaaDoorOrdLt1ye
import Derived.Test.YtmokepjemplfgaaDoorOrdLt1yl
import Derived.Test.YtmokepjemplfgaaDoorOrdLt2yg
import Derived.Test.YtmokepjemplfgaaDoorOrdLt2ye
import Derived.Test.YtmokepjemplfgaaDoorOrdLt2yl
import Derived.Test.YtmokepjemplfgaaDoorOrdEqyg
import Derived.Test.YtmokepjemplfgaaDoorOrdEqyl
import Derived.Test.YtmokepjemplfgaaDoorOrdEqye
import Derived.Test.YtmokepjemplfgaaDoorPairOpen
import Derived.Test.YtmokepjemplfgaaDoorCards
import Derived.Test.YtmokepjemplfgaaDoorTie
import Derived.Test.YtmokepjemplfgaaDoorStampLaid
import Derived.WalkKit
import Derived.ProofKit
import Derived.OpenShut
import Derived.ShutString
import Derived.ChangeOld
import Derived.Below
import Derived.Carry
import Derived.SevenTiedAt
import Derived.SizedLaws
import Derived.JoinedAt
namespace Go.Proofs.YtmokepjemplfgaaDoor.stampOrder
open Go.ChangeShapes Go.WideShapes Go.ChangeAt Go.RowKit
open Go.ChangeMaps (open_string shut_string)
set_option linter.unusedVariables false

theorem own : ownKnob Tryd.prog.godebug = none := by kernel_rfl
theorem laidOut : laidOutB Tryd.prog = true := by kernel_rfl
/-- A slice of integers that came in: nil, or a row of 'cap' cells, of which the first 'len' are its elements. -/
def IsRow (k : IntKind) (w : World) (a : Option Addr) (len cap : Nat) (zs : List Int) : Prop :=
  (a = none ∧ len = 0 ∧ cap = 0 ∧ zs = []) ∨
  ∃ x, a = some x ∧ len ≤ cap ∧ cap ≤ maxLen ∧ zs.length = cap ∧ (∀ i, i < zs.length → w.cell? (x.add i) = some (.int k (zs.getD i 0))) ∧ ∀ n ∈ zs, (Lit.int k n).wf = true

set_option maxHeartbeats 1000000 in
theorem walk (a0 b0 : Int) (a1 b1 : Int) (a2 b2 : Int) (w : World) (w0 : (Lit.int .i64 a0).wf = true) (x0 : (Lit.int .u8 b0).wf = true) (w1 : (Lit.int .i64 a1).wf = true) (x1 : (Lit.int .u8 b1).wf = true) (w2 : (Lit.int .i64 a2).wf = true) (x2 : (Lit.int .u8 b2).wf = true) (hR : Ready w) :
    Calls Tryd.prog 6 #[.agg #[.int .i64 a0, .int .u8 b0], .agg #[.int .i64 a1, .int .u8 b1], .agg #[.int .i64 a2, .int .u8 b2]] w fun e w' => e = .returned (.bool true) ∧ Below w.heap.size w w' := by
  clear w0 x0 w1 x1 w2 x2
  rcases cmp_ways a0 b0 a1 b1 with ⟨h | ⟨he, h⟩, _⟩ | ⟨he, he2, _⟩ | ⟨h | ⟨he, h⟩, _⟩
  · rcases cmp_ways a1 b1 a2 b2 with ⟨h2, _⟩ | ⟨e1, e2, _⟩ | ⟨h2, _⟩
    · exact ord_lt1yl a0 b0 a1 b1 a2 b2 w hR h h2
    · subst e1; subst e2; exact ord_lt1ye a0 b0 a1 b1 w hR h
    · exact ord_lt1yg a0 b0 a1 b1 a2 b2 w hR h h2
  · subst he
    rcases cmp_ways a0 b1 a2 b2 with ⟨h2, _⟩ | ⟨e1, e2, _⟩ | ⟨h2, _⟩
    · exact ord_lt2yl a0 b0 b1 a2 b2 w hR h h2
    · subst e1; subst e2; exact ord_lt2ye a0 b0 b1 w hR h
    · exact ord_lt2yg a0 b0 b1 a2 b2 w hR h h2
  · subst he; subst he2
    rcases cmp_ways a0 b0 a2 b2 with ⟨h2, _⟩ | ⟨e1, e2, _⟩ | ⟨h2, _⟩
    · exact ord_eqyl a0 b0 a2 b2 w hR h2
    · subst e1; subst e2; exact ord_eqye a0 b0 w hR
    · exact ord_eqyg a0 b0 a2 b2 w hR h2
  · by_cases h2 : ltS a1 b1 a2 b2
    · exact ord_gt1yl a0 b0 a1 b1 a2 b2 w hR h h2
    · exact ord_gt1yg a0 b0 a1 b1 a2 b2 w hR h h2
  · have he := he.symm
    subst he
    by_cases h2 : ltS a0 b1 a2 b2
    · exact ord_gt2yl a0 b0 b1 a2 b2 w hR h h2
    · exact ord_gt2yg a0 b0 b1 a2 b2 w hR h h2

set_option maxRecDepth 100000 in
theorem lifted (os : Os) (started : os.Started) (H : Type) (enc : TypeId × Value → H) :
    ReturnsInHanded {} Tryd.checked os 6 .any (fun w args => (Rows.stampOrderSpec.pre enc Tryd.prog Tryd.f6 Rows.stampOrderRow.domain false w args ∧ laidMet Tryd.prog laid3 w) ∧ sizedMet enc Tryd.prog Tryd.f6 (OpenSpec.ofChange Rows.stampOrderSpec) false w args)
      (Rows.stampOrderSpec.post enc Tryd.prog Tryd.f6 false true false false) := by
  refine returnsInHanded_of_change_and (C := Tryd.checked) (X := fun w _ => laidMet Tryd.prog laid3 w) (fun _ _ _ hh h => h.of_heap hh) own started (by kernel_rfl) Tryd.func6
    (ChangeSpec.witness_at (enc := enc) (C := Tryd.checked) (os := os) (X := fun w _ => laidMet Tryd.prog laid3 w) false (laidWorld3 os) #[.agg #[.int .i64 0, .int .u8 0], .agg #[.int .i64 0, .int .u8 0], .agg #[.int .i64 0, .int .u8 0]] 8 rfl (by kernel_rfl) (by kernel_rfl) (by kernel_rfl) (by kernel_rfl) (by kernel_rfl) (laid3_met os _)) ?_
  intro W base args ds gs before hval0 hW _ _ hL _
  have hval : ∀ (j : Nat) t v, Tryd.f6.params[j]? = some t → args[j]? = some v → Value.okWide Tryd.prog W .any base t v := hval0
  have hW' := hW
  obtain ⟨p, q, hA0, hV, rfl, hfz, hnd⟩ := hW
  have hA : DataW.TrodAll enc Tryd.prog W 0 (fun _ => true) true Tryd.f6.params.toList args.toList ds p := hA0
  rw [Tryd.params6] at hA hval
  obtain ⟨v0, vs0, d0, ds0, p0, q0, hargs, rfl, rfl, h0, r0⟩ := trodAll_cons hA
  obtain ⟨v1, vs1, d1, ds1, p1, q1, rfl, rfl, rfl, h1, r1⟩ := trodAll_cons r0
  obtain ⟨v2, vs2, d2, ds2, p2, q2, rfl, rfl, rfl, h2, r2⟩ := trodAll_cons r1
  obtain ⟨rfl, rfl, rfl⟩ := trodAll_nil r2
  obtain rfl : args = #[v0, v1, v2] := by cases args; simp_all
  obtain ⟨rfl, rfl⟩ := trodVars_none hV
  have k0 := h0
  have lt0 : ∀ x ∈ p0, x.block < W.heap.size := by obtain ⟨m, hm⟩ := k0; exact DataW.trod_lt m _ _ _ hm
  obtain ⟨a0, b0, rfl, w0, x0⟩ := struct2_open Tryd.underlying24 Tryd.underlying2 Tryd.underlying5 rfl rfl (by kernel_rfl) (by kernel_rfl) (by kernel_rfl) (hval 0 24 v0 rfl rfl) h0
  have k1 := h1
  have lt1 : ∀ x ∈ p1, x.block < W.heap.size := by obtain ⟨m, hm⟩ := k1; exact DataW.trod_lt m _ _ _ hm
  obtain ⟨a1, b1, rfl, w1, x1⟩ := struct2_open Tryd.underlying24 Tryd.underlying2 Tryd.underlying5 rfl rfl (by kernel_rfl) (by kernel_rfl) (by kernel_rfl) (hval 1 24 v1 rfl rfl) h1
  have k2 := h2
  have lt2 : ∀ x ∈ p2, x.block < W.heap.size := by obtain ⟨m, hm⟩ := k2; exact DataW.trod_lt m _ _ _ hm
  obtain ⟨a2, b2, rfl, w2, x2⟩ := struct2_open Tryd.underlying24 Tryd.underlying2 Tryd.underlying5 rfl rfl (by kernel_rfl) (by kernel_rfl) (by kernel_rfl) (hval 2 24 v2 rfl rfl) h2
  clear hA0 hval0
  refine (walk a0 b0 a1 b1 a2 b2 W w0 x0 w1 x1 w2 x2 (ready_of hL)).mono fun e W' ⟨he, bel⟩ => ?_
  subst he
  exact ⟨_, rfl, _, _, _, [], _, [], hW', trodAll_mk1 (shut_bool Tryd.underlying4 _), (trodAll_cons_mk (Below.trod laidOut (by kernel_rfl) (of_decide_eq_true (by kernel_rfl)) k0 bel lt0) (trodAll_cons_mk (Below.trod laidOut (by kernel_rfl) (of_decide_eq_true (by kernel_rfl)) k1 bel lt1) (trodAll_cons_mk (Below.trod laidOut (by kernel_rfl) (of_decide_eq_true (by kernel_rfl)) k2 bel lt2) trodAll_mk0))), rfl, bel.frame _, fun h => by cases h⟩

theorem over : Rows.stampOrderRow.holds Tryd.pinned (OpenSpec.ofChange Rows.stampOrderSpec) :=
  OpenClaim.holds_of_wide 6 Tryd.f6 rfl rfl rfl rfl rfl rfl rfl ⟨rfl, rfl, rfl, rfl, rfl⟩ rfl rfl rfl rfl rfl (by kernel_rfl) Tryd.func6 (by kernel_rfl)
    (of_decide_eq_true (by kernel_rfl)) (by unfold Func.isWrapper; first | (rw [if_pos (by decide +kernel)]; kernel_rfl) | (rw [if_neg (by decide +kernel)]; exact ⟨rfl, rfl⟩))
    (fun os started H enc _ => lifted os started H enc)
theorem carded : Rows.StampOrderCardSaid :=
  Claim7.holds_tied_plain_at .later [] [.data, .data, .data] true (true, "75a9ced10a68879221c187ebb07933119152f9c2d73adce86fd34b54cdc5e0b3") false
    over (fun _ h => by cases h) (by kernel_rfl) (fun _ h => by cases h) stampOrder_row_tie rfl ⟨rfl, rfl⟩ (by kernel_rfl) rfl
    (fun f fn hf hfn => by
      obtain rfl : f = 6 := Option.some.inj ((show Tryd.prog.funcNamed "hourglass/hourglasslaw6.StampOrder" = some 6 by kernel_rfl).symm.trans hf) |>.symm
      obtain rfl : fn = Tryd.f6 := (Option.some.inj (Tryd.func6.symm.trans hfn)).symm
      exact ⟨by kernel_rfl, fun j t ht => by
        rw [Tryd.params6] at ht
        have hm : t ∈ [24, 24, 24] := by simpa using Array.mem_of_getElem? ht
        have hall : ([24, 24, 24].all fun u => !Tryd.prog.wantsStandIn u) = true := by kernel_rfl
        exact (show Tryd.prog.wantsStandIn t = false by simpa using List.all_eq_true.1 hall t hm)⟩)
    (by kernel_rfl)
#print axioms carded
end Go.Proofs.YtmokepjemplfgaaDoor.stampOrder
namespace Go.Proofs.YtmokepjemplfgaaDoor
/-- StampOrder, as given. -/
theorem stampOrder_holds : Rows.StampOrderCardSaid := stampOrder.carded
end Go.Proofs.YtmokepjemplfgaaDoor
