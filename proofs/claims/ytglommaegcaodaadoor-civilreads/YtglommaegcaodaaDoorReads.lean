/-
  CivilReads: every text is read as the date that the document says, or as none, where it has at most 50 bytes (else the statement asks nothing); conditions: the library's tables, and its two errors where they are listed, hold what the program's own text lays (the card ties them, over the pruned copy).
-/
import Derived.Test.YtglommaegcaodaaDoorRows
import Derived.Test.YtglommaegcaodaaDoorCivilOwn
import Derived.Test.YtglommaegcaodaaDoorCivilP
import Derived.Test.YtglommaegcaodaaDoorRefCivil5
import Derived.Test.YtglommaegcaodaaDoorCards
import Derived.Test.YtglommaegcaodaaDoorTie
import Derived.Test.YtglommaegcaodaaDoorCivilLaid
import Derived.Test.YtglommaegcaodaaDoorCivilLaidE
import Derived.WalkKit
import Derived.ProofKit
import Derived.OpenShut
import Derived.ShutString
import Derived.ChangeOld
import Derived.Below
import Derived.Carry
import Derived.SevenTiedAt
import Derived.SizedLaws
import Derived.JoinedAt
namespace Go.Proofs.YtglommaegcaodaaDoor.civilReads
open Go.ChangeShapes Go.WideShapes Go.ChangeAt Go.RowKit
open Go.ChangeMaps (open_string shut_string)
set_option linter.unusedVariables false

theorem own : ownKnob Tryd.prog.godebug = none := by kernel_rfl
theorem laidOut : laidOutB Tryd.prog = true := by kernel_rfl
/-- A slice of integers that came in: nil, or a row of 'cap' cells, of which the first 'len' are its elements. -/
def IsRow (k : IntKind) (w : World) (a : Option Addr) (len cap : Nat) (zs : List Int) : Prop :=
  (a = none ∧ len = 0 ∧ cap = 0 ∧ zs = []) ∨
  ∃ x, a = some x ∧ len ≤ cap ∧ cap ≤ maxLen ∧ zs.length = cap ∧ (∀ i, i < zs.length → w.cell? (x.add i) = some (.int k (zs.getD i 0))) ∧ ∀ n ∈ zs, (Lit.int k n).wf = true

/-- Two operations of the last statement that a date that is there leaves out. -/
def opA (p : String) : Oper := { dst := some 35, op := Op.move (Operand.tmp 4), type := 23, pos := p, after := #[{ on := 12, ground := Ground.guard }], guard := some (12, false) }
def opB (p : String) : Oper := { dst := some 36, op := Op.binOp BinOp.eql 23 (Operand.tmp 35) (Operand.const (Value.int IntKind.i64 3)) 23, type := 4, pos := p, after := #[{ on := 13, ground := Ground.data }, { on := 12, ground := Ground.guard }], guard := some (12, false) }
set_option maxHeartbeats 2000000 in
theorem walk (a0 : ByteArray) (w : World) (w0 : a0.size ≤ maxLen) (hR : Ready w) (hE : ErrSyn w) :
    Calls Tryd.prog 5 #[.string a0] w fun e w' => e = .returned (.bool true) ∧ Below w.heap.size w w' := by
  have AW : Hid (Calls Tryd.prog 9 #[] w fun e w' => e = .returned (.bool true) ∧ Below w.heap.size w w') := awake_any w hR
  have RR : Hid (Ready w) := hR
  have EE : Hid (ErrSyn w) := hE
  clear hR hE
  obtain ⟨xs, hxs, hb, hl⟩ := str_nums a0
  by_cases r1 : 50 < a0.size
  · have r1' : (50 : Int) < (a0.size : Int) := by omega
    clear hxs hb hl
    go_enter Tryd.func5, Tryd.ntmps5
    go_wp2_with (go_at_call 9; refine AW.out.mono ?_; rintro e w1 ⟨rfl, hb1⟩; have HB1 : Hid (Below w.heap.size w w1) := hb1; clear hb1)
    go_ret
    exact ⟨rfl, HB1.out⟩
  have r1' : ¬ (50 : Int) < (a0.size : Int) := by omega
  have CP : Hid (∀ v, Below w.heap.size w v → Calls Tryd.prog 12 #[.string a0] v fun e w' => ((∀ y m d, parseN xs = some (y, m, d) → e = .returned (.tuple #[.agg #[.int .i64 y, .int .i64 m, .int .i64 d], .int .i64 0])) ∧ (parseN xs = none → e = .returned (.tuple #[.agg #[.int .i64 0, .int .i64 0, .int .i64 0], .int .i64 3]))) ∧ Below v.heap.size v w') := fun v hv => by rw [hxs]; exact parse_any xs v (RR.out.on hv) (EE.out.on hv) hb (by omega)
  have CR : Hid (∀ w, Calls Tryd.prog 24 #[.string a0] w fun e w' => ((∀ y m d, parseN xs = some (y, m, d) → e = .returned (.tuple #[.agg #[.int .i64 y, .int .i64 m, .int .i64 d], .bool true])) ∧ (parseN xs = none → e = .returned (.tuple #[.agg #[.int .i64 0, .int .i64 0, .int .i64 0], .bool false]))) ∧ Below w.heap.size w w') := fun w => by rw [hxs]; exact rparse_any xs w hb (by omega)
  clear hxs hb hl w0
  cases hp : parseN xs with
  | none =>
    have C1 : Hid (∀ v, Below w.heap.size w v → Calls Tryd.prog 12 #[.string a0] v fun e w' => e = .returned (.tuple #[.agg #[.int .i64 0, .int .i64 0, .int .i64 0], .int .i64 3]) ∧ Below v.heap.size v w') := fun v hv => (CP.out v hv).mono (by rintro e w' ⟨⟨_, h⟩, hb⟩; exact ⟨h hp, hb⟩)
    have C2 : Hid (∀ w, Calls Tryd.prog 24 #[.string a0] w fun e w' => e = .returned (.tuple #[.agg #[.int .i64 0, .int .i64 0, .int .i64 0], .bool false]) ∧ Below w.heap.size w w') := fun w => (CR.out w).mono (by rintro e w' ⟨⟨_, h⟩, hb⟩; exact ⟨h hp, hb⟩)
    have CO : Hid (∀ w, Calls Tryd.prog 18 #[.agg #[.int .i64 0, .int .i64 0, .int .i64 0]] w fun e w' => e = .returned (.agg #[.int .i64 0, .int .i64 0, .int .i64 0]) ∧ Below w.heap.size w w') := own_any 0 0 0
    clear CP CR hp
    go_enter Tryd.func5, Tryd.ntmps5
    go_wp2_with (first | (go_at_call 24; refine (C2.out _).mono ?_; rintro e w3 ⟨rfl, hb3⟩; have HB3 : Hid (Below w.heap.size w w3) := (HB2.out.alloc HB2.out.size _).trans (hb3.mono (by simp; exact Nat.le_trans HB2.out.size (Nat.le_succ _))); have HD := (DateAt.made w2 27 0 0 0).below hb3 (by simp); have hd0 := cell_past HD.c0; have hd1 := cell_past HD.c1; have hd2 := cell_past HD.c2; clear hb3 HD) | (go_at_call 12; refine (C1.out _ HB1.out).mono ?_; rintro e w2 ⟨rfl, hb2⟩; have HB2 : Hid (Below w.heap.size w w2) := HB1.out.trans (hb2.mono HB1.out.size); clear hb2) | (go_at_call 9; refine AW.out.mono ?_; rintro e w1 ⟨rfl, hb1⟩; have HB1 : Hid (Below w.heap.size w w1) := hb1; clear hb1))
    have HBV : Hid (Below w.heap.size w (w3.alloc (Obj.cells #[Value.int IntKind.i64 0, Value.int IntKind.i64 0, Value.int IntKind.i64 0] 37))) := HB3.out.alloc HB3.out.size _
    have HD1 : Hid (DateAt (w3.alloc (Obj.cells #[Value.int IntKind.i64 0, Value.int IntKind.i64 0, Value.int IntKind.i64 0] 37)) w2.heap.size 0 0 0) := ⟨hd0 _, hd1 _, hd2 _⟩
    have HD2 : Hid (DateAt (w3.alloc (Obj.cells #[Value.int IntKind.i64 0, Value.int IntKind.i64 0, Value.int IntKind.i64 0] 37)) w3.heap.size 0 0 0) := DateAt.made w3 37 0 0 0
    generalize hv : w3.alloc (Obj.cells #[Value.int IntKind.i64 0, Value.int IntKind.i64 0, Value.int IntKind.i64 0] 37) = v at HBV HD1 HD2 ⊢
    clear hv hd0 hd1 hd2
    have CV : Hid (∀ u, Below v.heap.size v u → Calls Tryd.prog 18 #[.agg #[.int .i64 0, .int .i64 0, .int .i64 0]] u fun e w' => e = .returned (.agg #[.int .i64 0, .int .i64 0, .int .i64 0]) ∧ Below v.heap.size v w') := fun u h => (CO.out u).mono (by rintro e w' ⟨rfl, h'⟩; exact ⟨rfl, h.trans (h'.mono h.size)⟩)
    have KS : Hid (∀ w', Below v.heap.size v w' → Below v.heap.size v w' ∧ w'.cell? ⟨w2.heap.size, 0, none⟩ = some (.int .i64 0) ∧ w'.cell? ⟨w2.heap.size, 1, none⟩ = some (.int .i64 0) ∧ w'.cell? ⟨w2.heap.size, 2, none⟩ = some (.int .i64 0) ∧ w'.cell? ⟨w3.heap.size, 0, none⟩ = some (.int .i64 0) ∧ w'.cell? ⟨w3.heap.size, 1, none⟩ = some (.int .i64 0) ∧ w'.cell? ⟨w3.heap.size, 2, none⟩ = some (.int .i64 0)) := fun w' h =>
      ⟨h, (HD1.out.below h (lt_of_cell' HD1.out.c0)).c0, (HD1.out.below h (lt_of_cell' HD1.out.c0)).c1, (HD1.out.below h (lt_of_cell' HD1.out.c0)).c2, (HD2.out.below h (lt_of_cell' HD2.out.c0)).c0, (HD2.out.below h (lt_of_cell' HD2.out.c0)).c1, (HD2.out.below h (lt_of_cell' HD2.out.c0)).c2⟩
    go_region_held3 (fun w' => Below v.heap.size v w' ∧ w'.cell? ⟨w2.heap.size, 0, none⟩ = some (.int .i64 0) ∧ w'.cell? ⟨w2.heap.size, 1, none⟩ = some (.int .i64 0) ∧ w'.cell? ⟨w2.heap.size, 2, none⟩ = some (.int .i64 0) ∧ w'.cell? ⟨w3.heap.size, 0, none⟩ = some (.int .i64 0) ∧ w'.cell? ⟨w3.heap.size, 1, none⟩ = some (.int .i64 0) ∧ w'.cell? ⟨w3.heap.size, 2, none⟩ = some (.int .i64 0)) (first | exact KS.out _ (by assumption) | exact KS.out _ (Below.refl _ _).drew) (first | (go_at_call 18; refine (CV.out _ (by first | assumption | exact (Below.refl _ _).drew)).mono ?_; rintro e w4 ⟨rfl, hb4⟩))
    all_goals go_wp2
    all_goals go_ret
    all_goals exact ⟨rfl, HBV.out.trans (hb4.mono HBV.out.size)⟩
  | some p =>
    obtain ⟨y, m, d⟩ := p
    have C1 : Hid (∀ v, Below w.heap.size w v → Calls Tryd.prog 12 #[.string a0] v fun e w' => e = .returned (.tuple #[.agg #[.int .i64 y, .int .i64 m, .int .i64 d], .int .i64 0]) ∧ Below v.heap.size v w') := fun v hv => (CP.out v hv).mono (by rintro e w' ⟨⟨h, _⟩, hb⟩; exact ⟨h _ _ _ hp, hb⟩)
    have C2 : Hid (∀ w, Calls Tryd.prog 24 #[.string a0] w fun e w' => e = .returned (.tuple #[.agg #[.int .i64 y, .int .i64 m, .int .i64 d], .bool true]) ∧ Below w.heap.size w w') := fun w => (CR.out w).mono (by rintro e w' ⟨⟨h, _⟩, hb⟩; exact ⟨h _ _ _ hp, hb⟩)
    have CO : Hid (∀ w, Calls Tryd.prog 18 #[.agg #[.int .i64 y, .int .i64 m, .int .i64 d]] w fun e w' => e = .returned (.agg #[.int .i64 y, .int .i64 m, .int .i64 d]) ∧ Below w.heap.size w w') := own_any y m d
    clear CP CR hp
    go_enter Tryd.func5, Tryd.ntmps5
    go_wp2_with (first | (go_at_call 24; refine (C2.out _).mono ?_; rintro e w3 ⟨rfl, hb3⟩; have HB3 : Hid (Below w.heap.size w w3) := (HB2.out.alloc HB2.out.size _).trans (hb3.mono (by simp; exact Nat.le_trans HB2.out.size (Nat.le_succ _))); have HD := (DateAt.made w2 27 y m d).below hb3 (by simp); have hd0 := cell_past HD.c0; have hd1 := cell_past HD.c1; have hd2 := cell_past HD.c2; clear hb3 HD) | (go_at_call 12; refine (C1.out _ HB1.out).mono ?_; rintro e w2 ⟨rfl, hb2⟩; have HB2 : Hid (Below w.heap.size w w2) := HB1.out.trans (hb2.mono HB1.out.size); clear hb2) | (go_at_call 9; refine AW.out.mono ?_; rintro e w1 ⟨rfl, hb1⟩; have HB1 : Hid (Below w.heap.size w w1) := hb1; clear hb1))
    have HBV : Hid (Below w.heap.size w (w3.alloc (Obj.cells #[Value.int IntKind.i64 y, Value.int IntKind.i64 m, Value.int IntKind.i64 d] 37))) := HB3.out.alloc HB3.out.size _
    have HD1 : Hid (DateAt (w3.alloc (Obj.cells #[Value.int IntKind.i64 y, Value.int IntKind.i64 m, Value.int IntKind.i64 d] 37)) w2.heap.size y m d) := ⟨hd0 _, hd1 _, hd2 _⟩
    have HD2 : Hid (DateAt (w3.alloc (Obj.cells #[Value.int IntKind.i64 y, Value.int IntKind.i64 m, Value.int IntKind.i64 d] 37)) w3.heap.size y m d) := DateAt.made w3 37 y m d
    generalize hv : w3.alloc (Obj.cells #[Value.int IntKind.i64 y, Value.int IntKind.i64 m, Value.int IntKind.i64 d] 37) = v at HBV HD1 HD2 ⊢
    clear hv hd0 hd1 hd2
    have CV : Hid (∀ u, Below v.heap.size v u → Calls Tryd.prog 18 #[.agg #[.int .i64 y, .int .i64 m, .int .i64 d]] u fun e w' => e = .returned (.agg #[.int .i64 y, .int .i64 m, .int .i64 d]) ∧ Below v.heap.size v w') := fun u h => (CO.out u).mono (by rintro e w' ⟨rfl, h'⟩; exact ⟨rfl, h.trans (h'.mono h.size)⟩)
    have KS : Hid (∀ w', Below v.heap.size v w' → Below v.heap.size v w' ∧ w'.cell? ⟨w2.heap.size, 0, none⟩ = some (.int .i64 y) ∧ w'.cell? ⟨w2.heap.size, 1, none⟩ = some (.int .i64 m) ∧ w'.cell? ⟨w2.heap.size, 2, none⟩ = some (.int .i64 d) ∧ w'.cell? ⟨w3.heap.size, 0, none⟩ = some (.int .i64 y) ∧ w'.cell? ⟨w3.heap.size, 1, none⟩ = some (.int .i64 m) ∧ w'.cell? ⟨w3.heap.size, 2, none⟩ = some (.int .i64 d)) := fun w' h =>
      ⟨h, (HD1.out.below h (lt_of_cell' HD1.out.c0)).c0, (HD1.out.below h (lt_of_cell' HD1.out.c0)).c1, (HD1.out.below h (lt_of_cell' HD1.out.c0)).c2, (HD2.out.below h (lt_of_cell' HD2.out.c0)).c0, (HD2.out.below h (lt_of_cell' HD2.out.c0)).c1, (HD2.out.below h (lt_of_cell' HD2.out.c0)).c2⟩
    have ey : (y == y) = true := by simp
    have em : (m == m) = true := by simp
    have ed : (d == d) = true := by simp
    have hopA : ∀ p, opA p = { dst := some 35, op := Op.move (Operand.tmp 4), type := 23, pos := p, after := #[{ on := 12, ground := Ground.guard }], guard := some (12, false) } := fun _ => rfl
    have hopB : ∀ p, opB p = { dst := some 36, op := Op.binOp BinOp.eql 23 (Operand.tmp 35) (Operand.const (Value.int IntKind.i64 3)) 23, type := 4, pos := p, after := #[{ on := 13, ground := Ground.data }, { on := 12, ground := Ground.guard }], guard := some (12, false) } := fun _ => rfl
    rw [← hopA, ← hopB]
    go_region_held3 (fun w' => Below v.heap.size v w' ∧ w'.cell? ⟨w2.heap.size, 0, none⟩ = some (.int .i64 y) ∧ w'.cell? ⟨w2.heap.size, 1, none⟩ = some (.int .i64 m) ∧ w'.cell? ⟨w2.heap.size, 2, none⟩ = some (.int .i64 d) ∧ w'.cell? ⟨w3.heap.size, 0, none⟩ = some (.int .i64 y) ∧ w'.cell? ⟨w3.heap.size, 1, none⟩ = some (.int .i64 m) ∧ w'.cell? ⟨w3.heap.size, 2, none⟩ = some (.int .i64 d)) (first | exact KS.out _ (by assumption) | exact KS.out _ (Below.refl _ _).drew) (first | (go_at_call 18; refine (CV.out _ (by first | assumption | exact (Below.refl _ _).drew)).mono ?_; rintro e w4 ⟨rfl, hb4⟩))
    all_goals go_wp2
    all_goals go_ret
    all_goals exact ⟨rfl, HBV.out.trans (hb4.mono HBV.out.size)⟩

set_option maxRecDepth 100000 in
theorem lifted (os : Os) (started : os.Started) (H : Type) (enc : TypeId × Value → H) :
    ReturnsInHanded {} Tryd.checked os 5 .any (fun w args => (Rows.civilReadsSpec.pre enc Tryd.prog Tryd.f5 Rows.civilReadsRow.domain false w args ∧ laidMet Tryd.prog laid5 w) ∧ sizedMet enc Tryd.prog Tryd.f5 (OpenSpec.ofChange Rows.civilReadsSpec) false w args)
      (Rows.civilReadsSpec.post enc Tryd.prog Tryd.f5 false true false false) := by
  refine returnsInHanded_of_change_and (C := Tryd.checked) (X := fun w _ => laidMet Tryd.prog laid5 w) (fun _ _ _ hh h => h.of_heap hh) own started (by kernel_rfl) Tryd.func5
    (ChangeSpec.witness_at (enc := enc) (C := Tryd.checked) (os := os) (X := fun w _ => laidMet Tryd.prog laid5 w) false (laidWorld5 os) #[.string ⟨#[]⟩] 8 rfl (by kernel_rfl) (by kernel_rfl) (by kernel_rfl) (by kernel_rfl) (by kernel_rfl) (laid5_met os _)) ?_
  intro W base args ds gs before hval0 hW _ _ hL _
  have hval : ∀ (j : Nat) t v, Tryd.f5.params[j]? = some t → args[j]? = some v → Value.okWide Tryd.prog W .any base t v := hval0
  have hW' := hW
  obtain ⟨p, q, hA0, hV, rfl, hfz, hnd⟩ := hW
  have hA : DataW.TrodAll enc Tryd.prog W 0 (fun _ => true) true Tryd.f5.params.toList args.toList ds p := hA0
  rw [Tryd.params5] at hA hval
  obtain ⟨v0, vs0, d0, ds0, p0, q0, hargs, rfl, rfl, h0, r0⟩ := trodAll_cons hA
  obtain ⟨rfl, rfl, rfl⟩ := trodAll_nil r0
  obtain rfl : args = #[v0] := by cases args; simp_all
  obtain ⟨rfl, rfl⟩ := trodVars_none hV
  have k0 := h0
  have lt0 : ∀ x ∈ p0, x.block < W.heap.size := by obtain ⟨m, hm⟩ := k0; exact DataW.trod_lt m _ _ _ hm
  obtain ⟨a0, rfl, rfl, rfl, w0⟩ := open_string Tryd.underlying9 (hval 0 9 v0 rfl rfl) h0
  clear hA0 hval0
  refine (walk a0 W w0 (ready_of hL) (errsyn_of hL)).mono fun e W' ⟨he, bel⟩ => ?_
  subst he
  exact ⟨_, rfl, _, _, _, [], _, [], hW', trodAll_mk1 (shut_bool Tryd.underlying4 _), (trodAll_cons_mk (Below.trod laidOut (by kernel_rfl) (of_decide_eq_true (by kernel_rfl)) k0 bel lt0) trodAll_mk0), rfl, bel.frame _, fun h => by cases h⟩

theorem over : Rows.civilReadsRow.holds Tryd.pinned (OpenSpec.ofChange Rows.civilReadsSpec) :=
  OpenClaim.holds_of_wide 5 Tryd.f5 rfl rfl rfl rfl rfl rfl rfl ⟨rfl, rfl, rfl, rfl, rfl⟩ rfl rfl rfl rfl rfl (by kernel_rfl) Tryd.func5 (by kernel_rfl)
    (of_decide_eq_true (by kernel_rfl)) (by unfold Func.isWrapper; first | (rw [if_pos (by decide +kernel)]; kernel_rfl) | (rw [if_neg (by decide +kernel)]; exact ⟨rfl, rfl⟩))
    (fun os started H enc _ => lifted os started H enc)
theorem carded : Rows.CivilReadsCardSaid :=
  Claim7.holds_tied_plain_at .later [] [.data, .data, .data, .sentinel, .sentinel] true (true, "7af20c8ded581e57e2cc45ba6f6943f52ac148cc54ff3c745e407801333bdc18") true
    over (fun _ h => by cases h) (by kernel_rfl) (fun _ h => by cases h) civilReads_row_tie rfl ⟨rfl, rfl⟩ (by kernel_rfl) rfl
    (fun f fn hf hfn => by
      obtain rfl : f = 5 := Option.some.inj ((show Tryd.prog.funcNamed "hourglass/hourglasslaw4.CivilReads" = some 5 by kernel_rfl).symm.trans hf) |>.symm
      obtain rfl : fn = Tryd.f5 := (Option.some.inj (Tryd.func5.symm.trans hfn)).symm
      exact ⟨by kernel_rfl, fun j t ht => by
        rw [Tryd.params5] at ht
        have hm : t ∈ [9] := by simpa using Array.mem_of_getElem? ht
        have hall : ([9].all fun u => !Tryd.prog.wantsStandIn u) = true := by kernel_rfl
        exact (show Tryd.prog.wantsStandIn t = false by simpa using List.all_eq_true.1 hall t hm)⟩)
    (by kernel_rfl)
#print axioms carded
end Go.Proofs.YtglommaegcaodaaDoor.civilReads
namespace Go.Proofs.YtglommaegcaodaaDoor
/-- CivilReads, as given. -/
theorem civilReads_holds : Rows.CivilReadsCardSaid := civilReads.carded
end Go.Proofs.YtglommaegcaodaaDoor
