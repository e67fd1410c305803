/-
  Layer 18: awake.
  A list of keys that came in.
  Lists of versions of one key, and of calls on a chain, that came in: where their cells lie.
  Lists of writes, and of layer 12's acts (each a number, a stamp, a list of writes), that came in.
-/
import Derived.Test.YtcppihpehipelaaCdL1
import Derived.Test.YtcppihpehipelaaAu53
import Derived.Test.YtcppihpehipelaaAu44
import Derived.ProofKit
import Derived.OpenShut
import Derived.ChangeSame
import Derived.Deep.Slices
import Derived.Test.YtcppihpehipelaaAu52
import Derived.Deep.Strs
import Derived.Below
import Derived.Test.YtcppihpehipelaaAu49
import Derived.Lib.SmallJoins
namespace Go.Proofs.Ytcppihpehipelaa
open Go.RowKit
set_option linter.unusedVariables false
set_option linter.unusedSimpArgs false

def awC1 : List DecC := [⟨1, 0, 0, [0, 1], [false, false], 0, 0, 0, [false, false]⟩]
def awC2 : List DecC := [⟨1, 0, 0, [0, 1], [true, false], 0, 5, 0, [false, false]⟩]
def awC3 : List DecC := [⟨1, 0, 0, [0, 1], [true, true], 1, 7, 1, [false, false]⟩]
theorem aw_begin : beginC [] 1 0 0 [0, 1] = (0, awC1) := by kernel_rfl
theorem aw_vote1 : voteC awC1 1 0 true 5 0 = (0, awC2) := by kernel_rfl
theorem aw_dec1 : decC awC2 1 = (false, false, 0, 0) := by kernel_rfl
theorem aw_vote2 : voteC awC2 1 1 true 7 1 = (0, awC3) := by kernel_rfl
theorem aw_dec2 : decC awC3 1 = (true, true, 7, 1) := by kernel_rfl
theorem aw_owes : owesC awC3 1 = [0, 1] := by kernel_rfl
theorem aw_open : openC awC3 = [1] := by kernel_rfl
theorem i64_small {x : Int} (h1 : -1000000 ≤ x) (h2 : x ≤ 1000000) : I64 x := by unfold I64; omega
theorem alloc_belowC (w : World) (o : Obj) : Below w.heap.size w (w.alloc o) := (Below.refl _ _).alloc (Nat.le_refl _) o
set_option maxHeartbeats 4000000 in
set_option maxRecDepth 8000 in
theorem cdawake_any (w : World) : Calls Try.prog 7 #[] w fun e w' => e = .returned (.bool true) ∧ Below w.heap.size w w' := by
  have T1 : Hid True := trivial
  have I1 : Hid (I64 1) := i64_small (by decide) (by decide)
  go_enter Try.func7, Try.ntmps7
  go_wp2_with (first
    | (have hgo := T1.out; clear hgo; go_at_call 8; refine (cdf_new _).mono ?_; rintro e w1 ⟨b, rfl, k1, -⟩; have K1 : Hid (CdF w w1 b [] noFoot) := k1; clear k1 T1; have T2 : Hid True := trivial)
    | (have hgo := T2.out; clear hgo; go_at_call 10; refine (cdatt_any _ _).mono ?_; rintro e w2 ⟨rfl, hb⟩; have K2 : Hid (CdF w w2 b [] noFoot) := K1.out.past hb; clear hb T2 K1; have T3 : Hid True := trivial)
    | (have hgo := T3.out; clear hgo; go_at_call 9; refine ((K2.out.past (alloc_belowC _ _)).begin aw_begin I1.out rfl (by decide) (by decide) (intsAt_made _ _ [0, 1] (by decide)) (by decide)).mono ?_; rintro e w3 ⟨rfl, k3, -, -⟩; have K3 : Hid (CdF w w3 b awC1 noFoot) := k3; clear k3 T3 K2; have T4 : Hid True := trivial)
    | (have hgo := T4.out; clear hgo; go_at_call 10; refine (cdatt_any _ _).mono ?_; rintro e w4 ⟨rfl, hb⟩; have K4 : Hid (CdF w w4 b awC1 noFoot) := K3.out.past hb; clear hb T4 K3; have T5 : Hid True := trivial)
    | (have hgo := T5.out; clear hgo; go_at_call 11; refine (K4.out.vote aw_vote1 I1.out (by decide)).mono ?_; rintro e w5 ⟨rfl, k5, -, -⟩; have K5 : Hid (CdF w w5 b awC2 noFoot) := k5; clear k5 T5 K4; have T6 : Hid True := trivial)
    | (have hgo := T6.out; clear hgo; go_at_call 13; refine (K5.out.decision aw_dec1 I1.out).mono ?_; rintro e w6 ⟨rfl, hb⟩; have K6 : Hid (CdF w w6 b awC2 noFoot) := K5.out.past hb; clear hb T6 K5; have T7 : Hid True := trivial)
    | (have hgo := T7.out; clear hgo; go_at_call 11; refine ((K6.out.past (alloc_belowC _ _)).vote aw_vote2 I1.out (by decide)).mono ?_; rintro e w7 ⟨rfl, k7, -, -⟩; have K7 : Hid (CdF w w7 b awC3 noFoot) := k7; clear k7 T7 K6; have T8 : Hid True := trivial)
    | (have hgo := T8.out; clear hgo; go_at_call 13; refine (K7.out.decision aw_dec2 I1.out).mono ?_; rintro e w8 ⟨rfl, hb⟩; have K8 : Hid (CdF w w8 b awC3 noFoot) := K7.out.past hb; clear hb T8 K7; have T9 : Hid True := trivial)
    | (have hgo := T9.out; clear hgo; go_at_call 30; refine ((K8.out.past (alloc_belowC _ _)).owes aw_owes I1.out).mono ?_; rintro e w9 ⟨a9, n9, c9, rfl, hl, hc, hr, hb⟩; obtain rfl : n9 = 2 := hl.symm; have K9 : Hid (CdF w w9 b awC3 noFoot) := (K8.out.past (alloc_belowC _ _)).past hb; have R9 : Hid (2 ≤ c9 ∧ RowI w9 a9 [0, 1]) := ⟨hc, hr⟩; clear hb T9 K8 hl hc hr; have T10 : Hid True := trivial)
    | (have hgo := T10.out; clear hgo; go_at_call 29; refine (cdsame_any a9 _ 2 c9 2 [0, 1] _ rfl R9.out.1 (by decide) (by decide) (R9.out.2.past (alloc_belowC _ _)) (rowI_made _ _ [0, 1])).mono ?_; rintro e w10 ⟨rfl, hb⟩; have K10 : Hid (CdF w w10 b awC3 noFoot) := (K9.out.past (alloc_belowC _ _)).past hb; clear hb T10 K9; have T11 : Hid True := trivial)
    | (have hgo := T11.out; clear hgo; go_at_call 18; refine (K10.out.opens aw_open (by decide)).mono ?_; rintro e w11 ⟨a11, n11, c11, rfl, hl, hc, hr, hb⟩; obtain rfl : n11 = 1 := hl.symm; have K11 : Hid (CdF w w11 b awC3 noFoot) := K10.out.past hb; have R11 : Hid (1 ≤ c11 ∧ RowI w11 a11 [1]) := ⟨hc, hr⟩; clear hb T11 K10 hl hc hr; have T12 : Hid True := trivial)
    | (have hgo := T12.out; clear hgo; go_at_call 19; refine (cdsame64_any a11 _ 1 c11 1 [1] _ rfl R11.out.1 (by decide) (by decide) (R11.out.2.past (alloc_belowC _ _)) (rowI_made _ _ [1])).mono ?_; rintro e w12 ⟨rfl, hb⟩; have K12 : Hid (CdF w w12 b awC3 noFoot) := (K11.out.past (alloc_belowC _ _)).past hb; clear hb T12 K11))
  go_ret
  exact ⟨rfl, K12.out.below⟩
end Go.Proofs.Ytcppihpehipelaa

namespace Go.Proofs.Ytcppihpehipelaa
open Go.RowKit Go.ChangeShapes Go.WideShapes Go.ChangeAt Go.Deep
set_option linter.unusedVariables false

theorem add_add (a : Addr) (x y : Nat) : (a.add x).add y = a.add (x + y) := by
  unfold Addr.add
  by_cases h1 : x = 0
  · simp [h1]
  · by_cases h2 : y = 0
    · simp [h2]
    · have h3 : ¬ (x + y = 0) := by omega
      simp only [if_neg h1, if_neg h2, if_neg h3, Nat.add_assoc]
section
variable {H : Type} {enc : TypeId × Value → H} {w : World} {base : Nat} {held : Bool}
theorem arr_cells {P : Program} {t e : TypeId} {k : IntKind} {n fuel : Nat} {sp : Nat → Bool} {cs : List Value} {x : DataW H × List MemPlace} (ht : P.underlying t = some (.array n e)) (he : P.underlying e = some (.int k)) (ct : P.cellsOf t = n) (ce : P.cellsOf e = 1) (hs : cs.length = n)
    (hf : DataW.trod enc P w base sp held fuel t cs = some x) : ∃ zs : List Int, cs = zs.map (Value.int k) ∧ IsArr k n zs := by
  cases fuel with
  | zero => simp [DataW.trod] at hf
  | succ m =>
    rw [DataW.trod_step] at hf
    unfold DataW.trodStep at hf
    simp only [ht] at hf
    rw [if_pos (by rw [ct]; exact hs)] at hf
    simp only [Option.map_eq_some_iff] at hf
    obtain ⟨ys, hy, _⟩ := hf
    have each : ∀ i, i < n → ∃ z : Int, cs[i]? = some (.int k z) ∧ (Lit.int k z).wf = true := by
      intro i hi
      obtain ⟨y, hy'⟩ := mapM_each hy i (by simpa using hi)
      obtain ⟨z, hz, _, hwf⟩ := DataW.trod_int he hy'
      rw [ce, Nat.mul_one] at hz
      refine ⟨z, ?_, hwf⟩
      have h2 := congrArg (fun l => l[0]?) hz
      simpa using h2
    obtain ⟨f, hfz⟩ := choose_lt each
    refine ⟨(List.range n).map f, ?_, by simp, fun z hz => ?_⟩
    · apply List.ext_getElem
      · simp; omega
      · intro i h1 h2
        simp at h2
        have := (hfz i h2).1
        rw [List.getElem?_eq_getElem h1] at this
        simp at this
        simp [this]
    · simp at hz
      obtain ⟨i, hi, rfl⟩ := hz
      exact (hfz i hi).2
theorem IsArr.ky {zs : List Int} (h : IsArr .u8 16 zs) : Ky zs := ⟨h.1, fun z hz => bounds_u8 (h.2 z hz)⟩
end
end Go.Proofs.Ytcppihpehipelaa

namespace Go.Proofs.Ytcppihpehipelaa
open Go.RowKit Go.ChangeShapes Go.WideShapes Go.ChangeAt Go.Deep
set_option linter.unusedVariables false

theorem str_numsV (S : ByteArray) : ∃ ns : List Int, (∀ z ∈ ns, 0 ≤ z ∧ z ≤ 255) ∧ S = strOfNums ns := by
  refine ⟨S.data.toList.map fun b => (b.toNat : Int), fun z hz => ?_, ?_⟩
  · obtain ⟨b, _, rfl⟩ := List.mem_map.1 hz
    have := b.toNat_lt
    omega
  · apply ByteArray.ext
    apply Array.toList_inj.1
    have : (strOfNums (S.data.toList.map fun b => (b.toNat : Int))).data.toList = (S.data.toList.map fun b => (b.toNat : Int)).map fun n => UInt8.ofNat n.toNat := by rw [strOfNums_data]
    rw [this, List.map_map]
    have e : ((fun n : Int => UInt8.ofNat n.toNat) ∘ fun b : UInt8 => (b.toNat : Int)) = id := by
      funext b
      simp
    rw [e, List.map_id]
/-- A version that came in: of no key, its numbers in their bounds. -/
structure VerIn (V : Ver) : Prop where
  key : V.k = zeroK
  t : -9223372036854775808 ≤ V.t ∧ V.t ≤ 9223372036854775807
  n : 0 ≤ V.n ∧ V.n ≤ 255
  val : ∀ z ∈ V.v, 0 ≤ z ∧ z ≤ 255
  few : V.v.length ≤ maxLen
theorem VerIn.ok {V : Ver} (h : VerIn V) (hl : V.v.length ≤ 1000000) : VerOk V := ⟨by rw [h.key]; exact zeroK_ky, h.t.1, h.t.2, h.n.1, h.n.2, h.val, hl⟩
structure CVerAt (w : World) (b o : Nat) (V : Ver) : Prop where
  c0 : w.cell? ⟨b, o, none⟩ = some (.int .i64 V.t)
  c1 : w.cell? ⟨b, o + 1, none⟩ = some (.int .u8 V.n)
  c2 : w.cell? ⟨b, o + 2, none⟩ = some (.string (strOfNums V.v))
  c3 : w.cell? ⟨b, o + 3, none⟩ = some (.bool V.g)
theorem CVerAt.lt {w : World} {b o : Nat} {V : Ver} (h : CVerAt w b o V) : b < w.heap.size := lt_of_cell h.c0
theorem CVerAt.past {w w' : World} {b o : Nat} {V : Ver} (h : CVerAt w b o V) (hb : Below w.heap.size w w') : CVerAt w' b o V :=
  ⟨(hb.cell (p := ⟨b, o, none⟩) h.lt).trans h.c0, (hb.cell (p := ⟨b, o + 1, none⟩) h.lt).trans h.c1, (hb.cell (p := ⟨b, o + 2, none⟩) h.lt).trans h.c2, (hb.cell (p := ⟨b, o + 3, none⟩) h.lt).trans h.c3⟩
theorem add_atV (b off j : Nat) : (⟨b, off, none⟩ : Addr).add j = ⟨b, off + j, none⟩ := by unfold Addr.add; split <;> simp_all
section
variable {H : Type} {enc : TypeId × Value → H} {w : World} {base : Nat} {held : Bool}
end
end Go.Proofs.Ytcppihpehipelaa

namespace Go.Proofs.Ytcppihpehipelaa
open Go.RowKit Go.ChangeShapes Go.WideShapes Go.ChangeAt Go.Deep
set_option linter.unusedVariables false

/-- An act. -/
structure SAct where
  op : Int
  t : Int
  n : Int
  a : Option Addr
  cap : Nat
  l : List Wrt
/-- An act's four cells, and its writes. -/
structure SActAt (w : World) (b o : Nat) (x : SAct) : Prop where
  c0 : w.cell? ⟨b, o, none⟩ = some (.int .i64 x.op)
  c1 : w.cell? ⟨b, o + 1, none⟩ = some (.int .i64 x.t)
  c2 : w.cell? ⟨b, o + 2, none⟩ = some (.int .u8 x.n)
  c3 : w.cell? ⟨b, o + 3, none⟩ = some (.slice x.a x.l.length x.cap)
theorem SActAt.lt {w : World} {b o : Nat} {x : SAct} (h : SActAt w b o x) : b < w.heap.size := lt_of_cell h.c0
theorem SActAt.past {w w' : World} {b o : Nat} {x : SAct} (h : SActAt w b o x) (hb : Below w.heap.size w w') : SActAt w' b o x :=
  ⟨(hb.cell (p := ⟨b, o, none⟩) h.lt).trans h.c0, (hb.cell (p := ⟨b, o + 1, none⟩) h.lt).trans h.c1, (hb.cell (p := ⟨b, o + 2, none⟩) h.lt).trans h.c2, (hb.cell (p := ⟨b, o + 3, none⟩) h.lt).trans h.c3⟩
/-- A list of writes that came in. -/
structure WrtsOf (w : World) (a : Option Addr) (cap : Nat) (l : List Wrt) : Prop where
  at_ : WrtsAt w a l
  room : l.length ≤ cap
  few : l.length ≤ 9223372036854775807
structure SActOk (w : World) (x : SAct) : Prop where
  wr : WrtsOf w x.a x.cap x.l
  op : -9223372036854775808 ≤ x.op ∧ x.op ≤ 9223372036854775807
  t : -9223372036854775808 ≤ x.t ∧ x.t ≤ 9223372036854775807
  n : 0 ≤ x.n ∧ x.n ≤ 255
/-- A list of acts that came in. -/
structure SActsOf (w : World) (a : Option Addr) (cap : Nat) (xs : List SAct) : Prop where
  room : xs.length ≤ cap
  cells : xs = [] ∨ ∃ b off, a = some ⟨b, off, none⟩ ∧ ∀ i x, xs[i]? = some x → SActAt w b (off + i * 4) x
  oks : ∀ x ∈ xs, SActOk w x
theorem SActsOf.act {w : World} {a : Option Addr} {cap : Nat} {xs : List SAct} (h : SActsOf w a cap xs) {i : Nat} {x : SAct} (hx : xs[i]? = some x) : ∃ b off, a = some ⟨b, off, none⟩ ∧ SActAt w b (off + i * 4) x ∧ SActOk w x := by
  rcases h.cells with rfl | ⟨b, off, e, hc⟩
  · simp at hx
  · exact ⟨b, off, e, hc i x hx, h.oks x (List.mem_of_getElem? hx)⟩
section
variable {H : Type} {enc : TypeId × Value → H} {w : World} {base : Nat} {held : Bool}
theorem wrt_open {P : Program} {e q : TypeId} {f0 f1 f2 : Field} {fuel : Nat} {cs : List Value} {x : DataW H × List MemPlace} {sp : Nat → Bool} (he : P.underlying e = some (.struct #[f0, f1, f2]))
    (u0 : P.underlying f0.type = some (.array 16 q)) (uq : P.underlying q = some (.int .u8)) (u1 : P.underlying f1.type = some .string) (u2 : P.underlying f2.type = some .bool)
    (o0 : f0.offset = 0) (o1 : f1.offset = 16) (o2 : f2.offset = 17) (c0 : P.cellsOf f0.type = 16) (c1 : P.cellsOf f1.type = 1) (c2 : P.cellsOf f2.type = 1) (cq : P.cellsOf q = 1)
    (hl : cs.length = 18) (h : DataW.trod enc P w base sp held fuel e cs = some x) : ∃ W, WrtOk W ∧ cs = encW W := by
  obtain ⟨y0, y1, y2, k, _, _, h0, h1, h2⟩ := trod_struct3 he h
  rw [o0, c0, List.drop_zero] at h0
  rw [o1, c1] at h1
  rw [o2, c2] at h2
  obtain ⟨zs, hz0, hz⟩ := arr_cells u0 uq c0 cq (by rw [List.length_take]; omega) h0
  obtain ⟨s2, e2, _, w2⟩ := DataW.trod_string u1 h1
  obtain ⟨b3, e3, _⟩ := DataW.trod_bool u2 h2
  obtain ⟨ns, hns, rfl⟩ := str_numsV s2
  refine ⟨⟨zs, ns, b3⟩, ⟨hz.ky, hns, by rw [strOfNums_size] at w2; exact w2⟩, ?_⟩
  have e4 : cs = cs.take 16 ++ (cs.drop 16).take 1 ++ (cs.drop 17).take 1 := by
    apply List.ext_getElem
    · simp only [List.length_append, List.length_take, List.length_drop]; omega
    · intro i h1 h2
      by_cases hi : i < 16
      · rw [List.getElem_append_left (by simp only [List.length_append, List.length_take, List.length_drop]; omega), List.getElem_append_left (by simp only [List.length_take]; omega), List.getElem_take]
      · by_cases hi2 : i = 16
        · subst hi2
          rw [List.getElem_append_left (by simp only [List.length_append, List.length_take, List.length_drop]; omega), List.getElem_append_right (by simp only [List.length_take]; omega)]
          simp only [List.getElem_take, List.getElem_drop, List.length_take]
          congr 1
          omega
        · have : i = 17 := by omega
          subst this
          rw [List.getElem_append_right (by simp only [List.length_append, List.length_take, List.length_drop]; omega)]
          simp only [List.getElem_take, List.getElem_drop, List.length_take, List.length_append, List.length_drop]
          congr 1
          omega
  rw [e4, hz0, e2, e3]
  show zs.map (Value.int .u8) ++ [.string (strOfNums ns)] ++ [.bool b3] = kc zs ++ [.string (strOfNums ns), .bool b3]
  rw [List.append_assoc]
  rfl
theorem wrts_open {P : Program} {t e q : TypeId} {f0 f1 f2 : Field} {fuel : Nat} {a : Option Addr} {len cap : Nat} {x : DataW H × List MemPlace} (ht : P.underlying t = some (.slice e)) (he : P.underlying e = some (.struct #[f0, f1, f2]))
    (u0 : P.underlying f0.type = some (.array 16 q)) (uq : P.underlying q = some (.int .u8)) (u1 : P.underlying f1.type = some .string) (u2 : P.underlying f2.type = some .bool)
    (o0 : f0.offset = 0) (o1 : f1.offset = 16) (o2 : f2.offset = 17) (c0 : P.cellsOf f0.type = 16) (c1 : P.cellsOf f1.type = 1) (c2 : P.cellsOf f2.type = 1) (cq : P.cellsOf q = 1) (ce : P.cellsOf e = 18)
    (h : DataW.trod enc P w base (fun _ => true) held fuel t [.slice a len cap] = some x) : ∃ l : List Wrt, l.length = len ∧ WrtsOf w a cap l := by
  rcases open_slice ht h with ⟨hcs, _⟩ | ⟨ad, l, c, m, n, D, Pl, hcs, _, hl, hlm, hmm, _, hx⟩
  · simp at hcs
    obtain ⟨rfl, rfl, rfl⟩ := hcs
    exact ⟨[], rfl, ⟨⟨.inl rfl, fun V hV => by simp at hV⟩, Nat.le_refl _, by simp⟩⟩
  · simp at hcs
    obtain ⟨rfl, rfl, rfl⟩ := hcs
    simp only [if_true] at hmm
    by_cases h0 : len = 0
    · subst h0
      exact ⟨[], rfl, ⟨⟨.inl rfl, fun V hV => by simp at hV⟩, Nat.zero_le _, by simp⟩⟩
    have key : ∀ i, i < len → ∃ W : Wrt, WrtOk W ∧ (∃ v, w.cell? (ad.add (i * 18)) = some v) ∧ ∀ b off, ad = ⟨b, off, none⟩ → WrtAt w b (off + i * 18) W := by
      intro i hi
      obtain ⟨cs, hc, htr⟩ := hx i (by omega)
      rw [ce] at hc
      obtain ⟨_, hlen, hcell⟩ := World.cells?_some hc
      obtain ⟨W, hW, rfl⟩ := wrt_open he u0 uq u1 u2 o0 o1 o2 c0 c1 c2 cq hlen htr
      refine ⟨W, hW, ?_, fun b off hb => ⟨lies_of fun j u hj => ?_⟩⟩
      · have q0 := hcell 0 (by omega)
        obtain ⟨v, hv⟩ : ∃ v, (encW W)[0]? = some v := ⟨_, List.getElem?_eq_getElem (by omega)⟩
        rw [hv] at q0
        exact ⟨v, by simpa [Addr.add] using q0⟩
      · have hjl : j < 18 := by rw [← hlen]; exact (List.getElem?_eq_some_iff.1 hj).1
        have q0 := hcell j (by omega)
        subst hb
        rw [add_add, add_atV] at q0
        rw [Nat.add_assoc, q0]
        exact hj
    obtain ⟨b, off, spot⟩ := ad
    have hs : spot = none := by
      obtain ⟨X, _, ⟨v, hX⟩, _⟩ := key 0 (by omega)
      simpa [Addr.add] using World.cell?_spot hX
    subst hs
    have hch : ∃ f : Nat → Wrt, ∀ i, i < len → WrtOk (f i) ∧ WrtAt w b (off + i * 18) (f i) := by
      refine ⟨fun i => if hi : i < len then (key i hi).choose else ⟨zeroK, [], false⟩, fun i hi => ?_⟩
      simp only [dif_pos hi]
      exact ⟨(key i hi).choose_spec.1, (key i hi).choose_spec.2.2 b off rfl⟩
    obtain ⟨f, hf⟩ := hch
    refine ⟨(List.range len).map f, by simp, ⟨⟨.inr ⟨b, off, rfl, fun i X hX => ?_⟩, fun V hV => ?_⟩, by simpa using hl, ?_⟩⟩
    · rw [List.getElem?_map] at hX
      by_cases hi : i < len
      · rw [List.getElem?_range hi] at hX
        simp at hX
        subst hX
        exact (hf i hi).2
      · rw [List.getElem?_eq_none (by simp; omega)] at hX
        simp at hX
    · obtain ⟨i, hi, rfl⟩ := List.mem_map.1 hV
      exact (hf i (List.mem_range.1 hi)).1
    · simp
      unfold maxLen at hlm
      omega
end
end Go.Proofs.Ytcppihpehipelaa

