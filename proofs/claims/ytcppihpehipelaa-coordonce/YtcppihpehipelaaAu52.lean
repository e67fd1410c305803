/-
  For CoordOnce: a Coord beside the law's own list of truths and stamps; where a part stands.
  A struct of two integers that came in, by value.
-/
import Derived.Test.YtcppihpehipelaaAu35
import Derived.Test.YtcppihpehipelaaProg
import Derived.ProofKit
import Derived.OpenShut
import Derived.ChangeSame
import Derived.Below
namespace Go.Proofs.Ytcppihpehipelaa
open Go.RowKit
set_option linter.unusedVariables false
set_option linter.unusedSimpArgs false

/-- Where a part stands in the first k: -1 where it does not. -/
def plcC (l : List Int) (p : Int) (k : Nat) : Int := if spotC l p < k then (spotC l p : Int) else -1
theorem plcC_zero (l : List Int) (p : Int) : plcC l p 0 = -1 := if_neg (by omega)
theorem spotC_le {l : List Int} {p : Int} {k : Nat} (h : l[k]? = some p) : spotC l p ≤ k := by
  induction l generalizing k with
  | nil => simp at h
  | cons a r ih =>
    rw [spotC_cons]
    by_cases e : a = p
    · rw [if_pos e]; omega
    · rw [if_neg e]
      cases k with
      | zero => simp at h; exact absurd h e
      | succ k =>
        rw [List.getElem?_cons_succ] at h
        have := ih h
        omega
theorem plcC_hit {l : List Int} {p : Int} {k : Nat} (hn : l.Nodup) (h : l[k]? = some p) : plcC l p (k + 1) = (k : Int) := by
  have h1 := spotC_le h
  have h2 := spotC_lt (List.mem_of_getElem? h)
  have e : spotC l p = k := by
    have h3 := (List.getElem?_eq_some_iff.1 h)
    obtain ⟨q1, q2⟩ := h3
    have h4 := List.getElem?_eq_some_iff.1 h2.2
    obtain ⟨q3, q4⟩ := h4
    exact (List.getElem_inj hn).1 (q4.trans q2.symm)
  unfold plcC
  rw [e, if_pos (by omega)]
theorem plcC_miss {l : List Int} {p x : Int} {k : Nat} (h : l[k]? = some x) (hx : x ≠ p) : plcC l p (k + 1) = plcC l p k := by
  have hne : spotC l p ≠ k := fun e => by
    have hk := (List.getElem?_eq_some_iff.1 h).1
    by_cases hm : p ∈ l
    · have := (spotC_lt hm).2
      rw [e, h] at this
      injection this with this
      exact hx this
    · have := spotC_no hm; omega
  unfold plcC
  by_cases h1 : spotC l p < k
  · rw [if_pos h1, if_pos (by omega)]
  · rw [if_neg h1, if_neg (by omega)]
theorem plcC_yes {l : List Int} {p : Int} (h : hasP l p = true) : plcC l p l.length = (spotC l p : Int) ∧ spotC l p < l.length := ⟨if_pos (of_decide_eq_true h), of_decide_eq_true h⟩
theorem plcC_no {l : List Int} {p : Int} (h : hasP l p = false) : plcC l p l.length = -1 := if_neg (of_decide_eq_false h)
/-- An Ack turns nothing that the law looks at. -/
theorem OnceC.acked {d : DecC} {st sn mt mn wt wn : Int} {ys : List Bool} {kn co : Bool} (h : OnceC d st sn ys kn co mt mn wt wn) (p : Int) : OnceC (ackD d p).2 st sn ys kn co mt mn wt wn := by
  unfold ackD
  split
  · exact h
  · split
    · exact h
    · exact ⟨h.snap, h.ys, h.kn, h.co, h.told, h.zero, h.most, h.open_, h.no, h.above, h.one, h.ways⟩
theorem OnceC.given {d : DecC} {st sn mt mn wt wn : Int} {ys : List Bool} {kn co : Bool} (h : OnceC d st sn ys kn co mt mn wt wn) : OnceC (giveD d) st sn ys true co mt mn wt wn := by
  unfold giveD
  split
  · next h0 => exact h.refused h0
  · next h0 =>
    have hk : kn = true := by rw [h.kn]; exact decide_eq_true h0
    subst hk
    exact h
theorem encDA_one (y : DAct) : ∀ u ∈ encDA y, u.oneCell' = true := fun u hu => by
  unfold encDA at hu
  simp only [List.mem_cons] at hu
  rcases hu with rfl | rfl | rfl | rfl | rfl | rfl | rfl | h
  · rfl
  · rfl
  · rfl
  · rfl
  · rfl
  · rfl
  · rfl
  · exact encR_one y.r u h
theorem there16C (w : World) (T : TypeId) : (w.alloc (.cells #[.int .i64 0, .int .i64 0, .int .i64 0, .int .u8 0, .slice none 0 0, .int .i64 0, .bool false, .int .i64 0, .int .i64 0, .int .i64 0, .int .u8 0, .int .i64 0, .int .u8 0, .slice none 0 0, .bool false, .slice none 0 0] T)).there w.heap.size 0 16 := fun j hj => by
  rw [Nat.zero_add, World.cell?_alloc_new]
  refine ⟨?_, World.frozen?_alloc_new _ _ _ _⟩
  rw [Array.getElem?_eq_getElem (by show j < 16; exact hj)]
  rfl
/-- The law's own memory beside the Coord. -/
structure OnceM (wA u : World) (b : Nat) (d : DecC) (YB MB HB BX : Nat) (ys : List Bool) (mt mn wt wn : Int) : Prop where
  kd : CdF wA u b [d] (fun k => k = YB ∨ k = MB ∨ k = HB ∨ k = BX)
  lo : wA.heap.size ≤ YB ∧ wA.heap.size ≤ MB ∧ wA.heap.size ≤ HB ∧ wA.heap.size ≤ BX
  ne : YB ≠ MB ∧ YB ≠ HB ∧ MB ≠ HB
  y : BoolsO u YB ys
  m : SBox u MB mt mn
  h : SBox u HB wt wn
theorem OnceM.past {wA u u' : World} {b YB MB HB BX : Nat} {d : DecC} {ys : List Bool} {mt mn wt wn : Int} (h : OnceM wA u b d YB MB HB BX ys mt mn wt wn) (hb : Below u.heap.size u u') : OnceM wA u' b d YB MB HB BX ys mt mn wt wn :=
  ⟨h.kd.past hb, h.lo, h.ne, h.y.past hb, h.m.past hb, h.h.past hb⟩
theorem OnceM.low {wA u : World} {b YB MB HB BX : Nat} {d : DecC} {ys : List Bool} {mt mn wt wn : Int} (h : OnceM wA u b d YB MB HB BX ys mt mn wt wn) : ∀ k, (k = YB ∨ k = MB ∨ k = HB ∨ k = BX) → wA.heap.size ≤ k := fun k hk => by
  rcases hk with e | e | e | e
  · rw [e]; exact h.lo.1
  · rw [e]; exact h.lo.2.1
  · rw [e]; exact h.lo.2.2.1
  · rw [e]; exact h.lo.2.2.2
/-- A box that is new stays too. -/
theorem OnceM.box {wA u u' : World} {b YB MB HB BX BX' : Nat} {d : DecC} {ys : List Bool} {mt mn wt wn : Int} (h : OnceM wA u b d YB MB HB BX ys mt mn wt wn) (hb : Below u.heap.size u u') (h1 : u.heap.size ≤ BX') (h2 : BX' < u'.heap.size) : OnceM wA u' b d YB MB HB BX' ys mt mn wt wn := by
  have hs := hb.size
  refine ⟨h.kd.more hb (fun k hk => ?_), ⟨h.lo.1, h.lo.2.1, h.lo.2.2.1, Nat.le_trans h.kd.below.size h1⟩, h.ne, h.y.past hb, h.m.past hb, h.h.past hb⟩
  have f := h.kd.flt
  rcases hk with e | e | e | e
  · exact ⟨.inl (.inl e), by have := f k (.inl e); omega⟩
  · exact ⟨.inl (.inr (.inl e)), by have := f k (.inr (.inl e)); omega⟩
  · exact ⟨.inl (.inr (.inr (.inl e))), by have := f k (.inr (.inr (.inl e))); omega⟩
  · exact ⟨.inr (by omega), by omega⟩
theorem OnceM.back {wA u : World} {b YB MB HB BX : Nat} {d : DecC} {ys : List Bool} {mt mn wt wn : Int} (h : OnceM wA u b d YB MB HB BX ys mt mn wt wn) : OnceM wA u b d YB MB HB HB ys mt mn wt wn :=
  ⟨h.kd.less (fun k hk => by rcases hk with e | e | e | e; exact .inl e; exact .inr (.inl e); exact .inr (.inr (.inl e)); exact .inr (.inr (.inl e))), ⟨h.lo.1, h.lo.2.1, h.lo.2.2.1, h.lo.2.2.1⟩, h.ne, h.y, h.m, h.h⟩
theorem OnceM.call {wA u u' : World} {b YB MB HB BX : Nat} {d d' : DecC} {ys : List Bool} {mt mn wt wn : Int} (h : OnceM wA u b d YB MB HB BX ys mt mn wt wn) (hs : CdS wA u u' b [d'] (fun k => k = YB ∨ k = MB ∨ k = HB ∨ k = BX)) : OnceM wA u' b d' YB MB HB BX ys mt mn wt wn ∧ u'.heap[BX]? = u.heap[BX]? ∧ Below wA.heap.size wA u' :=
  ⟨⟨hs.at_, h.lo, h.ne, h.y.kept (hs.stay YB (.inl rfl)), h.m.kept (hs.stay MB (.inr (.inl rfl))), h.h.kept (hs.stay HB (.inr (.inr (.inl rfl))))⟩, hs.stay BX (.inr (.inr (.inr rfl))), hs.at_.below⟩
theorem OnceM.turnF {wA u u' : World} {b YB MB HB BX g : Nat} {d : DecC} {ys : List Bool} {mt mn wt wn : Int} (h : OnceM wA u b d YB MB HB BX ys mt mn wt wn) (hg : g = YB ∨ g = MB ∨ g = HB ∨ g = BX) (hc : Chg u u' (fun k => k = g)) : CdF wA u' b [d] (fun k => k = YB ∨ k = MB ∨ k = HB ∨ k = BX) :=
  h.kd.own (hc.mono (fun k _ e => by rw [e]; exact hg)) h.low (fun k hk => ⟨.inl hk, Nat.lt_of_lt_of_le (h.kd.flt k hk) hc.size⟩)
theorem OnceM.setY {wA u : World} {b YB MB HB BX : Nat} {d : DecC} {ys : List Bool} {mt mn wt wn : Int} (h : OnceM wA u b d YB MB HB BX ys mt mn wt wn) {i : Nat} (hi : i < ys.length) (v : Bool) : OnceM wA (u.setCell ⟨YB, i, none⟩ (.bool v)) b d YB MB HB BX (ys.set i v) mt mn wt wn :=
  ⟨h.turnF (.inl rfl) (Chg.set u ⟨YB, i, none⟩ _ rfl), h.lo, h.ne, h.y.set hi v, h.m.kept (Below.heap_setCell _ ⟨YB, i, none⟩ _ MB (fun e => h.ne.1 e.symm)), h.h.kept (Below.heap_setCell _ ⟨YB, i, none⟩ _ HB (fun e => h.ne.2.1 e.symm))⟩
theorem OnceM.setM {wA u : World} {b YB MB HB BX : Nat} {d : DecC} {ys : List Bool} {mt mn wt wn : Int} (h : OnceM wA u b d YB MB HB BX ys mt mn wt wn) (t n : Int) : OnceM wA ((u.setCell ⟨MB, 0, none⟩ (.int .i64 t)).setCell ⟨MB, 1, none⟩ (.int .u8 n)) b d YB MB HB BX ys t n wt wn := by
  have hc : Chg u ((u.setCell ⟨MB, 0, none⟩ (.int .i64 t)).setCell ⟨MB, 1, none⟩ (.int .u8 n)) (fun k => k = MB) := (Chg.set u ⟨MB, 0, none⟩ _ (X := fun k => k = MB) rfl).trans (Chg.set _ ⟨MB, 1, none⟩ _ (X := fun k => k = MB) rfl) (fun _ _ y => y)
  exact ⟨h.turnF (.inr (.inl rfl)) hc, h.lo, h.ne, h.y.kept (hc.block YB h.y.lt h.ne.1), h.m.set t n, h.h.kept (hc.block HB h.h.lt (fun e => h.ne.2.2 e.symm))⟩
theorem OnceM.setH {wA u : World} {b YB MB HB BX : Nat} {d : DecC} {ys : List Bool} {mt mn wt wn : Int} (h : OnceM wA u b d YB MB HB BX ys mt mn wt wn) (t n : Int) : OnceM wA ((u.setCell ⟨HB, 0, none⟩ (.int .i64 t)).setCell ⟨HB, 1, none⟩ (.int .u8 n)) b d YB MB HB BX ys mt mn t n := by
  have hc : Chg u ((u.setCell ⟨HB, 0, none⟩ (.int .i64 t)).setCell ⟨HB, 1, none⟩ (.int .u8 n)) (fun k => k = HB) := (Chg.set u ⟨HB, 0, none⟩ _ (X := fun k => k = HB) rfl).trans (Chg.set _ ⟨HB, 1, none⟩ _ (X := fun k => k = HB) rfl) (fun _ _ y => y)
  exact ⟨h.turnF (.inr (.inr (.inl rfl))) hc, h.lo, h.ne, h.y.kept (hc.block YB h.y.lt h.ne.2.1), h.m.kept (hc.block MB h.m.lt h.ne.2.2), h.h.set t n⟩
/-- It begins. -/
theorem OnceM.start {wA u u1 : World} {b : Nat} {d : DecC} {N : Nat} {T1 T2 : TypeId} (h : CdF wA u b [d] noFoot) (h1 : u1 = ((u.alloc (.cells (madeCells #[Value.bool false] N) 4)).alloc (.cells #[.int .i64 0, .int .u8 0] T1)).alloc (.cells #[.int .i64 0, .int .u8 0] T2)) :
    OnceM wA u1 b d u.heap.size (u.heap.size + 1) (u.heap.size + 2) (u.heap.size + 2) (List.replicate N false) 0 0 0 0 := by
  obtain ⟨v1, e1⟩ : ∃ v, v = u.alloc (.cells (madeCells #[Value.bool false] N) 4) := ⟨_, rfl⟩
  obtain ⟨v2, e2⟩ : ∃ v, v = v1.alloc (.cells #[.int .i64 0, .int .u8 0] T1) := ⟨_, rfl⟩
  rw [← e1, ← e2] at h1
  have s1 : v1.heap.size = u.heap.size + 1 := by rw [e1]; simp
  have s2 : v2.heap.size = u.heap.size + 2 := by rw [e2]; simp [s1]
  have s3 : u1.heap.size = u.heap.size + 3 := by rw [h1]; simp [s2]
  have b1 : Below u.heap.size u v1 := by rw [e1]; exact alloc_belowC _ _
  have b2 : Below v1.heap.size v1 v2 := by rw [e2]; exact alloc_belowC _ _
  have b3 : Below v2.heap.size v2 u1 := by rw [h1]; exact alloc_belowC _ _
  have hb : Below u.heap.size u u1 := (b1.trans (b2.mono b1.size)).trans (b3.mono (by omega))
  have hA := h.below.size
  have y0 : BoolsO v1 u.heap.size (List.replicate N false) := by rw [e1]; exact BoolsO.made u N
  have m0 : SBox v2 (u.heap.size + 1) 0 0 := by rw [e2, ← s1]; exact SBox.made v1 T1 0 0
  have h0 : SBox u1 (u.heap.size + 2) 0 0 := by rw [h1, ← s2]; exact SBox.made v2 T2 0 0
  exact ⟨h.more hb (fun k hk => ⟨.inr (by omega), by omega⟩), by omega, by omega, (y0.past b2).past b3, m0.past b3, h0⟩
end Go.Proofs.Ytcppihpehipelaa

namespace Go.Proofs.Ytcppihpehipelaa
open Go.RowKit Go.ChangeShapes Go.WideShapes Go.ChangeAt
set_option linter.unusedVariables false
section
variable {H : Type} {enc : TypeId × Value → H} {w : World} {base : Nat} {held : Bool}
theorem struct2_open {P : Program} {t : TypeId} {f0 f1 : Field} {k0 k1 : IntKind} {sp : Nat → Bool} {v : Value} {r : Reach} {b0 : Nat} {d : DataW H} {ps : List MemPlace} (ht : P.underlying t = some (.struct #[f0, f1]))
    (u0 : P.underlying f0.type = some (.int k0)) (u1 : P.underlying f1.type = some (.int k1)) (o0 : f0.offset = 0) (o1 : f1.offset = 1)
    (c0 : P.cellsOf f0.type = 1) (c1 : P.cellsOf f1.type = 1) (ct : P.cellsOf t = 2)
    (hval : Value.okWide P w r b0 t v) (hd : DataW.Trod enc P w base sp held t v d ps) : ∃ a b : Int, v = .agg #[.int k0 a, .int k1 b] ∧ (Lit.int k0 a).wf = true ∧ (Lit.int k1 b).wf = true := by
  obtain ⟨cs, rfl, hsz⟩ := okWide_struct ht hval
  rw [ct] at hsz
  obtain ⟨fuel, hf⟩ := hd
  obtain ⟨y0, y1, n, _, _, h0, h1⟩ := trod_struct2 ht hf
  obtain ⟨a, ha, _, wa⟩ := DataW.trod_int u0 h0
  obtain ⟨b, hb, _, wb⟩ := DataW.trod_int u1 h1
  rw [o0, c0] at ha
  rw [o1, c1] at hb
  refine ⟨a, b, ?_, wa, wb⟩
  obtain ⟨l⟩ := cs
  simp only [Value.cells] at ha hb
  match l, hsz with
  | [x, y], _ =>
    simp at ha hb
    rw [ha, hb]
end
end Go.Proofs.Ytcppihpehipelaa

