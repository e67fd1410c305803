/-
  What the landed tables answer: Least, All (package prep: Table).
  What the landed tables answer: Least (package prep: Table).
  What package key answers: Text, Sum, Within, Of.
-/
import Derived.Test.YtileidbdmpeciaaGreatPrepT9
import Derived.Test.YtileidbdmpeciaaGreatAu80
namespace Go.Proofs.YtileidbdmpeciaaGreat
open Go.RowKit
set_option linter.unusedVariables false

theorem wpList_build_pent1 (d : Tmp) {ops : Array Oper} {rest : List Oper} {op : Oper} {a : Act} {w : World} {Q : Exit → Act → World → Prop} (hd : op.dst = some d) (hgd : op.guard = none) (y : Operand) (ho : op.op = .buildSlice 107 1 #[(0, y)])
    (x : EntM) (hx : a.eval y = ev x)
    (h : wpList Tryz.prog ops Q rest (a.put op.dst (.slice (some ⟨w.heap.size, 0, none⟩) 1 1)) (w.alloc (.cells (encE x).toArray 31))) : wpList Tryz.prog ops Q (op :: rest) a w := by
  refine wpList_plain hgd fun K hK => ?_
  have hrun := run_build_pent1 w x
  unfold Oper.wp
  simp only [execOp, ho, List.map_toArray, List.map_cons, List.map_nil, hx, Sem.run_bind, hrun, Result.andThen]
  exact hK _ _ h
/-- Rows of unlike types lie apart. -/
theorem rows_apart {u : World} {B1 B2 e1 e2 s1 s2 n1 n2 : Nat} {v1 v2 : Value} {x1 x2 : List Value} (h1 : u.ownsRow B1 e1 s1 v1 n1 x1) (h2 : u.ownsRow B2 e2 s2 v2 n2 x2) (hne : e1 ≠ e2) {k : Nat} (hk : v1.ownBlock = some k) : v2.ownBlock ≠ some k := fun hk2 => by
  rcases h1.2 with ⟨a1, _⟩ | ⟨g1, p1, c1, a1, _, q1, _⟩
  · rw [a1] at hk; cases hk
  · rcases h2.2 with ⟨a2, _⟩ | ⟨g2, p2, c2, a2, _, q2, _⟩
    · rw [a2] at hk2; cases hk2
    · rw [a1] at hk
      rw [a2] at hk2
      have i1 : g1 = k := by simpa [Value.ownBlock] using hk
      have i2 : g2 = k := by simpa [Value.ownBlock] using hk2
      rw [i1] at q1
      rw [i2, q1] at q2
      have q3 := Option.some.inj q2
      injection q3 with _ q4 _
      exact hne q4
/-- One more entry of an answer: its writes in a row of their own. -/
structure EntOwn (u : World) (B : Nat) (y : EntM) : Prop where
  row : u.ownsRow B 80 18 (.slice y.a y.e.l.length y.c) y.e.l.length (y.e.l.flatMap encW)
  oks : ∀ W ∈ y.e.l, WrtOk W
  few : y.e.l.length ≤ 1000000
  ok : EntOk y.e
theorem EntOwn.past {u u' : World} {B : Nat} {y : EntM} (h : EntOwn u B y) (hb : Below u.heap.size u u') : EntOwn u' B y := ⟨row_keptT h.row (fun k e => hb.block k (h.row.lt k e).2), h.oks, h.few, h.ok⟩
theorem EntOwn.ent {u : World} {B : Nat} {y : EntM} (h : EntOwn u B y) : EntW u y := by
  obtain ⟨k1, k2, _⟩ := own_wrts h.row rfl h.oks
  exact ⟨k2, k1, h.few, h.ok⟩
theorem EntOwn.turned {u u' : World} {B B2 n : Nat} {v : Value} {xs : List Value} {y : EntM} (h : EntOwn u B y) (ho : u.ownsRow B2 31 6 v n xs) (hg : u.grownBy u' v.ownBlock) : EntOwn u' B y :=
  ⟨row_keptT h.row (fun k e => hg.block k (h.row.lt k e).2 (fun e2 => rows_apart h.row ho (by decide) e e2.symm)), h.oks, h.few, h.ok⟩
/-- The entries of an answer. -/
structure AllOf (u : World) (B : Nat) (v : Value) (L : List EntM) (E : List Ent) : Prop where
  row : u.ownsRow B 31 6 v L.length (L.flatMap encE)
  is : ents L = E
  own : ∀ y ∈ L, EntOwn u B y
set_option maxHeartbeats 8000000 in
set_option maxRecDepth 4000 in
theorem pall_any (p : Nat) (M : List EntM) (X : Foot) (w : World) (h : PTab w p M X) :
    Calls Tryz.prog 59 #[.pointer (some ⟨p, 0, none⟩)] w fun e w' => (∃ a c L, e = .returned (.slice a M.length c) ∧ AllOf w' w.heap.size (.slice a M.length c) L (ents M)) ∧ Below w.heap.size w w' := by
  obtain ⟨a0, c0, hc1, hc2, hc3, hcell, hent, hblk⟩ := h.open
  obtain ⟨N, hN⟩ : ∃ N, N = M.length := ⟨_, rfl⟩
  have hfew : N ≤ 100 := by rw [hN]; exact h.few
  have q0 : w.cell? ⟨p, 0, none⟩ = some (.slice a0 N c0) := by rw [hN]; exact (hcell w (Below.refl _ _)).1
  have HS : Hid (∀ i x, M[i]? = some x → ∃ g, a0 = some ⟨g, 0, none⟩ ∧ Hid (∀ v, Below w.heap.size w v → EntAt v g (i * 6) x)) := hent
  have HN : Hid (M.length = N) := hN.symm
  have CT : Hid (∀ x ∈ M, ∀ u, Below w.heap.size w u → Calls Tryz.prog 93 #[ev x] u fun e w' => ∃ Y, e = .returned (ev Y) ∧ Y.e = x.e ∧ EntOwn w' w.heap.size Y ∧ Below u.heap.size u w') := fun x hx u hb => by
    have hex := (h.wrs x hx).past hb
    refine (ptold_any x u hex).mono ?_
    rintro e w' ⟨a', c', rfl, ho, hb'⟩
    exact ⟨_, rfl, rfl, ⟨own_downT ho (by have := hb.size; omega), hex.wr.oks, hex.few, hex.ok⟩, hb'⟩
  rw [← hN]
  have hNc : N ≤ c0 := by omega
  clear h hcell hent hblk hN hc1 hc2 hc3
  go_enter Tryz.func59, Tryz.ntmps59
  go_wp2
  go_loopw [3, 11] (fun rv iv wr => ∃ (i : Nat) (ra : Option Addr) (rc : Nat) (L : List EntM), iv = .int .i64 i ∧ rv = .slice ra i rc ∧ i ≤ N ∧ Hid (OwnB 31 6 w wr (.slice ra i rc) i (L.flatMap encE)) ∧ Hid (ents L = ents (M.take i)) ∧ Hid (∀ y ∈ L, EntOwn wr w.heap.size y) ∧ Hid (L.length = i)) (fun _ iv _ => N - (intOf iv).toNat)
  case atStart => exact ⟨0, none, 0, [], rfl, rfl, Nat.zero_le _, ⟨World.ownsRow_nil _ _ _ _, Below.refl _ _⟩, rfl, fun y hy => by simp at hy, rfl⟩
  case round =>
    obtain ⟨i, ra, rc, L, rfl, rfl, hi, HO, HE, HL, HLN⟩ := hrel
    have hi0 : (0 : Int) ≤ (i : Int) := by omega
    by_cases hlt : i < N
    · have h1 : (i : Int) < (N : Int) := by omega
      have hm1 : i + 1 ≤ 1000000 := by omega
      obtain ⟨x, hx⟩ : ∃ x, M[i]? = some x := ⟨_, List.getElem?_eq_getElem (by rw [HN.out]; exact hlt)⟩
      obtain ⟨g, hag, HG⟩ := HS.out i x hx
      subst hag
      have FE : Hid (EntAt wr g (i * 6) x) := HG.out wr HO.out.below
      have CT1 : Hid (∀ u, Below w.heap.size w u → Calls Tryz.prog 93 #[ev x] u fun e w' => ∃ Y, e = .returned (ev Y) ∧ Y.e = x.e ∧ EntOwn w' w.heap.size Y ∧ Below u.heap.size u w') := CT.out x (List.mem_of_getElem? hx)
      have HNX : Hid (ents (M.take (i + 1)) = ents (M.take i) ++ [x.e]) := by show _ = _; rw [List.take_add_one, hx]; simp [ents]
      have hmi := EntMine.made wr 31 zeroE
      rw [zeroE_cells] at hmi
      have HMI : Hid _ := hmi
      clear hx hmi
      go_wp2_with (first | ((with_reducible show wpList _ _ _ (Oper.mk (some 14) _ _ _ _ _ :: _) _ _); refine wpList_load_pent 14 (by rfl) (by rfl) _ (by rfl) g (i * 6) (by rfl) x FE.out ?_) | (have hgo := HMI.out; clear hgo; refine wpList_store_pent (.tmp 5) (by rfl) _ (by rfl) wr.heap.size zeroE x (by rfl) (by rfl) HMI.out ?_; intro u2 hu; have HX2 : Hid (EntMine u2 wr.heap.size x) := hu ▸ HMI.out.store; have HB2 : Hid (Below wr.heap.size wr u2) := hu ▸ below_cells (Nat.le_refl _) ((Below.refl _ _).alloc (Nat.le_refl _) _); have HB3 : Hid (Below w.heap.size w u2) := HO.out.below.trans (HB2.out.mono HO.out.below.size); clear hu HMI) | ((with_reducible show wpList _ _ _ (Oper.mk (some 16) _ _ _ _ _ :: _) _ _); refine wpList_load_pent 16 (by rfl) (by rfl) _ (by rfl) wr.heap.size 0 (by rfl) x HX2.out.at_ ?_) | (go_at_call 93; refine (CT1.out _ HB3.out).mono ?_; rintro e w3 ⟨Y, rfl, hY1, hY2, hb3⟩; have HY1 : Hid (Y.e = x.e) := hY1; have HY2 : Hid (EntOwn w3 w.heap.size Y) := hY2; have HB4 : Hid (Below wr.heap.size wr w3) := HB2.out.trans (hb3.mono HB2.out.size); have HO3 : Hid (OwnB 31 6 w w3 (.slice ra i rc) i (L.flatMap encE)) := ⟨row_keptT HO.out.own (fun k e => HB4.out.block k (HO.out.own.lt k e).2), HO.out.below.trans (HB4.out.mono HO.out.below.size)⟩; clear hY1 hY2 hb3) | ((with_reducible show wpList _ _ _ (Oper.mk (some 18) _ _ _ _ _ :: _) _ _); refine wpList_build_pent1 18 (by rfl) (by rfl) _ (by rfl) Y (by rfl) ?_) | (at_builtin; refine wpList_own pentEl (w0 := w) rfl (.tmp 15) (.tmp 18) rfl _ i _ (encE Y) rfl (HO3.out.alloc _) _ _ _ rfl (by rw [encE_len]) (lies_made _ _ _) (encE_one Y) (fun h => by cases h) (i + 1) rfl hm1 ((L ++ [Y]).flatMap encE) (by rw [List.flatMap_append]; simp) ?_; intro a6 c6 w6 h1 h2; have O6 : Hid (OwnB 31 6 w w6 (.slice a6 (i + 1) c6) (i + 1) ((L ++ [Y]).flatMap encE)) := h1; have G6 : Hid ((w3.alloc (.cells (encE Y).toArray 31)).grownBy w6 (Value.slice ra i rc).ownBlock) := h2; clear h1 h2))
      go_roundw
      case rel =>
        refine ⟨i + 1, a6, c6, L ++ [Y], by go_num, rfl, by omega, O6, ?_, fun y hy => ?_, ?_⟩
        · show _ = _
          rw [HNX.out, ← HE.out, ← HY1.out]
          simp [ents]
        · have hbA : Below w3.heap.size w3 (w3.alloc (.cells (encE Y).toArray 31)) := (Below.refl _ _).alloc (Nat.le_refl _) _
          have ho := (HO3.out.alloc (.cells (encE Y).toArray 31)).own
          rcases List.mem_append.1 hy with e | e
          · exact (((HL.out y e).past HB4.out).past hbA).turned ho G6.out
          · simp at e
            rw [e]
            exact (HY2.out.past hbA).turned ho G6.out
        · show _ = _
          rw [List.length_append, HLN.out]
          rfl
      case measure => simp [intOf]; omega
    · obtain rfl : i = N := by omega
      have HT : Hid (M.take i = M) := List.take_of_length_le (by rw [HN.out]; exact Nat.le_refl _)
      go_wp2
      go_ret
      refine ⟨⟨ra, rc, L, rfl, ⟨?_, ?_, HL.out⟩⟩, HO.out.below⟩
      · have := HO.out.own
        rw [← HLN.out] at this ⊢
        exact this
      · rw [HE.out, HT.out]
end Go.Proofs.YtileidbdmpeciaaGreat

namespace Go.Proofs.YtileidbdmpeciaaGreat
open Go.RowKit
set_option linter.unusedVariables false

end Go.Proofs.YtileidbdmpeciaaGreat

namespace Go.Proofs.YtileidbdmpeciaaGreat
open Go.RowKit
set_option linter.unusedVariables false

end Go.Proofs.YtileidbdmpeciaaGreat

