/-
  What chapter 12 says of refusals and of scans, reckoned; a store beside items and a stamp that stay as they are.
-/
import Derived.Test.YtfaojmognbgnfaaStoL4
namespace Go.Proofs.Ytfaojmognbgnfaa
open Go.RowKit
set_option linter.unusedVariables false

def keyB : List Int := ofK [98]
def keyC : List Int := ofK [99]
def keyZ : List Int := ofK [122]
theorem keyB_ky : Ky keyB := ofK_ky (by decide)
theorem keyC_ky : Ky keyC := ofK_ky (by decide)
theorem keyZ_ky : Ky keyZ := ofK_ky (by decide)
def known1 : List Ver := [⟨keyA, 1, 0, [50], false⟩, ⟨keyB, 1, 0, [49], false⟩, ⟨keyC, 1, 0, [51], false⟩]
def known2 : List Ver := [⟨keyA, 1, 0, [50], false⟩, ⟨keyB, 1, 0, [49], false⟩, ⟨keyB, 3, 0, [], true⟩, ⟨keyC, 1, 0, [51], false⟩]
def known3 : List Ver := [⟨keyA, 1, 0, [50], false⟩, ⟨keyC, 1, 0, [51], false⟩]
theorem known_a : applyV [] 1 0 [] = (1, []) := by kernel_rfl
theorem known_b : applyV [] 1 0 [⟨keyA, [], false⟩, ⟨keyA, [], false⟩] = (1, []) := by kernel_rfl
theorem known_c : applyV [] (-1) 0 [⟨keyA, [], false⟩] = (1, []) := by kernel_rfl
theorem known_1 : applyV [] 1 0 [⟨keyB, [49], false⟩, ⟨keyA, [50], false⟩, ⟨keyC, [51], false⟩] = (0, known1) := by kernel_rfl
theorem known_d : applyV known1 1 0 [⟨keyZ, [], false⟩, ⟨keyA, [], false⟩] = (5, known1) := by kernel_rfl
theorem known_2 : applyV known1 3 0 [⟨keyB, [], true⟩] = (0, known2) := by kernel_rfl
theorem known_x : (scanV known2 keyA zeroK 2 0).take (2 : Int).toNat = [(keyA, [50]), (keyB, [49])] := by kernel_rfl
theorem known_y : (scanV known2 keyA keyC 3 0).take (9 : Int).toNat = [(keyA, [50])] := by kernel_rfl
theorem known_n : newestV known2 keyB = some ⟨keyB, 3, 0, [], true⟩ := by kernel_rfl
theorem known_t : restV known2 3 0 = known3 := by kernel_rfl
theorem known_g : newestV known3 keyB = none := by kernel_rfl
theorem known_k : keysV known3 = [keyA, keyC] := by kernel_rfl
theorem known_e : (scanV known3 keyA zeroK 9 0).take (-1 : Int).toNat = [] := by kernel_rfl
/-- A store since W; the blocks of F are no part of it. -/
def Kn (W u : World) (p : Nat) (L : List Ver) (F : Foot) : Prop := ∃ X, StD u p L X ∧ Below W.heap.size W u ∧ (∀ k, X k → W.heap.size ≤ k) ∧ ∀ k, F k → k < u.heap.size ∧ ¬ X k
theorem Kn.below {W u : World} {p : Nat} {L : List Ver} {F : Foot} (h : Kn W u p L F) : Below W.heap.size W u := by obtain ⟨X, _, h, _⟩ := h; exact h
theorem Kn.stx {W u : World} {p : Nat} {L : List Ver} {F : Foot} (h : Kn W u p L F) : StX W u p L := by obtain ⟨X, h1, h2, h3, _⟩ := h; exact ⟨X, h1, h2, h3⟩
theorem StX.kn {W u : World} {p : Nat} {L : List Ver} (h : StX W u p L) : Kn W u p L noFoot := by obtain ⟨X, h1, h2, h3⟩ := h; exact ⟨X, h1, h2, h3, fun k hk => hk.elim⟩
theorem Kn.past {W u u' : World} {p : Nat} {L : List Ver} {F : Foot} (h : Kn W u p L F) (hb : Below u.heap.size u u') : Kn W u' p L F := by
  obtain ⟨X, h1, h2, h3, h4⟩ := h
  exact ⟨X, h1.past hb, h2.trans (hb.mono h2.size), h3, fun k hk => ⟨Nat.lt_of_lt_of_le (h4 k hk).1 hb.size, (h4 k hk).2⟩⟩
theorem Kn.add {W u u' : World} {p : Nat} {L : List Ver} {F G : Foot} (h : Kn W u p L F) (hb : Below u.heap.size u u') (hG : ∀ k, G k → F k ∨ (u.heap.size ≤ k ∧ k < u'.heap.size)) : Kn W u' p L G := by
  obtain ⟨X, h1, h2, h3, h4⟩ := h
  refine ⟨X, h1.past hb, h2.trans (hb.mono h2.size), h3, fun k hk => ?_⟩
  rcases hG k hk with e | e
  · exact ⟨Nat.lt_of_lt_of_le (h4 k e).1 hb.size, (h4 k e).2⟩
  · exact ⟨e.2, fun x => by have := h1.lt k x; omega⟩
theorem Kn.scan {W u : World} {p : Nat} {L : List Ver} {F : Foot} (h : Kn W u p L F) (a b : List Int) (ha : Ky a) (hb : Ky b) (t n most : Int) (hmo : -9223372036854775808 ≤ most ∧ most ≤ 9223372036854775807) (R : List Itm) (hR : (scanV L a b t n).take most.toNat = R) (N : Nat) (hN : R.length = N) (hN0 : 0 < N) :
    Calls Try.prog 13 #[.pointer (some ⟨p, 0, none⟩), kv a, kv b, .agg #[.int .i64 t, .int .u8 n], .int .i64 most] u fun e w' => ∃ g c', e = .returned (.slice (some ⟨g, 0, none⟩) N c') ∧ ItmsAt w' (some ⟨g, 0, none⟩) R ∧ N ≤ c' ∧ Kn W w' p L (fun k => F k ∨ k = g) ∧ Below u.heap.size u w' := by
  obtain ⟨X, h1, _⟩ := h.stx
  have hc := sscan_own p L X a b ha hb t n most hmo u h1
  rw [hR, hN] at hc
  refine hc.mono ?_
  rintro e w' ⟨⟨a', c', rfl, e2, e3, e4⟩, hbl⟩
  rcases e4.2 with ⟨_, e5⟩ | ⟨g, cap, cur, e5, hg, hh, _⟩
  · omega
  · injection e5 with x1 x2 x3
    subst x1
    exact ⟨g, c', rfl, e2, e3, h.add hbl (fun k hk => hk.imp id (fun e => by rw [e]; exact ⟨hg, (Array.getElem?_eq_some_iff.1 hh).1⟩)), hbl⟩
theorem Kn.trim {W u : World} {p : Nat} {L : List Ver} {F : Foot} (h : Kn W u p L F) (t n : Int) :
    Calls Try.prog 15 #[.pointer (some ⟨p, 0, none⟩), .agg #[.int .i64 t, .int .u8 n]] u fun e w' => e = .returned (.int .i64 ((L.length : Int) - ((restV L t n).length : Int))) ∧ Kn W w' p (restV L t n) F ∧ ∀ k, F k → w'.heap[k]? = u.heap[k]? := by
  obtain ⟨X, h1, h2, h3, h4⟩ := h
  refine (strim_any p L X t n u h1).mono ?_
  rintro e w' ⟨rfl, X', j1, j2⟩
  refine ⟨rfl, ⟨X', j1, h2.trans (j2.chg.below h2.size h3), fun k hk => (j2.new k hk).1.elim (h3 k) (fun e => Nat.le_trans h2.size e), fun k hk => ⟨Nat.lt_of_lt_of_le (h4 k hk).1 j2.chg.size, fun x => ?_⟩⟩, fun k hk => j2.chg.block k (h4 k hk).1 (h4 k hk).2⟩
  rcases (j2.new k x).1 with e | e
  · exact (h4 k hk).2 e
  · have := (h4 k hk).1; omega
/-- A store, two lists of items, a stamp. -/
structure KnS (W u : World) (p : Nat) (L : List Ver) (g g' nb : Nat) (R R' : List Itm) (t n : Int) : Prop where
  kn : Kn W u p L (fun k => (k = g ∨ k = g') ∨ k = nb)
  x : ItmsAt u (some ⟨g, 0, none⟩) R
  y : ItmsAt u (some ⟨g', 0, none⟩) R'
  c0 : u.cell? ⟨nb, 0, none⟩ = some (.int .i64 t)
  c1 : u.cell? ⟨nb, 1, none⟩ = some (.int .u8 n)
theorem KnS.past {W u u' : World} {p : Nat} {L : List Ver} {g g' nb : Nat} {R R' : List Itm} {t n : Int} (h : KnS W u p L g g' nb R R' t n) (hb : Below u.heap.size u u') : KnS W u' p L g g' nb R R' t n :=
  ⟨h.kn.past hb, h.x.past hb, h.y.past hb, (hb.cell (p := ⟨nb, 0, none⟩) (cell_lt h.c0)).trans h.c0, (hb.cell (p := ⟨nb, 1, none⟩) (cell_lt h.c0)).trans h.c1⟩
theorem KnS.trim {W u : World} {p : Nat} {L : List Ver} {g g' nb : Nat} {R R' : List Itm} {t n : Int} (h : KnS W u p L g g' nb R R' t n) (t' n' : Int) :
    Calls Try.prog 15 #[.pointer (some ⟨p, 0, none⟩), .agg #[.int .i64 t', .int .u8 n']] u fun e w' => e = .returned (.int .i64 ((L.length : Int) - ((restV L t' n').length : Int))) ∧ KnS W w' p (restV L t' n') g g' nb R R' t n := by
  refine (h.kn.trim t' n').mono ?_
  rintro e w' ⟨rfl, h1, h2⟩
  exact ⟨rfl, h1, h.x.kept (fun _ b o e => by cases e; exact h2 _ (.inl (.inl rfl))), h.y.kept (fun _ b o e => by cases e; exact h2 _ (.inl (.inr rfl))), (cell_kept (h2 nb (.inr rfl)) 0).trans h.c0, (cell_kept (h2 nb (.inr rfl)) 1).trans h.c1⟩
theorem KnS.made {W u : World} {p : Nat} {L : List Ver} {g g' : Nat} {R R' : List Itm} (h : Kn W u p L (fun k => k = g ∨ k = g')) (hx : ItmsAt u (some ⟨g, 0, none⟩) R) (hy : ItmsAt u (some ⟨g', 0, none⟩) R') (t n : Int) (T : TypeId) : KnS W (u.alloc (.cells #[.int .i64 t, .int .u8 n] T)) p L g g' u.heap.size R R' t n := by
  have hb : Below u.heap.size u (u.alloc (.cells #[.int .i64 t, .int .u8 n] T)) := (Below.refl _ _).alloc (Nat.le_refl _) _
  exact ⟨h.add hb (fun k hk => hk.imp id (fun e => by rw [e]; simp)), hx.past hb, hy.past hb, by rw [World.cell?_alloc_new]; rfl, by rw [World.cell?_alloc_new]; rfl⟩
/-- Two keys as a list. -/
theorem fill_keys2 (A B : List Int) (hA : Ky A) (hB : Ky B) (Z : List Value) (hZ : Z.length = 32) :
    Instr.fill (fun i => some (i * 16, 16)) Z.toArray [(0, kv A), (1, kv B)] = some (kc A ++ kc B).toArray := by
  have a := kc_len hA
  have b := kc_len hB
  show Instr.fill _ Z.toArray [(0, .agg (kc A).toArray), (1, .agg (kc B).toArray)] = _
  rw [fill_step _ Z 0 0 16 (kc A) rfl a (by omega), fill_step _ _ 1 16 16 (kc B) rfl b (by simp; omega)]
  show some _ = some _
  congr 2
  have e2 : (kc A).drop 32 = [] := List.drop_eq_nil_of_le (by omega)
  have e4 : Z.drop 32 = [] := List.drop_eq_nil_of_le (by omega)
  simp [List.drop_append, a, e2, e4]
theorem run_build_keys2 (w : World) (A B : List Int) (hA : Ky A) (hB : Ky B) :
    (Instr.buildSlice 43 2 #[(0, kv A), (1, kv B)]).run Try.prog w = .ok (.slice (some ⟨w.heap.size, 0, none⟩) 2 2) (w.alloc (.cells (kc A ++ kc B).toArray 31)) := by
  have hf := fill_keys2 A B hA hB (List.replicate 32 (Value.int .u8 0)) rfl
  simp [Instr.buildSlice, run_underlying Try.underlying43]
  generalize hz : Array.map _ (Array.range 32) = Z
  have hz2 : Z = (List.replicate 32 (Value.int .u8 0)).toArray := by rw [← hz]; kernel_rfl
  rw [hz2, hf]
  simp [newRow]
theorem wpList_build_keys2 (d : Tmp) {ops : Array Oper} {rest : List Oper} {op : Oper} {a : Act} {w : World} {Q : Exit → Act → World → Prop} (hd : op.dst = some d) (hw : Region.wanted op (yielded ops a.tmps) = true) (x y : Operand) (ho : op.op = .buildSlice 43 2 #[(0, x), (1, y)])
    (A B : List Int) (hA : Ky A) (hB : Ky B) (ex : a.eval x = kv A) (ey : a.eval y = kv B)
    (h : ∀ W, W = w.alloc (.cells (kc A ++ kc B).toArray 31) → wpList Try.prog ops Q rest (a.put op.dst (.slice (some ⟨w.heap.size, 0, none⟩) 2 2)) W) : wpList Try.prog ops Q (op :: rest) a w :=
  wpList_step fun K hK => by
    rw [if_pos hw]
    have hrun := run_build_keys2 w A B hA hB
    unfold Oper.wp
    simp only [execOp, ho, List.map_toArray, List.map_cons, List.map_nil, ex, ey, Sem.run_bind, hrun, Result.andThen]
    exact hK _ _ (h _ rfl)
theorem step_build_keys2 {w : World} {ops : Array Oper} {o : Oper} {a : Act} {K : Act → World → Prop} {Q : Exit → Act → World → Prop} {X : Prop} (hw : Region.wanted o (yielded ops a.tmps) = true) (x y : Operand) (ho : o.op = .buildSlice 43 2 #[(0, x), (1, y)])
    (A B : List Int) (hA : Ky A) (hB : Ky B) (ex : a.eval x = kv A) (ey : a.eval y = kv B)
    (h : K (a.put o.dst (.slice (some ⟨w.heap.size, 0, none⟩) 2 2)) (w.alloc (.cells (kc A ++ kc B).toArray 31))) : if Region.wanted o (yielded ops a.tmps) = true then Oper.wp Try.prog o a w K Q else X := by
  rw [if_pos hw]
  have hrun := run_build_keys2 w A B hA hB
  unfold Oper.wp
  simp only [execOp, ho, List.map_toArray, List.map_cons, List.map_nil, ex, ey, Sem.run_bind, hrun, Result.andThen]
  exact h
theorem yieldsIf_build_k0 {ops : Array Oper} {S : World → Prop} {op : Oper} {a : Act} (hw : Region.wanted op (yielded ops a.tmps) = true) (ho : op.op = .build 31 #[]) : YieldsIf Try.prog ops S op (kv zeroK) a :=
  .inl ⟨hw, fun w _ => by
    have hrun : (Instr.build 31 #[]).run Try.prog w = .ok (kv zeroK) w := by
      simp [Instr.build, run_underlying Try.underlying31]
      kernel_rfl
    unfold execOp
    simp only [ho, List.map_toArray, List.map_nil, Sem.run_bind, hrun, Result.andThen, Sem.run_pure]⟩
theorem keys2_at (w : World) (A B : List Int) (hA : Ky A) (hB : Ky B) : KeysAt (w.alloc (.cells (kc A ++ kc B).toArray 31)) (some ⟨w.heap.size, 0, none⟩) [A, B] := by
  refine ⟨?_, fun k hk => ?_, fun e => by cases e⟩
  · have := lies_made w (kc A ++ kc B).toArray 31
    simpa using this
  · simp at hk
    rcases hk with rfl | rfl
    · exact hA
    · exact hB
end Go.Proofs.Ytfaojmognbgnfaa
