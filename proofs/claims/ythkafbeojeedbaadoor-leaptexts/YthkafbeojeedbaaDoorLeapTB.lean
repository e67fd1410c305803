/-
  A landed table in memory: its lines, its text; one more line at its end; an append in a statement that draws its order.
-/
import Derived.Test.YthkafbeojeedbaaDoorLeapCut
import Derived.Test.YthkafbeojeedbaaDoorRowOne
namespace Go.Proofs.YthkafbeojeedbaaDoor
open Go.RowKit
set_option linter.unusedVariables false

/-- A landed table, in memory. -/
structure LTab (w : World) (B b : Nat) (v : Value) (tb : Tb) : Prop where
  c0 : w.cell? ⟨b, 0, none⟩ = some v
  own : w.ownsRow B 53 2 v tb.length (prs tb)
  free : ∀ j, w.frozen? ⟨b, j, none⟩ = false
  apart : v.ownBlock ≠ some b
  lo : B ≤ b
  lt : b < w.heap.size
  blk : ∃ cs fr, w.heap[b]? = some (.cells cs 49 fr)
theorem LTab.step {w w' : World} {B b : Nat} {v : Value} {tb : Tb} (h : LTab w B b v tb) {C : Nat} (hb : Below C w w') (hC : w.heap.size ≤ C) : LTab w' B b v tb :=
  ⟨by rw [hb.cell (p := ⟨b, 0, none⟩) (Nat.lt_of_lt_of_le h.lt hC)]; exact h.c0, own_below h.own hb hC, fun j => (hb.frozen (p := ⟨b, j, none⟩) (Nat.lt_of_lt_of_le h.lt hC)).trans (h.free j), h.apart, h.lo, Nat.lt_of_lt_of_le h.lt hb.size, by rw [hb.block b (Nat.lt_of_lt_of_le h.lt hC)]; exact h.blk⟩
theorem LTab.past {w : World} {B b : Nat} {v : Value} {tb : Tb} (h : LTab w B b v tb) (o : Obj) : LTab (w.alloc o) B b v tb := h.step ((Below.refl _ _).alloc (Nat.le_refl _) o) (Nat.le_refl _)
theorem LTab.made (w : World) (B : Nat) (hB : B ≤ w.heap.size) : LTab (w.alloc (.cells #[.slice none 0 0] 49)) B w.heap.size (.slice none 0 0) [] :=
  ⟨by rw [World.cell?_alloc_new]; rfl, World.ownsRow_nil _ _ _ _, fun j => World.frozen?_alloc_new _ _ _ _, by simp [Value.ownBlock], hB, by simp, ⟨_, _, by show (w.heap.push _)[w.heap.size]? = _; simp; exact ⟨rfl, rfl⟩⟩⟩
/-- Another line, and its place in the table. -/
theorem LTab.more {w w6 : World} {B b : Nat} {v v' : Value} {tb : Tb} {p : Int × Int} (h : LTab w B b v tb) (hg : w.grownBy w6 v.ownBlock) (ho : w6.ownsRow B 53 2 v' (tb.length + 1) (prs tb ++ [.int .i64 p.1, .int .i64 p.2])) : LTab (w6.setCell ⟨b, 0, none⟩ v') B b v' (tb ++ [p]) := by
  have hk : w6.heap[b]? = w.heap[b]? := hg.block b h.lt (fun e => h.apart e.symm)
  have ha : v'.ownBlock ≠ some b := by
    intro e
    obtain ⟨cs, fr, hc⟩ := h.blk
    rcases ho.2 with ⟨h5, _⟩ | ⟨g, cap, cur, h5, _, h6, _⟩
    · rw [h5] at e; simp [Value.ownBlock] at e
    · rw [h5] at e
      simp [Value.ownBlock] at e
      rw [e, hk, hc] at h6
      simp at h6
  have k0 : w6.cell? ⟨b, 0, none⟩ = some v := by rw [World.cell?_of_block (a := ⟨b, 0, none⟩) hk]; exact h.c0
  have hf : ∀ j, w6.frozen? ⟨b, j, none⟩ = false := fun j => by
    have : w6.frozen? ⟨b, j, none⟩ = w.frozen? ⟨b, j, none⟩ := by unfold World.frozen?; rw [hk]
    rw [this]; exact h.free j
  have hlt6 : b < w6.heap.size := Nat.lt_of_lt_of_le h.lt hg.size
  refine ⟨World.cell?_setCell_same _ _ _ k0, ?_, fun j => by rw [World.frozen?_setCell]; exact hf j, ha, h.lo, by rw [World.size_setCell]; exact hlt6, ?_⟩
  rotate_left
  · obtain ⟨cs, fr, hc⟩ := h.blk
    have h6 : w6.heap[b]? = some (.cells cs 49 fr) := by rw [hk, hc]
    refine ⟨cs.setIfInBounds 0 v', fr, ?_⟩
    simp only [World.setCell, Array.getElem?_modify, h6]
    simp
  have e1 : (tb ++ [p]).length = tb.length + 1 := by simp
  have e2 : prs (tb ++ [p]) = prs tb ++ [.int .i64 p.1, .int .i64 p.2] := by rw [prs_app]; rfl
  rw [e1, e2]
  obtain ⟨hl, h0 | ⟨g, cap, cur, hv, hgB, hh, r⟩⟩ := ho
  · exact ⟨hl, .inl h0⟩
  · refine ⟨hl, .inr ⟨g, cap, cur, hv, hgB, ?_, r⟩⟩
    have hne : g ≠ b := by
      intro e
      apply ha
      rw [hv, e]
      rfl
    rw [Below.heap_setCell _ ⟨b, 0, none⟩ _ g hne]
    exact hh
/-- A line of a table that is there. -/
theorem LTab.shape {w : World} {B b : Nat} {v : Value} {tb : Tb} (h : LTab w B b v tb) (hne : tb ≠ []) : ∃ g cap, v = .slice (some ⟨g, 0, none⟩) tb.length cap ∧ tb.length ≤ cap ∧ g < w.heap.size ∧ ∀ (k : Nat) (p : Int × Int), tb[k]? = some p → w.cell? ⟨g, k * 2, none⟩ = some (.int .i64 p.1) ∧ w.cell? ⟨g, k * 2 + 1, none⟩ = some (.int .i64 p.2) := by
  have ho := h.own
  rcases ho.2 with ⟨_, h0⟩ | ⟨g, cap, cur, hv, _, hh, hc, _⟩
  · exact absurd (List.eq_nil_of_length_eq_zero h0) hne
  · rw [hv] at ho
    refine ⟨g, cap, hv, hc, (Array.getElem?_eq_some_iff.1 hh).1, fun k p hk => ?_⟩
    obtain ⟨a1, a2⟩ := prs_at tb k p hk
    rw [Nat.mul_comm k 2]
    exact ⟨own_cell ho _ _ a1, own_cell ho _ _ a2⟩
/-- The table's own cell for its lines, where the lines have grown. -/
theorem LTab.field {w w6 : World} {B b : Nat} {v : Value} {tb : Tb} (h : LTab w B b v tb) (hg : w.grownBy w6 v.ownBlock) : w6.cell? ⟨b, 0, none⟩ = some v ∧ w6.frozen? ⟨b, 0, none⟩ = false := by
  have hk : w6.heap[b]? = w.heap[b]? := hg.block b h.lt (fun e => h.apart e.symm)
  refine ⟨by rw [World.cell?_of_block (a := ⟨b, 0, none⟩) hk]; exact h.c0, ?_⟩
  have : w6.frozen? ⟨b, 0, none⟩ = w.frozen? ⟨b, 0, none⟩ := by unfold World.frozen?; rw [hk]
  rw [this]; exact h.free 0
/-- A landed table, and its text. -/
structure TB (w : World) (p : Addr) (tb : Tb) (xs : List Int) : Prop where
  tab : ∃ B b v, p = ⟨b, 0, none⟩ ∧ LTab w B b v tb
  text : TextOf tb xs
theorem TB.step {w w' : World} {p : Addr} {tb : Tb} {xs : List Int} (h : TB w p tb xs) {C : Nat} (hb : Below C w w') (hC : w.heap.size ≤ C) : TB w' p tb xs := by
  obtain ⟨⟨B, b, v, h1, h2⟩, h3⟩ := h
  exact ⟨⟨B, b, v, h1, h2.step hb hC⟩, h3⟩
theorem new_two (W : World) (T : TypeId) (a b : Value) (n : Nat) (hn : n = W.heap.size) : ∀ (j : Nat) (u : Value), ([a, b] : List Value)[j]? = some u → (W.alloc (.cells #[a, b] T)).cell? ((⟨n, 0, none⟩ : Addr).add j) = some u := by
  intro j u hj
  subst hn
  rw [addr_add]
  match j, hj with
  | 0, hj => simp at hj; subst hj; rw [World.cell?_alloc_new]; rfl
  | 1, hj => simp at hj; subst hj; rw [World.cell?_alloc_new]; rfl
  | j + 2, hj => simp at hj
theorem cellp {w : World} {x : Addr} {v : Value} (h : w.cell? x = some v) : ∀ o, (w.alloc o).cell? x = some v := fun o => by
  have hlt : x.block < w.heap.size := by
    apply Classical.byContradiction
    intro hn
    have : w.heap[x.block]? = none := by simp; omega
    simp [World.cell?, this] at h
  rw [World.cell?_alloc_lt _ _ _ hlt]; exact h
theorem LTab.drew {w : World} {B b : Nat} {v : Value} {tb : Tb} (h : LTab w B b v tb) : LTab w.drew B b v tb := h.step (C := w.heap.size) (Below.refl _ _).drew (Nat.le_refl _)
/-- One more element, as one step of a region that draws its order. -/
theorem step_append_one {w : World} {ops : Array Oper} {o : Oper} {a : Act} {K : Act → World → Prop} {Q : Exit → Act → World → Prop} {E : Prop} (hgd : o.guard = none) (s x : Operand)
    (t e : TypeId) (z : Value) (size bytes : Nat) (ho : o.op = .call { callee := .builtin .append, args := #[s, x], argTypes := #[t, t] })
    (ht : Tryd.prog.underlying t = some (.slice e)) (hinfo : (Tryd.prog.info? e).map (fun i => (i.zero, i.size, i.bytes)) = some (some z, size, bytes)) (hzs : z.cells.size = size) (hsz : 0 < size) (hby : bytes ≤ 1000)
    (B : Nat) (w0 : World) (hb : Below B w0 w) (hB : B ≤ w.heap.size) (v : Value) (n : Nat) (vs : List Value) (hs : a.eval s = v) (hown : w.ownsRow B e size v n vs)
    (sa : Addr) (hx : a.eval x = .slice (some sa) 1 1) (news : List Value) (hl : news.length = size) (hnews : ∀ j u, news[j]? = some u → w.cell? (sa.add j) = some u) (h1 : ∀ u ∈ news, u.oneCell' = true) (hn : n ≤ 1000000)
    (h : ∀ a' cap' w', w'.ownsRow B e size (.slice a' (n + 1) cap') (n + 1) (vs ++ news) → w.grownBy w' v.ownBlock → Below B w0 w' → K (a.put o.dst (.slice a' (n + 1) cap')) w') :
    if Region.wanted o (yielded ops a.tmps) = true then Oper.wp Tryd.prog o a w K Q else E := by
  have hw : Region.wanted o (yielded ops a.tmps) = true := by simp [Region.wanted, hgd]
  rw [if_pos hw]
  obtain ⟨i0, hi, hz0, hz1, hz2⟩ := info_of hinfo
  have hbig : (n + 1) * bytes ≤ 140737488355328 := Nat.le_trans (Nat.mul_le_mul (by omega : n + 1 ≤ 1000001) hby) (by omega)
  obtain ⟨v', w', hrun, h2, h3, _⟩ := run_append_own (P := Tryd.prog) w B t o.type e i0 z size bytes ht hi hz0 hz1 hz2 hzs hsz v n vs hown sa 1 1 news (by omega) hnews h1 (by unfold maxLen; omega) hbig hB
  have hv' : ∃ a' cap', v' = .slice a' (n + 1) cap' := by
    rcases h2.2 with ⟨_, h5⟩ | ⟨g, cap, cur, h5, _⟩
    · omega
    · exact ⟨_, _, h5⟩
  obtain ⟨a', cap', rfl⟩ := hv'
  unfold Oper.wp
  simp [execOp, ho, resolve, invoke, builtin, hs, hx, hrun, Result.andThen]
  exact h a' cap' w' h2 h3 (hb.grown h3 hB fun k hk => (hown.lt k hk).1)
end Go.Proofs.YthkafbeojeedbaaDoor
