/-
  A list of the call's own whose elements are lists of bytes in any blocks of bytes: one more behind it, and what stays (Recs, with the elements' base left open).
-/
import Derived.Test.YtlfmhdljldbjmaaRecs
namespace Go.Proofs.Ytlfmhdljldbjmaa
open Go.RowKit
set_option linter.unusedVariables false
structure OwnRows0 (w : World) (base : Nat) (v : Value) (n : Nat) (ls : List (List Int)) : Prop where
  len : ls.length = n
  own : ∃ vs, w.ownsRow base 31 1 v n vs ∧ ∀ r, r < n → ∃ x c, vs[r]? = some (.slice x (ls.getD r []).length c) ∧ NewRow w 0 x c (ls.getD r [])
theorem OwnRows0.none (w : World) (base : Nat) : OwnRows0 w base (.slice none 0 0) 0 [] := ⟨rfl, [], World.ownsRow_nil _ _ _ _, fun r hr => absurd hr (Nat.not_lt_zero _)⟩
theorem OwnRows0.rows {w : World} {base n cap : Nat} {a : Option Addr} {ls : List (List Int)} (h : OwnRows0 w base (.slice a n cap) n ls) : RowsOf w a cap ls := by
  obtain ⟨hl, vs, hown, hvs⟩ := h
  rcases hown.2 with ⟨h1, h2⟩ | ⟨g, cap', cur, h1, h3, h4, h5, _⟩
  · cases h1
    have : ls = [] := List.eq_nil_of_length_eq_zero hl
    subst this
    exact ⟨fun _ => ⟨rfl, rfl⟩, Nat.le_refl _, .inl rfl⟩
  · cases h1
    refine ⟨fun h => by simp at h, by omega, ?_⟩
    by_cases h0 : ls = []
    · exact .inl h0
    · refine .inr ⟨g, 0, rfl, fun r hr => ?_⟩
      obtain ⟨x, c, hx, hn⟩ := hvs r (by omega)
      have hc := hown.cells (g := g) rfl r _ hx
      rw [add_plain] at hc
      exact ⟨x, c, hc, hn.row, hn.nil, hn.le⟩
theorem OwnRows0.below {w w' : World} {base n : Nat} {v : Value} {ls : List (List Int)} (h : OwnRows0 w base v n ls) {B : Nat} (hb : Below B w w') (hB : w.heap.size ≤ B) : OwnRows0 w' base v n ls := by
  obtain ⟨hl, vs, hown, hvs⟩ := h
  refine ⟨hl, vs, ?_, fun r hr => ?_⟩
  · refine ⟨hown.1, hown.2.imp id ?_⟩
    rintro ⟨g, cap, cur, h1, h2, h3, h4⟩
    exact ⟨g, cap, cur, h1, h2, by rw [hb.block g (Nat.lt_of_lt_of_le (heap_lt h3) hB)]; exact h3, h4⟩
  · obtain ⟨x, c, hx, hn⟩ := hvs r hr
    exact ⟨x, c, hx, hn.below hb hB⟩
theorem OwnRows0.bytes {w : World} {base n : Nat} {v : Value} {ls : List (List Int)} (h : OwnRows0 w base v n ls) : ∀ r ∈ ls, ∀ z ∈ r, 0 ≤ z ∧ z ≤ 255 := by
  obtain ⟨hl, vs, hown, hvs⟩ := h
  intro r hr
  obtain ⟨i, hi, rfl⟩ := List.mem_iff_getElem.1 hr
  obtain ⟨x, c, hx, hn⟩ := hvs i (by omega)
  have := hn.row.bytes
  simpa [List.getD, hi] using this

theorem run_append_rec0 (w : World) (base : Nat) (v : Value) (n : Nat) (ls : List (List Int)) (h : OwnRows0 w base v n ls) (s : Addr) (x : Option Addr) (c : Nat) (rs : List Int) (m : Nat) (hm : rs.length = m) (hcell : w.cell? s = some (.slice x m c)) (hnew : NewRow w 0 x c rs)
    (hn : n ≤ 1099511627776) (hbase : base ≤ w.heap.size) (ty : TypeId) :
    ∃ a' cap' w', (Builtin.append_ #[45, 45] ty #[v, .slice (some s) 1 1]).run Try.prog w = .ok (.slice a' (n + 1) cap') w' ∧ OwnRows0 w' base (.slice a' (n + 1) cap') (n + 1) (ls ++ [rs]) ∧ w.grownBy w' v.ownBlock := by
  obtain ⟨i0, hi, hz0, hz1, hz2⟩ := info_parts infoB
  obtain ⟨hl, vs, hown, hvs⟩ := h
  have hs : s.spot = none := World.cell?_spot hcell
  have hnews : ∀ j u, ([.slice x m c] : List Value)[j]? = some u → w.cell? (s.add j) = some u := by
    intro j u hj
    cases j with
    | zero =>
      simp at hj
      have : s.add 0 = s := by cases s; simp_all [Addr.add]
      rw [this, hcell, hj]
    | succ j => simp at hj
  obtain ⟨v', w', hrun, h1, h2, _⟩ := run_append_own (P := Try.prog) w base 45 ty 31 i0 (.slice none 0 0) 1 24 Try.underlying45 hi hz0 hz1 hz2 rfl (by decide) v n vs hown s 1 1 [.slice x m c] rfl hnews (by simp [Value.oneCell']) (by unfold maxLen; omega) (by omega) hbase
  have hvl : vs.length = n := by have := hown.1; omega
  have stay : ∀ {y : Option Addr} {d : Nat} {q : List Int}, NewRow w 0 y d q → NewRow w' 0 y d q := by
    intro y d q hq
    have hb : ∀ a, y = some a → w'.heap[a.block]? = w.heap[a.block]? := by
      intro a ha
      obtain ⟨_, cur, fr, h4⟩ := hq.block a ha
      refine h2.block a.block (heap_lt h4) ?_
      intro he
      rcases hown.2 with ⟨h5, _⟩ | ⟨g, cap, cur', h5, _, h6, _⟩
      · rw [h5] at he; simp [Value.ownBlock] at he
      · rw [h5] at he; simp [Value.ownBlock] at he
        rw [he, h6] at h4
        simp at h4
    refine ⟨⟨hq.row.bytes, hq.row.cells.imp id ?_⟩, hq.nil, hq.le, fun a ha => ?_⟩
    · rintro ⟨b, off, h4, h5⟩
      exact ⟨b, off, h4, fun j hj => by rw [World.cell?_of_block (a := ⟨b, off + j, none⟩) (hb ⟨b, off, none⟩ h4)]; exact h5 j hj⟩
    · rw [hb a ha]; exact hq.block a ha
  have hv' : ∃ a' cap', v' = .slice a' (n + 1) cap' := by
    rcases h1.2 with ⟨_, h5⟩ | ⟨g, cap, cur, h5, _⟩
    · omega
    · exact ⟨_, _, h5⟩
  obtain ⟨a', cap', rfl⟩ := hv'
  refine ⟨a', cap', w', hrun, ⟨by simp [hl], _, h1, fun r hr => ?_⟩, h2⟩
  by_cases hrn : r < n
  · obtain ⟨y, d, hy, hq⟩ := hvs r hrn
    have e1 : (ls ++ [rs]).getD r [] = ls.getD r [] := by simp [List.getD, List.getElem?_append_left (by omega : r < ls.length)]
    rw [e1]
    exact ⟨y, d, by rw [List.getElem?_append_left (by omega)]; exact hy, stay hq⟩
  · have hr' : r = n := by omega
    subst hr'
    have e1 : (ls ++ [rs]).getD r [] = rs := by simp [List.getD, ← hl]
    rw [e1]
    refine ⟨x, c, ?_, stay hnew⟩
    rw [List.getElem?_append_right (by omega), hvl, Nat.sub_self, hm]
    rfl
/-- 'l = append(l, rec)', l and rec of the call's own. -/
theorem wpList_append_rec0 {w : World} {ops : Array Oper} {rest : List Oper} {o : Oper} {a : Act} {Q : Exit → Act → World → Prop} (hgd : o.guard = none) (s x : Operand)
    (ho : o.op = .call { callee := .builtin .append, args := #[s, x], argTypes := #[45, 45] })
    (B : Nat) (w0 : World) (hb : Below B w0 w) (hB : B ≤ w.heap.size) (v : Value) (n : Nat) (ls : List (List Int)) (hs : a.eval s = v) (hown : OwnRows0 w B v n ls)
    (sa : Addr) (hx : a.eval x = .slice (some sa) 1 1) (y : Option Addr) (c : Nat) (rs : List Int) (m : Nat) (hm : rs.length = m) (hcell : w.cell? sa = some (.slice y m c)) (hnew : NewRow w 0 y c rs) (hn : n ≤ 1099511627776)
    (h : ∀ a' cap' w', OwnRows0 w' B (.slice a' (n + 1) cap') (n + 1) (ls ++ [rs]) → Below B w0 w' → wpList Try.prog ops Q rest (a.put o.dst (.slice a' (n + 1) cap')) w') : wpList Try.prog ops Q (o :: rest) a w := by
  refine wpList_plain hgd fun K hK => ?_
  obtain ⟨a', cap', w', hrun, h1, h2⟩ := run_append_rec0 w B v n ls hown sa y c rs m hm hcell hnew hn hB o.type
  unfold Oper.wp
  simp [execOp, ho, resolve, invoke, builtin, hs, hx, hrun, Result.andThen]
  refine hK _ _ (h a' cap' w' h1 (hb.grown h2 hB fun k hk => ?_))
  obtain ⟨_, vs, hown', _⟩ := hown
  exact (hown'.lt k hk).1

end Go.Proofs.Ytlfmhdljldbjmaa
