/-
  A list of the call's own whose elements are lists of bytes: one more behind it, and what stays.
-/
import Derived.Test.YtlfmhdljldbjmaaBase
namespace Go.Proofs.Ytlfmhdljldbjmaa
open Go.RowKit
set_option linter.unusedVariables false

theorem infoB : (Try.prog.info? 31).map (fun i => (i.zero, i.size, i.bytes)) = some (some (.slice none 0 0), 1, 24) := by kernel_rfl
/-- A list of bytes in a block of bytes that is new since 'base'. -/
structure NewRow (w : World) (base : Nat) (x : Option Addr) (c : Nat) (rs : List Int) : Prop where
  row : Row w x rs
  nil : x = none → c = 0
  le : rs.length ≤ c
  block : ∀ a, x = some a → base ≤ a.block ∧ ∃ cur fr, w.heap[a.block]? = some (.cells cur 5 fr)
theorem heap_lt {w : World} {g : Nat} {o : Obj} (h : w.heap[g]? = some o) : g < w.heap.size := (Array.getElem?_eq_some_iff.1 h).1
theorem NewRow.below {w w' : World} {base c : Nat} {x : Option Addr} {rs : List Int} (h : NewRow w base x c rs) {B : Nat} (hb : Below B w w') (hB : w.heap.size ≤ B) : NewRow w' base x c rs := by
  refine ⟨h.row.below hb hB, h.nil, h.le, fun a ha => ?_⟩
  obtain ⟨h1, cur, fr, h2⟩ := h.block a ha
  exact ⟨h1, cur, fr, by rw [hb.block _ (Nat.lt_of_lt_of_le (heap_lt h2) hB)]; exact h2⟩
theorem NewRow.of_own {w : World} {base n c : Nat} {x : Option Addr} {rs : List Int} (h : w.ownsRow base 5 1 (.slice x n c) n (bs rs)) (hb : ∀ z ∈ rs, 0 ≤ z ∧ z ≤ 255) : NewRow w base x c rs := by
  have hl : rs.length = n := by have := h.1; rw [bs_len] at this; omega
  refine ⟨own_row h hb, ?_, ?_, ?_⟩
  · intro hx
    rcases h.2 with ⟨h1, _⟩ | ⟨g, cap, cur, h1, _⟩
    · cases h1; rfl
    · rw [hx] at h1; cases h1
  · rcases h.2 with ⟨h1, h2⟩ | ⟨g, cap, cur, h1, _, _, h2, _⟩
    · cases h1; omega
    · cases h1; omega
  · intro a ha
    rcases h.2 with ⟨h1, h2⟩ | ⟨g, cap, cur, h1, h3, h4, h2, _⟩
    · cases h1; cases ha
    · cases h1; cases ha
      exact ⟨h3, cur, _, h4⟩
theorem NewRow.mono {w : World} {base base' c : Nat} {x : Option Addr} {rs : List Int} (h : NewRow w base x c rs) (hb : base' ≤ base) : NewRow w base' x c rs :=
  ⟨h.row, h.nil, h.le, fun a ha => ⟨Nat.le_trans hb (h.block a ha).1, (h.block a ha).2⟩⟩

structure OwnRows (w : World) (base : Nat) (v : Value) (n : Nat) (ls : List (List Int)) : Prop where
  len : ls.length = n
  own : ∃ vs, w.ownsRow base 31 1 v n vs ∧ ∀ r, r < n → ∃ x c, vs[r]? = some (.slice x (ls.getD r []).length c) ∧ NewRow w base x c (ls.getD r [])
theorem OwnRows.none (w : World) (base : Nat) : OwnRows w base (.slice none 0 0) 0 [] := ⟨rfl, [], World.ownsRow_nil _ _ _ _, fun r hr => absurd hr (Nat.not_lt_zero _)⟩
theorem OwnRows.rows {w : World} {base n cap : Nat} {a : Option Addr} {ls : List (List Int)} (h : OwnRows w base (.slice a n cap) n ls) : RowsOf w a cap ls := by
  obtain ⟨hl, vs, hown, hvs⟩ := h
  rcases hown.2 with ⟨h1, h2⟩ | ⟨g, cap', cur, h1, h3, h4, h5, _⟩
  · cases h1
    have : ls = [] := List.eq_nil_of_length_eq_zero hl
    subst this
    exact ⟨fun _ => ⟨rfl, rfl⟩, Nat.le_refl _, .inl rfl⟩
  · cases h1
    refine ⟨fun h => by simp at h, by omega, ?_⟩
    by_cases h0 : ls = []
    · exact .inl h0
    · refine .inr ⟨g, 0, rfl, fun r hr => ?_⟩
      obtain ⟨x, c, hx, hn⟩ := hvs r (by omega)
      have hc := hown.cells (g := g) rfl r _ hx
      rw [add_plain] at hc
      exact ⟨x, c, hc, hn.row, hn.nil, hn.le⟩
theorem OwnRows.below {w w' : World} {base n : Nat} {v : Value} {ls : List (List Int)} (h : OwnRows w base v n ls) {B : Nat} (hb : Below B w w') (hB : w.heap.size ≤ B) : OwnRows w' base v n ls := by
  obtain ⟨hl, vs, hown, hvs⟩ := h
  refine ⟨hl, vs, ?_, fun r hr => ?_⟩
  · refine ⟨hown.1, hown.2.imp id ?_⟩
    rintro ⟨g, cap, cur, h1, h2, h3, h4⟩
    exact ⟨g, cap, cur, h1, h2, by rw [hb.block g (Nat.lt_of_lt_of_le (heap_lt h3) hB)]; exact h3, h4⟩
  · obtain ⟨x, c, hx, hn⟩ := hvs r hr
    exact ⟨x, c, hx, hn.below hb hB⟩
theorem OwnRows.bytes {w : World} {base n : Nat} {v : Value} {ls : List (List Int)} (h : OwnRows w base v n ls) : ∀ r ∈ ls, ∀ z ∈ r, 0 ≤ z ∧ z ≤ 255 := by
  obtain ⟨hl, vs, hown, hvs⟩ := h
  intro r hr
  obtain ⟨i, hi, rfl⟩ := List.mem_iff_getElem.1 hr
  obtain ⟨x, c, hx, hn⟩ := hvs i (by omega)
  have := hn.row.bytes
  simpa [List.getD, hi] using this

theorem run_append_rec (w : World) (base : Nat) (v : Value) (n : Nat) (ls : List (List Int)) (h : OwnRows w base v n ls) (s : Addr) (x : Option Addr) (c : Nat) (rs : List Int) (m : Nat) (hm : rs.length = m) (hcell : w.cell? s = some (.slice x m c)) (hnew : NewRow w base x c rs)
    (hn : n ≤ 1099511627776) (hbase : base ≤ w.heap.size) (ty : TypeId) :
    ∃ a' cap' w', (Builtin.append_ #[45, 45] ty #[v, .slice (some s) 1 1]).run Try.prog w = .ok (.slice a' (n + 1) cap') w' ∧ OwnRows w' base (.slice a' (n + 1) cap') (n + 1) (ls ++ [rs]) ∧ w.grownBy w' v.ownBlock := by
  obtain ⟨i0, hi, hz0, hz1, hz2⟩ := info_parts infoB
  obtain ⟨hl, vs, hown, hvs⟩ := h
  have hs : s.spot = none := World.cell?_spot hcell
  have hnews : ∀ j u, ([.slice x m c] : List Value)[j]? = some u → w.cell? (s.add j) = some u := by
    intro j u hj
    cases j with
    | zero =>
      simp at hj
      have : s.add 0 = s := by cases s; simp_all [Addr.add]
      rw [this, hcell, hj]
    | succ j => simp at hj
  obtain ⟨v', w', hrun, h1, h2, _⟩ := run_append_own (P := Try.prog) w base 45 ty 31 i0 (.slice none 0 0) 1 24 Try.underlying45 hi hz0 hz1 hz2 rfl (by decide) v n vs hown s 1 1 [.slice x m c] rfl hnews (by simp [Value.oneCell']) (by unfold maxLen; omega) (by omega) hbase
  have hvl : vs.length = n := by have := hown.1; omega
  have stay : ∀ {y : Option Addr} {d : Nat} {q : List Int}, NewRow w base y d q → NewRow w' base y d q := by
    intro y d q hq
    have hb : ∀ a, y = some a → w'.heap[a.block]? = w.heap[a.block]? := by
      intro a ha
      obtain ⟨_, cur, fr, h4⟩ := hq.block a ha
      refine h2.block a.block (heap_lt h4) ?_
      intro he
      rcases hown.2 with ⟨h5, _⟩ | ⟨g, cap, cur', h5, _, h6, _⟩
      · rw [h5] at he; simp [Value.ownBlock] at he
      · rw [h5] at he; simp [Value.ownBlock] at he
        rw [he, h6] at h4
        simp at h4
    refine ⟨⟨hq.row.bytes, hq.row.cells.imp id ?_⟩, hq.nil, hq.le, fun a ha => ?_⟩
    · rintro ⟨b, off, h4, h5⟩
      exact ⟨b, off, h4, fun j hj => by rw [World.cell?_of_block (a := ⟨b, off + j, none⟩) (hb ⟨b, off, none⟩ h4)]; exact h5 j hj⟩
    · rw [hb a ha]; exact hq.block a ha
  have hv' : ∃ a' cap', v' = .slice a' (n + 1) cap' := by
    rcases h1.2 with ⟨_, h5⟩ | ⟨g, cap, cur, h5, _⟩
    · omega
    · exact ⟨_, _, h5⟩
  obtain ⟨a', cap', rfl⟩ := hv'
  refine ⟨a', cap', w', hrun, ⟨by simp [hl], _, h1, fun r hr => ?_⟩, h2⟩
  by_cases hrn : r < n
  · obtain ⟨y, d, hy, hq⟩ := hvs r hrn
    have e1 : (ls ++ [rs]).getD r [] = ls.getD r [] := by simp [List.getD, List.getElem?_append_left (by omega : r < ls.length)]
    rw [e1]
    exact ⟨y, d, by rw [List.getElem?_append_left (by omega)]; exact hy, stay hq⟩
  · have hr' : r = n := by omega
    subst hr'
    have e1 : (ls ++ [rs]).getD r [] = rs := by simp [List.getD, ← hl]
    rw [e1]
    refine ⟨x, c, ?_, stay hnew⟩
    rw [List.getElem?_append_right (by omega), hvl, Nat.sub_self, hm]
    rfl
/-- 'l = append(l, rec)', l and rec of the call's own. -/
theorem wpList_append_rec {w : World} {ops : Array Oper} {rest : List Oper} {o : Oper} {a : Act} {Q : Exit → Act → World → Prop} (hgd : o.guard = none) (s x : Operand)
    (ho : o.op = .call { callee := .builtin .append, args := #[s, x], argTypes := #[45, 45] })
    (B : Nat) (w0 : World) (hb : Below B w0 w) (hB : B ≤ w.heap.size) (v : Value) (n : Nat) (ls : List (List Int)) (hs : a.eval s = v) (hown : OwnRows w B v n ls)
    (sa : Addr) (hx : a.eval x = .slice (some sa) 1 1) (y : Option Addr) (c : Nat) (rs : List Int) (m : Nat) (hm : rs.length = m) (hcell : w.cell? sa = some (.slice y m c)) (hnew : NewRow w B y c rs) (hn : n ≤ 1099511627776)
    (h : ∀ a' cap' w', OwnRows w' B (.slice a' (n + 1) cap') (n + 1) (ls ++ [rs]) → Below B w0 w' → wpList Try.prog ops Q rest (a.put o.dst (.slice a' (n + 1) cap')) w') : wpList Try.prog ops Q (o :: rest) a w := by
  refine wpList_plain hgd fun K hK => ?_
  obtain ⟨a', cap', w', hrun, h1, h2⟩ := run_append_rec w B v n ls hown sa y c rs m hm hcell hnew hn hB o.type
  unfold Oper.wp
  simp [execOp, ho, resolve, invoke, builtin, hs, hx, hrun, Result.andThen]
  refine hK _ _ (h a' cap' w' h1 (hb.grown h2 hB fun k hk => ?_))
  obtain ⟨_, vs, hown', _⟩ := hown
  exact (hown'.lt k hk).1

/-- A list of the call's own whose elements are lists of bytes that lay there before ('w0'). -/
structure MixRows (w0 w : World) (v : Value) (n : Nat) (ls : List (List Int)) : Prop where
  len : ls.length = n
  below : Below w0.heap.size w0 w
  own : ∃ vs, w.ownsRow w0.heap.size 31 1 v n vs ∧ ∀ r, r < n → ∃ x c, vs[r]? = some (.slice x (ls.getD r []).length c) ∧ Row w0 x (ls.getD r []) ∧ (x = none → c = 0) ∧ (ls.getD r []).length ≤ c
theorem MixRows.rows {w0 w : World} {n cap : Nat} {a : Option Addr} {ls : List (List Int)} (h : MixRows w0 w (.slice a n cap) n ls) : RowsOf w a cap ls := by
  obtain ⟨hl, hb, vs, hown, hvs⟩ := h
  rcases hown.2 with ⟨h1, h2⟩ | ⟨g, cap', cur, h1, h3, h4, h5, _⟩
  · cases h1
    have : ls = [] := List.eq_nil_of_length_eq_zero hl
    subst this
    exact ⟨fun _ => ⟨rfl, rfl⟩, Nat.le_refl _, .inl rfl⟩
  · cases h1
    refine ⟨fun h => by simp at h, by omega, ?_⟩
    by_cases h0 : ls = []
    · exact .inl h0
    · refine .inr ⟨g, 0, rfl, fun r hr => ?_⟩
      obtain ⟨x, c, hx, hn, h6, h7⟩ := hvs r (by omega)
      have hc := hown.cells (g := g) rfl r _ hx
      rw [add_plain] at hc
      exact ⟨x, c, hc, hn.below hb (Nat.le_refl _), h6, h7⟩
theorem rows_vals {w : World} {a : Option Addr} {cap : Nat} {L : List (List Int)} (h : RowsOf w a cap L) : ∃ us : List Value, us.length = L.length ∧ (∀ ad, a = some ad → ∀ j u, us[j]? = some u → w.cell? (ad.add j) = some u) ∧ (∀ u ∈ us, u.oneCell' = true) ∧
    ∀ r, r < L.length → ∃ x c, us[r]? = some (.slice x (L.getD r []).length c) ∧ Row w x (L.getD r []) ∧ (x = none → c = 0) ∧ (L.getD r []).length ≤ c := by
  rcases h.cells with rfl | ⟨b, off, rfl, hc⟩
  · exact ⟨[], rfl, fun _ _ j u hj => by simp at hj, by simp, fun r hr => by simp at hr⟩
  · have : ∀ r, r < L.length → ∃ p : Option Addr × Nat, w.cell? ⟨b, off + r, none⟩ = some (.slice p.1 (L.getD r []).length p.2) ∧ Row w p.1 (L.getD r []) ∧ (p.1 = none → p.2 = 0) ∧ (L.getD r []).length ≤ p.2 := fun r hr => by
      obtain ⟨x, c, h1, h2, h3, h4⟩ := hc r hr
      exact ⟨(x, c), h1, h2, h3, h4⟩
    obtain ⟨f, hf⟩ := Go.Deep.choose_lt this
    refine ⟨(List.range L.length).map fun r => .slice (f r).1 (L.getD r []).length (f r).2, by simp, ?_, ?_, ?_⟩
    · intro ad had j u hj
      cases had
      rw [List.getElem?_map] at hj
      by_cases hjl : j < L.length
      · simp [hjl] at hj
        rw [add_plain, (hf j hjl).1, ← hj]
        simp [hjl]
      · have : (List.range L.length)[j]? = none := by simp; omega
        rw [this] at hj; simp at hj
    · intro u hu
      simp only [List.mem_map] at hu
      obtain ⟨r, _, rfl⟩ := hu
      rfl
    · intro r hr
      exact ⟨(f r).1, (f r).2, by simp [hr], (hf r hr).2.1, (hf r hr).2.2.1, (hf r hr).2.2.2⟩
theorem run_append_rows (w0 w : World) (v : Value) (n : Nat) (ls : List (List Int)) (h : MixRows w0 w v n ls) (a : Option Addr) (m c : Nat) (L : List (List Int)) (hL : RowsOf w0 a c L) (hm : L.length = m) (hn : n + m ≤ 1099511627776) (ty : TypeId) :
    ∃ a' cap' w', (Builtin.append_ #[45, 45] ty #[v, .slice a m c]).run Try.prog w = .ok (.slice a' (n + m) cap') w' ∧ MixRows w0 w' (.slice a' (n + m) cap') (n + m) (ls ++ L) := by
  obtain ⟨i0, hi, hz0, hz1, hz2⟩ := info_parts infoB
  obtain ⟨hl, hb, vs, hown, hvs⟩ := h
  have hvl : vs.length = n := by have := hown.1; omega
  cases a with
  | none =>
    obtain ⟨h1, h2⟩ := hL.nil rfl
    subst h1 h2
    obtain rfl : m = 0 := by simpa using hm.symm
    have hrun := run_append_owned_none (P := Try.prog) (w := w) w0.heap.size 45 ty 31 i0 1 Try.underlying45 hi v n vs hown
    have hv : ∃ a' cap', v = .slice a' n cap' := by
      rcases hown.2 with ⟨h5, h6⟩ | ⟨g, cap, cur, h5, _⟩
      · exact ⟨none, 0, by rw [h5, h6]⟩
      · exact ⟨_, _, h5⟩
    obtain ⟨a', cap', rfl⟩ := hv
    exact ⟨a', cap', w, hrun, by rw [List.append_nil]; exact ⟨hl, hb, vs, hown, hvs⟩⟩
  | some ad =>
    obtain ⟨us, hul, hcell, hone, hus⟩ := rows_vals hL
    have hnews : ∀ j u, us[j]? = some u → w.cell? (ad.add j) = some u := by
      intro j u hj
      have := hcell ad rfl j u hj
      rw [hb.cell (lt_of_cell this)]
      exact this
    obtain ⟨v', w', hrun, h1, h2, h3⟩ := run_append_own (P := Try.prog) w w0.heap.size 45 ty 31 i0 (.slice none 0 0) 1 24 Try.underlying45 hi hz0 hz1 hz2 rfl (by decide) v n vs hown ad m c us (by omega) hnews hone (by unfold maxLen; omega) (by omega) hb.size
    have hv' : ∃ a' cap', v' = .slice a' (n + m) cap' := by
      rcases h1.2 with ⟨h5, h6⟩ | ⟨g, cap, cur, h5, _⟩
      · exact ⟨none, 0, by rw [h5, h6]⟩
      · exact ⟨_, _, h5⟩
    obtain ⟨a', cap', rfl⟩ := hv'
    refine ⟨a', cap', w', hrun, ⟨by simp [hl, hm], hb.grown h2 hb.size (fun k hk => (hown.lt k hk).1), _, h1, fun r hr => ?_⟩⟩
    by_cases hrn : r < n
    · have e1 : (ls ++ L).getD r [] = ls.getD r [] := by simp [List.getD, List.getElem?_append_left (by omega : r < ls.length)]
      rw [e1, List.getElem?_append_left (by omega)]
      exact hvs r hrn
    · have e1 : (ls ++ L).getD r [] = L.getD (r - n) [] := by simp [List.getD, List.getElem?_append_right (by omega : ls.length ≤ r), hl]
      rw [e1, List.getElem?_append_right (by omega), hvl]
      exact hus (r - n) (by omega)
/-- 'append(own, list...)' of lists of lists, in a region whose order stands; where the operation is guarded: its guard is met. -/
theorem wpList_append_rows {w : World} {ops : Array Oper} {rest : List Oper} {o : Oper} {a : Act} {Q : Exit → Act → World → Prop} (hw : Region.wanted o (yielded ops a.tmps) = true) (s x : Operand)
    (ho : o.op = .call { callee := .builtin .append, args := #[s, x], argTypes := #[45, 45] })
    (w0 : World) (v : Value) (n : Nat) (ls : List (List Int)) (hs : a.eval s = v) (hmix : MixRows w0 w v n ls) (ad : Option Addr) (m c : Nat) (hx : a.eval x = .slice ad m c) (L : List (List Int)) (hL : RowsOf w0 ad c L) (hm : L.length = m) (hn : n + m ≤ 1099511627776)
    (h : ∀ a' cap' w', MixRows w0 w' (.slice a' (n + m) cap') (n + m) (ls ++ L) → wpList Try.prog ops Q rest (a.put o.dst (.slice a' (n + m) cap')) w') : wpList Try.prog ops Q (o :: rest) a w := by
  refine wpList_step fun K hK => ?_
  rw [if_pos hw]
  obtain ⟨a', cap', w', hrun, h1⟩ := run_append_rows w0 w v n ls hmix ad m c L hL hm hn o.type
  unfold Oper.wp
  simp [execOp, ho, resolve, invoke, builtin, hs, hx, hrun, Result.andThen]
  exact hK _ _ (h a' cap' w' h1)
/-- One append of bytes to a list of the call's own, as one step of a region that draws its order; what lies in another block stays. -/
theorem step_free {w0 w : World} {ops : Array Oper} {o : Oper} {a : Act} {K : Act → World → Prop} {Q : Exit → Act → World → Prop} {E : Prop} (hgd : o.guard = none) (s x : Operand)
    (ho : o.op = .call { callee := .builtin .append, args := #[s, x], argTypes := #[31, 31] }) (hb : Below w0.heap.size w0 w)
    (v : Value) (n : Nat) (xs zs : List Int) (hs : a.eval s = v) (hown : w.ownsRow w0.heap.size 5 1 v n (bs xs)) (ao : Option Addr) (m c : Nat) (hx : a.eval x = .slice ao m c) (hrow : Row w ao zs) (hm : zs.length = m) (hnil : ao = none → m = 0 ∧ c = 0)
    (hxs : ∀ z ∈ xs, 0 ≤ z ∧ z ≤ 255) (hbytes : n + m ≤ 140737488355328)
    (h : ∀ a' cap' w', w'.ownsRow w0.heap.size 5 1 (.slice a' (n + m) cap') (n + m) (bs (xs ++ zs)) → Below w0.heap.size w0 w' → (∀ g ys, some g ≠ v.ownBlock → Row w (some ⟨g, 0, none⟩) ys → Row w' (some ⟨g, 0, none⟩) ys) → K (a.put o.dst (.slice a' (n + m) cap')) w') :
    if Region.wanted o (yielded ops a.tmps) = true then Oper.wp Try.prog o a w K Q else E := by
  refine step_append_row hgd s x ho w0.heap.size v n xs zs hs hown ao m c hx hrow hm hnil hxs hbytes hb.size ?_
  intro a' cap' w' h1 h2
  refine h a' cap' w' h1 (hb.grown h2 hb.size (fun k hk => (hown.lt k hk).1)) ?_
  intro g ys hg hr
  refine ⟨hr.bytes, hr.cells.imp id ?_⟩
  rintro ⟨b, off, h4, h5⟩
  cases h4
  exact ⟨g, 0, rfl, fun j hj => h2.cell (h5 j hj) hg⟩
/-- '[][]byte{}', just made. -/
theorem MixRows.made (w0 : World) : MixRows w0 (w0.alloc (.cells #[] 31)) (.slice (some ⟨w0.heap.size, 0, none⟩) 0 0) 0 [] :=
  ⟨rfl, (Below.refl _ _).alloc (Nat.le_refl _) _, [], World.ownsRow_made w0 #[] 0 (Nat.le_refl _) (by decide) rfl, fun r hr => absurd hr (Nat.not_lt_zero _)⟩
end Go.Proofs.Ytlfmhdljldbjmaa
