/-
  A list of the call's own, and any bytes appended to it.
-/
import Derived.Test.YtpbjdhinogphfaaArgs
import Derived.Laws.AppendOwnNone
namespace Go.Proofs.Ytpbjdhinogphfaa
open Go.RowKit
set_option linter.unusedVariables false

theorem own_shape {w : World} {base n : Nat} {v : Value} {zs : List Int} (h : w.ownsRow base 5 1 v n (bs zs)) (hb : ∀ z ∈ zs, 0 ≤ z ∧ z ≤ 255) : ∃ a cap, v = .slice a n cap ∧ Row w a zs ∧ zs.length = n := by
  have hl : zs.length = n := by have := h.1; rw [bs_len] at this; omega
  rcases h.2 with ⟨rfl, h0⟩ | ⟨g, cap, cur, rfl, _, _, _, _, _, _⟩
  · refine ⟨none, 0, by rw [h0], ?_, hl⟩
    have : zs = [] := List.eq_nil_of_length_eq_zero (by omega)
    subst this; exact Row.nil _ _
  · exact ⟨_, cap, rfl, row_of_own h hb, hl⟩

theorem run_append_row (w : World) (base : Nat) (v : Value) (n : Nat) (xs zs : List Int) (hown : w.ownsRow base 5 1 v n (bs xs)) (ao : Option Addr) (m c : Nat) (hrow : Row w ao zs) (hm : zs.length = m) (hnil : ao = none → m = 0 ∧ c = 0)
    (hxs : ∀ z ∈ xs, 0 ≤ z ∧ z ≤ 255) (hbytes : n + m ≤ 140737488355328) (hbase : base ≤ w.heap.size) (ty : TypeId) :
    ∃ a' cap' w', (Builtin.append_ #[27, 27] ty #[v, .slice ao m c]).run Try.prog w = .ok (.slice a' (n + m) cap') w' ∧ w'.ownsRow base 5 1 (.slice a' (n + m) cap') (n + m) (bs (xs ++ zs)) ∧ w.grownBy w' v.ownBlock := by
  obtain ⟨i0, hi, hz0, hz1, hz2⟩ := info_parts info5
  cases ao with
  | none =>
    obtain ⟨rfl, rfl⟩ := hnil rfl
    obtain rfl : zs = [] := List.eq_nil_of_length_eq_zero hm
    have hrun := run_append_owned_none (P := Try.prog) (w := w) base 27 ty 5 i0 1 Try.underlying27 hi v n (bs xs) hown
    obtain ⟨a', cap', rfl, _, _⟩ := own_shape hown hxs
    exact ⟨a', cap', w, hrun, by simpa using hown, World.grownBy.refl _ _⟩
  | some ad =>
    have hnews : ∀ j u, (bs zs)[j]? = some u → w.cell? (ad.add j) = some u := by
      intro j u hj
      obtain ⟨hj1, rfl⟩ := bs_at zs j u hj
      rcases hrow.2 with rfl | ⟨b, off, he, hc⟩
      · simp at hj1
      · simp at he; subst he
        rw [add_plain]; exact hc j hj1
    obtain ⟨v', w', hrun, h1, h2, _⟩ := run_append_own (P := Try.prog) w base 27 ty 5 i0 (.int .u8 0) 1 1 Try.underlying27 hi hz0 hz1 hz2 rfl (by decide) v n (bs xs) hown ad m c (bs zs) (by rw [bs_len]; omega) hnews (bs_one zs) (by unfold maxLen; omega) (by omega) hbase
    rw [← bs_app] at h1
    have hall : ∀ z ∈ xs ++ zs, 0 ≤ z ∧ z ≤ 255 := by
      intro z hz
      rcases List.mem_append.1 hz with h | h
      · exact hxs z h
      · exact hrow.1 z h
    obtain ⟨a', cap', rfl, _, _⟩ := own_shape h1 hall
    exact ⟨a', cap', w', hrun, h1, h2⟩

theorem wpList_append_row {w : World} {ops : Array Oper} {rest : List Oper} {o : Oper} {a : Act} {Q : Exit → Act → World → Prop} (hgd : o.guard = none) (s x : Operand)
    (ho : o.op = .call { callee := .builtin .append, args := #[s, x], argTypes := #[27, 27] })
    (base : Nat) (v : Value) (n : Nat) (xs zs : List Int) (hs : a.eval s = v) (hown : w.ownsRow base 5 1 v n (bs xs)) (ao : Option Addr) (m c : Nat) (hx : a.eval x = .slice ao m c) (hrow : Row w ao zs) (hm : zs.length = m) (hnil : ao = none → m = 0 ∧ c = 0)
    (hxs : ∀ z ∈ xs, 0 ≤ z ∧ z ≤ 255) (hbytes : n + m ≤ 140737488355328) (hbase : base ≤ w.heap.size)
    (h : ∀ a' cap' w', w'.ownsRow base 5 1 (.slice a' (n + m) cap') (n + m) (bs (xs ++ zs)) → w.grownBy w' v.ownBlock → wpList Try.prog ops Q rest (a.put o.dst (.slice a' (n + m) cap')) w') : wpList Try.prog ops Q (o :: rest) a w := by
  refine wpList_plain hgd fun K hK => ?_
  obtain ⟨a', cap', w', hrun, h1, h2⟩ := run_append_row w base v n xs zs hown ao m c hrow hm hnil hxs hbytes hbase o.type
  unfold Oper.wp
  simp [execOp, ho, resolve, invoke, builtin, hs, hx, hrun, Result.andThen]
  exact hK _ _ (h a' cap' w' h1 h2)

/-- The same as one step of a region that draws its order. -/
theorem step_append_row {w : World} {ops : Array Oper} {o : Oper} {a : Act} {K : Act → World → Prop} {Q : Exit → Act → World → Prop} {E : Prop} (hgd : o.guard = none) (s x : Operand)
    (ho : o.op = .call { callee := .builtin .append, args := #[s, x], argTypes := #[27, 27] })
    (base : Nat) (v : Value) (n : Nat) (xs zs : List Int) (hs : a.eval s = v) (hown : w.ownsRow base 5 1 v n (bs xs)) (ao : Option Addr) (m c : Nat) (hx : a.eval x = .slice ao m c) (hrow : Row w ao zs) (hm : zs.length = m) (hnil : ao = none → m = 0 ∧ c = 0)
    (hxs : ∀ z ∈ xs, 0 ≤ z ∧ z ≤ 255) (hbytes : n + m ≤ 140737488355328) (hbase : base ≤ w.heap.size)
    (h : ∀ a' cap' w', w'.ownsRow base 5 1 (.slice a' (n + m) cap') (n + m) (bs (xs ++ zs)) → w.grownBy w' v.ownBlock → K (a.put o.dst (.slice a' (n + m) cap')) w') :
    if Region.wanted o (yielded ops a.tmps) = true then Oper.wp Try.prog o a w K Q else E := by
  have hw : Region.wanted o (yielded ops a.tmps) = true := by simp [Region.wanted, hgd]
  rw [if_pos hw]
  obtain ⟨a', cap', w', hrun, h1, h2⟩ := run_append_row w base v n xs zs hown ao m c hrow hm hnil hxs hbytes hbase o.type
  unfold Oper.wp
  simp [execOp, ho, resolve, invoke, builtin, hs, hx, hrun, Result.andThen]
  exact h a' cap' w' h1 h2

/-- The same behind an empty list. -/
theorem step_append_first {w : World} {ops : Array Oper} {o : Oper} {a : Act} {K : Act → World → Prop} {Q : Exit → Act → World → Prop} {E : Prop} (hgd : o.guard = none) (s x : Operand)
    (ho : o.op = .call { callee := .builtin .append, args := #[s, x], argTypes := #[27, 27] })
    (base : Nat) (v : Value) (zs : List Int) (hs : a.eval s = v) (hown : w.ownsRow base 5 1 v 0 []) (ao : Option Addr) (m c : Nat) (hx : a.eval x = .slice ao m c) (hrow : Row w ao zs) (hm : zs.length = m) (hnil : ao = none → m = 0 ∧ c = 0)
    (hbytes : m ≤ 140737488355328) (hbase : base ≤ w.heap.size) (w0 : World) (hb : Below base w0 w)
    (h : ∀ a' cap' w', w'.ownsRow base 5 1 (.slice a' m cap') m (bs zs) → Below base w0 w' → K (a.put o.dst (.slice a' m cap')) w') :
    if Region.wanted o (yielded ops a.tmps) = true then Oper.wp Try.prog o a w K Q else E := by
  refine step_append_row hgd s x ho base v 0 [] zs hs hown ao m c hx hrow hm hnil (by simp) (by omega) hbase ?_
  intro a' cap' w' h1 h2
  rw [Nat.zero_add, List.nil_append] at h1
  rw [Nat.zero_add]
  exact h a' cap' w' h1 (hb.grown h2 hbase (fun k hk => (hown.lt k hk).1))

theorem own_row {w : World} {base n cap : Nat} {a : Option Addr} {zs : List Int} (h : w.ownsRow base 5 1 (.slice a n cap) n (bs zs)) (hb : ∀ z ∈ zs, 0 ≤ z ∧ z ≤ 255) : Row w a zs := by
  obtain ⟨a', cap', he, hr, _⟩ := own_shape h hb
  cases he
  exact hr

/-- 'append([]byte, src...)' of an empty list that was just made. -/
theorem wpList_append_new {w : World} {ops : Array Oper} {rest : List Oper} {o : Oper} {a : Act} {Q : Exit → Act → World → Prop} (hgd : o.guard = none) (s x : Operand)
    (ho : o.op = .call { callee := .builtin .append, args := #[s, x], argTypes := #[27, 27] })
    (hs : a.eval s = .slice (some ⟨w.heap.size, 0, none⟩) 0 0) (zs : List Int) (ao : Option Addr) (m c : Nat) (hx : a.eval x = .slice ao m c) (hrow : Row w ao zs) (hm : zs.length = m) (hnil : ao = none → m = 0 ∧ c = 0)
    (hbytes : m ≤ 140737488355328)
    (h : ∀ a' cap' w', w'.ownsRow w.heap.size 5 1 (.slice a' m cap') m (bs zs) → Below w.heap.size w w' → wpList Try.prog ops Q rest (a.put o.dst (.slice a' m cap')) w') : wpList Try.prog ops Q (o :: rest) a (w.alloc (.cells #[] 5)) := by
  refine wpList_append_row hgd s x ho w.heap.size _ 0 [] zs hs (World.ownsRow_made w #[] 0 (Nat.le_refl _) (by decide) rfl) ao m c hx (hrow.below ((Below.refl _ _).alloc (Nat.le_refl _) _) (Nat.le_refl _)) hm hnil (by simp) (by omega) (by simp) ?_
  intro a' cap' w' h1 h2
  rw [Nat.zero_add, List.nil_append] at h1
  rw [Nat.zero_add]
  exact h a' cap' w' h1 (((Below.refl _ _).alloc (Nat.le_refl _) _).grown h2 (by simp) (fun k hk => by simp [Value.ownBlock] at hk; omega))
/-- One more list behind one of the call's own. -/
theorem wpList_append_on {w : World} {ops : Array Oper} {rest : List Oper} {o : Oper} {a : Act} {Q : Exit → Act → World → Prop} (hgd : o.guard = none) (s x : Operand)
    (ho : o.op = .call { callee := .builtin .append, args := #[s, x], argTypes := #[27, 27] })
    (B : Nat) (w0 : World) (hb : Below B w0 w) (hB : B ≤ w.heap.size)
    (v : Value) (n : Nat) (xs zs : List Int) (hs : a.eval s = v) (hown : w.ownsRow B 5 1 v n (bs xs)) (ao : Option Addr) (m c : Nat) (hx : a.eval x = .slice ao m c) (hrow : Row w ao zs) (hm : zs.length = m) (hnil : ao = none → m = 0 ∧ c = 0)
    (hxs : ∀ z ∈ xs, 0 ≤ z ∧ z ≤ 255) (hbytes : n + m ≤ 140737488355328)
    (h : ∀ a' cap' w', w'.ownsRow B 5 1 (.slice a' (n + m) cap') (n + m) (bs (xs ++ zs)) → Below B w0 w' → wpList Try.prog ops Q rest (a.put o.dst (.slice a' (n + m) cap')) w') : wpList Try.prog ops Q (o :: rest) a w := by
  refine wpList_append_row hgd s x ho B v n xs zs hs hown ao m c hx hrow hm hnil hxs hbytes hB ?_
  intro a' cap' w' h1 h2
  exact h a' cap' w' h1 (hb.grown h2 hB (fun k hk => (hown.lt k hk).1))
end Go.Proofs.Ytpbjdhinogphfaa
