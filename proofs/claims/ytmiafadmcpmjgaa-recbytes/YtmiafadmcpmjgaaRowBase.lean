/-
  Lists of bytes that lie somewhere, and lists of the call's own: what later layers' walks lean on. No function of the program is named here.
-/
import Derived.Test.YtmiafadmcpmjgaaProg
import Derived.WalkKit
import Derived.WalkSpells
import Derived.WalkLawsBesides
import Derived.Laws.CopyOwn
import Derived.Laws.MakeOwn
import Derived.Laws.BytesArg
import Derived.OpenShut
import Derived.Laws.AppendOwnNone
namespace Go.Proofs.Ytmiafadmcpmjgaa
open Go.RowKit
set_option linter.unusedVariables false

theorem ret_int {k : IntKind} {a b : Int} (h : a = b) : Ending.returned (.int k a) = .returned (.int k b) := by rw [h]
/-- A slice of bytes that lies somewhere: its bytes, and where they are. -/
structure Row (w : World) (a : Option Addr) (zs : List Int) : Prop where
  bytes : ∀ z ∈ zs, 0 ≤ z ∧ z ≤ 255
  cells : zs = [] ∨ ∃ b off, a = some ⟨b, off, none⟩ ∧ ∀ j, j < zs.length → w.cell? ⟨b, off + j, none⟩ = some (.int .u8 (zs.getD j 0))

theorem drop_at (zs : List Int) (k : Nat) (h : k < zs.length) : zs.drop k = zs[k]?.getD 0 :: zs.drop (k + 1) := by
  rw [List.drop_eq_getElem_cons h]; simp [h]
theorem at_byte {zs : List Int} (h : ∀ z ∈ zs, 0 ≤ z ∧ z ≤ 255) (k : Nat) : 0 ≤ zs[k]?.getD 0 ∧ zs[k]?.getD 0 ≤ 255 := by
  by_cases hk : k < zs.length
  · have := h zs[k] (List.getElem_mem hk); simpa [hk] using this
  · have : zs[k]? = none := by simp; omega
    simp [this]
theorem info5 : (Try.prog.info? 5).map (fun i => (i.zero, i.size, i.bytes)) = some (some (.int .u8 0), 1, 1) := by kernel_rfl
theorem info5s : (Try.prog.info? 5).map (·.size) = some 1 := by kernel_rfl

/-- The cells of a list of bytes. -/
def bs (zs : List Int) : List Value := zs.map (Value.int .u8)
theorem bs_len (zs : List Int) : (bs zs).length = zs.length := by simp [bs]
theorem bs_app (xs ys : List Int) : bs (xs ++ ys) = bs xs ++ bs ys := by simp [bs]
theorem bs_one (zs : List Int) : ∀ u ∈ bs zs, u.oneCell' = true := ints_oneCell _ _
theorem bs_at (zs : List Int) (j : Nat) (v : Value) (h : (bs zs)[j]? = some v) : j < zs.length ∧ v = .int .u8 (zs.getD j 0) := by
  unfold bs at h
  rw [List.getElem?_map] at h
  by_cases hj : j < zs.length
  · simp [hj] at h
    exact ⟨hj, by simp [hj, h]⟩
  · have : zs[j]? = none := by simp; omega
    simp [this] at h

theorem lt_of_cell {w : World} {x : Addr} {v : Value} (h : w.cell? x = some v) : x.block < w.heap.size := by
  apply Classical.byContradiction
  intro hn
  have : w.heap[x.block]? = none := by simp; omega
  simp [World.cell?, this] at h
/-- What the copy into the new row leaves. -/
theorem copy_row (w : World) (a : Option Addr) (cap : Nat) (zs : List Int) (Z : Array Value) (len n : Nat) (hrow : Row w a zs) (hzl : zs.length = len) (hZ : Z.size = len + n) (hm : len + n ≤ maxLen) :
    ∃ w1, (Builtin.copy_ #[32, 32] 3 #[.slice (some ⟨w.heap.size, 0, none⟩) len (len + n), .slice a len cap]).run Try.prog (w.alloc (.cells Z 5)) = .ok (.int .i64 len) w1 ∧
      w1.ownsRow w.heap.size 5 1 (.slice (some ⟨w.heap.size, 0, none⟩) len (len + n)) len (bs zs) ∧ Below w.heap.size w w1 ∧ w.heap.size < w1.heap.size := by
  have hg : (w.alloc (.cells Z 5)).heap[w.heap.size]? = some (.cells Z 5 (0, 0)) := by
    show (w.heap.push _)[w.heap.size]? = _
    simp
  have hb : Below w.heap.size w (w.alloc (.cells Z 5)) := (Below.refl _ _).alloc (Nat.le_refl _) _
  rcases hrow.2 with rfl | ⟨b, off, rfl, hc⟩
  · simp at hzl
    subst hzl
    refine ⟨_, run_copy_none (P := Try.prog) _ 32 32 3 5 _ _ _ _ _ _ Try.underlying32 info5s rfl, ?_, hb, by simp⟩
    exact ⟨by simp [bs], .inr ⟨_, _, Z, rfl, Nat.le_refl _, hg, by omega, hm, by omega, by simp [bs]⟩⟩
  · have hsrc : ∀ j v, (bs zs)[j]? = some v → (w.alloc (.cells Z 5)).cell? ((⟨b, off, none⟩ : Addr).add j) = some v := by
      intro j v hj
      obtain ⟨hj1, rfl⟩ := bs_at zs j v hj
      have := hc j hj1
      have ea : (⟨b, off, none⟩ : Addr).add j = ⟨b, off + j, none⟩ := by simp [Addr.add]
      rw [ea, World.cell?_alloc_lt _ _ _ (lt_of_cell this)]
      exact this
    have hr := run_copy_row (P := Try.prog) (w.alloc (.cells Z 5)) 32 32 3 5 w.heap.size 0 len (len + n) ⟨b, off, none⟩ len cap Z 5 (bs zs) Try.underlying32 info5s hg
      (by rw [bs_len, hzl]; exact (Nat.min_self len).symm) hsrc (by rw [bs_len]; omega) (bs_one zs)
    rw [bs_len, hzl] at hr
    refine ⟨_, hr, ?_, below_setRow hb (Nat.le_refl _) _, by simp [World.setRow]⟩
    refine ⟨by rw [bs_len]; omega, .inr ⟨_, _, _, rfl, Nat.le_refl _, setRow_heap _ _ _ _ _ _ hg, by omega, hm, ?_, ?_⟩⟩
    · simp [bs_len]; omega
    · simp [bs_len, hzl]

theorem add_plain (b off j : Nat) : (⟨b, off, none⟩ : Addr).add j = ⟨b, off + j, none⟩ := by unfold Addr.add; split <;> simp_all
theorem row_of_own {w : World} {base g n cap : Nat} {zs : List Int} (h : w.ownsRow base 5 1 (.slice (some ⟨g, 0, none⟩) n cap) n (bs zs)) (hb : ∀ z ∈ zs, 0 ≤ z ∧ z ≤ 255) : Row w (some ⟨g, 0, none⟩) zs := by
  refine ⟨hb, .inr ⟨g, 0, rfl, fun j hj => ?_⟩⟩
  have := h.cells (g := g) rfl j (.int .u8 (zs.getD j 0)) (by simp [bs, hj])
  rw [add_plain] at this
  exact this
theorem Row.below {w w' : World} {a : Option Addr} {zs : List Int} (h : Row w a zs) {B : Nat} (hb : Below B w w') (hB : w.heap.size ≤ B) : Row w' a zs := by
  refine ⟨h.1, ?_⟩
  rcases h.2 with rfl | ⟨b, off, rfl, hc⟩
  · exact .inl rfl
  · exact .inr ⟨b, off, rfl, fun j hj => by rw [hb.cell (Nat.lt_of_lt_of_le (lt_of_cell (hc j hj)) hB)]; exact hc j hj⟩
theorem Row.nil (w : World) (a : Option Addr) : Row w a [] := ⟨by simp, .inl rfl⟩
theorem str_of_row {w : World} {a : Option Addr} {zs : List Int} (h : Row w a zs) (cap : Nat) :
    (convert 32 9 (.slice a zs.length cap)).run Try.prog w = .ok (.string (strOfNums zs)) w := by
  rcases h.2 with rfl | ⟨b, off, rfl, hc⟩
  · cases a with
    | none => exact run_convert_bytes_nil w 32 5 Try.underlying32 Try.underlying5 0 cap 9 Try.underlying9
    | some ad =>
      have hl : (loadCells ad 0).run Try.prog w = .ok (([] : List Int).map (Value.int .u8)).toArray w := by simpa using run_loadCells_list (P := Try.prog) w ad [] (by simp)
      show (convert 32 9 (.slice (some ad) 0 cap)).run Try.prog w = _
      rw [run_convert_bytes_string w 32 9 5 _ 0 cap Try.underlying32 Try.underlying5 Try.underlying9, run_bytesToString w ad 0 cap [] hl]
      rfl
  · exact run_convert_bytes_arg w 32 5 Try.underlying32 Try.underlying5 b off zs.length cap zs rfl (fun i hi => hc i hi) 9 Try.underlying9

theorem row_of {w : World} {a : Option Addr} {len cap : Nat} {z : List Int}
    (h : (a = none ∧ len = 0 ∧ cap = 0 ∧ z = []) ∨ ∃ x, a = some x ∧ len ≤ cap ∧ cap ≤ maxLen ∧ z.length = cap ∧ (∀ i, i < z.length → w.cell? (x.add i) = some (.int .u8 (z.getD i 0))) ∧ ∀ n ∈ z, (Lit.int .u8 n).wf = true) :
    ∃ zs : List Int, zs.length = len ∧ Row w a zs := by
  rcases h with ⟨rfl, rfl, rfl, rfl⟩ | ⟨x, rfl, hl, hm, hz, hc, hw⟩
  · exact ⟨[], rfl, Row.nil _ _⟩
  · by_cases h0 : len = 0
    · exact ⟨[], h0.symm, Row.nil _ _⟩
    · obtain ⟨b, off, spot⟩ := x
      have hc0 := hc 0 (by omega)
      have hspot : spot = none := by simpa [Addr.add] using World.cell?_spot hc0
      subst hspot
      refine ⟨z.take len, by simp; omega, fun n hn => bounds_u8 (hw n (List.mem_of_mem_take hn)), .inr ⟨b, off, rfl, fun j hj => ?_⟩⟩
      simp at hj
      have := hc j (by omega)
      rw [add_plain] at this
      rw [this]
      have e : (z.take len).getD j 0 = z.getD j 0 := by
        have hjl : j < len := by omega
        simp [List.getD, hjl]
      rw [e]
theorem own_shape {w : World} {base n : Nat} {v : Value} {zs : List Int} (h : w.ownsRow base 5 1 v n (bs zs)) (hb : ∀ z ∈ zs, 0 ≤ z ∧ z ≤ 255) : ∃ a cap, v = .slice a n cap ∧ Row w a zs ∧ zs.length = n := by
  have hl : zs.length = n := by have := h.1; rw [bs_len] at this; omega
  rcases h.2 with ⟨rfl, h0⟩ | ⟨g, cap, cur, rfl, _, _, _, _, _, _⟩
  · refine ⟨none, 0, by rw [h0], ?_, hl⟩
    have : zs = [] := List.eq_nil_of_length_eq_zero (by omega)
    subst this; exact Row.nil _ _
  · exact ⟨_, cap, rfl, row_of_own h hb, hl⟩

theorem run_append_row (w : World) (base : Nat) (v : Value) (n : Nat) (xs zs : List Int) (hown : w.ownsRow base 5 1 v n (bs xs)) (ao : Option Addr) (m c : Nat) (hrow : Row w ao zs) (hm : zs.length = m) (hnil : ao = none → m = 0 ∧ c = 0)
    (hxs : ∀ z ∈ xs, 0 ≤ z ∧ z ≤ 255) (hbytes : n + m ≤ 140737488355328) (hbase : base ≤ w.heap.size) (ty : TypeId) :
    ∃ a' cap' w', (Builtin.append_ #[32, 32] ty #[v, .slice ao m c]).run Try.prog w = .ok (.slice a' (n + m) cap') w' ∧ w'.ownsRow base 5 1 (.slice a' (n + m) cap') (n + m) (bs (xs ++ zs)) ∧ w.grownBy w' v.ownBlock := by
  obtain ⟨i0, hi, hz0, hz1, hz2⟩ := info_parts info5
  cases ao with
  | none =>
    obtain ⟨rfl, rfl⟩ := hnil rfl
    obtain rfl : zs = [] := List.eq_nil_of_length_eq_zero hm
    have hrun := run_append_owned_none (P := Try.prog) (w := w) base 32 ty 5 i0 1 Try.underlying32 hi v n (bs xs) hown
    obtain ⟨a', cap', rfl, _, _⟩ := own_shape hown hxs
    exact ⟨a', cap', w, hrun, by simpa using hown, World.grownBy.refl _ _⟩
  | some ad =>
    have hnews : ∀ j u, (bs zs)[j]? = some u → w.cell? (ad.add j) = some u := by
      intro j u hj
      obtain ⟨hj1, rfl⟩ := bs_at zs j u hj
      rcases hrow.2 with rfl | ⟨b, off, he, hc⟩
      · simp at hj1
      · simp at he; subst he
        rw [add_plain]; exact hc j hj1
    obtain ⟨v', w', hrun, h1, h2, _⟩ := run_append_own (P := Try.prog) w base 32 ty 5 i0 (.int .u8 0) 1 1 Try.underlying32 hi hz0 hz1 hz2 rfl (by decide) v n (bs xs) hown ad m c (bs zs) (by rw [bs_len]; omega) hnews (bs_one zs) (by unfold maxLen; omega) (by omega) hbase
    rw [← bs_app] at h1
    have hall : ∀ z ∈ xs ++ zs, 0 ≤ z ∧ z ≤ 255 := by
      intro z hz
      rcases List.mem_append.1 hz with h | h
      · exact hxs z h
      · exact hrow.1 z h
    obtain ⟨a', cap', rfl, _, _⟩ := own_shape h1 hall
    exact ⟨a', cap', w', hrun, h1, h2⟩

theorem wpList_append_row {w : World} {ops : Array Oper} {rest : List Oper} {o : Oper} {a : Act} {Q : Exit → Act → World → Prop} (hgd : o.guard = none) (s x : Operand)
    (ho : o.op = .call { callee := .builtin .append, args := #[s, x], argTypes := #[32, 32] })
    (base : Nat) (v : Value) (n : Nat) (xs zs : List Int) (hs : a.eval s = v) (hown : w.ownsRow base 5 1 v n (bs xs)) (ao : Option Addr) (m c : Nat) (hx : a.eval x = .slice ao m c) (hrow : Row w ao zs) (hm : zs.length = m) (hnil : ao = none → m = 0 ∧ c = 0)
    (hxs : ∀ z ∈ xs, 0 ≤ z ∧ z ≤ 255) (hbytes : n + m ≤ 140737488355328) (hbase : base ≤ w.heap.size)
    (h : ∀ a' cap' w', w'.ownsRow base 5 1 (.slice a' (n + m) cap') (n + m) (bs (xs ++ zs)) → w.grownBy w' v.ownBlock → wpList Try.prog ops Q rest (a.put o.dst (.slice a' (n + m) cap')) w') : wpList Try.prog ops Q (o :: rest) a w := by
  refine wpList_plain hgd fun K hK => ?_
  obtain ⟨a', cap', w', hrun, h1, h2⟩ := run_append_row w base v n xs zs hown ao m c hrow hm hnil hxs hbytes hbase o.type
  unfold Oper.wp
  simp [execOp, ho, resolve, invoke, builtin, hs, hx, hrun, Result.andThen]
  exact hK _ _ (h a' cap' w' h1 h2)

/-- The same as one step of a region that draws its order. -/
theorem step_append_row {w : World} {ops : Array Oper} {o : Oper} {a : Act} {K : Act → World → Prop} {Q : Exit → Act → World → Prop} {E : Prop} (hgd : o.guard = none) (s x : Operand)
    (ho : o.op = .call { callee := .builtin .append, args := #[s, x], argTypes := #[32, 32] })
    (base : Nat) (v : Value) (n : Nat) (xs zs : List Int) (hs : a.eval s = v) (hown : w.ownsRow base 5 1 v n (bs xs)) (ao : Option Addr) (m c : Nat) (hx : a.eval x = .slice ao m c) (hrow : Row w ao zs) (hm : zs.length = m) (hnil : ao = none → m = 0 ∧ c = 0)
    (hxs : ∀ z ∈ xs, 0 ≤ z ∧ z ≤ 255) (hbytes : n + m ≤ 140737488355328) (hbase : base ≤ w.heap.size)
    (h : ∀ a' cap' w', w'.ownsRow base 5 1 (.slice a' (n + m) cap') (n + m) (bs (xs ++ zs)) → w.grownBy w' v.ownBlock → K (a.put o.dst (.slice a' (n + m) cap')) w') :
    if Region.wanted o (yielded ops a.tmps) = true then Oper.wp Try.prog o a w K Q else E := by
  have hw : Region.wanted o (yielded ops a.tmps) = true := by simp [Region.wanted, hgd]
  rw [if_pos hw]
  obtain ⟨a', cap', w', hrun, h1, h2⟩ := run_append_row w base v n xs zs hown ao m c hrow hm hnil hxs hbytes hbase o.type
  unfold Oper.wp
  simp [execOp, ho, resolve, invoke, builtin, hs, hx, hrun, Result.andThen]
  exact h a' cap' w' h1 h2

/-- The same behind an empty list. -/
theorem step_append_first {w : World} {ops : Array Oper} {o : Oper} {a : Act} {K : Act → World → Prop} {Q : Exit → Act → World → Prop} {E : Prop} (hgd : o.guard = none) (s x : Operand)
    (ho : o.op = .call { callee := .builtin .append, args := #[s, x], argTypes := #[32, 32] })
    (base : Nat) (v : Value) (zs : List Int) (hs : a.eval s = v) (hown : w.ownsRow base 5 1 v 0 []) (ao : Option Addr) (m c : Nat) (hx : a.eval x = .slice ao m c) (hrow : Row w ao zs) (hm : zs.length = m) (hnil : ao = none → m = 0 ∧ c = 0)
    (hbytes : m ≤ 140737488355328) (hbase : base ≤ w.heap.size) (w0 : World) (hb : Below base w0 w)
    (h : ∀ a' cap' w', w'.ownsRow base 5 1 (.slice a' m cap') m (bs zs) → Below base w0 w' → K (a.put o.dst (.slice a' m cap')) w') :
    if Region.wanted o (yielded ops a.tmps) = true then Oper.wp Try.prog o a w K Q else E := by
  refine step_append_row hgd s x ho base v 0 [] zs hs hown ao m c hx hrow hm hnil (by simp) (by omega) hbase ?_
  intro a' cap' w' h1 h2
  rw [Nat.zero_add, List.nil_append] at h1
  rw [Nat.zero_add]
  exact h a' cap' w' h1 (hb.grown h2 hbase (fun k hk => (hown.lt k hk).1))

theorem own_row {w : World} {base n cap : Nat} {a : Option Addr} {zs : List Int} (h : w.ownsRow base 5 1 (.slice a n cap) n (bs zs)) (hb : ∀ z ∈ zs, 0 ≤ z ∧ z ≤ 255) : Row w a zs := by
  obtain ⟨a', cap', he, hr, _⟩ := own_shape h hb
  cases he
  exact hr

/-- 'append([]byte, src...)' of an empty list that was just made. -/
theorem wpList_append_new {w : World} {ops : Array Oper} {rest : List Oper} {o : Oper} {a : Act} {Q : Exit → Act → World → Prop} (hgd : o.guard = none) (s x : Operand)
    (ho : o.op = .call { callee := .builtin .append, args := #[s, x], argTypes := #[32, 32] })
    (hs : a.eval s = .slice (some ⟨w.heap.size, 0, none⟩) 0 0) (zs : List Int) (ao : Option Addr) (m c : Nat) (hx : a.eval x = .slice ao m c) (hrow : Row w ao zs) (hm : zs.length = m) (hnil : ao = none → m = 0 ∧ c = 0)
    (hbytes : m ≤ 140737488355328)
    (h : ∀ a' cap' w', w'.ownsRow w.heap.size 5 1 (.slice a' m cap') m (bs zs) → Below w.heap.size w w' → wpList Try.prog ops Q rest (a.put o.dst (.slice a' m cap')) w') : wpList Try.prog ops Q (o :: rest) a (w.alloc (.cells #[] 5)) := by
  refine wpList_append_row hgd s x ho w.heap.size _ 0 [] zs hs (World.ownsRow_made w #[] 0 (Nat.le_refl _) (by decide) rfl) ao m c hx (hrow.below ((Below.refl _ _).alloc (Nat.le_refl _) _) (Nat.le_refl _)) hm hnil (by simp) (by omega) (by simp) ?_
  intro a' cap' w' h1 h2
  rw [Nat.zero_add, List.nil_append] at h1
  rw [Nat.zero_add]
  exact h a' cap' w' h1 (((Below.refl _ _).alloc (Nat.le_refl _) _).grown h2 (by simp) (fun k hk => by simp [Value.ownBlock] at hk; omega))
/-- One more list behind one of the call's own. -/
theorem wpList_append_on {w : World} {ops : Array Oper} {rest : List Oper} {o : Oper} {a : Act} {Q : Exit → Act → World → Prop} (hgd : o.guard = none) (s x : Operand)
    (ho : o.op = .call { callee := .builtin .append, args := #[s, x], argTypes := #[32, 32] })
    (B : Nat) (w0 : World) (hb : Below B w0 w) (hB : B ≤ w.heap.size)
    (v : Value) (n : Nat) (xs zs : List Int) (hs : a.eval s = v) (hown : w.ownsRow B 5 1 v n (bs xs)) (ao : Option Addr) (m c : Nat) (hx : a.eval x = .slice ao m c) (hrow : Row w ao zs) (hm : zs.length = m) (hnil : ao = none → m = 0 ∧ c = 0)
    (hxs : ∀ z ∈ xs, 0 ≤ z ∧ z ≤ 255) (hbytes : n + m ≤ 140737488355328)
    (h : ∀ a' cap' w', w'.ownsRow B 5 1 (.slice a' (n + m) cap') (n + m) (bs (xs ++ zs)) → Below B w0 w' → wpList Try.prog ops Q rest (a.put o.dst (.slice a' (n + m) cap')) w') : wpList Try.prog ops Q (o :: rest) a w := by
  refine wpList_append_row hgd s x ho B v n xs zs hs hown ao m c hx hrow hm hnil hxs hbytes hB ?_
  intro a' cap' w' h1 h2
  exact h a' cap' w' h1 (hb.grown h2 hB (fun k hk => (hown.lt k hk).1))
end Go.Proofs.Ytmiafadmcpmjgaa
