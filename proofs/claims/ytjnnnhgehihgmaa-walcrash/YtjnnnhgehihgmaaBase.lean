/-
  Lists of bytes that lie somewhere, and lists of the call's own: what later layers' walks lean on. No function of the program is named here.
  Lists of lists of bytes, and arrays of integers, that came in: what the walk is told of them. No function of the program is named here.
-/
import Derived.Test.YtjnnnhgehihgmaaProg
import Derived.WalkKit
import Derived.WalkSpells
import Derived.WalkLawsBesides
import Derived.Laws.CopyOwn
import Derived.Laws.MakeOwn
import Derived.Laws.BytesArg
import Derived.OpenShut
import Derived.Laws.AppendOwnNone
import Derived.ProofKit
import Derived.Deep.Matrix
import Derived.Below
import Derived.ChangeKeysEq
namespace Go.Proofs.Ytjnnnhgehihgmaa
open Go.RowKit
set_option linter.unusedVariables false

theorem ret_int {k : IntKind} {a b : Int} (h : a = b) : Ending.returned (.int k a) = .returned (.int k b) := by rw [h]
/-- A slice of bytes that lies somewhere: its bytes, and where they are. -/
structure Row (w : World) (a : Option Addr) (zs : List Int) : Prop where
  bytes : ∀ z ∈ zs, 0 ≤ z ∧ z ≤ 255
  cells : zs = [] ∨ ∃ b off, a = some ⟨b, off, none⟩ ∧ ∀ j, j < zs.length → w.cell? ⟨b, off + j, none⟩ = some (.int .u8 (zs.getD j 0))

theorem drop_at (zs : List Int) (k : Nat) (h : k < zs.length) : zs.drop k = zs[k]?.getD 0 :: zs.drop (k + 1) := by
  rw [List.drop_eq_getElem_cons h]; simp [h]
theorem at_byte {zs : List Int} (h : ∀ z ∈ zs, 0 ≤ z ∧ z ≤ 255) (k : Nat) : 0 ≤ zs[k]?.getD 0 ∧ zs[k]?.getD 0 ≤ 255 := by
  by_cases hk : k < zs.length
  · have := h zs[k] (List.getElem_mem hk); simpa [hk] using this
  · have : zs[k]? = none := by simp; omega
    simp [this]
theorem info5 : (Try.prog.info? 5).map (fun i => (i.zero, i.size, i.bytes)) = some (some (.int .u8 0), 1, 1) := by kernel_rfl
theorem info5s : (Try.prog.info? 5).map (·.size) = some 1 := by kernel_rfl

/-- The cells of a list of bytes. -/
def bs (zs : List Int) : List Value := zs.map (Value.int .u8)
theorem bs_len (zs : List Int) : (bs zs).length = zs.length := by simp [bs]
theorem bs_app (xs ys : List Int) : bs (xs ++ ys) = bs xs ++ bs ys := by simp [bs]
theorem bs_one (zs : List Int) : ∀ u ∈ bs zs, u.oneCell' = true := ints_oneCell _ _
theorem bs_at (zs : List Int) (j : Nat) (v : Value) (h : (bs zs)[j]? = some v) : j < zs.length ∧ v = .int .u8 (zs.getD j 0) := by
  unfold bs at h
  rw [List.getElem?_map] at h
  by_cases hj : j < zs.length
  · simp [hj] at h
    exact ⟨hj, by simp [hj, h]⟩
  · have : zs[j]? = none := by simp; omega
    simp [this] at h

theorem lt_of_cell {w : World} {x : Addr} {v : Value} (h : w.cell? x = some v) : x.block < w.heap.size := by
  apply Classical.byContradiction
  intro hn
  have : w.heap[x.block]? = none := by simp; omega
  simp [World.cell?, this] at h
/-- What the copy into the new row leaves. -/
theorem copy_row (w : World) (a : Option Addr) (cap : Nat) (zs : List Int) (Z : Array Value) (len n : Nat) (hrow : Row w a zs) (hzl : zs.length = len) (hZ : Z.size = len + n) (hm : len + n ≤ maxLen) :
    ∃ w1, (Builtin.copy_ #[31, 31] 3 #[.slice (some ⟨w.heap.size, 0, none⟩) len (len + n), .slice a len cap]).run Try.prog (w.alloc (.cells Z 5)) = .ok (.int .i64 len) w1 ∧
      w1.ownsRow w.heap.size 5 1 (.slice (some ⟨w.heap.size, 0, none⟩) len (len + n)) len (bs zs) ∧ Below w.heap.size w w1 ∧ w.heap.size < w1.heap.size := by
  have hg : (w.alloc (.cells Z 5)).heap[w.heap.size]? = some (.cells Z 5 (0, 0)) := by
    show (w.heap.push _)[w.heap.size]? = _
    simp
  have hb : Below w.heap.size w (w.alloc (.cells Z 5)) := (Below.refl _ _).alloc (Nat.le_refl _) _
  rcases hrow.2 with rfl | ⟨b, off, rfl, hc⟩
  · simp at hzl
    subst hzl
    refine ⟨_, run_copy_none (P := Try.prog) _ 31 31 3 5 _ _ _ _ _ _ Try.underlying31 info5s rfl, ?_, hb, by simp⟩
    exact ⟨by simp [bs], .inr ⟨_, _, Z, rfl, Nat.le_refl _, hg, by omega, hm, by omega, by simp [bs]⟩⟩
  · have hsrc : ∀ j v, (bs zs)[j]? = some v → (w.alloc (.cells Z 5)).cell? ((⟨b, off, none⟩ : Addr).add j) = some v := by
      intro j v hj
      obtain ⟨hj1, rfl⟩ := bs_at zs j v hj
      have := hc j hj1
      have ea : (⟨b, off, none⟩ : Addr).add j = ⟨b, off + j, none⟩ := by simp [Addr.add]
      rw [ea, World.cell?_alloc_lt _ _ _ (lt_of_cell this)]
      exact this
    have hr := run_copy_row (P := Try.prog) (w.alloc (.cells Z 5)) 31 31 3 5 w.heap.size 0 len (len + n) ⟨b, off, none⟩ len cap Z 5 (bs zs) Try.underlying31 info5s hg
      (by rw [bs_len, hzl]; exact (Nat.min_self len).symm) hsrc (by rw [bs_len]; omega) (bs_one zs)
    rw [bs_len, hzl] at hr
    refine ⟨_, hr, ?_, below_setRow hb (Nat.le_refl _) _, by simp [World.setRow]⟩
    refine ⟨by rw [bs_len]; omega, .inr ⟨_, _, _, rfl, Nat.le_refl _, setRow_heap _ _ _ _ _ _ hg, by omega, hm, ?_, ?_⟩⟩
    · simp [bs_len]; omega
    · simp [bs_len, hzl]

theorem add_plain (b off j : Nat) : (⟨b, off, none⟩ : Addr).add j = ⟨b, off + j, none⟩ := by unfold Addr.add; split <;> simp_all
theorem row_of_own {w : World} {base g n cap : Nat} {zs : List Int} (h : w.ownsRow base 5 1 (.slice (some ⟨g, 0, none⟩) n cap) n (bs zs)) (hb : ∀ z ∈ zs, 0 ≤ z ∧ z ≤ 255) : Row w (some ⟨g, 0, none⟩) zs := by
  refine ⟨hb, .inr ⟨g, 0, rfl, fun j hj => ?_⟩⟩
  have := h.cells (g := g) rfl j (.int .u8 (zs.getD j 0)) (by simp [bs, hj])
  rw [add_plain] at this
  exact this
theorem Row.below {w w' : World} {a : Option Addr} {zs : List Int} (h : Row w a zs) {B : Nat} (hb : Below B w w') (hB : w.heap.size ≤ B) : Row w' a zs := by
  refine ⟨h.1, ?_⟩
  rcases h.2 with rfl | ⟨b, off, rfl, hc⟩
  · exact .inl rfl
  · exact .inr ⟨b, off, rfl, fun j hj => by rw [hb.cell (Nat.lt_of_lt_of_le (lt_of_cell (hc j hj)) hB)]; exact hc j hj⟩
theorem Row.nil (w : World) (a : Option Addr) : Row w a [] := ⟨by simp, .inl rfl⟩
theorem str_of_row {w : World} {a : Option Addr} {zs : List Int} (h : Row w a zs) (cap : Nat) :
    (convert 31 9 (.slice a zs.length cap)).run Try.prog w = .ok (.string (strOfNums zs)) w := by
  rcases h.2 with rfl | ⟨b, off, rfl, hc⟩
  · cases a with
    | none => exact run_convert_bytes_nil w 31 5 Try.underlying31 Try.underlying5 0 cap 9 Try.underlying9
    | some ad =>
      have hl : (loadCells ad 0).run Try.prog w = .ok (([] : List Int).map (Value.int .u8)).toArray w := by simpa using run_loadCells_list (P := Try.prog) w ad [] (by simp)
      show (convert 31 9 (.slice (some ad) 0 cap)).run Try.prog w = _
      rw [run_convert_bytes_string w 31 9 5 _ 0 cap Try.underlying31 Try.underlying5 Try.underlying9, run_bytesToString w ad 0 cap [] hl]
      rfl
  · exact run_convert_bytes_arg w 31 5 Try.underlying31 Try.underlying5 b off zs.length cap zs rfl (fun i hi => hc i hi) 9 Try.underlying9

theorem row_of {w : World} {a : Option Addr} {len cap : Nat} {z : List Int}
    (h : (a = none ∧ len = 0 ∧ cap = 0 ∧ z = []) ∨ ∃ x, a = some x ∧ len ≤ cap ∧ cap ≤ maxLen ∧ z.length = cap ∧ (∀ i, i < z.length → w.cell? (x.add i) = some (.int .u8 (z.getD i 0))) ∧ ∀ n ∈ z, (Lit.int .u8 n).wf = true) :
    ∃ zs : List Int, zs.length = len ∧ Row w a zs := by
  rcases h with ⟨rfl, rfl, rfl, rfl⟩ | ⟨x, rfl, hl, hm, hz, hc, hw⟩
  · exact ⟨[], rfl, Row.nil _ _⟩
  · by_cases h0 : len = 0
    · exact ⟨[], h0.symm, Row.nil _ _⟩
    · obtain ⟨b, off, spot⟩ := x
      have hc0 := hc 0 (by omega)
      have hspot : spot = none := by simpa [Addr.add] using World.cell?_spot hc0
      subst hspot
      refine ⟨z.take len, by simp; omega, fun n hn => bounds_u8 (hw n (List.mem_of_mem_take hn)), .inr ⟨b, off, rfl, fun j hj => ?_⟩⟩
      simp at hj
      have := hc j (by omega)
      rw [add_plain] at this
      rw [this]
      have e : (z.take len).getD j 0 = z.getD j 0 := by
        have hjl : j < len := by omega
        simp [List.getD, hjl]
      rw [e]
theorem own_shape {w : World} {base n : Nat} {v : Value} {zs : List Int} (h : w.ownsRow base 5 1 v n (bs zs)) (hb : ∀ z ∈ zs, 0 ≤ z ∧ z ≤ 255) : ∃ a cap, v = .slice a n cap ∧ Row w a zs ∧ zs.length = n := by
  have hl : zs.length = n := by have := h.1; rw [bs_len] at this; omega
  rcases h.2 with ⟨rfl, h0⟩ | ⟨g, cap, cur, rfl, _, _, _, _, _, _⟩
  · refine ⟨none, 0, by rw [h0], ?_, hl⟩
    have : zs = [] := List.eq_nil_of_length_eq_zero (by omega)
    subst this; exact Row.nil _ _
  · exact ⟨_, cap, rfl, row_of_own h hb, hl⟩

theorem run_append_row (w : World) (base : Nat) (v : Value) (n : Nat) (xs zs : List Int) (hown : w.ownsRow base 5 1 v n (bs xs)) (ao : Option Addr) (m c : Nat) (hrow : Row w ao zs) (hm : zs.length = m) (hnil : ao = none → m = 0 ∧ c = 0)
    (hxs : ∀ z ∈ xs, 0 ≤ z ∧ z ≤ 255) (hbytes : n + m ≤ 140737488355328) (hbase : base ≤ w.heap.size) (ty : TypeId) :
    ∃ a' cap' w', (Builtin.append_ #[31, 31] ty #[v, .slice ao m c]).run Try.prog w = .ok (.slice a' (n + m) cap') w' ∧ w'.ownsRow base 5 1 (.slice a' (n + m) cap') (n + m) (bs (xs ++ zs)) ∧ w.grownBy w' v.ownBlock := by
  obtain ⟨i0, hi, hz0, hz1, hz2⟩ := info_parts info5
  cases ao with
  | none =>
    obtain ⟨rfl, rfl⟩ := hnil rfl
    obtain rfl : zs = [] := List.eq_nil_of_length_eq_zero hm
    have hrun := run_append_owned_none (P := Try.prog) (w := w) base 31 ty 5 i0 1 Try.underlying31 hi v n (bs xs) hown
    obtain ⟨a', cap', rfl, _, _⟩ := own_shape hown hxs
    exact ⟨a', cap', w, hrun, by simpa using hown, World.grownBy.refl _ _⟩
  | some ad =>
    have hnews : ∀ j u, (bs zs)[j]? = some u → w.cell? (ad.add j) = some u := by
      intro j u hj
      obtain ⟨hj1, rfl⟩ := bs_at zs j u hj
      rcases hrow.2 with rfl | ⟨b, off, he, hc⟩
      · simp at hj1
      · simp at he; subst he
        rw [add_plain]; exact hc j hj1
    obtain ⟨v', w', hrun, h1, h2, _⟩ := run_append_own (P := Try.prog) w base 31 ty 5 i0 (.int .u8 0) 1 1 Try.underlying31 hi hz0 hz1 hz2 rfl (by decide) v n (bs xs) hown ad m c (bs zs) (by rw [bs_len]; omega) hnews (bs_one zs) (by unfold maxLen; omega) (by omega) hbase
    rw [← bs_app] at h1
    have hall : ∀ z ∈ xs ++ zs, 0 ≤ z ∧ z ≤ 255 := by
      intro z hz
      rcases List.mem_append.1 hz with h | h
      · exact hxs z h
      · exact hrow.1 z h
    obtain ⟨a', cap', rfl, _, _⟩ := own_shape h1 hall
    exact ⟨a', cap', w', hrun, h1, h2⟩

theorem wpList_append_row {w : World} {ops : Array Oper} {rest : List Oper} {o : Oper} {a : Act} {Q : Exit → Act → World → Prop} (hgd : o.guard = none) (s x : Operand)
    (ho : o.op = .call { callee := .builtin .append, args := #[s, x], argTypes := #[31, 31] })
    (base : Nat) (v : Value) (n : Nat) (xs zs : List Int) (hs : a.eval s = v) (hown : w.ownsRow base 5 1 v n (bs xs)) (ao : Option Addr) (m c : Nat) (hx : a.eval x = .slice ao m c) (hrow : Row w ao zs) (hm : zs.length = m) (hnil : ao = none → m = 0 ∧ c = 0)
    (hxs : ∀ z ∈ xs, 0 ≤ z ∧ z ≤ 255) (hbytes : n + m ≤ 140737488355328) (hbase : base ≤ w.heap.size)
    (h : ∀ a' cap' w', w'.ownsRow base 5 1 (.slice a' (n + m) cap') (n + m) (bs (xs ++ zs)) → w.grownBy w' v.ownBlock → wpList Try.prog ops Q rest (a.put o.dst (.slice a' (n + m) cap')) w') : wpList Try.prog ops Q (o :: rest) a w := by
  refine wpList_plain hgd fun K hK => ?_
  obtain ⟨a', cap', w', hrun, h1, h2⟩ := run_append_row w base v n xs zs hown ao m c hrow hm hnil hxs hbytes hbase o.type
  unfold Oper.wp
  simp [execOp, ho, resolve, invoke, builtin, hs, hx, hrun, Result.andThen]
  exact hK _ _ (h a' cap' w' h1 h2)

/-- The same as one step of a region that draws its order. -/
theorem step_append_row {w : World} {ops : Array Oper} {o : Oper} {a : Act} {K : Act → World → Prop} {Q : Exit → Act → World → Prop} {E : Prop} (hgd : o.guard = none) (s x : Operand)
    (ho : o.op = .call { callee := .builtin .append, args := #[s, x], argTypes := #[31, 31] })
    (base : Nat) (v : Value) (n : Nat) (xs zs : List Int) (hs : a.eval s = v) (hown : w.ownsRow base 5 1 v n (bs xs)) (ao : Option Addr) (m c : Nat) (hx : a.eval x = .slice ao m c) (hrow : Row w ao zs) (hm : zs.length = m) (hnil : ao = none → m = 0 ∧ c = 0)
    (hxs : ∀ z ∈ xs, 0 ≤ z ∧ z ≤ 255) (hbytes : n + m ≤ 140737488355328) (hbase : base ≤ w.heap.size)
    (h : ∀ a' cap' w', w'.ownsRow base 5 1 (.slice a' (n + m) cap') (n + m) (bs (xs ++ zs)) → w.grownBy w' v.ownBlock → K (a.put o.dst (.slice a' (n + m) cap')) w') :
    if Region.wanted o (yielded ops a.tmps) = true then Oper.wp Try.prog o a w K Q else E := by
  have hw : Region.wanted o (yielded ops a.tmps) = true := by simp [Region.wanted, hgd]
  rw [if_pos hw]
  obtain ⟨a', cap', w', hrun, h1, h2⟩ := run_append_row w base v n xs zs hown ao m c hrow hm hnil hxs hbytes hbase o.type
  unfold Oper.wp
  simp [execOp, ho, resolve, invoke, builtin, hs, hx, hrun, Result.andThen]
  exact h a' cap' w' h1 h2

/-- The same behind an empty list. -/
theorem step_append_first {w : World} {ops : Array Oper} {o : Oper} {a : Act} {K : Act → World → Prop} {Q : Exit → Act → World → Prop} {E : Prop} (hgd : o.guard = none) (s x : Operand)
    (ho : o.op = .call { callee := .builtin .append, args := #[s, x], argTypes := #[31, 31] })
    (base : Nat) (v : Value) (zs : List Int) (hs : a.eval s = v) (hown : w.ownsRow base 5 1 v 0 []) (ao : Option Addr) (m c : Nat) (hx : a.eval x = .slice ao m c) (hrow : Row w ao zs) (hm : zs.length = m) (hnil : ao = none → m = 0 ∧ c = 0)
    (hbytes : m ≤ 140737488355328) (hbase : base ≤ w.heap.size) (w0 : World) (hb : Below base w0 w)
    (h : ∀ a' cap' w', w'.ownsRow base 5 1 (.slice a' m cap') m (bs zs) → Below base w0 w' → K (a.put o.dst (.slice a' m cap')) w') :
    if Region.wanted o (yielded ops a.tmps) = true then Oper.wp Try.prog o a w K Q else E := by
  refine step_append_row hgd s x ho base v 0 [] zs hs hown ao m c hx hrow hm hnil (by simp) (by omega) hbase ?_
  intro a' cap' w' h1 h2
  rw [Nat.zero_add, List.nil_append] at h1
  rw [Nat.zero_add]
  exact h a' cap' w' h1 (hb.grown h2 hbase (fun k hk => (hown.lt k hk).1))

theorem own_row {w : World} {base n cap : Nat} {a : Option Addr} {zs : List Int} (h : w.ownsRow base 5 1 (.slice a n cap) n (bs zs)) (hb : ∀ z ∈ zs, 0 ≤ z ∧ z ≤ 255) : Row w a zs := by
  obtain ⟨a', cap', he, hr, _⟩ := own_shape h hb
  cases he
  exact hr

/-- 'append([]byte, src...)' of an empty list that was just made. -/
theorem wpList_append_new {w : World} {ops : Array Oper} {rest : List Oper} {o : Oper} {a : Act} {Q : Exit → Act → World → Prop} (hgd : o.guard = none) (s x : Operand)
    (ho : o.op = .call { callee := .builtin .append, args := #[s, x], argTypes := #[31, 31] })
    (hs : a.eval s = .slice (some ⟨w.heap.size, 0, none⟩) 0 0) (zs : List Int) (ao : Option Addr) (m c : Nat) (hx : a.eval x = .slice ao m c) (hrow : Row w ao zs) (hm : zs.length = m) (hnil : ao = none → m = 0 ∧ c = 0)
    (hbytes : m ≤ 140737488355328)
    (h : ∀ a' cap' w', w'.ownsRow w.heap.size 5 1 (.slice a' m cap') m (bs zs) → Below w.heap.size w w' → wpList Try.prog ops Q rest (a.put o.dst (.slice a' m cap')) w') : wpList Try.prog ops Q (o :: rest) a (w.alloc (.cells #[] 5)) := by
  refine wpList_append_row hgd s x ho w.heap.size _ 0 [] zs hs (World.ownsRow_made w #[] 0 (Nat.le_refl _) (by decide) rfl) ao m c hx (hrow.below ((Below.refl _ _).alloc (Nat.le_refl _) _) (Nat.le_refl _)) hm hnil (by simp) (by omega) (by simp) ?_
  intro a' cap' w' h1 h2
  rw [Nat.zero_add, List.nil_append] at h1
  rw [Nat.zero_add]
  exact h a' cap' w' h1 (((Below.refl _ _).alloc (Nat.le_refl _) _).grown h2 (by simp) (fun k hk => by simp [Value.ownBlock] at hk; omega))
/-- One more list behind one of the call's own. -/
theorem wpList_append_on {w : World} {ops : Array Oper} {rest : List Oper} {o : Oper} {a : Act} {Q : Exit → Act → World → Prop} (hgd : o.guard = none) (s x : Operand)
    (ho : o.op = .call { callee := .builtin .append, args := #[s, x], argTypes := #[31, 31] })
    (B : Nat) (w0 : World) (hb : Below B w0 w) (hB : B ≤ w.heap.size)
    (v : Value) (n : Nat) (xs zs : List Int) (hs : a.eval s = v) (hown : w.ownsRow B 5 1 v n (bs xs)) (ao : Option Addr) (m c : Nat) (hx : a.eval x = .slice ao m c) (hrow : Row w ao zs) (hm : zs.length = m) (hnil : ao = none → m = 0 ∧ c = 0)
    (hxs : ∀ z ∈ xs, 0 ≤ z ∧ z ≤ 255) (hbytes : n + m ≤ 140737488355328)
    (h : ∀ a' cap' w', w'.ownsRow B 5 1 (.slice a' (n + m) cap') (n + m) (bs (xs ++ zs)) → Below B w0 w' → wpList Try.prog ops Q rest (a.put o.dst (.slice a' (n + m) cap')) w') : wpList Try.prog ops Q (o :: rest) a w := by
  refine wpList_append_row hgd s x ho B v n xs zs hs hown ao m c hx hrow hm hnil hxs hbytes hB ?_
  intro a' cap' w' h1 h2
  exact h a' cap' w' h1 (hb.grown h2 hB (fun k hk => (hown.lt k hk).1))
end Go.Proofs.Ytjnnnhgehihgmaa

namespace Go.Proofs.Ytjnnnhgehihgmaa
open Go.RowKit Go.ChangeShapes Go.WideShapes Go.ChangeAt Go.Deep
set_option linter.unusedVariables false

/-- A list of lists of bytes that lies somewhere: each one's bytes, and where they are. -/
structure RowsOf (w : World) (a : Option Addr) (cap : Nat) (ls : List (List Int)) : Prop where
  nil : a = none → ls = [] ∧ cap = 0
  le : ls.length ≤ cap
  cells : ls = [] ∨ ∃ b off, a = some ⟨b, off, none⟩ ∧ ∀ r, r < ls.length → ∃ (x : Option Addr) (c : Nat), w.cell? ⟨b, off + r, none⟩ = some (.slice x (ls.getD r []).length c) ∧ Row w x (ls.getD r []) ∧ (x = none → c = 0) ∧ (ls.getD r []).length ≤ c
theorem RowsOf.below {w w' : World} {a : Option Addr} {cap : Nat} {ls : List (List Int)} (h : RowsOf w a cap ls) {B : Nat} (hb : Below B w w') (hB : w.heap.size ≤ B) : RowsOf w' a cap ls := by
  refine ⟨h.nil, h.le, ?_⟩
  rcases h.cells with h0 | ⟨b, off, rfl, hc⟩
  · exact .inl h0
  · refine .inr ⟨b, off, rfl, fun r hr => ?_⟩
    obtain ⟨x, c, h1, h2, h3, h4⟩ := hc r hr
    exact ⟨x, c, by rw [hb.cell (Nat.lt_of_lt_of_le (lt_of_cell h1) hB)]; exact h1, h2.below hb hB, h3, h4⟩
theorem RowsOf.take {w : World} {a : Option Addr} {cap : Nat} {ls : List (List Int)} (h : RowsOf w a cap ls) (m : Nat) : RowsOf w a cap (ls.take m) := by
  refine ⟨fun ha => ⟨by rw [(h.nil ha).1]; simp, (h.nil ha).2⟩, Nat.le_trans (List.length_take_le' _ _) h.le, ?_⟩
  rcases h.cells with h0 | ⟨b, off, rfl, hc⟩
  · left; rw [h0]; simp
  · refine .inr ⟨b, off, rfl, fun r hr => ?_⟩
    simp at hr
    have e : (ls.take m).getD r [] = ls.getD r [] := by
      have hrm : r < m := by omega
      simp [List.getD, hrm]
    rw [e]
    exact hc r (by omega)
/-- The list at place r. -/
theorem RowsOf.at {w : World} {a : Option Addr} {cap : Nat} {ls : List (List Int)} (h : RowsOf w a cap ls) {r : Nat} (hr : r < ls.length) :
    ∃ b off x c, a = some ⟨b, off, none⟩ ∧ w.cell? ⟨b, off + r, none⟩ = some (.slice x (ls.getD r []).length c) ∧ Row w x (ls.getD r []) ∧ (x = none → (ls.getD r []).length = 0 ∧ c = 0) := by
  rcases h.cells with h0 | ⟨b, off, rfl, hc⟩
  · rw [h0] at hr; simp at hr
  · obtain ⟨x, c, h1, h2, h3, h4⟩ := hc r hr
    exact ⟨b, off, x, c, rfl, h1, h2, fun hx => ⟨by have := h3 hx; omega, h3 hx⟩⟩

theorem strs_inj {xs ys : List Int} (hx : ∀ z ∈ xs, 0 ≤ z ∧ z ≤ 255) (hy : ∀ z ∈ ys, 0 ≤ z ∧ z ≤ 255) (h : (strOfNums xs).toList = (strOfNums ys).toList) : xs = ys := by
  have e : ∀ zs : List Int, (strOfNums zs).toList = zs.map fun n => UInt8.ofNat n.toNat := fun zs => by rw [ByteArray.toList_eq]; exact strOfNums_data zs
  rw [e, e] at h
  have back : ∀ zs : List Int, (∀ z ∈ zs, 0 ≤ z ∧ z ≤ 255) → (zs.map fun n => UInt8.ofNat n.toNat).map (fun b => (b.toNat : Int)) = zs := by
    intro zs hz
    rw [List.map_map]
    conv => rhs; rw [← List.map_id zs]
    apply List.map_congr_left
    intro z hm
    have := hz z hm
    have hn : z.toNat < 256 := by omega
    simp [Nat.mod_eq_of_lt hn]
    omega
  have := congrArg (List.map fun b : UInt8 => (b.toNat : Int)) h
  rwa [back xs hx, back ys hy] at this
theorem str_eq {xs ys : List Int} (hx : ∀ z ∈ xs, 0 ≤ z ∧ z ≤ 255) (hy : ∀ z ∈ ys, 0 ≤ z ∧ z ≤ 255) : ((strOfNums xs).toList == (strOfNums ys).toList) = decide (xs = ys) := by
  by_cases h : xs = ys
  · subst h; simp
  · have : ¬ (strOfNums xs).toList = (strOfNums ys).toList := fun e => h (strs_inj hx hy e)
    simp [h, this]
theorem str_ne {xs ys : List Int} (hx : ∀ z ∈ xs, 0 ≤ z ∧ z ≤ 255) (hy : ∀ z ∈ ys, 0 ≤ z ∧ z ≤ 255) : ((strOfNums xs).toList != (strOfNums ys).toList) = !decide (xs = ys) := by
  rw [bne, str_eq hx hy]
theorem str_at {w : World} {a : Option Addr} {zs : List Int} {n : Nat} (hn : zs.length = n) (h : Row w a zs) (cap : Nat) :
    (convert 31 9 (.slice a n cap)).run Try.prog w = .ok (.string (strOfNums zs)) w := by subst hn; exact str_of_row h cap
theorem same_heap {w w' : World} (h : w'.heap = w.heap) (a : Addr) : w'.cell? a = w.cell? a := by unfold World.cell?; rw [h]
theorem Row.same {w w' : World} {a : Option Addr} {zs : List Int} (h : Row w a zs) (he : w'.heap = w.heap) : Row w' a zs := by
  refine ⟨h.1, h.2.imp id ?_⟩
  rintro ⟨b, off, h1, h2⟩
  exact ⟨b, off, h1, fun j hj => by rw [same_heap he]; exact h2 j hj⟩
theorem RowsOf.same {w w' : World} {a : Option Addr} {cap : Nat} {ls : List (List Int)} (h : RowsOf w a cap ls) (he : w'.heap = w.heap) : RowsOf w' a cap ls := by
  refine ⟨h.nil, h.le, h.cells.imp id ?_⟩
  rintro ⟨b, off, h1, h2⟩
  refine ⟨b, off, h1, fun r hr => ?_⟩
  obtain ⟨x, c, h3, h4, h5, h6⟩ := h2 r hr
  exact ⟨x, c, by rw [same_heap he]; exact h3, h4.same he, h5, h6⟩
section
variable {H : Type} {enc : TypeId × Value → H} {w : World} {base : Nat} {held : Bool}
theorem rows_open {t e : TypeId} {fuel : Nat} {a : Option Addr} {len cap : Nat} {x : DataW H × List MemPlace} (ht : Try.prog.underlying t = some (.slice e)) (he : Try.prog.underlying e = some (.slice 5)) (ce : Try.prog.cellsOf e = 1) (c5 : Try.prog.cellsOf 5 = 1)
    (h : DataW.trod enc Try.prog w base (fun _ => true) held fuel t [.slice a len cap] = some x) : ∃ ls : List (List Int), ls.length = len ∧ RowsOf w a cap ls := by
  rcases open_int_rows ht he Try.underlying5 ce c5 h with ⟨hcs, _⟩ | ⟨x, l, c, A, L, C, Z, hcs, _, hl, hm, _, hr⟩
  · simp at hcs
    obtain ⟨rfl, rfl, rfl⟩ := hcs
    exact ⟨[], rfl, ⟨fun _ => ⟨rfl, rfl⟩, Nat.le_refl _, .inl rfl⟩⟩
  · simp at hcs
    obtain ⟨rfl, rfl, rfl⟩ := hcs
    by_cases h0 : len = 0
    · subst h0
      exact ⟨[], rfl, ⟨fun h => by simp at h, Nat.zero_le _, .inl rfl⟩⟩
    · obtain ⟨b, off, spot⟩ := x
      have hspot : spot = none := by simpa [Addr.add] using World.cell?_spot (hr 0 (by omega)).1
      subst hspot
      refine ⟨(List.range len).map fun r => (Z r).take (L r), by simp, ⟨fun h => by simp at h, by simpa using hl, .inr ⟨b, off, rfl, fun r hr' => ?_⟩⟩⟩
      simp at hr'
      obtain ⟨h1, h2, h3, h4, h5, h6, h7⟩ := hr r (by omega)
      have e : ((List.range len).map fun r => (Z r).take (L r)).getD r [] = (Z r).take (L r) := by simp [List.getD, hr']
      have el : ((Z r).take (L r)).length = L r := by simp; omega
      rw [e, el]
      rw [add_plain] at h1
      refine ⟨A r, C r, h1, ?_, h6, h2⟩
      cases hA : A r with
      | none =>
        have hC := h6 hA
        have : (Z r).take (L r) = [] := List.eq_nil_of_length_eq_zero (by rw [el]; omega)
        rw [this]; exact Row.nil _ _
      | some ad =>
        obtain ⟨zs, hz, hrow⟩ := row_of (w := w) (a := some ad) (len := L r) (cap := C r) (z := Z r) (.inr ⟨ad, rfl, h2, h3, h4, fun i hi => (h7 ad hA).2 i (by omega), h5⟩)
        by_cases hL : L r = 0
        · have : (Z r).take (L r) = [] := List.eq_nil_of_length_eq_zero (by rw [el]; exact hL)
          rw [this]; exact Row.nil _ _
        · refine ⟨fun n hn => bounds_u8 (h5 n (List.mem_of_mem_take hn)), .inr ?_⟩
          rcases hrow.cells with h0' | ⟨b', off', h', hc'⟩
          · rw [h0'] at hz; simp at hz; omega
          · cases h'
            refine ⟨b', off', rfl, fun j hj => ?_⟩
            rw [el] at hj
            have h8 := (h7 _ hA).2 j (by omega)
            rw [add_plain] at h8
            rw [h8]
            simp [List.getD, hj]
/-- An array of integers that came in. -/
def IsArr (k : IntKind) (n : Nat) (zs : List Int) : Prop := zs.length = n ∧ ∀ z ∈ zs, (Lit.int k z).wf = true
theorem mapM_each {α β : Type} {f : α → Option β} : ∀ {l : List α} {ys : List β}, l.mapM f = some ys → ∀ i ∈ l, ∃ y, f i = some y
  | [], _, _, i, hi => by simp at hi
  | a :: l, ys, h, i, hi => by
    rw [List.mapM_cons] at h
    simp only [bind, Option.bind_eq_some_iff, pure, Option.some.injEq] at h
    obtain ⟨y, hy, zs, hzs, _⟩ := h
    rcases List.mem_cons.1 hi with rfl | hi
    · exact ⟨y, hy⟩
    · exact mapM_each hzs i hi
theorem arr_open {P : Program} {t e : TypeId} {k : IntKind} {n : Nat} {sp : Nat → Bool} {v : Value} {r : Reach} {b0 : Nat} {d : DataW H} {ps : List MemPlace} (ht : P.underlying t = some (.array n e)) (he : P.underlying e = some (.int k)) (ct : P.cellsOf t = n) (ce : P.cellsOf e = 1)
    (hval : Value.okWide P w r b0 t v) (hd : DataW.Trod enc P w base sp held t v d ps) : ∃ zs : List Int, v = .agg (zs.map (Value.int k)).toArray ∧ IsArr k n zs := by
  simp only [Value.okWide, ht] at hval
  obtain ⟨xs, rfl, hsz, _⟩ := hval
  rw [ct] at hsz
  obtain ⟨fuel, hf⟩ := hd
  cases fuel with
  | zero => simp [DataW.trod] at hf
  | succ m =>
    rw [DataW.trod_step] at hf
    unfold DataW.trodStep at hf
    simp only [ht, Value.cells] at hf
    rw [if_pos (by rw [ct]; simpa using hsz)] at hf
    simp only [Option.map_eq_some_iff] at hf
    obtain ⟨ys, hy, _⟩ := hf
    have each : ∀ i, i < n → ∃ z : Int, xs[i]? = some (.int k z) ∧ (Lit.int k z).wf = true := by
      intro i hi
      obtain ⟨y, hy'⟩ := mapM_each hy i (by simpa using hi)
      obtain ⟨z, hz, _, hwf⟩ := DataW.trod_int he hy'
      rw [ce, Nat.mul_one] at hz
      refine ⟨z, ?_, hwf⟩
      have h2 := congrArg (fun l => l[0]?) hz
      simpa using h2
    obtain ⟨f, hfz⟩ := choose_lt each
    refine ⟨(List.range n).map f, ?_, by simp, fun z hz => ?_⟩
    · congr 1
      apply Array.ext'
      apply List.ext_getElem
      · simp; omega
      · intro i h1 h2
        simp at h2
        have := (hfz i h2).1
        simp at h1
        rw [Array.getElem?_eq_getElem h1] at this
        simp at this
        simp [this]
    · simp at hz
      obtain ⟨i, hi, rfl⟩ := hz
      exact (hfz i hi).2
end
/-- Two arrays of integers, held against each other. -/
theorem eq_items {P : Program} {e : TypeId} {k : IntKind} (he : P.underlying e = some (.int k)) (ce : P.cellsOf e = 1) (d : Nat) (w : World) (A B : List Int) : ∀ m s, A.length = s + m → B.length = s + m →
    (Op.eqItems (d + 1) e (P.cellsOf e) (A.map (Value.int k)).toArray (B.map (Value.int k)).toArray (List.range' s m)).run P w = .ok (A.drop s == B.drop s) w := by
  have hpk : P.plainKey e = true := by unfold Program.plainKey; rw [he]
  intro m
  induction m with
  | zero =>
    intro s ha hb
    have e1 : A.drop s = [] := List.drop_eq_nil_of_le (by omega)
    have e2 : B.drop s = [] := List.drop_eq_nil_of_le (by omega)
    rw [e1, e2]
    simp [Op.eqItems]
  | succ m ih =>
    intro s ha hb
    have hsa : s < A.length := by omega
    have hsb : s < B.length := by omega
    have p1 := run_part_plain (P := P) w hpk (xs := (A.map (Value.int k)).toArray) (off := s * P.cellsOf e) (v := .int k A[s]) (by rw [ce, Nat.mul_one]; simp [hsa])
    have p2 := run_part_plain (P := P) w hpk (xs := (B.map (Value.int k)).toArray) (off := s * P.cellsOf e) (v := .int k B[s]) (by rw [ce, Nat.mul_one]; simp [hsb])
    have p3 := run_equalIn_int (P := P) w d e k k A[s] B[s] he
    rw [List.range'_succ]
    simp only [Op.eqItems, Sem.run_bind, p1, p2, p3, Result.andThen_ok]
    have e3 : (A.drop s == B.drop s) = (A[s] == B[s] && A.drop (s + 1) == B.drop (s + 1)) := by rw [List.drop_eq_getElem_cons hsa, List.drop_eq_getElem_cons hsb]; rfl
    rw [e3]
    by_cases h : A[s] = B[s]
    · have hb' : (A[s] == B[s]) = true := by simp [h]
      rw [hb']
      simp only [Bool.not_true, Bool.false_eq_true, if_false]
      rw [ih (s + 1) (by omega) (by omega), Bool.true_and]
    · have hb' : (A[s] == B[s]) = false := by simp [h]
      rw [hb']
      simp
theorem eq_arr {P : Program} {t e : TypeId} {k : IntKind} {n : Nat} {i : TypeInfo} (hu : P.underlying t = some (.array n e)) (he : P.underlying e = some (.int k)) (ce : P.cellsOf e = 1) (hi : P.info? e = some i) (w : World) (A B : List Int) (ha : A.length = n) (hb : B.length = n) :
    (Op.equalIn 10000 t (.agg (A.map (Value.int k)).toArray) (.agg (B.map (Value.int k)).toArray)).run P w = .ok (A == B) w := by
  rw [run_equalIn_array w 9999 _ _ hu hi, List.range_eq_range', eq_items he ce 9998 w A B n 0 (by omega) (by omega)]
  simp
end Go.Proofs.Ytjnnnhgehihgmaa

