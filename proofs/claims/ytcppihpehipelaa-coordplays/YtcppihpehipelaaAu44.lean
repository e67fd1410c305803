/-
  Lists of bytes that lie somewhere, and lists of the call's own: what later layers' walks lean on. No function of the program is named here.
  Numbers in groups of seven bits: the steps of a walk that reads one.
  What the document's own numbers are: Get, Put, Zig, Zag.
  Lists of lists of bytes, and arrays of integers, that came in: what the walk is told of them. No function of the program is named here.
  'l = append(l, x)' for a list of the call's own whose elements take so many cells each; a list of texts; a list of pairs of integers.
-/
import Derived.Test.YtcppihpehipelaaProg
import Derived.WalkKit
import Derived.WalkSpells
import Derived.WalkLawsBesides
import Derived.Laws.CopyOwn
import Derived.Laws.MakeOwn
import Derived.Laws.BytesArg
import Derived.OpenShut
import Derived.Laws.AppendOwnNone
import Derived.Test.YtcppihpehipelaaAu56
import Derived.ProofKit
import Derived.Deep.Matrix
import Derived.Below
import Derived.ChangeKeysEq
import Derived.Test.YtcppihpehipelaaAu52
import Derived.Laws.AppendOwn
namespace Go.Proofs.Ytcppihpehipelaa
open Go.RowKit
set_option linter.unusedVariables false

/-- A slice of bytes that lies somewhere: its bytes, and where they are. -/
structure Row (w : World) (a : Option Addr) (zs : List Int) : Prop where
  bytes : ∀ z ∈ zs, 0 ≤ z ∧ z ≤ 255
  cells : zs = [] ∨ ∃ b off, a = some ⟨b, off, none⟩ ∧ ∀ j, j < zs.length → w.cell? ⟨b, off + j, none⟩ = some (.int .u8 (zs.getD j 0))

/-- The cells of a list of bytes. -/
def bs (zs : List Int) : List Value := zs.map (Value.int .u8)
theorem lt_of_cell {w : World} {x : Addr} {v : Value} (h : w.cell? x = some v) : x.block < w.heap.size := by
  apply Classical.byContradiction
  intro hn
  have : w.heap[x.block]? = none := by simp; omega
  simp [World.cell?, this] at h
theorem add_plain (b off j : Nat) : (⟨b, off, none⟩ : Addr).add j = ⟨b, off + j, none⟩ := by unfold Addr.add; split <;> simp_all
theorem Row.below {w w' : World} {a : Option Addr} {zs : List Int} (h : Row w a zs) {B : Nat} (hb : Below B w w') (hB : w.heap.size ≤ B) : Row w' a zs := by
  refine ⟨h.1, ?_⟩
  rcases h.2 with rfl | ⟨b, off, rfl, hc⟩
  · exact .inl rfl
  · exact .inr ⟨b, off, rfl, fun j hj => by rw [hb.cell (Nat.lt_of_lt_of_le (lt_of_cell (hc j hj)) hB)]; exact hc j hj⟩
theorem Row.nil (w : World) (a : Option Addr) : Row w a [] := ⟨by simp, .inl rfl⟩
end Go.Proofs.Ytcppihpehipelaa

namespace Go.Proofs.Ytcppihpehipelaa
open Go.RowKit
set_option linter.unusedVariables false

end Go.Proofs.Ytcppihpehipelaa

namespace Go.Proofs.Ytcppihpehipelaa
open Go.RowKit
set_option linter.unusedVariables false

end Go.Proofs.Ytcppihpehipelaa

namespace Go.Proofs.Ytcppihpehipelaa
open Go.RowKit Go.ChangeShapes Go.WideShapes Go.ChangeAt Go.Deep
set_option linter.unusedVariables false

/-- A list of lists of bytes that lies somewhere: each one's bytes, and where they are. -/
structure RowsOf (w : World) (a : Option Addr) (cap : Nat) (ls : List (List Int)) : Prop where
  nil : a = none → ls = [] ∧ cap = 0
  le : ls.length ≤ cap
  cells : ls = [] ∨ ∃ b off, a = some ⟨b, off, none⟩ ∧ ∀ r, r < ls.length → ∃ (x : Option Addr) (c : Nat), w.cell? ⟨b, off + r, none⟩ = some (.slice x (ls.getD r []).length c) ∧ Row w x (ls.getD r []) ∧ (x = none → c = 0) ∧ (ls.getD r []).length ≤ c
theorem RowsOf.below {w w' : World} {a : Option Addr} {cap : Nat} {ls : List (List Int)} (h : RowsOf w a cap ls) {B : Nat} (hb : Below B w w') (hB : w.heap.size ≤ B) : RowsOf w' a cap ls := by
  refine ⟨h.nil, h.le, ?_⟩
  rcases h.cells with h0 | ⟨b, off, rfl, hc⟩
  · exact .inl h0
  · refine .inr ⟨b, off, rfl, fun r hr => ?_⟩
    obtain ⟨x, c, h1, h2, h3, h4⟩ := hc r hr
    exact ⟨x, c, by rw [hb.cell (Nat.lt_of_lt_of_le (lt_of_cell h1) hB)]; exact h1, h2.below hb hB, h3, h4⟩
theorem RowsOf.take {w : World} {a : Option Addr} {cap : Nat} {ls : List (List Int)} (h : RowsOf w a cap ls) (m : Nat) : RowsOf w a cap (ls.take m) := by
  refine ⟨fun ha => ⟨by rw [(h.nil ha).1]; simp, (h.nil ha).2⟩, Nat.le_trans (List.length_take_le' _ _) h.le, ?_⟩
  rcases h.cells with h0 | ⟨b, off, rfl, hc⟩
  · left; rw [h0]; simp
  · refine .inr ⟨b, off, rfl, fun r hr => ?_⟩
    simp at hr
    have e : (ls.take m).getD r [] = ls.getD r [] := by
      have hrm : r < m := by omega
      simp [List.getD, hrm]
    rw [e]
    exact hc r (by omega)
/-- The list at place r. -/
theorem RowsOf.at {w : World} {a : Option Addr} {cap : Nat} {ls : List (List Int)} (h : RowsOf w a cap ls) {r : Nat} (hr : r < ls.length) :
    ∃ b off x c, a = some ⟨b, off, none⟩ ∧ w.cell? ⟨b, off + r, none⟩ = some (.slice x (ls.getD r []).length c) ∧ Row w x (ls.getD r []) ∧ (x = none → (ls.getD r []).length = 0 ∧ c = 0) := by
  rcases h.cells with h0 | ⟨b, off, rfl, hc⟩
  · rw [h0] at hr; simp at hr
  · obtain ⟨x, c, h1, h2, h3, h4⟩ := hc r hr
    exact ⟨b, off, x, c, rfl, h1, h2, fun hx => ⟨by have := h3 hx; omega, h3 hx⟩⟩

theorem strs_inj {xs ys : List Int} (hx : ∀ z ∈ xs, 0 ≤ z ∧ z ≤ 255) (hy : ∀ z ∈ ys, 0 ≤ z ∧ z ≤ 255) (h : (strOfNums xs).toList = (strOfNums ys).toList) : xs = ys := by
  have e : ∀ zs : List Int, (strOfNums zs).toList = zs.map fun n => UInt8.ofNat n.toNat := fun zs => by rw [ByteArray.toList_eq]; exact strOfNums_data zs
  rw [e, e] at h
  have back : ∀ zs : List Int, (∀ z ∈ zs, 0 ≤ z ∧ z ≤ 255) → (zs.map fun n => UInt8.ofNat n.toNat).map (fun b => (b.toNat : Int)) = zs := by
    intro zs hz
    rw [List.map_map]
    conv => rhs; rw [← List.map_id zs]
    apply List.map_congr_left
    intro z hm
    have := hz z hm
    have hn : z.toNat < 256 := by omega
    simp [Nat.mod_eq_of_lt hn]
    omega
  have := congrArg (List.map fun b : UInt8 => (b.toNat : Int)) h
  rwa [back xs hx, back ys hy] at this
theorem str_eq {xs ys : List Int} (hx : ∀ z ∈ xs, 0 ≤ z ∧ z ≤ 255) (hy : ∀ z ∈ ys, 0 ≤ z ∧ z ≤ 255) : ((strOfNums xs).toList == (strOfNums ys).toList) = decide (xs = ys) := by
  by_cases h : xs = ys
  · subst h; simp
  · have : ¬ (strOfNums xs).toList = (strOfNums ys).toList := fun e => h (strs_inj hx hy e)
    simp [h, this]
theorem same_heap {w w' : World} (h : w'.heap = w.heap) (a : Addr) : w'.cell? a = w.cell? a := by unfold World.cell?; rw [h]
theorem Row.same {w w' : World} {a : Option Addr} {zs : List Int} (h : Row w a zs) (he : w'.heap = w.heap) : Row w' a zs := by
  refine ⟨h.1, h.2.imp id ?_⟩
  rintro ⟨b, off, h1, h2⟩
  exact ⟨b, off, h1, fun j hj => by rw [same_heap he]; exact h2 j hj⟩
theorem RowsOf.same {w w' : World} {a : Option Addr} {cap : Nat} {ls : List (List Int)} (h : RowsOf w a cap ls) (he : w'.heap = w.heap) : RowsOf w' a cap ls := by
  refine ⟨h.nil, h.le, h.cells.imp id ?_⟩
  rintro ⟨b, off, h1, h2⟩
  refine ⟨b, off, h1, fun r hr => ?_⟩
  obtain ⟨x, c, h3, h4, h5, h6⟩ := h2 r hr
  exact ⟨x, c, by rw [same_heap he]; exact h3, h4.same he, h5, h6⟩
section
variable {H : Type} {enc : TypeId × Value → H} {w : World} {base : Nat} {held : Bool}
/-- An array of integers that came in. -/
def IsArr (k : IntKind) (n : Nat) (zs : List Int) : Prop := zs.length = n ∧ ∀ z ∈ zs, (Lit.int k z).wf = true
theorem mapM_each {α β : Type} {f : α → Option β} : ∀ {l : List α} {ys : List β}, l.mapM f = some ys → ∀ i ∈ l, ∃ y, f i = some y
  | [], _, _, i, hi => by simp at hi
  | a :: l, ys, h, i, hi => by
    rw [List.mapM_cons] at h
    simp only [bind, Option.bind_eq_some_iff, pure, Option.some.injEq] at h
    obtain ⟨y, hy, zs, hzs, _⟩ := h
    rcases List.mem_cons.1 hi with rfl | hi
    · exact ⟨y, hy⟩
    · exact mapM_each hzs i hi
end
/-- Two arrays of integers, held against each other. -/
theorem eq_items {P : Program} {e : TypeId} {k : IntKind} (he : P.underlying e = some (.int k)) (ce : P.cellsOf e = 1) (d : Nat) (w : World) (A B : List Int) : ∀ m s, A.length = s + m → B.length = s + m →
    (Op.eqItems (d + 1) e (P.cellsOf e) (A.map (Value.int k)).toArray (B.map (Value.int k)).toArray (List.range' s m)).run P w = .ok (A.drop s == B.drop s) w := by
  have hpk : P.plainKey e = true := by unfold Program.plainKey; rw [he]
  intro m
  induction m with
  | zero =>
    intro s ha hb
    have e1 : A.drop s = [] := List.drop_eq_nil_of_le (by omega)
    have e2 : B.drop s = [] := List.drop_eq_nil_of_le (by omega)
    rw [e1, e2]
    simp [Op.eqItems]
  | succ m ih =>
    intro s ha hb
    have hsa : s < A.length := by omega
    have hsb : s < B.length := by omega
    have p1 := run_part_plain (P := P) w hpk (xs := (A.map (Value.int k)).toArray) (off := s * P.cellsOf e) (v := .int k A[s]) (by rw [ce, Nat.mul_one]; simp [hsa])
    have p2 := run_part_plain (P := P) w hpk (xs := (B.map (Value.int k)).toArray) (off := s * P.cellsOf e) (v := .int k B[s]) (by rw [ce, Nat.mul_one]; simp [hsb])
    have p3 := run_equalIn_int (P := P) w d e k k A[s] B[s] he
    rw [List.range'_succ]
    simp only [Op.eqItems, Sem.run_bind, p1, p2, p3, Result.andThen_ok]
    have e3 : (A.drop s == B.drop s) = (A[s] == B[s] && A.drop (s + 1) == B.drop (s + 1)) := by rw [List.drop_eq_getElem_cons hsa, List.drop_eq_getElem_cons hsb]; rfl
    rw [e3]
    by_cases h : A[s] = B[s]
    · have hb' : (A[s] == B[s]) = true := by simp [h]
      rw [hb']
      simp only [Bool.not_true, Bool.false_eq_true, if_false]
      rw [ih (s + 1) (by omega) (by omega), Bool.true_and]
    · have hb' : (A[s] == B[s]) = false := by simp [h]
      rw [hb']
      simp
theorem eq_arr {P : Program} {t e : TypeId} {k : IntKind} {n : Nat} {i : TypeInfo} (hu : P.underlying t = some (.array n e)) (he : P.underlying e = some (.int k)) (ce : P.cellsOf e = 1) (hi : P.info? e = some i) (w : World) (A B : List Int) (ha : A.length = n) (hb : B.length = n) :
    (Op.equalIn 10000 t (.agg (A.map (Value.int k)).toArray) (.agg (B.map (Value.int k)).toArray)).run P w = .ok (A == B) w := by
  rw [run_equalIn_array w 9999 _ _ hu hi, List.range_eq_range', eq_items he ce 9998 w A B n 0 (by omega) (by omega)]
  simp
end Go.Proofs.Ytcppihpehipelaa

namespace Go.Proofs.Ytcppihpehipelaa
open Go.RowKit
set_option linter.unusedVariables false

theorem addr_add (b off j : Nat) : (⟨b, off, none⟩ : Addr).add j = ⟨b, off + j, none⟩ := by unfold Addr.add; split <;> simp_all
theorem info_of {e : TypeId} {z : Value} {size bytes : Nat} (h : (Try.prog.info? e).map (fun i => (i.zero, i.size, i.bytes)) = some (some z, size, bytes)) : ∃ i, Try.prog.info? e = some i ∧ i.zero = some z ∧ i.size = size ∧ i.bytes = bytes := by
  cases hi : Try.prog.info? e with
  | none => rw [hi] at h; cases h
  | some i =>
    rw [hi] at h
    simp only [Option.map_some, Option.some.injEq, Prod.mk.injEq] at h
    exact ⟨i, rfl, h.1, h.2.1, h.2.2⟩
/-- What is behind the call's own lists stays where a list of its own grows. -/
theorem own_below {w w' : World} {B e size n : Nat} {v : Value} {vs : List Value} (h : w.ownsRow B e size v n vs) {C : Nat} (hb : Below C w w') (hC : w.heap.size ≤ C) : w'.ownsRow B e size v n vs := by
  obtain ⟨hl, h0 | ⟨g, cap, cur, hv, hg, hh, r⟩⟩ := h
  · exact ⟨hl, .inl h0⟩
  · have hlt : g < w.heap.size := (Array.getElem?_eq_some_iff.1 hh).1
    exact ⟨hl, .inr ⟨g, cap, cur, hv, hg, by rw [hb.block g (by omega)]; exact hh, r⟩⟩
theorem own_cell {w : World} {B e size n cap g : Nat} {vs : List Value} (h : w.ownsRow B e size (.slice (some ⟨g, 0, none⟩) n cap) n vs) (j : Nat) (u : Value) (hj : vs[j]? = some u) : w.cell? ⟨g, j, none⟩ = some u := by
  obtain ⟨hl, h0 | ⟨g', cap', cur, hv, hg, hh, h1, h2, h3, h4⟩⟩ := h
  · cases h0.1
  · cases hv
    have : cur[j]? = some u := by
      have hlt : j < n * size := by rw [← hl]; exact (List.getElem?_eq_some_iff.1 hj).1
      have e : (cur.toList.take (n * size))[j]? = some u := by rw [h4]; exact hj
      rw [List.getElem?_take_of_lt hlt] at e
      simpa using e
    simp [World.cell?, hh, this]
end Go.Proofs.Ytcppihpehipelaa

