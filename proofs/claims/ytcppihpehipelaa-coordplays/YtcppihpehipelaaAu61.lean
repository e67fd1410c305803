/-
  The document's own reader of bytes: what each of its calls reads, and what it leaves.
  The document's own reader: Num, Byte, Bytes, End, for every reader.
  What the document's own stamps (hourglassref6: Good, Cmp, Pack, Unpack, Max, Digits, Text) answer.
  What the document reads next: a flag, a stamp, a text, a count, a key.
  What the document's own stamps (hourglassref6: Good, Cmp, Pack, Unpack, Max, Digits, Text) answer.
  What the document reads next: a stamp.
-/
import Derived.Test.YtcppihpehipelaaAu44
import Derived.Test.YtcppihpehipelaaAu56
import Derived.Test.YtcppihpehipelaaAu52
import Derived.Test.YtcppihpehipelaaFoot
import Derived.Test.YtcppihpehipelaaEls
import Derived.Deep.QuietTactic
import Derived.BigQuiet
import Derived.Deep.RegionHeld3
namespace Go.Proofs.Ytcppihpehipelaa
open Go.RowKit
set_option linter.unusedVariables false

/-! ### Pieces of a list of bytes -/
/-- Where a[k:] lies. -/
def cutA (a : Option Addr) (cap k : Nat) : Option Addr := if cap = k then a else a.map (·.add (k * 1))
theorem Row.cut {w : World} {a : Option Addr} {zs : List Int} (h : Row w a zs) (cap k : Nat) (hc : zs.length ≤ cap) : Row w (cutA a cap k) (zs.drop k) := by
  refine ⟨fun z hz => h.bytes z (List.mem_of_mem_drop hz), ?_⟩
  unfold cutA
  by_cases hk : cap = k
  · left; exact List.drop_eq_nil_of_le (by omega)
  · rw [if_neg hk]
    rcases h.cells with rfl | ⟨b, off, rfl, hx⟩
    · left; simp
    · right
      refine ⟨b, off + k, by simp [add_plain], fun j hj => ?_⟩
      simp at hj
      rw [Nat.add_assoc, hx (k + j) (by omega)]
      simp [List.getD]
theorem Row.upto {w : World} {a : Option Addr} {zs : List Int} (h : Row w a zs) (n : Nat) : Row w a (zs.take n) := by
  refine ⟨fun z hz => h.bytes z (List.mem_of_mem_take hz), ?_⟩
  rcases h.cells with rfl | ⟨b, off, rfl, hx⟩
  · left; simp
  · right
    refine ⟨b, off, rfl, fun j hj => ?_⟩
    rw [List.length_take] at hj
    rw [hx j (by omega)]
    simp [List.getD, show j < n by omega]
theorem Row.chg {w w' : World} {a : Option Addr} {zs : List Int} {X : Foot} (h : Row w a zs) (hc : Chg w w' X) (hX : zs ≠ [] → ∀ b o s, a = some ⟨b, o, s⟩ → ¬ X b) : Row w' a zs := by
  refine ⟨h.bytes, ?_⟩
  by_cases hz : zs = []
  · exact .inl hz
  rcases h.cells with rfl | ⟨b, off, rfl, hx⟩
  · exact .inl rfl
  · refine .inr ⟨b, off, rfl, fun j hj => ?_⟩
    have h1 := hx j hj
    have hb := hc.block b (lt_of_cell h1) (hX hz b off none rfl)
    rw [← h1]
    show World.cell? w' _ = World.cell? w _
    unfold World.cell?
    rw [hb]
/-! ### The reader -/
structure Rd (w : World) (g : Nat) (a : Option Addr) (cap : Nat) (zs : List Int) (k : Nat) (b : Bool) : Prop where
  c0 : w.cell? ⟨g, 0, none⟩ = some (.slice a zs.length cap)
  c1 : w.cell? ⟨g, 1, none⟩ = some (.int .i64 k)
  c2 : w.cell? ⟨g, 2, none⟩ = some (.bool b)
  free : ∀ i, w.frozen? ⟨g, i, none⟩ = false
  row : Row w a zs
  far : zs ≠ [] → ∀ b o s, a = some ⟨b, o, s⟩ → b ≠ g
  len : k ≤ zs.length
  few : zs.length ≤ cap
  most : zs.length ≤ 1099511627776
/-- What is left to read; none: it is bad. -/
def stR (zs : List Int) (k : Nat) (b : Bool) : Option (List Int) := if b then none else some (zs.drop k)
theorem Rd.made (w : World) (T : TypeId) {a : Option Addr} {cap : Nat} {zs : List Int} (h : Row w a zs) (hc : zs.length ≤ cap) (hm : zs.length ≤ 1099511627776) : Rd (w.alloc (.cells #[.slice a zs.length cap, .int .i64 0, .bool false] T)) w.heap.size a cap zs 0 false := by
  refine ⟨by rw [World.cell?_alloc_new]; rfl, by rw [World.cell?_alloc_new]; rfl, by rw [World.cell?_alloc_new]; rfl, fun i => World.frozen?_alloc_new _ _ _ _, h.below ((Below.refl _ _).alloc (Nat.le_refl _) _) (Nat.le_refl _), fun hz b o s e => ?_, Nat.zero_le _, hc, hm⟩
  rcases h.cells with e0 | ⟨b', off, e1, hx⟩
  · exact absurd e0 hz
  · rw [e] at e1
    injection e1 with e1
    injection e1 with e1 e2 e3
    subst e1
    have hl : 0 < zs.length := by cases zs with | nil => exact absurd rfl hz | cons x r => simp
    have := lt_of_cell (hx 0 hl)
    simp at this
    omega
theorem Rd.drew {w : World} {g : Nat} {a : Option Addr} {cap : Nat} {zs : List Int} {k : Nat} {b : Bool} (h : Rd w g a cap zs k b) : Rd w.drew g a cap zs k b := ⟨h.c0, h.c1, h.c2, h.free, ⟨h.row.bytes, h.row.cells⟩, h.far, h.len, h.few, h.most⟩
theorem Rd.past {w w' : World} {g : Nat} {a : Option Addr} {cap : Nat} {zs : List Int} {k : Nat} {b : Bool} (h : Rd w g a cap zs k b) (hb : Below w.heap.size w w') : Rd w' g a cap zs k b :=
  have hl := lt_of_cell h.c0
  ⟨(hb.cell (p := ⟨g, 0, none⟩) hl).trans h.c0, (hb.cell (p := ⟨g, 1, none⟩) hl).trans h.c1, (hb.cell (p := ⟨g, 2, none⟩) hl).trans h.c2, fun i => (hb.frozen (p := ⟨g, i, none⟩) hl).trans (h.free i), h.row.below hb (Nat.le_refl _), h.far, h.len, h.few, h.most⟩
theorem Rd.drewN {w : World} {g : Nat} {a : Option Addr} {cap : Nat} {zs : List Int} {k : Nat} {b : Bool} (h : Rd w g a cap zs k b) (n : Nat) : Rd (w.drewN n) g a cap zs k b := h.past (below_dN (Below.refl _ _) n)
theorem set_off (u : World) (b i j : Nat) (v : Value) (h : j ≠ i) : (u.setCell ⟨b, i, none⟩ v).cell? ⟨b, j, none⟩ = u.cell? ⟨b, j, none⟩ := World.cell?_setCell_other _ _ _ _ (by intro e; injection e with _ e2; omega)
theorem Rd.bad {w : World} {g : Nat} {a : Option Addr} {cap : Nat} {zs : List Int} {k : Nat} {b : Bool} (h : Rd w g a cap zs k b) : Rd (w.setCell ⟨g, 2, none⟩ (.bool true)) g a cap zs k true ∧ Chg w (w.setCell ⟨g, 2, none⟩ (.bool true)) (fun j => j = g) :=
  have hc : Chg w (w.setCell ⟨g, 2, none⟩ (.bool true)) (fun j => j = g) := Chg.set w ⟨g, 2, none⟩ _ rfl
  ⟨⟨(set_off _ _ _ _ _ (by omega)).trans h.c0, (set_off _ _ _ _ _ (by omega)).trans h.c1, World.cell?_setCell_same _ _ _ h.c2, fun i => by rw [World.frozen?_setCell]; exact h.free i, h.row.chg hc h.far, h.far, h.len, h.few, h.most⟩, hc⟩
theorem Rd.on {w : World} {g : Nat} {a : Option Addr} {cap : Nat} {zs : List Int} {k : Nat} {b : Bool} (h : Rd w g a cap zs k b) (k' : Nat) (hk : k' ≤ zs.length) : Rd (w.setCell ⟨g, 1, none⟩ (.int .i64 k')) g a cap zs k' b ∧ Chg w (w.setCell ⟨g, 1, none⟩ (.int .i64 k')) (fun j => j = g) :=
  have hc : Chg w (w.setCell ⟨g, 1, none⟩ (.int .i64 k')) (fun j => j = g) := Chg.set w ⟨g, 1, none⟩ _ rfl
  ⟨⟨(set_off _ _ _ _ _ (by omega)).trans h.c0, World.cell?_setCell_same _ _ _ h.c1, (set_off _ _ _ _ _ (by omega)).trans h.c2, fun i => by rw [World.frozen?_setCell]; exact h.free i, h.row.chg hc h.far, h.far, hk, h.few, h.most⟩, hc⟩
/-- What a call that reads by p leaves. -/
def Rds {α : Type} (p : Pr α) (o o' : Option (List Int)) (v : α) : Prop := match o.bind p with
  | none => o' = none
  | some x => v = x.1 ∧ o' = some x.2
theorem Rds.cases {α : Type} {p : Pr α} {zs : List Int} {o' : Option (List Int)} {v : α} (h : Rds p (some zs) o' v) : (p zs = none ∧ o' = none) ∨ ∃ r, p zs = some (v, r) ∧ o' = some r := by
  unfold Rds at h
  rw [Option.bind_some] at h
  cases e : p zs with
  | none => rw [e] at h; exact .inl ⟨rfl, h⟩
  | some x => rw [e] at h; obtain ⟨h1, h2⟩ := h; exact .inr ⟨x.2, by rw [h1], h2⟩
theorem Rds.no {α : Type} {p : Pr α} {zs : List Int} (v : α) (h : p zs = none) : Rds p (some zs) none v := by show match p zs with | none => _ | some x => _; rw [h]
theorem Rds.yes {α : Type} {p : Pr α} {zs r : List Int} {v : α} (h : p zs = some (v, r)) : Rds p (some zs) (some r) v := by show match p zs with | none => _ | some x => _; rw [h]; exact ⟨rfl, rfl⟩
theorem Rds.seq {α β : Type} {p : Pr α} {f : α → Pr β} {o o1 o2 : Option (List Int)} {a : α} {b : β} (h1 : Rds p o o1 a) (h2 : Rds (f a) o1 o2 b) : Rds (seqP p f) o o2 b := by
  cases o with
  | none => cases (show o1 = none from h1); exact h2
  | some zs =>
    cases e : p zs with
    | none =>
      have h1' : match p zs with | none => o1 = none | some x => a = x.1 ∧ o1 = some x.2 := h1
      rw [e] at h1'
      cases (show o1 = none from h1')
      cases (show o2 = none from h2)
      exact .no b (seq_none e)
    | some x =>
      obtain ⟨y, r⟩ := x
      have h1' : match p zs with | none => o1 = none | some x => a = x.1 ∧ o1 = some x.2 := h1
      rw [e] at h1'
      obtain ⟨rfl, rfl⟩ := h1'
      show match seqP p f zs with | none => _ | some x => _
      rw [seq_some e]
      exact h2
theorem Rds.ret {α : Type} (a : α) (o : Option (List Int)) : Rds (retP a) o o a := by cases o with
  | none => rfl
  | some zs => exact .yes rfl
theorem Rds.non {α : Type} (o : Option (List Int)) (v : α) : Rds (noneP (α := α)) o none v := by cases o with
  | none => rfl
  | some zs => exact .no v rfl
end Go.Proofs.Ytcppihpehipelaa

namespace Go.Proofs.Ytcppihpehipelaa
open Go.RowKit
set_option linter.unusedVariables false

end Go.Proofs.Ytcppihpehipelaa

namespace Go.Proofs.Ytcppihpehipelaa
open Go.RowKit
set_option linter.unusedVariables false

theorem rgood6_any (t n : Int) (w : World) :
    Calls Try.prog 49 #[.agg #[.int .i64 t, .int .u8 n]] w fun e w' => e = .returned (.bool (decide (okS t))) ∧ Below w.heap.size w w' := by
  have HB : Hid (Below w.heap.size w (w.alloc (.cells #[.int .i64 t, .int .u8 n] 28))) := (Below.refl _ _).alloc (Nat.le_refl _) _
  by_cases h0 : 0 ≤ t
  · have b0 : decide (0 ≤ t) = true := decide_eq_true h0
    by_cases h1 : t ≤ 36028797018963967
    · have b1 : decide (t ≤ 36028797018963967) = true := decide_eq_true h1
      rw [decide_eq_true (show okS t from ⟨h0, h1⟩)]
      go_enter Try.func49, Try.ntmps49
      go_wp2
      go_ret
      exact ⟨rfl, HB.out⟩
    · have b1 : decide (t ≤ 36028797018963967) = false := decide_eq_false h1
      rw [decide_eq_false (show ¬ okS t from fun h => h1 h.2)]
      go_enter Try.func49, Try.ntmps49
      go_wp2
      go_ret
      exact ⟨rfl, HB.out⟩
  · have b0 : decide (0 ≤ t) = false := decide_eq_false h0
    rw [decide_eq_false (show ¬ okS t from fun h => h0 h.1)]
    go_enter Try.func49, Try.ntmps49
    go_wp2
    go_ret
    exact ⟨rfl, HB.out⟩
theorem rcmp6_any (t n t' n' : Int) (w : World) :
    Calls Try.prog 34 #[.agg #[.int .i64 t, .int .u8 n], .agg #[.int .i64 t', .int .u8 n']] w fun e w' => e = .returned (.int .i64 (cmpS t n t' n')) ∧ Below w.heap.size w w' := by
  have HB : Hid (Below w.heap.size w ((w.alloc (.cells #[.int .i64 t, .int .u8 n] 28)).alloc (.cells #[.int .i64 t', .int .u8 n'] 28))) := ((Below.refl _ _).alloc (Nat.le_refl _) _).alloc (by simp) _
  by_cases h1 : t < t'
  · have b1 : decide (t < t') = true := decide_eq_true h1
    rw [cmp_lt (.inl h1)]
    go_enter Try.func34, Try.ntmps34
    go_wp2
    go_ret
    exact ⟨rfl, HB.out⟩
  · have b1 : decide (t < t') = false := decide_eq_false h1
    by_cases h2 : t = t'
    · subst h2
      by_cases h3 : n < n'
      · have b3 : decide (n < n') = true := decide_eq_true h3
        rw [cmp_lt (.inr ⟨rfl, h3⟩)]
        go_enter Try.func34, Try.ntmps34
        go_wp2
        go_ret
        exact ⟨rfl, HB.out⟩
      · have b3 : decide (n < n') = false := decide_eq_false h3
        by_cases h4 : n = n'
        · subst h4
          rw [cmp_eq]
          go_enter Try.func34, Try.ntmps34
          go_wp2
          go_ret
          exact ⟨rfl, HB.out⟩
        · have b4 : (n == n') = false := by simpa using h4
          rw [cmp_gt (.inr ⟨rfl, by omega⟩)]
          go_enter Try.func34, Try.ntmps34
          go_wp2
          go_ret
          exact ⟨rfl, HB.out⟩
    · have b2 : (t == t') = false := by simpa using h2
      rw [cmp_gt (.inl (by omega))]
      go_enter Try.func34, Try.ntmps34
      go_wp2
      go_ret
      exact ⟨rfl, HB.out⟩
end Go.Proofs.Ytcppihpehipelaa

namespace Go.Proofs.Ytcppihpehipelaa
open Go.RowKit
set_option linter.unusedVariables false

theorem Rds.bool {o o1 o2 : Option (List Int)} {c : Int} (h : Rds byteP o o1 c) (h2 : (1 < c ∧ o2 = none) ∨ (¬ 1 < c ∧ o2 = o1)) : Rds boolP o o2 (decide (c = 1)) := by
  refine h.seq ?_
  rcases h2 with ⟨hc, rfl⟩ | ⟨hc, rfl⟩
  · rw [if_pos hc]; exact .non _ _
  · rw [if_neg hc]; exact .ret _ _
theorem Rds.count {o o1 o2 : Option (List Int)} {c v n : Int} (h : Rds numP o o1 c) (h2 : (n < c ∧ o2 = none) ∨ (¬ n < c ∧ o2 = o1 ∧ v = c)) : Rds (countP n) o o2 v := by
  refine h.seq ?_
  rcases h2 with ⟨hc, rfl⟩ | ⟨hc, rfl, rfl⟩
  · rw [if_pos hc]; exact .non _ _
  · rw [if_neg hc]; exact .ret _ _
end Go.Proofs.Ytcppihpehipelaa

namespace Go.Proofs.Ytcppihpehipelaa
open Go.RowKit
set_option linter.unusedVariables false

theorem set_two {w : World} {g : Nat} {a b : Value} (h0 : w.cell? ⟨g, 0, none⟩ = some a) (h1 : w.cell? ⟨g, 1, none⟩ = some b) : (∀ x y, ((w.setCell ⟨g, 0, none⟩ x).setCell ⟨g, 1, none⟩ y).cell? ⟨g, 1, none⟩ = some y) ∧ (∀ x y, ((w.setCell ⟨g, 0, none⟩ x).setCell ⟨g, 1, none⟩ y).cell? ⟨g, 0, none⟩ = some x) :=
  ⟨fun x y => World.cell?_setCell_same _ _ _ ((World.cell?_setCell_other _ _ _ _ (by intro h'; injection h' with _ h2; omega)).trans h1), fun x y => (World.cell?_setCell_other _ _ _ _ (by intro h'; injection h' with _ h2; omega)).trans (World.cell?_setCell_same _ _ _ h0)⟩
/-- Two stamps that came in and a third that is to go out, each in a block of its own. -/
structure Three (w u : World) (t n t' n' : Int) : Prop where
  a0 : u.cell? ⟨w.heap.size, 0, none⟩ = some (.int .i64 t)
  a1 : u.cell? ⟨w.heap.size, 1, none⟩ = some (.int .u8 n)
  b0 : u.cell? ⟨w.heap.size + 1, 0, none⟩ = some (.int .i64 t')
  b1 : u.cell? ⟨w.heap.size + 1, 1, none⟩ = some (.int .u8 n')
  c0 : u.cell? ⟨w.heap.size + 2, 0, none⟩ = some (.int .i64 0)
  c1 : u.cell? ⟨w.heap.size + 2, 1, none⟩ = some (.int .u8 0)
  free : ∀ j, u.frozen? ⟨w.heap.size + 2, j, none⟩ = false
  below : Below w.heap.size w u
  lt : w.heap.size + 2 < u.heap.size
theorem Three.made (w : World) (T : TypeId) (t n t' n' : Int) : Three w (((w.alloc (.cells #[.int .i64 t, .int .u8 n] T)).alloc (.cells #[.int .i64 t', .int .u8 n'] T)).alloc (.cells #[.int .i64 0, .int .u8 0] T)) t n t' n' := by
  obtain ⟨u1, h1⟩ : ∃ u, u = w.alloc (.cells #[.int .i64 t, .int .u8 n] T) := ⟨_, rfl⟩
  obtain ⟨u2, h2⟩ : ∃ u, u = u1.alloc (.cells #[.int .i64 t', .int .u8 n'] T) := ⟨_, rfl⟩
  have s1 : u1.heap.size = w.heap.size + 1 := by rw [h1]; simp
  have s2 : u2.heap.size = w.heap.size + 2 := by rw [h2]; simp [s1]
  have a0 : u1.cell? ⟨w.heap.size, 0, none⟩ = some (.int .i64 t) := by rw [h1, World.cell?_alloc_new]; rfl
  have a1 : u1.cell? ⟨w.heap.size, 1, none⟩ = some (.int .u8 n) := by rw [h1, World.cell?_alloc_new]; rfl
  have b0 : u2.cell? ⟨w.heap.size + 1, 0, none⟩ = some (.int .i64 t') := by rw [h2, ← s1, World.cell?_alloc_new]; rfl
  have b1 : u2.cell? ⟨w.heap.size + 1, 1, none⟩ = some (.int .u8 n') := by rw [h2, ← s1, World.cell?_alloc_new]; rfl
  rw [← h1, ← h2]
  refine ⟨?_, ?_, ?_, ?_, ?_, ?_, fun j => ?_, ?_, by simp [s2]⟩
  · rw [World.cell?_alloc_lt _ _ _ (by show w.heap.size < _; omega), h2, World.cell?_alloc_lt _ _ _ (by show w.heap.size < _; omega)]; exact a0
  · rw [World.cell?_alloc_lt _ _ _ (by show w.heap.size < _; omega), h2, World.cell?_alloc_lt _ _ _ (by show w.heap.size < _; omega)]; exact a1
  · rw [World.cell?_alloc_lt _ _ _ (by show w.heap.size + 1 < _; omega)]; exact b0
  · rw [World.cell?_alloc_lt _ _ _ (by show w.heap.size + 1 < _; omega)]; exact b1
  · rw [← s2, World.cell?_alloc_new]; rfl
  · rw [← s2, World.cell?_alloc_new]; rfl
  · rw [← s2]; exact World.frozen?_alloc_new _ _ _ _
  · rw [h2, h1]; exact (((Below.refl _ _).alloc (Nat.le_refl _) _).alloc (by simp) _).alloc (by simp; omega) _
theorem Three.step {w u u' : World} {t n t' n' : Int} (h : Three w u t n t' n') (hb : Below u.heap.size u u') : Three w u' t n t' n' := by
  have l := h.lt
  refine ⟨?_, ?_, ?_, ?_, ?_, ?_, fun j => (hb.frozen (p := ⟨w.heap.size + 2, j, none⟩) (by show w.heap.size + 2 < _; omega)).trans (h.free j), h.below.trans (hb.mono h.below.size), Nat.lt_of_lt_of_le h.lt hb.size⟩
  · rw [hb.cell (p := ⟨w.heap.size, 0, none⟩) (by show w.heap.size < _; omega)]; exact h.a0
  · rw [hb.cell (p := ⟨w.heap.size, 1, none⟩) (by show w.heap.size < _; omega)]; exact h.a1
  · rw [hb.cell (p := ⟨w.heap.size + 1, 0, none⟩) (by show w.heap.size + 1 < _; omega)]; exact h.b0
  · rw [hb.cell (p := ⟨w.heap.size + 1, 1, none⟩) (by show w.heap.size + 1 < _; omega)]; exact h.b1
  · rw [hb.cell (p := ⟨w.heap.size + 2, 0, none⟩) (by show w.heap.size + 2 < _; omega)]; exact h.c0
  · rw [hb.cell (p := ⟨w.heap.size + 2, 1, none⟩) (by show w.heap.size + 2 < _; omega)]; exact h.c1
theorem rmax6_any (t n t' n' : Int) (w : World) :
    Calls Try.prog 33 #[.agg #[.int .i64 t, .int .u8 n], .agg #[.int .i64 t', .int .u8 n']] w fun e w' => e = .returned (.agg #[.int .i64 (mxS t n t' n').1, .int .u8 (mxS t n t' n').2]) ∧ Below w.heap.size w w' := by
  have H0 : Hid (Three w (((w.alloc (.cells #[.int .i64 t, .int .u8 n] 28)).alloc (.cells #[.int .i64 t', .int .u8 n'] 28)).alloc (.cells #[.int .i64 0, .int .u8 0] 28)) t n t' n') := Three.made w 28 t n t' n'
  by_cases h : ltS t n t' n'
  · have CC : Hid (∀ w, Calls Try.prog 34 #[.agg #[.int .i64 t, .int .u8 n], .agg #[.int .i64 t', .int .u8 n']] w fun e w' => e = .returned (.int .i64 (-1)) ∧ Below w.heap.size w w') := fun w => by
      have c := rcmp6_any t n t' n' w
      rw [cmp_lt h] at c
      exact c
    have e : mxS t n t' n' = (t', n') := if_pos h
    rw [e]
    clear e h
    go_enter Try.func33, Try.ntmps33
    go_wp2_with (go_at_call 34; refine (CC.out _).mono ?_; rintro e w1 ⟨rfl, hb1⟩; have H1 : Hid (Three w w1 t n t' n') := H0.out.step hb1; have q0 := H1.out.b0; have q1 := H1.out.b1; have z0 := H1.out.c0; have z1 := H1.out.c1; have f0 := H1.out.free 0; have f1 := H1.out.free 1; clear hb1)
    obtain ⟨r1, r2⟩ := set_two z0 z1
    (try simp only [Exit.inBlock, Exit.then])
    refine bodyPost_ret (v := .agg #[.int .i64 t', .int .u8 n']) (by simp [results, Try.results33, go_sem, r1, r2]) rfl ?_
    exact ⟨rfl, (H1.out.below.setCell (by show w.heap.size ≤ w.heap.size + 2; omega) _).setCell (by show w.heap.size ≤ w.heap.size + 2; omega) _⟩
  · have CC : Hid (∀ w, Calls Try.prog 34 #[.agg #[.int .i64 t, .int .u8 n], .agg #[.int .i64 t', .int .u8 n']] w fun e w' => (∃ k : Int, e = .returned (.int .i64 k) ∧ 0 ≤ k) ∧ Below w.heap.size w w') := fun w => by
      refine (rcmp6_any t n t' n' w).mono ?_
      rintro e w' ⟨rfl, hb⟩
      refine ⟨⟨_, rfl, ?_⟩, hb⟩
      unfold cmpS
      rw [if_neg h]
      split <;> omega
    have e : mxS t n t' n' = (t, n) := if_neg h
    rw [e]
    clear e h
    go_enter Try.func33, Try.ntmps33
    go_wp2_with (go_at_call 34; refine (CC.out _).mono ?_; rintro e w1 ⟨⟨k, rfl, hk⟩, hb1⟩; have H1 : Hid (Three w w1 t n t' n') := H0.out.step hb1; have q0 := H1.out.a0; have q1 := H1.out.a1; have z0 := H1.out.c0; have z1 := H1.out.c1; have f0 := H1.out.free 0; have f1 := H1.out.free 1; clear hb1)
    obtain ⟨r1, r2⟩ := set_two z0 z1
    (try simp only [Exit.inBlock, Exit.then])
    refine bodyPost_ret (v := .agg #[.int .i64 t, .int .u8 n]) (by simp [results, Try.results33, go_sem, r1, r2]) rfl ?_
    exact ⟨rfl, (H1.out.below.setCell (by show w.heap.size ≤ w.heap.size + 2; omega) _).setCell (by show w.heap.size ≤ w.heap.size + 2; omega) _⟩
end Go.Proofs.Ytcppihpehipelaa

namespace Go.Proofs.Ytcppihpehipelaa
open Go.RowKit
set_option linter.unusedVariables false

theorem cell_of_block {w w' : World} {q : Nat} (h : w'.heap[q]? = w.heap[q]?) (i : Nat) : w'.cell? ⟨q, i, none⟩ = w.cell? ⟨q, i, none⟩ ∧ w'.frozen? ⟨q, i, none⟩ = w.frozen? ⟨q, i, none⟩ := by
  refine ⟨?_, ?_⟩
  · unfold World.cell?; rw [h]
  · unfold World.frozen?; rw [h]
/-- A world in which, but for the reader and what is new, nothing has turned, and the reader is as in another world. -/
theorem Rd.as {w u u' : World} {g : Nat} {a : Option Addr} {cap : Nat} {zs : List Int} {k k' : Nat} {b b' : Bool} (h : Rd w g a cap zs k b) (hc : Chg w u' (fun j => j = g)) (h1 : Rd u g a cap zs k' b') (hb : u'.heap[g]? = u.heap[g]?) : Rd u' g a cap zs k' b' :=
  ⟨(cell_of_block hb 0).1.trans h1.c0, (cell_of_block hb 1).1.trans h1.c1, (cell_of_block hb 2).1.trans h1.c2, fun i => (cell_of_block hb i).2.trans (h1.free i), h.row.chg hc h.far, h.far, h1.len, h.few, h.most⟩
theorem Rds.stamp {o o1 o2 : Option (List Int)} {v t n : Int} (h : Rds numP o o1 v) (h2 : (¬ v < 9223372036854775808 ∧ o2 = none) ∨ (v < 9223372036854775808 ∧ o2 = o1 ∧ t = v / 256 ∧ n = v % 256)) : Rds stampP o o2 (t, n) := by
  refine h.seq ?_
  rcases h2 with ⟨hc, rfl⟩ | ⟨hc, rfl, rfl, rfl⟩
  · rw [if_neg hc]; exact .non _ _
  · rw [if_pos hc]; exact .ret _ _
end Go.Proofs.Ytcppihpehipelaa

