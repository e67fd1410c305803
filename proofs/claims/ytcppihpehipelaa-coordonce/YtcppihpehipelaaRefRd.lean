/-
  The document's own reader of bytes: what each of its calls reads, and what it leaves.
-/
import Derived.Test.YtcppihpehipelaaAu50
import Derived.Test.YtcppihpehipelaaAu30
import Derived.Test.YtcppihpehipelaaAu55
import Derived.Test.YtcppihpehipelaaFoot
import Derived.Test.YtcppihpehipelaaEls
namespace Go.Proofs.Ytcppihpehipelaa
open Go.RowKit
set_option linter.unusedVariables false

/-! ### Pieces of a list of bytes -/
/-- Where a[k:] lies. -/
def cutA (a : Option Addr) (cap k : Nat) : Option Addr := if cap = k then a else a.map (·.add (k * 1))
theorem Row.cut {w : World} {a : Option Addr} {zs : List Int} (h : Row w a zs) (cap k : Nat) (hc : zs.length ≤ cap) : Row w (cutA a cap k) (zs.drop k) := by
  refine ⟨fun z hz => h.bytes z (List.mem_of_mem_drop hz), ?_⟩
  unfold cutA
  by_cases hk : cap = k
  · left; exact List.drop_eq_nil_of_le (by omega)
  · rw [if_neg hk]
    rcases h.cells with rfl | ⟨b, off, rfl, hx⟩
    · left; simp
    · right
      refine ⟨b, off + k, by simp [add_plain], fun j hj => ?_⟩
      simp at hj
      rw [Nat.add_assoc, hx (k + j) (by omega)]
      simp [List.getD]
theorem Row.upto {w : World} {a : Option Addr} {zs : List Int} (h : Row w a zs) (n : Nat) : Row w a (zs.take n) := by
  refine ⟨fun z hz => h.bytes z (List.mem_of_mem_take hz), ?_⟩
  rcases h.cells with rfl | ⟨b, off, rfl, hx⟩
  · left; simp
  · right
    refine ⟨b, off, rfl, fun j hj => ?_⟩
    rw [List.length_take] at hj
    rw [hx j (by omega)]
    simp [List.getD, show j < n by omega]
theorem Row.chg {w w' : World} {a : Option Addr} {zs : List Int} {X : Foot} (h : Row w a zs) (hc : Chg w w' X) (hX : zs ≠ [] → ∀ b o s, a = some ⟨b, o, s⟩ → ¬ X b) : Row w' a zs := by
  refine ⟨h.bytes, ?_⟩
  by_cases hz : zs = []
  · exact .inl hz
  rcases h.cells with rfl | ⟨b, off, rfl, hx⟩
  · exact .inl rfl
  · refine .inr ⟨b, off, rfl, fun j hj => ?_⟩
    have h1 := hx j hj
    have hb := hc.block b (lt_of_cell h1) (hX hz b off none rfl)
    rw [← h1]
    show World.cell? w' _ = World.cell? w _
    unfold World.cell?
    rw [hb]
/-! ### The reader -/
structure Rd (w : World) (g : Nat) (a : Option Addr) (cap : Nat) (zs : List Int) (k : Nat) (b : Bool) : Prop where
  c0 : w.cell? ⟨g, 0, none⟩ = some (.slice a zs.length cap)
  c1 : w.cell? ⟨g, 1, none⟩ = some (.int .i64 k)
  c2 : w.cell? ⟨g, 2, none⟩ = some (.bool b)
  free : ∀ i, w.frozen? ⟨g, i, none⟩ = false
  row : Row w a zs
  far : zs ≠ [] → ∀ b o s, a = some ⟨b, o, s⟩ → b ≠ g
  len : k ≤ zs.length
  few : zs.length ≤ cap
  most : zs.length ≤ 1099511627776
/-- What is left to read; none: it is bad. -/
def stR (zs : List Int) (k : Nat) (b : Bool) : Option (List Int) := if b then none else some (zs.drop k)
theorem Rd.made (w : World) (T : TypeId) {a : Option Addr} {cap : Nat} {zs : List Int} (h : Row w a zs) (hc : zs.length ≤ cap) (hm : zs.length ≤ 1099511627776) : Rd (w.alloc (.cells #[.slice a zs.length cap, .int .i64 0, .bool false] T)) w.heap.size a cap zs 0 false := by
  refine ⟨by rw [World.cell?_alloc_new]; rfl, by rw [World.cell?_alloc_new]; rfl, by rw [World.cell?_alloc_new]; rfl, fun i => World.frozen?_alloc_new _ _ _ _, h.below ((Below.refl _ _).alloc (Nat.le_refl _) _) (Nat.le_refl _), fun hz b o s e => ?_, Nat.zero_le _, hc, hm⟩
  rcases h.cells with e0 | ⟨b', off, e1, hx⟩
  · exact absurd e0 hz
  · rw [e] at e1
    injection e1 with e1
    injection e1 with e1 e2 e3
    subst e1
    have hl : 0 < zs.length := by cases zs with | nil => exact absurd rfl hz | cons x r => simp
    have := lt_of_cell (hx 0 hl)
    simp at this
    omega
theorem Rd.drew {w : World} {g : Nat} {a : Option Addr} {cap : Nat} {zs : List Int} {k : Nat} {b : Bool} (h : Rd w g a cap zs k b) : Rd w.drew g a cap zs k b := ⟨h.c0, h.c1, h.c2, h.free, ⟨h.row.bytes, h.row.cells⟩, h.far, h.len, h.few, h.most⟩
theorem Rd.past {w w' : World} {g : Nat} {a : Option Addr} {cap : Nat} {zs : List Int} {k : Nat} {b : Bool} (h : Rd w g a cap zs k b) (hb : Below w.heap.size w w') : Rd w' g a cap zs k b :=
  have hl := lt_of_cell h.c0
  ⟨(hb.cell (p := ⟨g, 0, none⟩) hl).trans h.c0, (hb.cell (p := ⟨g, 1, none⟩) hl).trans h.c1, (hb.cell (p := ⟨g, 2, none⟩) hl).trans h.c2, fun i => (hb.frozen (p := ⟨g, i, none⟩) hl).trans (h.free i), h.row.below hb (Nat.le_refl _), h.far, h.len, h.few, h.most⟩
theorem Rd.drewN {w : World} {g : Nat} {a : Option Addr} {cap : Nat} {zs : List Int} {k : Nat} {b : Bool} (h : Rd w g a cap zs k b) (n : Nat) : Rd (w.drewN n) g a cap zs k b := h.past (below_dN (Below.refl _ _) n)
theorem set_off (u : World) (b i j : Nat) (v : Value) (h : j ≠ i) : (u.setCell ⟨b, i, none⟩ v).cell? ⟨b, j, none⟩ = u.cell? ⟨b, j, none⟩ := World.cell?_setCell_other _ _ _ _ (by intro e; injection e with _ e2; omega)
theorem Rd.bad {w : World} {g : Nat} {a : Option Addr} {cap : Nat} {zs : List Int} {k : Nat} {b : Bool} (h : Rd w g a cap zs k b) : Rd (w.setCell ⟨g, 2, none⟩ (.bool true)) g a cap zs k true ∧ Chg w (w.setCell ⟨g, 2, none⟩ (.bool true)) (fun j => j = g) :=
  have hc : Chg w (w.setCell ⟨g, 2, none⟩ (.bool true)) (fun j => j = g) := Chg.set w ⟨g, 2, none⟩ _ rfl
  ⟨⟨(set_off _ _ _ _ _ (by omega)).trans h.c0, (set_off _ _ _ _ _ (by omega)).trans h.c1, World.cell?_setCell_same _ _ _ h.c2, fun i => by rw [World.frozen?_setCell]; exact h.free i, h.row.chg hc h.far, h.far, h.len, h.few, h.most⟩, hc⟩
theorem Rd.on {w : World} {g : Nat} {a : Option Addr} {cap : Nat} {zs : List Int} {k : Nat} {b : Bool} (h : Rd w g a cap zs k b) (k' : Nat) (hk : k' ≤ zs.length) : Rd (w.setCell ⟨g, 1, none⟩ (.int .i64 k')) g a cap zs k' b ∧ Chg w (w.setCell ⟨g, 1, none⟩ (.int .i64 k')) (fun j => j = g) :=
  have hc : Chg w (w.setCell ⟨g, 1, none⟩ (.int .i64 k')) (fun j => j = g) := Chg.set w ⟨g, 1, none⟩ _ rfl
  ⟨⟨(set_off _ _ _ _ _ (by omega)).trans h.c0, World.cell?_setCell_same _ _ _ h.c1, (set_off _ _ _ _ _ (by omega)).trans h.c2, fun i => by rw [World.frozen?_setCell]; exact h.free i, h.row.chg hc h.far, h.far, hk, h.few, h.most⟩, hc⟩
/-- What a call that reads by p leaves. -/
def Rds {α : Type} (p : Pr α) (o o' : Option (List Int)) (v : α) : Prop := match o.bind p with
  | none => o' = none
  | some x => v = x.1 ∧ o' = some x.2
theorem Rds.cases {α : Type} {p : Pr α} {zs : List Int} {o' : Option (List Int)} {v : α} (h : Rds p (some zs) o' v) : (p zs = none ∧ o' = none) ∨ ∃ r, p zs = some (v, r) ∧ o' = some r := by
  unfold Rds at h
  rw [Option.bind_some] at h
  cases e : p zs with
  | none => rw [e] at h; exact .inl ⟨rfl, h⟩
  | some x => rw [e] at h; obtain ⟨h1, h2⟩ := h; exact .inr ⟨x.2, by rw [h1], h2⟩
theorem Rds.no {α : Type} {p : Pr α} {zs : List Int} (v : α) (h : p zs = none) : Rds p (some zs) none v := by show match p zs with | none => _ | some x => _; rw [h]
theorem Rds.yes {α : Type} {p : Pr α} {zs r : List Int} {v : α} (h : p zs = some (v, r)) : Rds p (some zs) (some r) v := by show match p zs with | none => _ | some x => _; rw [h]; exact ⟨rfl, rfl⟩
theorem Rds.seq {α β : Type} {p : Pr α} {f : α → Pr β} {o o1 o2 : Option (List Int)} {a : α} {b : β} (h1 : Rds p o o1 a) (h2 : Rds (f a) o1 o2 b) : Rds (seqP p f) o o2 b := by
  cases o with
  | none => cases (show o1 = none from h1); exact h2
  | some zs =>
    cases e : p zs with
    | none =>
      have h1' : match p zs with | none => o1 = none | some x => a = x.1 ∧ o1 = some x.2 := h1
      rw [e] at h1'
      cases (show o1 = none from h1')
      cases (show o2 = none from h2)
      exact .no b (seq_none e)
    | some x =>
      obtain ⟨y, r⟩ := x
      have h1' : match p zs with | none => o1 = none | some x => a = x.1 ∧ o1 = some x.2 := h1
      rw [e] at h1'
      obtain ⟨rfl, rfl⟩ := h1'
      show match seqP p f zs with | none => _ | some x => _
      rw [seq_some e]
      exact h2
theorem Rds.ret {α : Type} (a : α) (o : Option (List Int)) : Rds (retP a) o o a := by cases o with
  | none => rfl
  | some zs => exact .yes rfl
theorem Rds.non {α : Type} (o : Option (List Int)) (v : α) : Rds (noneP (α := α)) o none v := by cases o with
  | none => rfl
  | some zs => exact .no v rfl
end Go.Proofs.Ytcppihpehipelaa
