/-
  The landed reader of bytes (package wire): what each of its calls takes, and what it leaves.
  The landed reader: UpTo, Flag, take, Text.
  What the landed stamps' Good and Cmp answer (no variable of the library is asked).
-/
import Derived.Test.YtcppihpehipelaaAu42
import Derived.Test.YtcppihpehipelaaAu45
import Derived.Deep.RegionHeld3
namespace Go.Proofs.Ytcppihpehipelaa
open Go.RowKit
set_option linter.unusedVariables false

/-- A reader in block g: the bytes that it has not yet taken; a bad one has none. -/
structure LRd (w : World) (g : Nat) (a : Option Addr) (cap : Nat) (zs : List Int) (b : Bool) : Prop where
  c0 : w.cell? ⟨g, 0, none⟩ = some (.slice a zs.length cap)
  c1 : w.cell? ⟨g, 1, none⟩ = some (.bool b)
  free : ∀ i, w.frozen? ⟨g, i, none⟩ = false
  row : Row w a zs
  far : zs ≠ [] → ∀ b o s, a = some ⟨b, o, s⟩ → b < g
  few : zs.length ≤ cap
  most : zs.length ≤ 1099511627776
  gone : b = true → zs = []
/-- What is left to read; none: it is bad. -/
def stL (zs : List Int) (b : Bool) : Option (List Int) := if b then none else some zs
def LR (w : World) (g : Nat) (zs : List Int) (b : Bool) : Prop := ∃ a cap, LRd w g a cap zs b
theorem LRd.made (w : World) (T : TypeId) {a : Option Addr} {cap : Nat} {zs : List Int} (h : Row w a zs) (hc : zs.length ≤ cap) (hm : zs.length ≤ 1099511627776) : LRd (w.alloc (.cells #[.slice a zs.length cap, .bool false] T)) w.heap.size a cap zs false := by
  refine ⟨by rw [World.cell?_alloc_new]; rfl, by rw [World.cell?_alloc_new]; rfl, fun i => World.frozen?_alloc_new _ _ _ _, h.below ((Below.refl _ _).alloc (Nat.le_refl _) _) (Nat.le_refl _), fun hz b o s e => ?_, hc, hm, fun h => by simp at h⟩
  rcases h.cells with e0 | ⟨b', off, e1, hx⟩
  · exact absurd e0 hz
  · rw [e] at e1
    injection e1 with e1
    injection e1 with e1 e2 e3
    subst e1
    have hl : 0 < zs.length := by cases zs with | nil => exact absurd rfl hz | cons x r => simp
    have := lt_of_cell (hx 0 hl)
    simp at this
    omega
theorem LRd.past {w w' : World} {g : Nat} {a : Option Addr} {cap : Nat} {zs : List Int} {b : Bool} (h : LRd w g a cap zs b) (hb : Below w.heap.size w w') : LRd w' g a cap zs b :=
  have hl := lt_of_cell h.c0
  ⟨(hb.cell (p := ⟨g, 0, none⟩) hl).trans h.c0, (hb.cell (p := ⟨g, 1, none⟩) hl).trans h.c1, fun i => (hb.frozen (p := ⟨g, i, none⟩) hl).trans (h.free i), h.row.below hb (Nat.le_refl _), h.far, h.few, h.most, h.gone⟩
theorem LR.past {w w' : World} {g : Nat} {zs : List Int} {b : Bool} (h : LR w g zs b) (hb : Below w.heap.size w w') : LR w' g zs b := by
  obtain ⟨a, cap, h⟩ := h
  exact ⟨a, cap, h.past hb⟩
theorem LR.lt {w : World} {g : Nat} {zs : List Int} {b : Bool} (h : LR w g zs b) : g < w.heap.size := by
  obtain ⟨a, cap, h⟩ := h
  exact lt_of_cell h.c0
/-- The reader stays where only blocks turn that came behind it. -/
theorem LR.above {u u' : World} {g : Nat} {zs : List Int} {b : Bool} {X : Foot} (h : LR u g zs b) (hc : Chg u u' X) (hX : ∀ j, X j → g < j) : LR u' g zs b := by
  obtain ⟨a, cap, h⟩ := h
  have hb := hc.block g (lt_of_cell h.c0) (fun e => by have := hX g e; omega)
  exact ⟨a, cap, (cell_of_block hb 0).1.trans h.c0, (cell_of_block hb 1).1.trans h.c1, fun i => (cell_of_block hb i).2.trans (h.free i), h.row.chg hc (fun hz b o s e e0 => by have := h.far hz b o s e; have := hX b e0; omega), h.far, h.few, h.most, h.gone⟩
theorem LRd.bytes {w : World} {g : Nat} {a : Option Addr} {cap : Nat} {zs : List Int} {b : Bool} (h : LRd w g a cap zs b) : Bys zs := h.row.bytes
/-- A bad one. -/
theorem LRd.bad {w : World} {g : Nat} {a : Option Addr} {cap : Nat} {zs : List Int} {b : Bool} (h : LRd w g a cap zs b) : LRd ((w.setCell ⟨g, 0, none⟩ (.slice none 0 0)).setCell ⟨g, 1, none⟩ (.bool true)) g none 0 [] true ∧ Chg w ((w.setCell ⟨g, 0, none⟩ (.slice none 0 0)).setCell ⟨g, 1, none⟩ (.bool true)) (fun j => j = g) := by
  refine ⟨⟨?_, ?_, fun i => by rw [World.frozen?_setCell, World.frozen?_setCell]; exact h.free i, Row.nil _ _, fun e => absurd rfl e, by simp, by simp, fun _ => rfl⟩, ?_⟩
  · rw [set_off _ _ _ _ _ (by omega)]; exact World.cell?_setCell_same _ _ _ h.c0
  · exact World.cell?_setCell_same _ _ _ ((set_off _ _ _ _ _ (by omega)).trans h.c1)
  · exact (Chg.set (X := fun j => j = g) w ⟨g, 0, none⟩ _ rfl).trans (Chg.set (X := fun j => j = g) _ ⟨g, 1, none⟩ _ rfl) (fun _ _ x => x)
/-- Some bytes are taken. -/
theorem LRd.on {w : World} {g : Nat} {a : Option Addr} {cap : Nat} {zs : List Int} {b : Bool} (h : LRd w g a cap zs b) (k : Nat) (hk : k ≤ zs.length) : LRd (w.setCell ⟨g, 0, none⟩ (.slice (cutA a cap k) (zs.length - k) (cap - k))) g (cutA a cap k) (cap - k) (zs.drop k) b ∧ Chg w (w.setCell ⟨g, 0, none⟩ (.slice (cutA a cap k) (zs.length - k) (cap - k))) (fun j => j = g) := by
  have hc : Chg w (w.setCell ⟨g, 0, none⟩ (.slice (cutA a cap k) (zs.length - k) (cap - k))) (fun j => j = g) := Chg.set w ⟨g, 0, none⟩ _ rfl
  have hf : zs.drop k ≠ [] → ∀ b o s, cutA a cap k = some ⟨b, o, s⟩ → b < g := by
    intro hz b0 o s e
    have hzs : zs ≠ [] := fun e0 => hz (by rw [e0]; simp)
    unfold cutA at e
    by_cases h1 : cap = k
    · exfalso; apply hz; exact List.drop_eq_nil_of_le (by have := h.few; omega)
    · rw [if_neg h1] at e
      cases a with
      | none => simp at e
      | some x =>
        obtain ⟨b1, o1, s1⟩ := x
        have hb : b1 = b0 := by
          simp only [Option.map_some, Option.some.injEq] at e
          unfold Addr.add at e
          split at e <;> (injection e)
        rw [← hb]
        exact h.far hzs b1 o1 s1 rfl
  refine ⟨⟨?_, (set_off _ _ _ _ _ (by omega)).trans h.c1, fun i => by rw [World.frozen?_setCell]; exact h.free i, (h.row.cut cap k h.few).chg hc (fun hz b o s e e0 => by have := hf hz b o s e; omega), hf, ?_, ?_, fun e => by rw [h.gone e]; simp⟩, hc⟩
  · rw [List.length_drop]; exact World.cell?_setCell_same _ _ _ h.c0
  · rw [List.length_drop]; have := h.few; omega
  · rw [List.length_drop]; have := h.most; omega
end Go.Proofs.Ytcppihpehipelaa

namespace Go.Proofs.Ytcppihpehipelaa
open Go.RowKit
set_option linter.unusedVariables false

end Go.Proofs.Ytcppihpehipelaa

namespace Go.Proofs.Ytcppihpehipelaa
open Go.RowKit
set_option linter.unusedVariables false

theorem sgood_any (t n : Int) (w : World) :
    Calls Try.prog 35 #[.agg #[.int .i64 t, .int .u8 n]] w fun e w' => e = .returned (.bool (decide (okS t))) ∧ Below w.heap.size w w' := by
  have HB : Hid (Below w.heap.size w (w.alloc (.cells #[.int .i64 t, .int .u8 n] 28))) := (Below.refl _ _).alloc (Nat.le_refl _) _
  by_cases h0 : 0 ≤ t
  · have b0 : decide (0 ≤ t) = true := decide_eq_true h0
    by_cases h1 : t ≤ 36028797018963967
    · have b1 : decide (t ≤ 36028797018963967) = true := decide_eq_true h1
      rw [decide_eq_true (show okS t from ⟨h0, h1⟩)]
      go_enter Try.func35, Try.ntmps35
      go_wp2
      go_ret
      exact ⟨rfl, HB.out⟩
    · have b1 : decide (t ≤ 36028797018963967) = false := decide_eq_false h1
      rw [decide_eq_false (show ¬ okS t from fun h => h1 h.2)]
      go_enter Try.func35, Try.ntmps35
      go_wp2
      go_ret
      exact ⟨rfl, HB.out⟩
  · have b0 : decide (0 ≤ t) = false := decide_eq_false h0
    rw [decide_eq_false (show ¬ okS t from fun h => h0 h.1)]
    go_enter Try.func35, Try.ntmps35
    go_wp2
    go_ret
    exact ⟨rfl, HB.out⟩
theorem scmp_any (t n t' n' : Int) (w : World) :
    Calls Try.prog 39 #[.agg #[.int .i64 t, .int .u8 n], .agg #[.int .i64 t', .int .u8 n']] w fun e w' => e = .returned (.int .i64 (cmpS t n t' n')) ∧ Below w.heap.size w w' := by
  have HB : Hid (Below w.heap.size w ((w.alloc (.cells #[.int .i64 t, .int .u8 n] 28)).alloc (.cells #[.int .i64 t', .int .u8 n'] 28))) := ((Below.refl _ _).alloc (Nat.le_refl _) _).alloc (by simp) _
  by_cases h1 : t < t'
  · have b1 : decide (t < t') = true := decide_eq_true h1
    rw [cmp_lt (.inl h1)]
    go_enter Try.func39, Try.ntmps39
    go_wp2
    go_ret
    exact ⟨rfl, HB.out⟩
  · have b1 : decide (t < t') = false := decide_eq_false h1
    by_cases h2 : t' < t
    · have b2 : decide (t' < t) = true := decide_eq_true h2
      rw [cmp_gt (.inl h2)]
      go_enter Try.func39, Try.ntmps39
      go_wp2
      go_ret
      exact ⟨rfl, HB.out⟩
    · have b2 : decide (t' < t) = false := decide_eq_false h2
      have e : t = t' := by omega
      subst e
      by_cases h3 : n < n'
      · have b3 : decide (n < n') = true := decide_eq_true h3
        rw [cmp_lt (.inr ⟨rfl, h3⟩)]
        go_enter Try.func39, Try.ntmps39
        go_wp2
        go_ret
        exact ⟨rfl, HB.out⟩
      · have b3 : decide (n < n') = false := decide_eq_false h3
        by_cases h4 : n' < n
        · have b4 : decide (n' < n) = true := decide_eq_true h4
          rw [cmp_gt (.inr ⟨rfl, h4⟩)]
          go_enter Try.func39, Try.ntmps39
          go_wp2
          go_ret
          exact ⟨rfl, HB.out⟩
        · have b4 : decide (n' < n) = false := decide_eq_false h4
          have e : n = n' := by omega
          subst e
          rw [cmp_eq]
          go_enter Try.func39, Try.ntmps39
          go_wp2
          go_ret
          exact ⟨rfl, HB.out⟩
end Go.Proofs.Ytcppihpehipelaa

