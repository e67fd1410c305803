/-
  The landed reader of bytes (package wire): what each of its calls takes, and what it leaves.
  What the landed stamps' Pack and Unpack answer (no variable of the library is asked).
-/
import Derived.Test.YtpnjcflfnoamoaaGreatAu25
import Derived.Test.YtpnjcflfnoamoaaGreatAu33
import Derived.Test.YtpnjcflfnoamoaaGreatAu40
import Derived.Test.YtpnjcflfnoamoaaGreatAu38
import Derived.Test.YtpnjcflfnoamoaaGreatAu23
import Derived.Laws.BitsLemmas
import Derived.Deep.RegionHeld3
namespace Go.Proofs.YtpnjcflfnoamoaaGreat
open Go.RowKit
set_option linter.unusedVariables false

/-- A reader in block g: the bytes that it has not yet taken; a bad one has none. -/
structure LRd (w : World) (g : Nat) (a : Option Addr) (cap : Nat) (zs : List Int) (b : Bool) : Prop where
  c0 : w.cell? ⟨g, 0, none⟩ = some (.slice a zs.length cap)
  c1 : w.cell? ⟨g, 1, none⟩ = some (.bool b)
  free : ∀ i, w.frozen? ⟨g, i, none⟩ = false
  row : Row w a zs
  far : zs ≠ [] → ∀ b o s, a = some ⟨b, o, s⟩ → b < g
  few : zs.length ≤ cap
  most : zs.length ≤ 1099511627776
  gone : b = true → zs = []
/-- What is left to read; none: it is bad. -/
def stL (zs : List Int) (b : Bool) : Option (List Int) := if b then none else some zs
def LR (w : World) (g : Nat) (zs : List Int) (b : Bool) : Prop := ∃ a cap, LRd w g a cap zs b
/-- What a call that reads v by p leaves. -/
structure LRed {α : Type} (w w' : World) (g : Nat) (zs : List Int) (b : Bool) (p : Pr α) (v : α) : Prop where
  ex : ∃ (zs' : List Int) (b' : Bool), LR w' g zs' b' ∧ Chg w w' (fun j => j = g) ∧ Rds p (stL zs b) (stL zs' b') v
theorem LRd.made (w : World) (T : TypeId) {a : Option Addr} {cap : Nat} {zs : List Int} (h : Row w a zs) (hc : zs.length ≤ cap) (hm : zs.length ≤ 1099511627776) : LRd (w.alloc (.cells #[.slice a zs.length cap, .bool false] T)) w.heap.size a cap zs false := by
  refine ⟨by rw [World.cell?_alloc_new]; rfl, by rw [World.cell?_alloc_new]; rfl, fun i => World.frozen?_alloc_new _ _ _ _, h.below ((Below.refl _ _).alloc (Nat.le_refl _) _) (Nat.le_refl _), fun hz b o s e => ?_, hc, hm, fun h => by simp at h⟩
  rcases h.cells with e0 | ⟨b', off, e1, hx⟩
  · exact absurd e0 hz
  · rw [e] at e1
    injection e1 with e1
    injection e1 with e1 e2 e3
    subst e1
    have hl : 0 < zs.length := by cases zs with | nil => exact absurd rfl hz | cons x r => simp
    have := lt_of_cell (hx 0 hl)
    simp at this
    omega
theorem LRd.past {w w' : World} {g : Nat} {a : Option Addr} {cap : Nat} {zs : List Int} {b : Bool} (h : LRd w g a cap zs b) (hb : Below w.heap.size w w') : LRd w' g a cap zs b :=
  have hl := lt_of_cell h.c0
  ⟨(hb.cell (p := ⟨g, 0, none⟩) hl).trans h.c0, (hb.cell (p := ⟨g, 1, none⟩) hl).trans h.c1, fun i => (hb.frozen (p := ⟨g, i, none⟩) hl).trans (h.free i), h.row.below hb (Nat.le_refl _), h.far, h.few, h.most, h.gone⟩
theorem LR.past {w w' : World} {g : Nat} {zs : List Int} {b : Bool} (h : LR w g zs b) (hb : Below w.heap.size w w') : LR w' g zs b := by
  obtain ⟨a, cap, h⟩ := h
  exact ⟨a, cap, h.past hb⟩
theorem LR.lt {w : World} {g : Nat} {zs : List Int} {b : Bool} (h : LR w g zs b) : g < w.heap.size := by
  obtain ⟨a, cap, h⟩ := h
  exact lt_of_cell h.c0
/-- The reader stays where only blocks turn that came behind it. -/
theorem LR.above {u u' : World} {g : Nat} {zs : List Int} {b : Bool} {X : Foot} (h : LR u g zs b) (hc : Chg u u' X) (hX : ∀ j, X j → g < j) : LR u' g zs b := by
  obtain ⟨a, cap, h⟩ := h
  have hb := hc.block g (lt_of_cell h.c0) (fun e => by have := hX g e; omega)
  exact ⟨a, cap, (cell_of_block hb 0).1.trans h.c0, (cell_of_block hb 1).1.trans h.c1, fun i => (cell_of_block hb i).2.trans (h.free i), h.row.chg hc (fun hz b o s e e0 => by have := h.far hz b o s e; have := hX b e0; omega), h.far, h.few, h.most, h.gone⟩
theorem LRd.bytes {w : World} {g : Nat} {a : Option Addr} {cap : Nat} {zs : List Int} {b : Bool} (h : LRd w g a cap zs b) : Bys zs := h.row.bytes
/-- A bad one. -/
theorem LRd.bad {w : World} {g : Nat} {a : Option Addr} {cap : Nat} {zs : List Int} {b : Bool} (h : LRd w g a cap zs b) : LRd ((w.setCell ⟨g, 0, none⟩ (.slice none 0 0)).setCell ⟨g, 1, none⟩ (.bool true)) g none 0 [] true ∧ Chg w ((w.setCell ⟨g, 0, none⟩ (.slice none 0 0)).setCell ⟨g, 1, none⟩ (.bool true)) (fun j => j = g) := by
  refine ⟨⟨?_, ?_, fun i => by rw [World.frozen?_setCell, World.frozen?_setCell]; exact h.free i, Row.nil _ _, fun e => absurd rfl e, by simp, by simp, fun _ => rfl⟩, ?_⟩
  · rw [set_off _ _ _ _ _ (by omega)]; exact World.cell?_setCell_same _ _ _ h.c0
  · exact World.cell?_setCell_same _ _ _ ((set_off _ _ _ _ _ (by omega)).trans h.c1)
  · exact (Chg.set (X := fun j => j = g) w ⟨g, 0, none⟩ _ rfl).trans (Chg.set (X := fun j => j = g) _ ⟨g, 1, none⟩ _ rfl) (fun _ _ x => x)
/-- Some bytes are taken. -/
theorem LRd.on {w : World} {g : Nat} {a : Option Addr} {cap : Nat} {zs : List Int} {b : Bool} (h : LRd w g a cap zs b) (k : Nat) (hk : k ≤ zs.length) : LRd (w.setCell ⟨g, 0, none⟩ (.slice (cutA a cap k) (zs.length - k) (cap - k))) g (cutA a cap k) (cap - k) (zs.drop k) b ∧ Chg w (w.setCell ⟨g, 0, none⟩ (.slice (cutA a cap k) (zs.length - k) (cap - k))) (fun j => j = g) := by
  have hc : Chg w (w.setCell ⟨g, 0, none⟩ (.slice (cutA a cap k) (zs.length - k) (cap - k))) (fun j => j = g) := Chg.set w ⟨g, 0, none⟩ _ rfl
  have hf : zs.drop k ≠ [] → ∀ b o s, cutA a cap k = some ⟨b, o, s⟩ → b < g := by
    intro hz b0 o s e
    have hzs : zs ≠ [] := fun e0 => hz (by rw [e0]; simp)
    unfold cutA at e
    by_cases h1 : cap = k
    · exfalso; apply hz; exact List.drop_eq_nil_of_le (by have := h.few; omega)
    · rw [if_neg h1] at e
      cases a with
      | none => simp at e
      | some x =>
        obtain ⟨b1, o1, s1⟩ := x
        have hb : b1 = b0 := by
          simp only [Option.map_some, Option.some.injEq] at e
          unfold Addr.add at e
          split at e <;> (injection e)
        rw [← hb]
        exact h.far hzs b1 o1 s1 rfl
  refine ⟨⟨?_, (set_off _ _ _ _ _ (by omega)).trans h.c1, fun i => by rw [World.frozen?_setCell]; exact h.free i, (h.row.cut cap k h.few).chg hc (fun hz b o s e e0 => by have := hf hz b o s e; omega), hf, ?_, ?_, fun e => by rw [h.gone e]; simp⟩, hc⟩
  · rw [List.length_drop]; exact World.cell?_setCell_same _ _ _ h.c0
  · rw [List.length_drop]; have := h.few; omega
  · rw [List.length_drop]; have := h.most; omega
theorem lover_any (a : Option Addr) (cap len : Nat) (zs : List Int) (w : World) (hr : Row w a zs) (hl : zs.length = len) (hc : len ≤ cap) (hm : len ≤ 1099511627776) :
    Calls Tryz.prog 32 #[.slice a len cap] w fun e w' => e = .returned (.pointer (some ⟨w.heap.size, 0, none⟩)) ∧ LR w' w.heap.size zs false ∧ Below w.heap.size w w' := by
  have H : Hid (LRd (w.alloc (.cells #[.slice a len cap, .bool false] 119)) w.heap.size a cap zs false) := by subst hl; exact LRd.made w 119 hr hc hm
  clear hr hl hc hm
  go_enter Tryz.func32, Tryz.ntmps32
  go_wp2
  go_returns
  exact ⟨rfl, ⟨a, cap, H.out⟩, (Below.refl _ _).alloc (Nat.le_refl _) _⟩
theorem lbad_any (g : Nat) (zs : List Int) (b : Bool) (w : World) (h : LR w g zs b) :
    Calls Tryz.prog 69 #[.pointer (some ⟨g, 0, none⟩)] w fun e w' => e = .returned (.bool b) ∧ w' = w := by
  obtain ⟨a, cap, h⟩ := h
  have c1 := h.c1
  clear h
  go_enter Tryz.func69, Tryz.ntmps69
  go_wp2
  go_returns
  exact ⟨rfl, rfl⟩
theorem lleft_any (g : Nat) (zs : List Int) (b : Bool) (w : World) (h : LR w g zs b) :
    Calls Tryz.prog 34 #[.pointer (some ⟨g, 0, none⟩)] w fun e w' => e = .returned (.int .i64 (zs.length : Nat)) ∧ w' = w := by
  obtain ⟨a, cap, h⟩ := h
  have c0 := h.c0
  clear h
  go_enter Tryz.func34, Tryz.ntmps34
  go_wp2
  go_returns
  exact ⟨rfl, rfl⟩
theorem lfail_any (g : Nat) (zs : List Int) (b : Bool) (w : World) (h : LR w g zs b) :
    Calls Tryz.prog 93 #[.pointer (some ⟨g, 0, none⟩)] w fun e w' => e = .returned (.tuple #[]) ∧ LR w' g [] true ∧ Chg w w' (fun j => j = g) := by
  obtain ⟨a, cap, h⟩ := h
  have c0 := h.c0
  have c1 := h.c1
  have f0 := h.free 0
  have f1 := h.free 1
  have H : Hid (LRd w g a cap zs b) := h
  have d1 : (w.setCell ⟨g, 0, none⟩ (.slice none 0 0)).cell? ⟨g, 1, none⟩ = some (.bool b) := (set_off _ _ _ _ _ (by omega)).trans c1
  clear h
  go_enter Tryz.func93, Tryz.ntmps93
  go_wp2
  go_end0
  exact ⟨rfl, ⟨none, 0, H.out.bad.1⟩, H.out.bad.2⟩
theorem lr_none {α : Type} {w w' : World} {g : Nat} {zs : List Int} {b : Bool} {p : Pr α} (v : α) (h : LR w' g [] true) (hc : Chg w w' (fun j => j = g)) (hp : b = false → p zs = none) : LRed w w' g zs b p v := by
  refine ⟨[], true, h, hc, ?_⟩
  cases b with
  | true => exact .of_bad _ _
  | false => exact .no _ (hp rfl)
theorem lnum_any (g : Nat) (zs : List Int) (b : Bool) (w : World) (h : LR w g zs b) :
    Calls Tryz.prog 92 #[.pointer (some ⟨g, 0, none⟩)] w fun e w' => ∃ v : Int, e = .returned (.int .u64 v) ∧ 0 ≤ v ∧ v ≤ 18446744073709551615 ∧ LRed w w' g zs b numP v := by
  have HF : Hid (LR w g zs b) := h
  obtain ⟨a, cap, h⟩ := h
  have c0 := h.c0
  have f0 := h.free 0
  have H : Hid (LRd w g a cap zs b) := h
  have hG := get_any a cap zs w h.row (by have := h.most; omega)
  obtain ⟨len, hl⟩ : ∃ len, len = zs.length := ⟨_, rfl⟩
  rw [← hl] at c0
  rw [← hl] at hG
  rcases num_cases zs h.bytes with ⟨e1, e2⟩ | ⟨V, N, e1, e2, n1, n2, v0, v1, e3⟩
  · have E : Hid (numP zs = none) := e2
    have e3 : (Pl.getI zs).2.2 ≠ 0 := by
      intro e0
      unfold numP at e2
      rw [if_pos e0] at e2
      simp at e2
    obtain ⟨X, hX⟩ : ∃ X, X = (Pl.getI zs).2.2 := ⟨_, rfl⟩
    obtain ⟨V, hV⟩ : ∃ V, V = (Pl.getI zs).1 := ⟨_, rfl⟩
    rw [e1, ← hX, ← hV] at hG
    rw [← hX] at e3
    have HG : Hid (Calls Tryz.prog 107 #[.slice a len cap] w fun e w' => e = .returned (.tuple #[.int .u64 V, .int .i64 0, .int .i64 X]) ∧ w' = w) := hG
    clear hG hX hV e1 e2 h hl
    have bx : (X != 0) = true := bne_iff_ne.2 e3
    go_enter Tryz.func92, Tryz.ntmps92
    go_wp2_with (first | (go_at_call 107; refine HG.out.mono ?_; rintro e w1 ⟨rfl, hw1⟩; obtain rfl : w = w1 := hw1.symm; clear hw1) | (go_at_call 93; refine (lfail_any g zs b _ HF.out).mono ?_; rintro e w2 ⟨rfl, L2, C2⟩; have H2 : Hid (LR w2 g [] true ∧ Chg w w2 (fun j => j = g)) := ⟨L2, C2⟩; clear L2 C2))
    go_returns
    exact ⟨0, rfl, by omega, by omega, lr_none 0 H2.out.1 H2.out.2 (fun _ => E.out)⟩
  · have E : Hid (numP zs = some (V, zs.drop N)) := e3
    have hX : (Pl.getI zs).2.2 = 0 := by
      unfold numP at e3
      by_cases e0 : (Pl.getI zs).2.2 = 0
      · exact e0
      · rw [if_neg e0] at e3; simp at e3
    have hb : b = false := by
      cases b with
      | false => rfl
      | true => have := h.gone rfl; rw [this] at n2; simp at n2; omega
    subst hb
    rw [e1, e2, hX] at hG
    have HG : Hid (Calls Tryz.prog 107 #[.slice a len cap] w fun e w' => e = .returned (.tuple #[.int .u64 V, .int .i64 N, .int .i64 0]) ∧ w' = w) := hG
    have hsl : ∀ w', (Instr.slice 23 (.slice a len cap) (some (.int .i64 (N : Int))) none none).run Tryz.prog w' = .ok (.slice (cutA a cap N) (len - N) (cap - N)) w' := fun w' => slice_from w' a len cap N _ rfl (by omega)
    have HN : Hid (N ≤ zs.length) := n2
    have HL : Hid (len = zs.length) := hl
    obtain ⟨a', ha'⟩ : ∃ a', a' = cutA a cap N := ⟨_, rfl⟩
    rw [← ha'] at hsl
    have HA : Hid (a' = cutA a cap N) := ha'
    clear hG hX e1 e2 e3 h hl n2 ha'
    go_enter Tryz.func92, Tryz.ntmps92
    go_wp2_with (first | (go_at_call 107; refine HG.out.mono ?_; rintro e w1 ⟨rfl, hw1⟩; obtain rfl : w = w1 := hw1.symm; clear hw1))
    go_returns
    have hR := H.out.on N HN.out
    rw [← HL.out, ← HA.out] at hR
    exact ⟨V, rfl, v0, v1, ⟨zs.drop N, false, ⟨a', cap - N, hR.1⟩, hR.2, .yes E.out⟩⟩
end Go.Proofs.YtpnjcflfnoamoaaGreat

namespace Go.Proofs.YtpnjcflfnoamoaaGreat
open Go.RowKit
set_option linter.unusedVariables false

theorem wraps_u64 : ∀ n : Int, 0 ≤ n → n < 2 ^ 64 → IntKind.u64.wrap n = n := fun n h0 h1 => by rw [IntKind.wrap_u64]; omega
theorem or_low (t n : Int) (h0 : 0 ≤ t) (h1 : t ≤ 36028797018963967) (hn : 0 ≤ n ∧ n ≤ 255) : bits .or .u64 (t * 256) n = t * 256 + n :=
  bits_join .u64 64 (by decide) wraps_u64 8 (t * 256) n (by omega) (by omega) (by omega) hn.1 (by omega) (by omega)
theorem spack_any (t n : Int) (w : World) (hn : 0 ≤ n ∧ n ≤ 255) :
    Calls Tryz.prog 91 #[.agg #[.int .i64 t, .int .u8 n]] w fun e w' => e = .returned (.tuple #[.int .u64 (if okS t then t * 256 + n else 0), .int .i64 (if okS t then 0 else 1)]) ∧ Below w.heap.size w w' := by
  have CG : Hid (∀ w, Calls Tryz.prog 47 #[.agg #[.int .i64 t, .int .u8 n]] w fun e w' => e = .returned (.bool (decide (okS t))) ∧ Below w.heap.size w w') := fun w => sgood_any t n w
  have HB : Hid (Below w.heap.size w (w.alloc (.cells #[.int .i64 t, .int .u8 n] 42))) := (Below.refl _ _).alloc (Nat.le_refl _) _
  have q0 : (w.alloc (.cells #[.int .i64 t, .int .u8 n] 42)).cell? ⟨w.heap.size, 0, none⟩ = some (.int .i64 t) := by rw [World.cell?_alloc_new]; rfl
  have q1 : (w.alloc (.cells #[.int .i64 t, .int .u8 n] 42)).cell? ⟨w.heap.size, 1, none⟩ = some (.int .u8 n) := by rw [World.cell?_alloc_new]; rfl
  have HQ : Hid (∀ u, Below (w.heap.size + 1) (w.alloc (.cells #[.int .i64 t, .int .u8 n] 42)) u → u.cell? ⟨w.heap.size, 0, none⟩ = some (.int .i64 t) ∧ u.cell? ⟨w.heap.size, 1, none⟩ = some (.int .u8 n)) := fun u hb => ⟨by rw [hb.cell (p := ⟨w.heap.size, 0, none⟩) (by simp)]; exact q0, by rw [hb.cell (p := ⟨w.heap.size, 1, none⟩) (by simp)]; exact q1⟩
  clear q0 q1
  by_cases h : okS t
  · rw [decide_eq_true h] at CG
    rw [if_pos h, if_pos h]
    obtain ⟨h0, h1⟩ := h
    go_enter Tryz.func91, Tryz.ntmps91
    go_wp2_with (go_at_call 47; refine (CG.out _).mono ?_; rintro e w1 ⟨rfl, hb1⟩; have B1 : Hid (Below w.heap.size w w1) := HB.out.trans (hb1.mono HB.out.size); have c0 := (HQ.out w1 (hb1.mono (by simp))).1; have c1 := (HQ.out w1 (hb1.mono (by simp))).2; clear hb1)
    have hor := or_low t n h0 h1 hn
    go_ret2
    exact ⟨by rw [← hor]; rfl, B1.out⟩
  · rw [decide_eq_false h] at CG
    rw [if_neg h, if_neg h]
    clear h
    go_enter Tryz.func91, Tryz.ntmps91
    go_wp2_with (go_at_call 47; refine (CG.out _).mono ?_; rintro e w1 ⟨rfl, hb1⟩; have B1 : Hid (Below w.heap.size w w1) := HB.out.trans (hb1.mono HB.out.size); clear hb1)
    go_ret2
    exact ⟨rfl, B1.out⟩
theorem sunpack_any (v : Int) (w : World) (hv : 0 ≤ v ∧ v ≤ 18446744073709551615) :
    Calls Tryz.prog 130 #[.int .u64 v] w fun e w' => e = .returned (.tuple #[.agg #[.int .i64 (if v < 9223372036854775808 then v / 256 else 0), .int .u8 (if v < 9223372036854775808 then v % 256 else 0)], .int .i64 (if v < 9223372036854775808 then 0 else 1)]) ∧ Below w.heap.size w w' := by
  by_cases h : v < 9223372036854775808
  · rw [if_pos h, if_pos h, if_pos h]
    have hb : (v / 9223372036854775808 != 0) = false := by simp; omega
    go_enter Tryz.func130, Tryz.ntmps130
    go_wp2
    go_returns
    exact ⟨rfl, (Below.refl _ _).alloc (Nat.le_refl _) _⟩
  · rw [if_neg h, if_neg h, if_neg h]
    have hb : (v / 9223372036854775808 != 0) = true := by simp; omega
    go_enter Tryz.func130, Tryz.ntmps130
    go_wp2
    go_returns
    exact ⟨rfl, (Below.refl _ _).alloc (Nat.le_refl _) _⟩
end Go.Proofs.YtpnjcflfnoamoaaGreat

