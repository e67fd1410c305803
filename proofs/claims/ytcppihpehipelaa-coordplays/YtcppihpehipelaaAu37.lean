/-
  What the document's own keys of texts (hourglassref10: Of) answer.
  What the document reads next: a key.
  What package bits answers, for every input: Zig, Zag, goodEnd, Len, Get, Put.
  Records in bytes, read piece by piece with a bound for each: the same as chapter 14's own reading. No program is named here.
  The landed reader of bytes (package wire): what each of its calls takes, and what it leaves.
-/
import Derived.Test.YtcppihpehipelaaAu54
import Derived.Test.YtcppihpehipelaaAu61
import Derived.Lib.LazyBuf
import Derived.Test.YtcppihpehipelaaAu44
import Derived.Test.YtcppihpehipelaaAu56
namespace Go.Proofs.Ytcppihpehipelaa
open Go.RowKit
set_option linter.unusedVariables false

/-- What Of's rounds hold: what is answered, what is made. -/
structure OfR (w u : World) (K : List Int) : Prop where
  below : Below w.heap.size w u
  res : KeyMine u w.heap.size 0 zeroK
  key : KeyMine u (w.heap.size + 1) 0 K
theorem OfR.made (w : World) (T : TypeId) : OfR w ((w.alloc (.cells (kcs zeroK) T)).alloc (.cells (kcs zeroK) T)) zeroK := by
  have e1 := KeyMine.made w T zeroK zeroK_ky
  have e2 := KeyMine.made (w.alloc (.cells (kcs zeroK) T)) T zeroK zeroK_ky
  rw [World.size_alloc] at e2
  exact ⟨((Below.refl _ _).alloc (Nat.le_refl _) _).alloc (by simp) _, e1.alloc _, e2⟩
theorem OfR.store {w u : World} {K : List Int} (h : OfR w u K) {k : List Int} (hk : Ky k) : OfR w (u.setCells (w.heap.size + 1) 0 (k.map (Value.int .u8))) k :=
  ⟨below_cells (by omega) h.below, h.res.other (by omega), h.key.store hk⟩
theorem OfR.set {w u : World} {K : List Int} (h : OfR w u K) (n : Nat) (z : Int) (hn : n < 16) (h0 : 0 ≤ z) (h1 : z ≤ 255) : OfR w (u.setCell ⟨w.heap.size + 1, n, none⟩ (.int .u8 z)) (K.set n z) :=
  ⟨h.below.setCell (by show w.heap.size ≤ w.heap.size + 1; omega) _, h.res.aside (by show w.heap.size ≠ w.heap.size + 1; omega), h.key.set n z hn h0 h1⟩
/-- What is answered is laid. -/
structure OfD (w u : World) (K : List Int) : Prop where
  below : Below w.heap.size w u
  lies : KeyAt u w.heap.size 0 K
  ky : Ky K
theorem OfR.done {w u : World} {K : List Int} (h : OfR w u K) {k : List Int} (hk : Ky k) : OfD w (u.setCells w.heap.size 0 (k.map (Value.int .u8))) k :=
  ⟨below_cells (Nat.le_refl _) h.below, (h.res.store hk).lies, hk⟩
end Go.Proofs.Ytcppihpehipelaa

namespace Go.Proofs.Ytcppihpehipelaa
open Go.RowKit
set_option linter.unusedVariables false

theorem KeyMine.chg {w w' : World} {b o : Nat} {k : List Int} {X : Foot} (h : KeyMine w b o k) (hc : Chg w w' X) (hX : ¬ X b) : KeyMine w' b o k := by
  have hl : b < w.heap.size := by
    have := h.lies.cell 0 (by omega)
    exact lt_of_cell this
  have hb := hc.block b hl hX
  exact ⟨⟨fun j hj => (cell_of_block hb _).1.trans (h.lies.cell j hj)⟩, fun i hi => (cell_of_block hb _).2.trans (h.free i hi), h.ky⟩
end Go.Proofs.Ytcppihpehipelaa

namespace Go.Proofs.Ytcppihpehipelaa
open Go.RowKit
set_option linter.unusedVariables false

end Go.Proofs.Ytcppihpehipelaa

namespace Go.Proofs.Ytcppihpehipelaa
set_option linter.unusedVariables false

def flagP : Pr Bool := seqP (countP 1) fun v => retP (decide (v = 1))
def txtP : Pr (List Int) := seqP (countP 200) fun n => bytesP n
def wrP : Pr Wrt := seqP (bytesP 16) fun k => seqP flagP fun g => seqP txtP fun v => retP ⟨k, v, g⟩
abbrev Bys (zs : List Int) : Prop := ∀ z ∈ zs, 0 ≤ z ∧ z ≤ 255
theorem Bys.drop {zs : List Int} (h : Bys zs) (n : Nat) : Bys (zs.drop n) := fun z hz => h z (List.mem_of_mem_drop hz)
/-- What is left of bytes is bytes. -/
def Keeps {α : Type} (p : Pr α) : Prop := ∀ zs a r, Bys zs → p zs = some (a, r) → Bys r
theorem Keeps.seq {α β : Type} {p : Pr α} {f : α → Pr β} (hp : Keeps p) (hf : ∀ a, Keeps (f a)) : Keeps (seqP p f) := by
  intro zs b r hz h
  cases e : p zs with
  | none => rw [seq_none e] at h; simp at h
  | some x =>
    obtain ⟨a, s⟩ := x
    rw [seq_some e] at h
    exact hf a _ _ _ (hp _ _ _ hz e) h
theorem Keeps.ret {α : Type} (a : α) : Keeps (retP a) := by
  intro zs b r hz h
  simp [retP] at h
  obtain ⟨_, rfl⟩ := h
  exact hz
theorem Keeps.no {α : Type} : Keeps (noneP (α := α)) := by intro zs b r hz h; simp [noneP] at h
theorem Bys.app {a b : List Int} (ha : Bys a) (hb : Bys b) : Bys (a ++ b) := fun z hz => (List.mem_append.1 hz).elim (ha z) (hb z)
end Go.Proofs.Ytcppihpehipelaa

namespace Go.Proofs.Ytcppihpehipelaa
open Go.RowKit
set_option linter.unusedVariables false

/-- A reader in block g: the bytes that it has not yet taken; a bad one has none. -/
structure LRd (w : World) (g : Nat) (a : Option Addr) (cap : Nat) (zs : List Int) (b : Bool) : Prop where
  c0 : w.cell? ⟨g, 0, none⟩ = some (.slice a zs.length cap)
  c1 : w.cell? ⟨g, 1, none⟩ = some (.bool b)
  free : ∀ i, w.frozen? ⟨g, i, none⟩ = false
  row : Row w a zs
  far : zs ≠ [] → ∀ b o s, a = some ⟨b, o, s⟩ → b < g
  few : zs.length ≤ cap
  most : zs.length ≤ 1099511627776
  gone : b = true → zs = []
/-- What is left to read; none: it is bad. -/
def stL (zs : List Int) (b : Bool) : Option (List Int) := if b then none else some zs
def LR (w : World) (g : Nat) (zs : List Int) (b : Bool) : Prop := ∃ a cap, LRd w g a cap zs b
theorem LRd.made (w : World) (T : TypeId) {a : Option Addr} {cap : Nat} {zs : List Int} (h : Row w a zs) (hc : zs.length ≤ cap) (hm : zs.length ≤ 1099511627776) : LRd (w.alloc (.cells #[.slice a zs.length cap, .bool false] T)) w.heap.size a cap zs false := by
  refine ⟨by rw [World.cell?_alloc_new]; rfl, by rw [World.cell?_alloc_new]; rfl, fun i => World.frozen?_alloc_new _ _ _ _, h.below ((Below.refl _ _).alloc (Nat.le_refl _) _) (Nat.le_refl _), fun hz b o s e => ?_, hc, hm, fun h => by simp at h⟩
  rcases h.cells with e0 | ⟨b', off, e1, hx⟩
  · exact absurd e0 hz
  · rw [e] at e1
    injection e1 with e1
    injection e1 with e1 e2 e3
    subst e1
    have hl : 0 < zs.length := by cases zs with | nil => exact absurd rfl hz | cons x r => simp
    have := lt_of_cell (hx 0 hl)
    simp at this
    omega
theorem LRd.past {w w' : World} {g : Nat} {a : Option Addr} {cap : Nat} {zs : List Int} {b : Bool} (h : LRd w g a cap zs b) (hb : Below w.heap.size w w') : LRd w' g a cap zs b :=
  have hl := lt_of_cell h.c0
  ⟨(hb.cell (p := ⟨g, 0, none⟩) hl).trans h.c0, (hb.cell (p := ⟨g, 1, none⟩) hl).trans h.c1, fun i => (hb.frozen (p := ⟨g, i, none⟩) hl).trans (h.free i), h.row.below hb (Nat.le_refl _), h.far, h.few, h.most, h.gone⟩
theorem LR.past {w w' : World} {g : Nat} {zs : List Int} {b : Bool} (h : LR w g zs b) (hb : Below w.heap.size w w') : LR w' g zs b := by
  obtain ⟨a, cap, h⟩ := h
  exact ⟨a, cap, h.past hb⟩
theorem LR.lt {w : World} {g : Nat} {zs : List Int} {b : Bool} (h : LR w g zs b) : g < w.heap.size := by
  obtain ⟨a, cap, h⟩ := h
  exact lt_of_cell h.c0
/-- The reader stays where only blocks turn that came behind it. -/
theorem LR.above {u u' : World} {g : Nat} {zs : List Int} {b : Bool} {X : Foot} (h : LR u g zs b) (hc : Chg u u' X) (hX : ∀ j, X j → g < j) : LR u' g zs b := by
  obtain ⟨a, cap, h⟩ := h
  have hb := hc.block g (lt_of_cell h.c0) (fun e => by have := hX g e; omega)
  exact ⟨a, cap, (cell_of_block hb 0).1.trans h.c0, (cell_of_block hb 1).1.trans h.c1, fun i => (cell_of_block hb i).2.trans (h.free i), h.row.chg hc (fun hz b o s e e0 => by have := h.far hz b o s e; have := hX b e0; omega), h.far, h.few, h.most, h.gone⟩
theorem LRd.bytes {w : World} {g : Nat} {a : Option Addr} {cap : Nat} {zs : List Int} {b : Bool} (h : LRd w g a cap zs b) : Bys zs := h.row.bytes
/-- A bad one. -/
theorem LRd.bad {w : World} {g : Nat} {a : Option Addr} {cap : Nat} {zs : List Int} {b : Bool} (h : LRd w g a cap zs b) : LRd ((w.setCell ⟨g, 0, none⟩ (.slice none 0 0)).setCell ⟨g, 1, none⟩ (.bool true)) g none 0 [] true ∧ Chg w ((w.setCell ⟨g, 0, none⟩ (.slice none 0 0)).setCell ⟨g, 1, none⟩ (.bool true)) (fun j => j = g) := by
  refine ⟨⟨?_, ?_, fun i => by rw [World.frozen?_setCell, World.frozen?_setCell]; exact h.free i, Row.nil _ _, fun e => absurd rfl e, by simp, by simp, fun _ => rfl⟩, ?_⟩
  · rw [set_off _ _ _ _ _ (by omega)]; exact World.cell?_setCell_same _ _ _ h.c0
  · exact World.cell?_setCell_same _ _ _ ((set_off _ _ _ _ _ (by omega)).trans h.c1)
  · exact (Chg.set (X := fun j => j = g) w ⟨g, 0, none⟩ _ rfl).trans (Chg.set (X := fun j => j = g) _ ⟨g, 1, none⟩ _ rfl) (fun _ _ x => x)
/-- Some bytes are taken. -/
theorem LRd.on {w : World} {g : Nat} {a : Option Addr} {cap : Nat} {zs : List Int} {b : Bool} (h : LRd w g a cap zs b) (k : Nat) (hk : k ≤ zs.length) : LRd (w.setCell ⟨g, 0, none⟩ (.slice (cutA a cap k) (zs.length - k) (cap - k))) g (cutA a cap k) (cap - k) (zs.drop k) b ∧ Chg w (w.setCell ⟨g, 0, none⟩ (.slice (cutA a cap k) (zs.length - k) (cap - k))) (fun j => j = g) := by
  have hc : Chg w (w.setCell ⟨g, 0, none⟩ (.slice (cutA a cap k) (zs.length - k) (cap - k))) (fun j => j = g) := Chg.set w ⟨g, 0, none⟩ _ rfl
  have hf : zs.drop k ≠ [] → ∀ b o s, cutA a cap k = some ⟨b, o, s⟩ → b < g := by
    intro hz b0 o s e
    have hzs : zs ≠ [] := fun e0 => hz (by rw [e0]; simp)
    unfold cutA at e
    by_cases h1 : cap = k
    · exfalso; apply hz; exact List.drop_eq_nil_of_le (by have := h.few; omega)
    · rw [if_neg h1] at e
      cases a with
      | none => simp at e
      | some x =>
        obtain ⟨b1, o1, s1⟩ := x
        have hb : b1 = b0 := by
          simp only [Option.map_some, Option.some.injEq] at e
          unfold Addr.add at e
          split at e <;> (injection e)
        rw [← hb]
        exact h.far hzs b1 o1 s1 rfl
  refine ⟨⟨?_, (set_off _ _ _ _ _ (by omega)).trans h.c1, fun i => by rw [World.frozen?_setCell]; exact h.free i, (h.row.cut cap k h.few).chg hc (fun hz b o s e e0 => by have := hf hz b o s e; omega), hf, ?_, ?_, fun e => by rw [h.gone e]; simp⟩, hc⟩
  · rw [List.length_drop]; exact World.cell?_setCell_same _ _ _ h.c0
  · rw [List.length_drop]; have := h.few; omega
  · rw [List.length_drop]; have := h.most; omega
end Go.Proofs.Ytcppihpehipelaa

