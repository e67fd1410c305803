/-
  The document's own order of keys (hourglassref10: Cmp).
  What the document's own keys (hourglassref10: Good, Cmp, Text, Within, Sum, Of) answer.
  What the document's own keys of texts (hourglassref10: Of) answer.
  What the document reads next: a key.
  What package bits answers, for every input: Zig, Zag, goodEnd, Len, Get, Put.
  Records in bytes, read piece by piece with a bound for each: the same as chapter 14's own reading. No program is named here.
-/
import Derived.Test.YtcppihpehipelaaAu42
import Derived.BigRegion
import Derived.Test.YtcppihpehipelaaAu38
import Derived.Lib.LazyBuf
import Derived.Test.YtcppihpehipelaaAu52
import Derived.Test.YtcppihpehipelaaAu33
namespace Go.Proofs.Ytcppihpehipelaa
open Go.RowKit
set_option linter.unusedVariables false

end Go.Proofs.Ytcppihpehipelaa

namespace Go.Proofs.Ytcppihpehipelaa
open Go.RowKit
set_option linter.unusedVariables false

/-- Three keys, each in a block of its own. -/
structure Three3 (w u : World) (k a b : List Int) : Prop where
  below : Below w.heap.size w u
  k : KeyAt u w.heap.size 0 k
  a : KeyAt u (w.heap.size + 1) 0 a
  b : KeyAt u (w.heap.size + 2) 0 b
theorem Three3.made (w : World) (T : TypeId) {k a b : List Int} (hk : Ky k) (ha : Ky a) (hb : Ky b) : Three3 w (((w.alloc (.cells (kcs k) T)).alloc (.cells (kcs a) T)).alloc (.cells (kcs b) T)) k a b := by
  have e1 := KeyAt.made w T k hk
  have e2 := KeyAt.made (w.alloc (.cells (kcs k) T)) T a ha
  have e3 := KeyAt.made ((w.alloc (.cells (kcs k) T)).alloc (.cells (kcs a) T)) T b hb
  rw [World.size_alloc] at e2
  rw [World.size_alloc, World.size_alloc] at e3
  exact ⟨(((Below.refl _ _).alloc (Nat.le_refl _) _).alloc (by simp) _).alloc (by simp; omega) _, (e1.alloc _).alloc _, e2.alloc _, e3⟩
theorem Three3.past {w u v : World} {k a b : List Int} (h : Three3 w u k a b) (hb : Below u.heap.size u v) : Three3 w v k a b :=
  ⟨h.below.trans (hb.mono h.below.size), h.k.past hb, h.a.past hb, h.b.past hb⟩
end Go.Proofs.Ytcppihpehipelaa

namespace Go.Proofs.Ytcppihpehipelaa
open Go.RowKit
set_option linter.unusedVariables false

/-- What Of's rounds hold: what is answered, what is made. -/
structure OfR (w u : World) (K : List Int) : Prop where
  below : Below w.heap.size w u
  res : KeyMine u w.heap.size 0 zeroK
  key : KeyMine u (w.heap.size + 1) 0 K
theorem OfR.made (w : World) (T : TypeId) : OfR w ((w.alloc (.cells (kcs zeroK) T)).alloc (.cells (kcs zeroK) T)) zeroK := by
  have e1 := KeyMine.made w T zeroK zeroK_ky
  have e2 := KeyMine.made (w.alloc (.cells (kcs zeroK) T)) T zeroK zeroK_ky
  rw [World.size_alloc] at e2
  exact ⟨((Below.refl _ _).alloc (Nat.le_refl _) _).alloc (by simp) _, e1.alloc _, e2⟩
theorem OfR.store {w u : World} {K : List Int} (h : OfR w u K) {k : List Int} (hk : Ky k) : OfR w (u.setCells (w.heap.size + 1) 0 (k.map (Value.int .u8))) k :=
  ⟨below_cells (by omega) h.below, h.res.other (by omega), h.key.store hk⟩
theorem OfR.set {w u : World} {K : List Int} (h : OfR w u K) (n : Nat) (z : Int) (hn : n < 16) (h0 : 0 ≤ z) (h1 : z ≤ 255) : OfR w (u.setCell ⟨w.heap.size + 1, n, none⟩ (.int .u8 z)) (K.set n z) :=
  ⟨h.below.setCell (by show w.heap.size ≤ w.heap.size + 1; omega) _, h.res.aside (by show w.heap.size ≠ w.heap.size + 1; omega), h.key.set n z hn h0 h1⟩
/-- What is answered is laid. -/
structure OfD (w u : World) (K : List Int) : Prop where
  below : Below w.heap.size w u
  lies : KeyAt u w.heap.size 0 K
  ky : Ky K
theorem OfR.done {w u : World} {K : List Int} (h : OfR w u K) {k : List Int} (hk : Ky k) : OfD w (u.setCells w.heap.size 0 (k.map (Value.int .u8))) k :=
  ⟨below_cells (Nat.le_refl _) h.below, (h.res.store hk).lies, hk⟩
end Go.Proofs.Ytcppihpehipelaa

namespace Go.Proofs.Ytcppihpehipelaa
open Go.RowKit
set_option linter.unusedVariables false

theorem KeyMine.chg {w w' : World} {b o : Nat} {k : List Int} {X : Foot} (h : KeyMine w b o k) (hc : Chg w w' X) (hX : ¬ X b) : KeyMine w' b o k := by
  have hl : b < w.heap.size := by
    have := h.lies.cell 0 (by omega)
    exact lt_of_cell this
  have hb := hc.block b hl hX
  exact ⟨⟨fun j hj => (cell_of_block hb _).1.trans (h.lies.cell j hj)⟩, fun i hi => (cell_of_block hb _).2.trans (h.free i hi), h.ky⟩
end Go.Proofs.Ytcppihpehipelaa

namespace Go.Proofs.Ytcppihpehipelaa
open Go.RowKit
set_option linter.unusedVariables false

end Go.Proofs.Ytcppihpehipelaa

namespace Go.Proofs.Ytcppihpehipelaa
set_option linter.unusedVariables false

def flagP : Pr Bool := seqP (countP 1) fun v => retP (decide (v = 1))
def txtP : Pr (List Int) := seqP (countP 200) fun n => bytesP n
def wrP : Pr Wrt := seqP (bytesP 16) fun k => seqP flagP fun g => seqP txtP fun v => retP ⟨k, v, g⟩
abbrev Bys (zs : List Int) : Prop := ∀ z ∈ zs, 0 ≤ z ∧ z ≤ 255
theorem Bys.drop {zs : List Int} (h : Bys zs) (n : Nat) : Bys (zs.drop n) := fun z hz => h z (List.mem_of_mem_drop hz)
/-- What is left of bytes is bytes. -/
def Keeps {α : Type} (p : Pr α) : Prop := ∀ zs a r, Bys zs → p zs = some (a, r) → Bys r
theorem Keeps.seq {α β : Type} {p : Pr α} {f : α → Pr β} (hp : Keeps p) (hf : ∀ a, Keeps (f a)) : Keeps (seqP p f) := by
  intro zs b r hz h
  cases e : p zs with
  | none => rw [seq_none e] at h; simp at h
  | some x =>
    obtain ⟨a, s⟩ := x
    rw [seq_some e] at h
    exact hf a _ _ _ (hp _ _ _ hz e) h
theorem Keeps.ret {α : Type} (a : α) : Keeps (retP a) := by
  intro zs b r hz h
  simp [retP] at h
  obtain ⟨_, rfl⟩ := h
  exact hz
theorem Keeps.no {α : Type} : Keeps (noneP (α := α)) := by intro zs b r hz h; simp [noneP] at h
end Go.Proofs.Ytcppihpehipelaa

