/-
  Keys that a call makes and writes: the laws of its block.
  The document's own order of keys (hourglassref10: Cmp).
  What the document's own keys (hourglassref10: Good, Cmp, Text, Within, Sum, Of) answer.
  What the document's own keys of texts (hourglassref10: Of) answer.
  What the document reads next: a key.
  What package bits answers, for every input: Zig, Zag, goodEnd, Len, Get, Put.
  Records in bytes, read piece by piece with a bound for each: the same as chapter 14's own reading. No program is named here.
-/
import Derived.Test.YtcppihpehipelaaAu33
import Derived.BigRegion
import Derived.Lib.LazyBuf
import Derived.Test.YtcppihpehipelaaAu50
import Derived.Test.YtcppihpehipelaaAu30
namespace Go.Proofs.Ytcppihpehipelaa
open Go.RowKit
set_option linter.unusedVariables false

theorem below_cells {B : Nat} {a : World} {b : Nat} (hB : B ≤ b) : ∀ {vs : List Value} {o : Nat} {w : World}, Below B a w → Below B a (w.setCells b o vs)
  | [], _, _, h => h
  | v :: r, o, w, h => below_cells hB (vs := r) (h.setCell (p := ⟨b, o, none⟩) hB v)
theorem size_cells (b : Nat) : ∀ (vs : List Value) (o : Nat) (w : World), (w.setCells b o vs).heap.size = w.heap.size
  | [], _, _ => rfl
  | v :: r, o, w => by rw [World.setCells, size_cells b r, World.size_setCell]
/-- A key that lies in a block that may be written. -/
structure KeyMine (w : World) (b o : Nat) (k : List Int) : Prop where
  lies : KeyAt w b o k
  free : ∀ i, i < 16 → w.frozen? ⟨b, o + i, none⟩ = false
  ky : Ky k
theorem KeyMine.made (w : World) (T : TypeId) (k : List Int) (hk : Ky k) : KeyMine (w.alloc (.cells (kcs k) T)) w.heap.size 0 k :=
  ⟨KeyAt.made w T k hk, fun i hi => World.frozen?_alloc_new _ _ _ _, hk⟩
theorem KeyMine.below {w w' : World} {b o B : Nat} {k : List Int} (h : KeyMine w b o k) (hb : Below B w w') (hB : b < B) : KeyMine w' b o k :=
  ⟨h.lies.below hb hB, fun i hi => by rw [hb.frozen (p := ⟨b, o + i, none⟩) hB]; exact h.free i hi, h.ky⟩
theorem KeyMine.alloc {w : World} {b o : Nat} {k : List Int} (h : KeyMine w b o k) (ob : Obj) : KeyMine (w.alloc ob) b o k :=
  h.below ((Below.refl w.heap.size _).alloc (Nat.le_refl _) ob) h.lies.lt
theorem KeyMine.there {w : World} {b o : Nat} {k : List Int} (h : KeyMine w b o k) : w.there b o 16 :=
  fun j hj => ⟨by rw [h.lies.cell j hj]; rfl, h.free j hj⟩
theorem KeyMine.store {w : World} {b o : Nat} {k k' : List Int} (h : KeyMine w b o k) (hk : Ky k') : KeyMine (w.setCells b o (k'.map (Value.int .u8))) b o k' := by
  have ht := h.there
  have hl : (k'.map (Value.int .u8)).length = 16 := by rw [List.length_map]; exact hk.len
  rw [← hl] at ht
  have hr := World.rangeAt_setCells_same w b o (k'.map (Value.int .u8)) ht
  refine ⟨⟨fun i hi => ?_⟩, fun i hi => by rw [World.frozen?_setCells]; exact h.free i hi, hk⟩
  refine hr i _ ?_
  have hi' : i < k'.length := by rw [hk.len]; exact hi
  simp [List.getD, hi']
theorem KeyMine.other {w : World} {b o c o' : Nat} {k : List Int} {vs : List Value} (h : KeyMine w b o k) (hne : b ≠ c) : KeyMine (w.setCells c o' vs) b o k :=
  ⟨⟨fun i hi => by rw [World.cell?_setCells_out c vs o' w ⟨b, o + i, none⟩ (fun e _ => absurd e hne)]; exact h.lies.cell i hi⟩, fun i hi => by rw [World.frozen?_setCells]; exact h.free i hi, h.ky⟩
theorem KeyMine.aside {w : World} {b o : Nat} {k : List Int} {p : Addr} {v : Value} (h : KeyMine w b o k) (hne : b ≠ p.block) : KeyMine (w.setCell p v) b o k :=
  ⟨⟨fun i hi => by rw [World.cell?_setCell_other _ _ _ _ (by intro e; exact hne (by rw [e]))]; exact h.lies.cell i hi⟩, fun i hi => by rw [World.frozen?_setCell]; exact h.free i hi, h.ky⟩
theorem KeyMine.set {w : World} {b : Nat} {k : List Int} (h : KeyMine w b 0 k) (n : Nat) (z : Int) (hn : n < 16) (h0 : 0 ≤ z) (h1 : z ≤ 255) : KeyMine (w.setCell ⟨b, n, none⟩ (.int .u8 z)) b 0 (k.set n z) := by
  refine ⟨⟨fun i hi => ?_⟩, fun i hi => by rw [World.frozen?_setCell]; exact h.free i hi, ⟨by rw [List.length_set]; exact h.ky.len, fun y hy => ?_⟩⟩
  · rw [Nat.zero_add]
    by_cases e : n = i
    · subst e
      rw [World.cell?_setCell_same _ _ _ (h.lies.cell0 n hn)]
      have : n < k.length := by rw [h.ky.len]; exact hn
      simp [List.getD, this]
    · rw [World.cell?_setCell_other _ _ _ _ (by intro h'; injection h' with _ h2; exact e h2), h.lies.cell0 i hi]
      simp [List.getD, e]
  · rcases List.mem_or_eq_of_mem_set hy with h' | rfl
    · exact h.ky.bytes y h'
    · exact ⟨h0, h1⟩
end Go.Proofs.Ytcppihpehipelaa

namespace Go.Proofs.Ytcppihpehipelaa
open Go.RowKit
set_option linter.unusedVariables false

end Go.Proofs.Ytcppihpehipelaa

namespace Go.Proofs.Ytcppihpehipelaa
open Go.RowKit
set_option linter.unusedVariables false

/-- Three keys, each in a block of its own. -/
structure Three3 (w u : World) (k a b : List Int) : Prop where
  below : Below w.heap.size w u
  k : KeyAt u w.heap.size 0 k
  a : KeyAt u (w.heap.size + 1) 0 a
  b : KeyAt u (w.heap.size + 2) 0 b
theorem Three3.made (w : World) (T : TypeId) {k a b : List Int} (hk : Ky k) (ha : Ky a) (hb : Ky b) : Three3 w (((w.alloc (.cells (kcs k) T)).alloc (.cells (kcs a) T)).alloc (.cells (kcs b) T)) k a b := by
  have e1 := KeyAt.made w T k hk
  have e2 := KeyAt.made (w.alloc (.cells (kcs k) T)) T a ha
  have e3 := KeyAt.made ((w.alloc (.cells (kcs k) T)).alloc (.cells (kcs a) T)) T b hb
  rw [World.size_alloc] at e2
  rw [World.size_alloc, World.size_alloc] at e3
  exact ⟨(((Below.refl _ _).alloc (Nat.le_refl _) _).alloc (by simp) _).alloc (by simp; omega) _, (e1.alloc _).alloc _, e2.alloc _, e3⟩
theorem Three3.past {w u v : World} {k a b : List Int} (h : Three3 w u k a b) (hb : Below u.heap.size u v) : Three3 w v k a b :=
  ⟨h.below.trans (hb.mono h.below.size), h.k.past hb, h.a.past hb, h.b.past hb⟩
end Go.Proofs.Ytcppihpehipelaa

namespace Go.Proofs.Ytcppihpehipelaa
open Go.RowKit
set_option linter.unusedVariables false

/-- What Of's rounds hold: what is answered, what is made. -/
structure OfR (w u : World) (K : List Int) : Prop where
  below : Below w.heap.size w u
  res : KeyMine u w.heap.size 0 zeroK
  key : KeyMine u (w.heap.size + 1) 0 K
theorem OfR.made (w : World) (T : TypeId) : OfR w ((w.alloc (.cells (kcs zeroK) T)).alloc (.cells (kcs zeroK) T)) zeroK := by
  have e1 := KeyMine.made w T zeroK zeroK_ky
  have e2 := KeyMine.made (w.alloc (.cells (kcs zeroK) T)) T zeroK zeroK_ky
  rw [World.size_alloc] at e2
  exact ⟨((Below.refl _ _).alloc (Nat.le_refl _) _).alloc (by simp) _, e1.alloc _, e2⟩
theorem OfR.store {w u : World} {K : List Int} (h : OfR w u K) {k : List Int} (hk : Ky k) : OfR w (u.setCells (w.heap.size + 1) 0 (k.map (Value.int .u8))) k :=
  ⟨below_cells (by omega) h.below, h.res.other (by omega), h.key.store hk⟩
theorem OfR.set {w u : World} {K : List Int} (h : OfR w u K) (n : Nat) (z : Int) (hn : n < 16) (h0 : 0 ≤ z) (h1 : z ≤ 255) : OfR w (u.setCell ⟨w.heap.size + 1, n, none⟩ (.int .u8 z)) (K.set n z) :=
  ⟨h.below.setCell (by show w.heap.size ≤ w.heap.size + 1; omega) _, h.res.aside (by show w.heap.size ≠ w.heap.size + 1; omega), h.key.set n z hn h0 h1⟩
/-- What is answered is laid. -/
structure OfD (w u : World) (K : List Int) : Prop where
  below : Below w.heap.size w u
  lies : KeyAt u w.heap.size 0 K
  ky : Ky K
theorem OfR.done {w u : World} {K : List Int} (h : OfR w u K) {k : List Int} (hk : Ky k) : OfD w (u.setCells w.heap.size 0 (k.map (Value.int .u8))) k :=
  ⟨below_cells (Nat.le_refl _) h.below, (h.res.store hk).lies, hk⟩
end Go.Proofs.Ytcppihpehipelaa

namespace Go.Proofs.Ytcppihpehipelaa
open Go.RowKit
set_option linter.unusedVariables false

theorem KeyMine.chg {w w' : World} {b o : Nat} {k : List Int} {X : Foot} (h : KeyMine w b o k) (hc : Chg w w' X) (hX : ¬ X b) : KeyMine w' b o k := by
  have hl : b < w.heap.size := by
    have := h.lies.cell 0 (by omega)
    exact lt_of_cell this
  have hb := hc.block b hl hX
  exact ⟨⟨fun j hj => (cell_of_block hb _).1.trans (h.lies.cell j hj)⟩, fun i hi => (cell_of_block hb _).2.trans (h.free i hi), h.ky⟩
end Go.Proofs.Ytcppihpehipelaa

namespace Go.Proofs.Ytcppihpehipelaa
open Go.RowKit
set_option linter.unusedVariables false

end Go.Proofs.Ytcppihpehipelaa

namespace Go.Proofs.Ytcppihpehipelaa
set_option linter.unusedVariables false

def flagP : Pr Bool := seqP (countP 1) fun v => retP (decide (v = 1))
def txtP : Pr (List Int) := seqP (countP 200) fun n => bytesP n
def wrP : Pr Wrt := seqP (bytesP 16) fun k => seqP flagP fun g => seqP txtP fun v => retP ⟨k, v, g⟩
abbrev Bys (zs : List Int) : Prop := ∀ z ∈ zs, 0 ≤ z ∧ z ≤ 255
theorem Bys.drop {zs : List Int} (h : Bys zs) (n : Nat) : Bys (zs.drop n) := fun z hz => h z (List.mem_of_mem_drop hz)
/-- What is left of bytes is bytes. -/
def Keeps {α : Type} (p : Pr α) : Prop := ∀ zs a r, Bys zs → p zs = some (a, r) → Bys r
theorem Keeps.seq {α β : Type} {p : Pr α} {f : α → Pr β} (hp : Keeps p) (hf : ∀ a, Keeps (f a)) : Keeps (seqP p f) := by
  intro zs b r hz h
  cases e : p zs with
  | none => rw [seq_none e] at h; simp at h
  | some x =>
    obtain ⟨a, s⟩ := x
    rw [seq_some e] at h
    exact hf a _ _ _ (hp _ _ _ hz e) h
theorem Keeps.ret {α : Type} (a : α) : Keeps (retP a) := by
  intro zs b r hz h
  simp [retP] at h
  obtain ⟨_, rfl⟩ := h
  exact hz
theorem Keeps.no {α : Type} : Keeps (noneP (α := α)) := by intro zs b r hz h; simp [noneP] at h
end Go.Proofs.Ytcppihpehipelaa

