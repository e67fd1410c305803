/-
  The landed rec: get.
  The landed rec: get, kind by kind.
  The landed rec: Get.
-/
import Derived.Test.YtmiafadmcpmjgaaRl
import Derived.Test.YtmiafadmcpmjgaaLm
import Derived.Test.YtmiafadmcpmjgaaLg
namespace Go.Proofs.Ytmiafadmcpmjgaa
open Go.RowKit
set_option linter.unusedVariables false
set_option linter.unusedSimpArgs false

theorem off_same {u : World} {q i : Nat} {v x : Value} (h : u.cell? ⟨q, i, none⟩ = some x) : (u.setCell ⟨q, i, none⟩ v).cell? ⟨q, i, none⟩ = some v := World.cell?_setCell_same _ _ _ h
theorem off_else {u : World} {q i j : Nat} {v x : Value} (h : u.cell? ⟨q, j, none⟩ = some x) (e : j ≠ i) : (u.setCell ⟨q, i, none⟩ v).cell? ⟨q, j, none⟩ = some x := (set_off _ _ _ _ _ e).trans h
theorem RBox.set1 {u : World} {b : Nat} {kd id s m t n : Int} {a : Option Addr} {N c : Nat} {y : Bool} {pa : Option Addr} {M pc : Nat} (h : RBox u b kd id s m t n a N c y pa M pc) (x : Int) : RBox (u.setCell ⟨b, 1, none⟩ (.int .i64 x)) b kd x s m t n a N c y pa M pc :=
  ⟨off_else h.c0 (by omega), off_same h.c1, off_else h.c2 (by omega), off_else h.c3 (by omega), off_else h.c4 (by omega), off_else h.c5 (by omega), off_else h.c6 (by omega), off_else h.c7 (by omega), off_else h.c8 (by omega)⟩
theorem RBox.set2 {u : World} {b : Nat} {kd id s m t n : Int} {a : Option Addr} {N c : Nat} {y : Bool} {pa : Option Addr} {M pc : Nat} (h : RBox u b kd id s m t n a N c y pa M pc) (x z : Int) : RBox ((u.setCell ⟨b, 2, none⟩ (.int .i64 x)).setCell ⟨b, 3, none⟩ (.int .u8 z)) b kd id x z t n a N c y pa M pc :=
  ⟨off_else (off_else h.c0 (by omega)) (by omega), off_else (off_else h.c1 (by omega)) (by omega), off_else (off_same h.c2) (by omega), off_same (off_else h.c3 (by omega)), off_else (off_else h.c4 (by omega)) (by omega), off_else (off_else h.c5 (by omega)) (by omega), off_else (off_else h.c6 (by omega)) (by omega), off_else (off_else h.c7 (by omega)) (by omega), off_else (off_else h.c8 (by omega)) (by omega)⟩
theorem RBox.set4 {u : World} {b : Nat} {kd id s m t n : Int} {a : Option Addr} {N c : Nat} {y : Bool} {pa : Option Addr} {M pc : Nat} (h : RBox u b kd id s m t n a N c y pa M pc) (x z : Int) : RBox ((u.setCell ⟨b, 4, none⟩ (.int .i64 x)).setCell ⟨b, 5, none⟩ (.int .u8 z)) b kd id s m x z a N c y pa M pc :=
  ⟨off_else (off_else h.c0 (by omega)) (by omega), off_else (off_else h.c1 (by omega)) (by omega), off_else (off_else h.c2 (by omega)) (by omega), off_else (off_else h.c3 (by omega)) (by omega), off_else (off_same h.c4) (by omega), off_same (off_else h.c5 (by omega)), off_else (off_else h.c6 (by omega)) (by omega), off_else (off_else h.c7 (by omega)) (by omega), off_else (off_else h.c8 (by omega)) (by omega)⟩
theorem RBox.set6 {u : World} {b : Nat} {kd id s m t n : Int} {a : Option Addr} {N c : Nat} {y : Bool} {pa : Option Addr} {M pc : Nat} (h : RBox u b kd id s m t n a N c y pa M pc) (a' : Option Addr) (N' c' : Nat) : RBox (u.setCell ⟨b, 6, none⟩ (.slice a' N' c')) b kd id s m t n a' N' c' y pa M pc :=
  ⟨off_else h.c0 (by omega), off_else h.c1 (by omega), off_else h.c2 (by omega), off_else h.c3 (by omega), off_else h.c4 (by omega), off_else h.c5 (by omega), off_same h.c6, off_else h.c7 (by omega), off_else h.c8 (by omega)⟩
theorem RBox.set7 {u : World} {b : Nat} {kd id s m t n : Int} {a : Option Addr} {N c : Nat} {y : Bool} {pa : Option Addr} {M pc : Nat} (h : RBox u b kd id s m t n a N c y pa M pc) (x : Bool) : RBox (u.setCell ⟨b, 7, none⟩ (.bool x)) b kd id s m t n a N c x pa M pc :=
  ⟨off_else h.c0 (by omega), off_else h.c1 (by omega), off_else h.c2 (by omega), off_else h.c3 (by omega), off_else h.c4 (by omega), off_else h.c5 (by omega), off_else h.c6 (by omega), off_same h.c7, off_else h.c8 (by omega)⟩
theorem RBox.set8 {u : World} {b : Nat} {kd id s m t n : Int} {a : Option Addr} {N c : Nat} {y : Bool} {pa : Option Addr} {M pc : Nat} (h : RBox u b kd id s m t n a N c y pa M pc) (a' : Option Addr) (N' c' : Nat) : RBox (u.setCell ⟨b, 8, none⟩ (.slice a' N' c')) b kd id s m t n a N c y a' N' c' :=
  ⟨off_else h.c0 (by omega), off_else h.c1 (by omega), off_else h.c2 (by omega), off_else h.c3 (by omega), off_else h.c4 (by omega), off_else h.c5 (by omega), off_else h.c6 (by omega), off_else h.c7 (by omega), off_same h.c8⟩
/-- All nine. -/
theorem RBox.set9 {u : World} {b : Nat} {kd id s m t n : Int} {a : Option Addr} {N c : Nat} {y : Bool} {pa : Option Addr} {M pc : Nat} (h : RBox u b kd id s m t n a N c y pa M pc) (kd' id' s' m' t' n' : Int) (a' : Option Addr) (N' c' : Nat) (y' : Bool) (pa' : Option Addr) (M' pc' : Nat) : RBox (u.setCells b 0 [.int .i64 kd', .int .i64 id', .int .i64 s', .int .u8 m', .int .i64 t', .int .u8 n', .slice a' N' c', .bool y', .slice pa' M' pc']) b kd' id' s' m' t' n' a' N' c' y' pa' M' pc' := by
  have e0 : ∀ (v : Value), u.cell? ⟨b, 0, none⟩ = some (.int .i64 kd) → (u.setCell ⟨b, 0, none⟩ v).cell? ⟨b, 0, none⟩ = some v := fun v h => off_same h
  refine ⟨?_, ?_, ?_, ?_, ?_, ?_, ?_, ?_, ?_⟩
  · exact off_else (off_else (off_else (off_else (off_else (off_else (off_else (off_else (off_same h.c0) (by omega)) (by omega)) (by omega)) (by omega)) (by omega)) (by omega)) (by omega)) (by omega)
  · exact off_else (off_else (off_else (off_else (off_else (off_else (off_else (off_same (off_else h.c1 (by omega))) (by omega)) (by omega)) (by omega)) (by omega)) (by omega)) (by omega)) (by omega)
  · exact off_else (off_else (off_else (off_else (off_else (off_else (off_same (off_else (off_else h.c2 (by omega)) (by omega))) (by omega)) (by omega)) (by omega)) (by omega)) (by omega)) (by omega)
  · exact off_else (off_else (off_else (off_else (off_else (off_same (off_else (off_else (off_else h.c3 (by omega)) (by omega)) (by omega))) (by omega)) (by omega)) (by omega)) (by omega)) (by omega)
  · exact off_else (off_else (off_else (off_else (off_same (off_else (off_else (off_else (off_else h.c4 (by omega)) (by omega)) (by omega)) (by omega))) (by omega)) (by omega)) (by omega)) (by omega)
  · exact off_else (off_else (off_else (off_same (off_else (off_else (off_else (off_else (off_else h.c5 (by omega)) (by omega)) (by omega)) (by omega)) (by omega))) (by omega)) (by omega)) (by omega)
  · exact off_else (off_else (off_same (off_else (off_else (off_else (off_else (off_else (off_else h.c6 (by omega)) (by omega)) (by omega)) (by omega)) (by omega)) (by omega))) (by omega)) (by omega)
  · exact off_else (off_same (off_else (off_else (off_else (off_else (off_else (off_else (off_else h.c7 (by omega)) (by omega)) (by omega)) (by omega)) (by omega)) (by omega)) (by omega))) (by omega)
  · exact off_same (off_else (off_else (off_else (off_else (off_else (off_else (off_else (off_else h.c8 (by omega)) (by omega)) (by omega)) (by omega)) (by omega)) (by omega)) (by omega)) (by omega))
/-- A record in a box, another for the answer, and the reader beside them. -/
structure GB (w u : World) (g q : Nat) (zs : List Int) (b : Bool) (kd id s m t n : Int) (a : Option Addr) (N c : Nat) (y : Bool) (pa : Option Addr) (M pc : Nat) : Prop where
  lr : LR u g zs b
  chg : Chg w u (fun j => j = g)
  box : RBox u q kd id s m t n a N c y pa M pc
  free : ∀ i, u.frozen? ⟨q, i, none⟩ = false
  res : RBox u w.heap.size 0 0 0 0 0 0 none 0 0 false none 0 0
  rfree : ∀ i, u.frozen? ⟨w.heap.size, i, none⟩ = false
  hq : w.heap.size < q
  hg : g < w.heap.size
theorem GB.turn {w u u' : World} {g q : Nat} {zs zs' : List Int} {b b' : Bool} {kd id s m t n : Int} {a : Option Addr} {N c : Nat} {y : Bool} {pa : Option Addr} {M pc : Nat} (h : GB w u g q zs b kd id s m t n a N c y pa M pc) (hc : Chg u u' (fun j => j = g)) (hl : LR u' g zs' b') : GB w u' g q zs' b' kd id s m t n a N c y pa M pc := by
  have h1 := h.hq
  have h2 := h.hg
  have b1 := hc.block q h.box.lt (by omega)
  have b2 := hc.block w.heap.size h.res.lt (by omega)
  exact ⟨hl, h.chg.trans hc (fun _ _ x => x), h.box.kept b1, fun i => (cell_of_block b1 i).2.trans (h.free i), h.res.kept b2, fun i => (cell_of_block b2 i).2.trans (h.rfree i), h.hq, h.hg⟩
/-- The box alone turns. -/
theorem GB.set {w u u' : World} {g q : Nat} {zs : List Int} {b : Bool} {kd id s m t n : Int} {a : Option Addr} {N c : Nat} {y : Bool} {pa : Option Addr} {M pc : Nat} {kd' id' s' m' t' n' : Int} {a' : Option Addr} {N' c' : Nat} {y' : Bool} {pa' : Option Addr} {M' pc' : Nat} (h : GB w u g q zs b kd id s m t n a N c y pa M pc) (hc : Chg u u' (fun j => j = q)) (hf : ∀ i, u'.frozen? ⟨q, i, none⟩ = u.frozen? ⟨q, i, none⟩) (hb : RBox u' q kd' id' s' m' t' n' a' N' c' y' pa' M' pc') : GB w u' g q zs b kd' id' s' m' t' n' a' N' c' y' pa' M' pc' := by
  have h1 := h.hq
  have h2 := h.hg
  have b2 := hc.block w.heap.size h.res.lt (by omega)
  exact ⟨h.lr.above hc (fun j e => by omega), h.chg.trans hc (fun j hj e => by omega), hb, fun i => (hf i).trans (h.free i), h.res.kept b2, fun i => (cell_of_block b2 i).2.trans (h.rfree i), h.hq, h.hg⟩
theorem GB.set1 {w u : World} {g q : Nat} {zs : List Int} {b : Bool} {kd id s m t n : Int} {a : Option Addr} {N c : Nat} {y : Bool} {pa : Option Addr} {M pc : Nat} (h : GB w u g q zs b kd id s m t n a N c y pa M pc) (x : Int) : GB w (u.setCell ⟨q, 1, none⟩ (.int .i64 x)) g q zs b kd x s m t n a N c y pa M pc :=
  h.set (Chg.set u ⟨q, 1, none⟩ _ rfl) (fun i => by rw [World.frozen?_setCell]) (h.box.set1 x)
theorem GB.set2 {w u : World} {g q : Nat} {zs : List Int} {b : Bool} {kd id s m t n : Int} {a : Option Addr} {N c : Nat} {y : Bool} {pa : Option Addr} {M pc : Nat} (h : GB w u g q zs b kd id s m t n a N c y pa M pc) (x z : Int) : GB w ((u.setCell ⟨q, 2, none⟩ (.int .i64 x)).setCell ⟨q, 3, none⟩ (.int .u8 z)) g q zs b kd id x z t n a N c y pa M pc :=
  h.set ((Chg.set (X := fun j => j = q) u ⟨q, 2, none⟩ _ rfl).trans (Chg.set (X := fun j => j = q) _ ⟨q, 3, none⟩ _ rfl) (fun _ _ x => x)) (fun i => by rw [World.frozen?_setCell, World.frozen?_setCell]) (h.box.set2 x z)
theorem GB.set4 {w u : World} {g q : Nat} {zs : List Int} {b : Bool} {kd id s m t n : Int} {a : Option Addr} {N c : Nat} {y : Bool} {pa : Option Addr} {M pc : Nat} (h : GB w u g q zs b kd id s m t n a N c y pa M pc) (x z : Int) : GB w ((u.setCell ⟨q, 4, none⟩ (.int .i64 x)).setCell ⟨q, 5, none⟩ (.int .u8 z)) g q zs b kd id s m x z a N c y pa M pc :=
  h.set ((Chg.set (X := fun j => j = q) u ⟨q, 4, none⟩ _ rfl).trans (Chg.set (X := fun j => j = q) _ ⟨q, 5, none⟩ _ rfl) (fun _ _ x => x)) (fun i => by rw [World.frozen?_setCell, World.frozen?_setCell]) (h.box.set4 x z)
theorem GB.set6 {w u : World} {g q : Nat} {zs : List Int} {b : Bool} {kd id s m t n : Int} {a : Option Addr} {N c : Nat} {y : Bool} {pa : Option Addr} {M pc : Nat} (h : GB w u g q zs b kd id s m t n a N c y pa M pc) (a' : Option Addr) (N' c' : Nat) : GB w (u.setCell ⟨q, 6, none⟩ (.slice a' N' c')) g q zs b kd id s m t n a' N' c' y pa M pc :=
  h.set (Chg.set u ⟨q, 6, none⟩ _ rfl) (fun i => by rw [World.frozen?_setCell]) (h.box.set6 a' N' c')
theorem GB.set7 {w u : World} {g q : Nat} {zs : List Int} {b : Bool} {kd id s m t n : Int} {a : Option Addr} {N c : Nat} {y : Bool} {pa : Option Addr} {M pc : Nat} (h : GB w u g q zs b kd id s m t n a N c y pa M pc) (x : Bool) : GB w (u.setCell ⟨q, 7, none⟩ (.bool x)) g q zs b kd id s m t n a N c x pa M pc :=
  h.set (Chg.set u ⟨q, 7, none⟩ _ rfl) (fun i => by rw [World.frozen?_setCell]) (h.box.set7 x)
theorem GB.set8 {w u : World} {g q : Nat} {zs : List Int} {b : Bool} {kd id s m t n : Int} {a : Option Addr} {N c : Nat} {y : Bool} {pa : Option Addr} {M pc : Nat} (h : GB w u g q zs b kd id s m t n a N c y pa M pc) (a' : Option Addr) (N' c' : Nat) : GB w (u.setCell ⟨q, 8, none⟩ (.slice a' N' c')) g q zs b kd id s m t n a N c y a' N' c' :=
  h.set (Chg.set u ⟨q, 8, none⟩ _ rfl) (fun i => by rw [World.frozen?_setCell]) (h.box.set8 a' N' c')
theorem ints_kept {u u' : World} {a : Option Addr} {l : List Int} (h : IntsAt u a l) (hk : l ≠ [] → ∀ b o, a = some ⟨b, o, none⟩ → u'.heap[b]? = u.heap[b]?) : IntsAt u' a l := by
  refine ⟨?_, h.bounds⟩
  rcases h.cells with e | ⟨b, o, e, hc⟩
  · exact .inl e
  · by_cases hl : l = []
    · exact .inl hl
    · exact .inr ⟨b, o, e, fun j hj => (cell_of_block (hk hl b o e) _).1.trans (hc j hj)⟩
theorem ints_blt {u : World} {a : Option Addr} {l : List Int} (h : IntsAt u a l) (hl : l ≠ []) {b o : Nat} (e : a = some ⟨b, o, none⟩) : b < u.heap.size := by
  rcases h.cells with e2 | ⟨b2, o2, e2, hc⟩
  · exact absurd e2 hl
  · rw [e] at e2
    cases e2
    cases l with
    | nil => exact absurd rfl hl
    | cons x r => exact cell_lt (hc 0 (by simp))
/-- Lists that lie above all that turns. -/
theorem wrts_over {u u' : World} {a : Option Addr} {l : List Wrt} {X : Foot} {B : Nat} (h : WrtsAt u a l) (hc : Chg u u' X) (hX : ∀ j, X j → j < B) (hb : l ≠ [] → ∀ b o, a = some ⟨b, o, none⟩ → B ≤ b) : WrtsAt u' a l :=
  h.kept (fun hl b o e => hc.block b (h.blt hl e) (fun x => by have := hX b x; have := hb hl b o e; omega))
theorem ints_over {u u' : World} {a : Option Addr} {l : List Int} {X : Foot} {B : Nat} (h : IntsAt u a l) (hc : Chg u u' X) (hX : ∀ j, X j → j < B) (hb : l ≠ [] → ∀ b o, a = some ⟨b, o, none⟩ → B ≤ b) : IntsAt u' a l :=
  ints_kept h (fun hl b o e => hc.block b (ints_blt h hl e) (fun x => by have := hX b x; have := hb hl b o e; omega))
theorem GB.done {w u : World} {g q : Nat} {zs : List Int} {b : Bool} {kd id s m t n : Int} {a : Option Addr} {N c : Nat} {y : Bool} {pa : Option Addr} {M pc : Nat} (h : GB w u g q zs b kd id s m t n a N c y pa M pc) (vs : List Value) : LR (u.setCells w.heap.size 0 vs) g zs b ∧ Chg w (u.setCells w.heap.size 0 vs) (fun j => j = g) := by
  have h2 := h.hg
  have c := chg_cells w.heap.size vs 0 u
  exact ⟨h.lr.above c (fun j e => by omega), h.chg.trans c (fun j hj e => by omega)⟩
theorem GB.made {w w1 : World} {g : Nat} {zs : List Int} {b : Bool} (T : TypeId) (kd : Int) (hg : g < w.heap.size) (L : LR w1 g zs b) (C : Chg (w.alloc (.cells #[.int .i64 0, .int .i64 0, .int .i64 0, .int .u8 0, .int .i64 0, .int .u8 0, .slice none 0 0, .bool false, .slice none 0 0] T)) w1 (fun j => j = g)) :
    GB w (w1.alloc (.cells #[.int .i64 kd, .int .i64 0, .int .i64 0, .int .u8 0, .int .i64 0, .int .u8 0, .slice none 0 0, .bool false, .slice none 0 0] T)) g w1.heap.size zs b kd 0 0 0 0 0 none 0 0 false none 0 0 := by
  have hs : w.heap.size < w1.heap.size := by have := C.size; rw [World.size_alloc] at this; omega
  have ba : Below w1.heap.size w1 (w1.alloc (.cells #[.int .i64 kd, .int .i64 0, .int .i64 0, .int .u8 0, .int .i64 0, .int .u8 0, .slice none 0 0, .bool false, .slice none 0 0] T)) := (Below.refl _ _).alloc (Nat.le_refl _) _
  have bk := C.block w.heap.size (by rw [World.size_alloc]; omega) (by omega)
  have r1 := ((RBox.made w T 0 0 0 0 0 0 none 0 0 false none 0 0).kept bk).past ba
  refine ⟨L.past ba, ((Chg.of_below ((Below.refl _ _).alloc (Nat.le_refl _) _) _).trans C (fun _ _ x => x)).trans (Chg.of_below ba _) (fun _ _ x => x), RBox.made w1 T kd 0 0 0 0 0 none 0 0 false none 0 0, fun i => World.frozen?_alloc_new _ _ _ _, r1, fun i => ?_, hs, hg⟩
  rw [ba.frozen (p := ⟨w.heap.size, i, none⟩) hs, (cell_of_block bk i).2]
  exact World.frozen?_alloc_new _ _ _ _
end Go.Proofs.Ytmiafadmcpmjgaa

namespace Go.Proofs.Ytmiafadmcpmjgaa
open Go.RowKit
set_option linter.unusedVariables false
set_option linter.unusedSimpArgs false

set_option maxHeartbeats 8000000 in
set_option maxRecDepth 8000 in
theorem lget_any (g : Nat) (zs : List Int) (b : Bool) (w : World) (h : LR w g zs b) :
    Calls Try.prog 25 #[.pointer (some ⟨g, 0, none⟩)] w fun e w' => ∃ x : RcM, e = .returned (rcv x) ∧ RcW w' x ∧ (∀ W ∈ x.r.l, W.v.length ≤ 200) ∧ x.r.l.length ≤ 16 ∧ x.r.ps.length ≤ 8 ∧ (x.r.l ≠ [] → ∀ b o, x.a = some ⟨b, o, none⟩ → w.heap.size ≤ b) ∧ (x.r.ps ≠ [] → ∀ b o, x.pa = some ⟨b, o, none⟩ → w.heap.size ≤ b) ∧ LRed w w' g zs b rcP x.r := by
  have H : Hid (LR (w.alloc (.cells #[.int .i64 0, .int .i64 0, .int .i64 0, .int .u8 0, .int .i64 0, .int .u8 0, .slice none 0 0, .bool false, .slice none 0 0] 28)) g zs b) := h.past ((Below.refl _ _).alloc (Nat.le_refl _) _)
  have HG : Hid (g < w.heap.size) := h.lt
  clear h
  go_enter Try.func25, Try.ntmps25
  go_wp2_with (first
    | (have hgo := H.out; clear hgo; go_at_call 59; refine (lupto_any g zs b 5 (by omega) (by omega) _ H.out).mono ?_; rintro e w1 ⟨kd, rfl, k0, k1, ⟨zs1, b1, L1, C1, D1⟩⟩; have G1 : Hid (GB w (w1.alloc (.cells #[.int .i64 kd, .int .i64 0, .int .i64 0, .int .u8 0, .int .i64 0, .int .u8 0, .slice none 0 0, .bool false, .slice none 0 0] 28)) g w1.heap.size zs1 b1 kd 0 0 0 0 0 none 0 0 false none 0 0) := GB.made 28 kd HG.out L1 C1; have HD1 : Hid (Rds (countP 5) (stL zs b) (stL zs1 b1) kd) := D1; have HK : Hid (0 ≤ kd ∧ kd ≤ 5) := ⟨k0, k1⟩; clear L1 C1 D1 H)
    | (have hgo := G1.out; clear hgo; go_at_call 61; refine (lnum_any g zs1 b1 _ G1.out.lr).mono ?_; rintro e w2 ⟨v, rfl, v0, v1, ⟨zs2, b2, L2, C2, D2⟩⟩; have G2 : Hid (GB w w2 g w1.heap.size zs2 b2 kd 0 0 0 0 0 none 0 0 false none 0 0) := G1.out.turn C2 L2; have HD2 : Hid (Rds numP (stL zs1 b1) (stL zs2 b2) v) := D2; obtain ⟨xa0, xa1, xa2, xa3, xa4, xa5, xa6, xa7, xa8⟩ := G2.out.box; have fxa0 := G2.out.free 0; have fxa1 := G2.out.free 1; have fxa2 := G2.out.free 2; have fxa3 := G2.out.free 3; have fxa4 := G2.out.free 4; have fxa5 := G2.out.free 5; have fxa6 := G2.out.free 6; have fxa7 := G2.out.free 7; have fxa8 := G2.out.free 8; clear L2 C2 D2 G1)
    | (have hgo := G2.out; clear hgo; go_at_call 60; refine (zag_any v _ v0 v1).mono ?_; rintro e w2' ⟨rfl, hw2⟩; obtain rfl : w2 = w2' := hw2.symm; obtain ⟨id, hid⟩ : ∃ id, id = Pl.zagI v := ⟨_, rfl⟩; rw [← hid]; have HID : Hid (id = Pl.zagI v) := hid; have HIB : Hid (-9223372036854775808 ≤ id ∧ id ≤ 9223372036854775807) := (by rw [hid]; exact Pl.zag_bd v v0 v1); have G3 : Hid (GB w (w2.setCell ⟨w1.heap.size, 1, none⟩ (.int .i64 id)) g w1.heap.size zs2 b2 kd id 0 0 0 0 none 0 0 false none 0 0) := G2.out.set1 id; obtain ⟨xb0, xb1, xb2, xb3, xb4, xb5, xb6, xb7, xb8⟩ := G3.out.box; have fxb0 := G3.out.free 0; have fxb1 := G3.out.free 1; have fxb2 := G3.out.free 2; have fxb3 := G3.out.free 3; have fxb4 := G3.out.free 4; have fxb5 := G3.out.free 5; have fxb6 := G3.out.free 6; have fxb7 := G3.out.free 7; have fxb8 := G3.out.free 8; obtain ⟨rxb0, rxb1, rxb2, rxb3, rxb4, rxb5, rxb6, rxb7, rxb8⟩ := G3.out.res; have txb0 := G3.out.rfree 0; have txb1 := G3.out.rfree 1; have txb2 := G3.out.rfree 2; have txb3 := G3.out.rfree 3; have txb4 := G3.out.rfree 4; have txb5 := G3.out.rfree 5; have txb6 := G3.out.rfree 6; have txb7 := G3.out.rfree 7; have txb8 := G3.out.rfree 8; clear hw2 hid G2))
  · have hk : kd = 1 := eq_of_beq (by assumption)
    have HKD : Hid (kd = 1) := hk
    clear hk
    go_wp2_with (first
      | (have hgo := G7.out; clear hgo; go_at_call 31; refine (lgetws_any g zs5 b5 _ G7.out.lr).mono ?_; rintro e v6 ⟨ax, N, cx, l, rfl, hl, hl16, hcx, hwa, hwv, hwf, ⟨zs6, b6, L6, C6, D6⟩⟩; have G8 : Hid (GB w v6 g w1.heap.size zs6 b6 kd id t4 n4 t5 n5 none 0 0 false none 0 0) := G7.out.turn C6 L6; have G9 : Hid (GB w (v6.setCell ⟨w1.heap.size, 6, none⟩ (.slice ax N cx)) g w1.heap.size zs6 b6 kd id t4 n4 t5 n5 ax N cx false none 0 0) := G8.out.set6 ax N cx; have HWL : Hid (l.length = N ∧ N ≤ 16 ∧ N ≤ cx ∧ WrtsAt v6 ax l ∧ (∀ W ∈ l, W.v.length ≤ 200) ∧ (l ≠ [] → ∀ b o, ax = some ⟨b, o, none⟩ → w1.heap.size + 1 ≤ b)) := ⟨hl, hl16, hcx, hwa, hwv, fun h1 b o h2 => Nat.le_trans G7.out.box.lt (hwf h1 b o h2)⟩; have HD_6 : Hid (Rds wrsP (stL zs5 b5) (stL zs6 b6) l) := D6; obtain ⟨y6_0, y6_1, y6_2, y6_3, y6_4, y6_5, y6_6, y6_7, y6_8⟩ := G8.out.box; have fy6_0 := G8.out.free 0; have fy6_1 := G8.out.free 1; have fy6_2 := G8.out.free 2; have fy6_3 := G8.out.free 3; have fy6_4 := G8.out.free 4; have fy6_5 := G8.out.free 5; have fy6_6 := G8.out.free 6; have fy6_7 := G8.out.free 7; have fy6_8 := G8.out.free 8; obtain ⟨z6_0, z6_1, z6_2, z6_3, z6_4, z6_5, z6_6, z6_7, z6_8⟩ := G9.out.box; have fz6_0 := G9.out.free 0; have fz6_1 := G9.out.free 1; have fz6_2 := G9.out.free 2; have fz6_3 := G9.out.free 3; have fz6_4 := G9.out.free 4; have fz6_5 := G9.out.free 5; have fz6_6 := G9.out.free 6; have fz6_7 := G9.out.free 7; have fz6_8 := G9.out.free 8; obtain ⟨rz6_0, rz6_1, rz6_2, rz6_3, rz6_4, rz6_5, rz6_6, rz6_7, rz6_8⟩ := G9.out.res; have tz6_0 := G9.out.rfree 0; have tz6_1 := G9.out.rfree 1; have tz6_2 := G9.out.rfree 2; have tz6_3 := G9.out.rfree 3; have tz6_4 := G9.out.rfree 4; have tz6_5 := G9.out.rfree 5; have tz6_6 := G9.out.rfree 6; have tz6_7 := G9.out.rfree 7; have tz6_8 := G9.out.rfree 8; clear L6 C6 D6 G7 G8 hl hl16 hcx hwa hwv hwf)
      | (have hgo := G5.out; clear hgo; go_at_call 62; refine (lstamp_any g zs4 b4 _ G5.out.lr).mono ?_; rintro e v5 ⟨t5, n5, rfl, ok5, nl5, nh5, ⟨zs5, b5, L5, C5, D5⟩⟩; have G6 : Hid (GB w v5 g w1.heap.size zs5 b5 kd id t4 n4 0 0 none 0 0 false none 0 0) := G5.out.turn C5 L5; have G7 : Hid (GB w ((v5.setCell ⟨w1.heap.size, 4, none⟩ (.int .i64 t5)).setCell ⟨w1.heap.size, 5, none⟩ (.int .u8 n5)) g w1.heap.size zs5 b5 kd id t4 n4 t5 n5 none 0 0 false none 0 0) := G6.out.set4 t5 n5; have HD_5 : Hid (Rds stampP (stL zs4 b4) (stL zs5 b5) (t5, n5)) := D5; obtain ⟨y5_0, y5_1, y5_2, y5_3, y5_4, y5_5, y5_6, y5_7, y5_8⟩ := G6.out.box; have fy5_0 := G6.out.free 0; have fy5_1 := G6.out.free 1; have fy5_2 := G6.out.free 2; have fy5_3 := G6.out.free 3; have fy5_4 := G6.out.free 4; have fy5_5 := G6.out.free 5; have fy5_6 := G6.out.free 6; have fy5_7 := G6.out.free 7; have fy5_8 := G6.out.free 8; obtain ⟨z5_0, z5_1, z5_2, z5_3, z5_4, z5_5, z5_6, z5_7, z5_8⟩ := G7.out.box; have fz5_0 := G7.out.free 0; have fz5_1 := G7.out.free 1; have fz5_2 := G7.out.free 2; have fz5_3 := G7.out.free 3; have fz5_4 := G7.out.free 4; have fz5_5 := G7.out.free 5; have fz5_6 := G7.out.free 6; have fz5_7 := G7.out.free 7; have fz5_8 := G7.out.free 8; obtain ⟨rz5_0, rz5_1, rz5_2, rz5_3, rz5_4, rz5_5, rz5_6, rz5_7, rz5_8⟩ := G7.out.res; have tz5_0 := G7.out.rfree 0; have tz5_1 := G7.out.rfree 1; have tz5_2 := G7.out.rfree 2; have tz5_3 := G7.out.rfree 3; have tz5_4 := G7.out.rfree 4; have tz5_5 := G7.out.rfree 5; have tz5_6 := G7.out.rfree 6; have tz5_7 := G7.out.rfree 7; have tz5_8 := G7.out.rfree 8; clear L5 C5 D5 G5 G6)
      | (have hgo := G3.out; clear hgo; go_at_call 62; refine (lstamp_any g zs2 b2 _ G3.out.lr).mono ?_; rintro e v4 ⟨t4, n4, rfl, ok4, nl4, nh4, ⟨zs4, b4, L4, C4, D4⟩⟩; have G4 : Hid (GB w v4 g w1.heap.size zs4 b4 kd id 0 0 0 0 none 0 0 false none 0 0) := G3.out.turn C4 L4; have G5 : Hid (GB w ((v4.setCell ⟨w1.heap.size, 2, none⟩ (.int .i64 t4)).setCell ⟨w1.heap.size, 3, none⟩ (.int .u8 n4)) g w1.heap.size zs4 b4 kd id t4 n4 0 0 none 0 0 false none 0 0) := G4.out.set2 t4 n4; have HD_4 : Hid (Rds stampP (stL zs2 b2) (stL zs4 b4) (t4, n4)) := D4; obtain ⟨y4_0, y4_1, y4_2, y4_3, y4_4, y4_5, y4_6, y4_7, y4_8⟩ := G4.out.box; have fy4_0 := G4.out.free 0; have fy4_1 := G4.out.free 1; have fy4_2 := G4.out.free 2; have fy4_3 := G4.out.free 3; have fy4_4 := G4.out.free 4; have fy4_5 := G4.out.free 5; have fy4_6 := G4.out.free 6; have fy4_7 := G4.out.free 7; have fy4_8 := G4.out.free 8; obtain ⟨z4_0, z4_1, z4_2, z4_3, z4_4, z4_5, z4_6, z4_7, z4_8⟩ := G5.out.box; have fz4_0 := G5.out.free 0; have fz4_1 := G5.out.free 1; have fz4_2 := G5.out.free 2; have fz4_3 := G5.out.free 3; have fz4_4 := G5.out.free 4; have fz4_5 := G5.out.free 5; have fz4_6 := G5.out.free 6; have fz4_7 := G5.out.free 7; have fz4_8 := G5.out.free 8; obtain ⟨rz4_0, rz4_1, rz4_2, rz4_3, rz4_4, rz4_5, rz4_6, rz4_7, rz4_8⟩ := G5.out.res; have tz4_0 := G5.out.rfree 0; have tz4_1 := G5.out.rfree 1; have tz4_2 := G5.out.rfree 2; have tz4_3 := G5.out.rfree 3; have tz4_4 := G5.out.rfree 4; have tz4_5 := G5.out.rfree 5; have tz4_6 := G5.out.rfree 6; have tz4_7 := G5.out.rfree 7; have tz4_8 := G5.out.rfree 8; clear L4 C4 D4 G3 G4))
    have hd := G9.out.done [.int .i64 kd, .int .i64 id, .int .i64 t4, .int .u8 n4, .int .i64 t5, .int .u8 n5, .slice ax N cx, .bool false, .slice none 0 0]
    refine bodyPost_ret (results_rcd rfl _ _ w.heap.size kd id t4 n4 t5 n5 ax N cx false none 0 0 rfl (G9.out.res.set9 kd id t4 n4 t5 n5 ax N cx false none 0 0)) rfl ?_
    have hib := HIB.out
    have hkb := HK.out
    have hwl := HWL.out
    have hwa := wrts_over (B := w1.heap.size + 1) HWL.out.2.2.2.1 (((Chg.set (X := fun j => j = w1.heap.size ∨ j = w.heap.size) v6 ⟨w1.heap.size, 6, none⟩ (.slice ax N cx) (.inl rfl)).trans ((chg_cells w.heap.size [.int .i64 kd, .int .i64 id, .int .i64 t4, .int .u8 n4, .int .i64 t5, .int .u8 n5, .slice ax N cx, .bool false, .slice none 0 0] 0 _).mono (Y := fun j => j = w1.heap.size ∨ j = w.heap.size) (fun _ _ e => .inr e)) (fun _ _ x => x))) (fun j e => by have := G9.out.hq; omega) HWL.out.2.2.2.2.2
    refine ⟨⟨⟨kd, id, t4, n4, t5, n5, l, false, []⟩, ax, cx, none, 0⟩, ?_, ⟨hwa, by show l.length ≤ cx; omega, by show l.length ≤ 1000; omega, IntsAt.none _ _, Nat.zero_le _, Nat.zero_le _, ⟨by show -9223372036854775808 ≤ kd; omega, by show kd ≤ 9223372036854775807; omega⟩, ⟨hib.1, hib.2, nl4, nh4, nl5, nh5, fun W hW => (hwa.oks W hW).key, fun W hW => (hwa.oks W hW).val⟩⟩, HWL.out.2.2.2.2.1, by show l.length ≤ 16; omega, Nat.zero_le _, fun h1 b o h2 => Nat.le_trans (Nat.le_of_lt G9.out.hq) (Nat.le_of_succ_le (HWL.out.2.2.2.2.2 h1 b o h2)), fun h => absurd rfl h, ⟨zs6, b6, hd.1, hd.2, ?_⟩⟩
    · unfold rcv encR
      simp only [HWL.out.1, List.length_nil]
    · refine HD1.out.seq (HD2.out.seq ?_)
      rw [← HID.out]
      unfold tlP
      rw [if_pos HKD.out]
      exact HD_4.out.seq (HD_5.out.seq (HD_6.out.seq (.ret _ _)))
  · have hk : kd = 2 := eq_of_beq (by assumption)
    have HKD : Hid (kd = 2) := hk
    clear hk
    go_wp2_with (first
      | (have hgo := G3.out; clear hgo; go_at_call 62; refine (lstamp_any g zs2 b2 _ G3.out.lr).mono ?_; rintro e v4 ⟨t4, n4, rfl, ok4, nl4, nh4, ⟨zs4, b4, L4, C4, D4⟩⟩; have G4 : Hid (GB w v4 g w1.heap.size zs4 b4 kd id 0 0 0 0 none 0 0 false none 0 0) := G3.out.turn C4 L4; have G5 : Hid (GB w ((v4.setCell ⟨w1.heap.size, 4, none⟩ (.int .i64 t4)).setCell ⟨w1.heap.size, 5, none⟩ (.int .u8 n4)) g w1.heap.size zs4 b4 kd id 0 0 t4 n4 none 0 0 false none 0 0) := G4.out.set4 t4 n4; have HD_4 : Hid (Rds stampP (stL zs2 b2) (stL zs4 b4) (t4, n4)) := D4; obtain ⟨y4_0, y4_1, y4_2, y4_3, y4_4, y4_5, y4_6, y4_7, y4_8⟩ := G4.out.box; have fy4_0 := G4.out.free 0; have fy4_1 := G4.out.free 1; have fy4_2 := G4.out.free 2; have fy4_3 := G4.out.free 3; have fy4_4 := G4.out.free 4; have fy4_5 := G4.out.free 5; have fy4_6 := G4.out.free 6; have fy4_7 := G4.out.free 7; have fy4_8 := G4.out.free 8; obtain ⟨z4_0, z4_1, z4_2, z4_3, z4_4, z4_5, z4_6, z4_7, z4_8⟩ := G5.out.box; have fz4_0 := G5.out.free 0; have fz4_1 := G5.out.free 1; have fz4_2 := G5.out.free 2; have fz4_3 := G5.out.free 3; have fz4_4 := G5.out.free 4; have fz4_5 := G5.out.free 5; have fz4_6 := G5.out.free 6; have fz4_7 := G5.out.free 7; have fz4_8 := G5.out.free 8; obtain ⟨rz4_0, rz4_1, rz4_2, rz4_3, rz4_4, rz4_5, rz4_6, rz4_7, rz4_8⟩ := G5.out.res; have tz4_0 := G5.out.rfree 0; have tz4_1 := G5.out.rfree 1; have tz4_2 := G5.out.rfree 2; have tz4_3 := G5.out.rfree 3; have tz4_4 := G5.out.rfree 4; have tz4_5 := G5.out.rfree 5; have tz4_6 := G5.out.rfree 6; have tz4_7 := G5.out.rfree 7; have tz4_8 := G5.out.rfree 8; clear L4 C4 D4 G3 G4))
    have hd := G5.out.done [.int .i64 kd, .int .i64 id, .int .i64 0, .int .u8 0, .int .i64 t4, .int .u8 n4, .slice none 0 0, .bool false, .slice none 0 0]
    refine bodyPost_ret (results_rcd rfl _ _ w.heap.size kd id 0 0 t4 n4 none 0 0 false none 0 0 rfl (G5.out.res.set9 kd id 0 0 t4 n4 none 0 0 false none 0 0)) rfl ?_
    have hib := HIB.out
    have hkb := HK.out
    refine ⟨⟨⟨kd, id, 0, 0, t4, n4, [], false, []⟩, none, 0, none, 0⟩, ?_, ⟨WrtsAt.none _ _, Nat.zero_le _, Nat.zero_le _, IntsAt.none _ _, Nat.zero_le _, Nat.zero_le _, ⟨by show -9223372036854775808 ≤ kd; omega, by show kd ≤ 9223372036854775807; omega⟩, ⟨hib.1, hib.2, by simp, by simp, nl4, nh4, fun W hW => by simp at hW, fun W hW => by simp at hW⟩⟩, fun W hW => by simp at hW, Nat.zero_le _, Nat.zero_le _, fun h => absurd rfl h, fun h => absurd rfl h, ⟨zs4, b4, hd.1, hd.2, ?_⟩⟩
    · unfold rcv encR
      simp only [List.length_nil]
    · refine HD1.out.seq (HD2.out.seq ?_)
      rw [← HID.out]
      unfold tlP
      rw [if_neg (by rw [HKD.out]; omega), if_pos (by rw [HKD.out]; simp)]
      exact HD_4.out.seq (.ret _ _)
  · have hk : kd = 5 := eq_of_beq (by assumption)
    have HKD : Hid (kd = 5) := hk
    clear hk
    go_wp2_with (first
      | (have hgo := G3.out; clear hgo; go_at_call 62; refine (lstamp_any g zs2 b2 _ G3.out.lr).mono ?_; rintro e v4 ⟨t4, n4, rfl, ok4, nl4, nh4, ⟨zs4, b4, L4, C4, D4⟩⟩; have G4 : Hid (GB w v4 g w1.heap.size zs4 b4 kd id 0 0 0 0 none 0 0 false none 0 0) := G3.out.turn C4 L4; have G5 : Hid (GB w ((v4.setCell ⟨w1.heap.size, 4, none⟩ (.int .i64 t4)).setCell ⟨w1.heap.size, 5, none⟩ (.int .u8 n4)) g w1.heap.size zs4 b4 kd id 0 0 t4 n4 none 0 0 false none 0 0) := G4.out.set4 t4 n4; have HD_4 : Hid (Rds stampP (stL zs2 b2) (stL zs4 b4) (t4, n4)) := D4; obtain ⟨y4_0, y4_1, y4_2, y4_3, y4_4, y4_5, y4_6, y4_7, y4_8⟩ := G4.out.box; have fy4_0 := G4.out.free 0; have fy4_1 := G4.out.free 1; have fy4_2 := G4.out.free 2; have fy4_3 := G4.out.free 3; have fy4_4 := G4.out.free 4; have fy4_5 := G4.out.free 5; have fy4_6 := G4.out.free 6; have fy4_7 := G4.out.free 7; have fy4_8 := G4.out.free 8; obtain ⟨z4_0, z4_1, z4_2, z4_3, z4_4, z4_5, z4_6, z4_7, z4_8⟩ := G5.out.box; have fz4_0 := G5.out.free 0; have fz4_1 := G5.out.free 1; have fz4_2 := G5.out.free 2; have fz4_3 := G5.out.free 3; have fz4_4 := G5.out.free 4; have fz4_5 := G5.out.free 5; have fz4_6 := G5.out.free 6; have fz4_7 := G5.out.free 7; have fz4_8 := G5.out.free 8; obtain ⟨rz4_0, rz4_1, rz4_2, rz4_3, rz4_4, rz4_5, rz4_6, rz4_7, rz4_8⟩ := G5.out.res; have tz4_0 := G5.out.rfree 0; have tz4_1 := G5.out.rfree 1; have tz4_2 := G5.out.rfree 2; have tz4_3 := G5.out.rfree 3; have tz4_4 := G5.out.rfree 4; have tz4_5 := G5.out.rfree 5; have tz4_6 := G5.out.rfree 6; have tz4_7 := G5.out.rfree 7; have tz4_8 := G5.out.rfree 8; clear L4 C4 D4 G3 G4))
    have hd := G5.out.done [.int .i64 kd, .int .i64 id, .int .i64 0, .int .u8 0, .int .i64 t4, .int .u8 n4, .slice none 0 0, .bool false, .slice none 0 0]
    refine bodyPost_ret (results_rcd rfl _ _ w.heap.size kd id 0 0 t4 n4 none 0 0 false none 0 0 rfl (G5.out.res.set9 kd id 0 0 t4 n4 none 0 0 false none 0 0)) rfl ?_
    have hib := HIB.out
    have hkb := HK.out
    refine ⟨⟨⟨kd, id, 0, 0, t4, n4, [], false, []⟩, none, 0, none, 0⟩, ?_, ⟨WrtsAt.none _ _, Nat.zero_le _, Nat.zero_le _, IntsAt.none _ _, Nat.zero_le _, Nat.zero_le _, ⟨by show -9223372036854775808 ≤ kd; omega, by show kd ≤ 9223372036854775807; omega⟩, ⟨hib.1, hib.2, by simp, by simp, nl4, nh4, fun W hW => by simp at hW, fun W hW => by simp at hW⟩⟩, fun W hW => by simp at hW, Nat.zero_le _, Nat.zero_le _, fun h => absurd rfl h, fun h => absurd rfl h, ⟨zs4, b4, hd.1, hd.2, ?_⟩⟩
    · unfold rcv encR
      simp only [List.length_nil]
    · refine HD1.out.seq (HD2.out.seq ?_)
      rw [← HID.out]
      unfold tlP
      rw [if_neg (by rw [HKD.out]; omega), if_pos (by rw [HKD.out]; simp)]
      exact HD_4.out.seq (.ret _ _)
  · have hk : kd = 4 := eq_of_beq (by assumption)
    have HKD : Hid (kd = 4) := hk
    clear hk
    go_wp2_with (first
      | (have hgo := G7.out; clear hgo; go_at_call 64; refine (lgetps_any g zs5 b5 _ G7.out.lr).mono ?_; rintro e v6 ⟨ax, N, cx, l, rfl, hl, hl8, hcx, hwa, hwf, ⟨zs6, b6, L6, C6, D6⟩⟩; have G8 : Hid (GB w v6 g w1.heap.size zs6 b6 kd id 0 0 t5 n5 none 0 0 yy none 0 0) := G7.out.turn C6 L6; have G9 : Hid (GB w (v6.setCell ⟨w1.heap.size, 8, none⟩ (.slice ax N cx)) g w1.heap.size zs6 b6 kd id 0 0 t5 n5 none 0 0 yy ax N cx) := G8.out.set8 ax N cx; have HWL : Hid (l.length = N ∧ N ≤ 8 ∧ N ≤ cx ∧ IntsAt v6 ax l ∧ (l ≠ [] → ∀ b o, ax = some ⟨b, o, none⟩ → w1.heap.size + 1 ≤ b)) := ⟨hl, hl8, hcx, hwa, fun h1 b o h2 => Nat.le_trans G7.out.box.lt (hwf h1 b o h2)⟩; have HD_6 : Hid (Rds partsP (stL zs5 b5) (stL zs6 b6) l) := D6; obtain ⟨y6_0, y6_1, y6_2, y6_3, y6_4, y6_5, y6_6, y6_7, y6_8⟩ := G8.out.box; have fy6_0 := G8.out.free 0; have fy6_1 := G8.out.free 1; have fy6_2 := G8.out.free 2; have fy6_3 := G8.out.free 3; have fy6_4 := G8.out.free 4; have fy6_5 := G8.out.free 5; have fy6_6 := G8.out.free 6; have fy6_7 := G8.out.free 7; have fy6_8 := G8.out.free 8; obtain ⟨z6_0, z6_1, z6_2, z6_3, z6_4, z6_5, z6_6, z6_7, z6_8⟩ := G9.out.box; have fz6_0 := G9.out.free 0; have fz6_1 := G9.out.free 1; have fz6_2 := G9.out.free 2; have fz6_3 := G9.out.free 3; have fz6_4 := G9.out.free 4; have fz6_5 := G9.out.free 5; have fz6_6 := G9.out.free 6; have fz6_7 := G9.out.free 7; have fz6_8 := G9.out.free 8; obtain ⟨rz6_0, rz6_1, rz6_2, rz6_3, rz6_4, rz6_5, rz6_6, rz6_7, rz6_8⟩ := G9.out.res; have tz6_0 := G9.out.rfree 0; have tz6_1 := G9.out.rfree 1; have tz6_2 := G9.out.rfree 2; have tz6_3 := G9.out.rfree 3; have tz6_4 := G9.out.rfree 4; have tz6_5 := G9.out.rfree 5; have tz6_6 := G9.out.rfree 6; have tz6_7 := G9.out.rfree 7; have tz6_8 := G9.out.rfree 8; clear L6 C6 D6 G7 G8 hl hl8 hcx hwa hwf)
      | (have hgo := G5.out; clear hgo; go_at_call 62; refine (lstamp_any g zs4 b4 _ G5.out.lr).mono ?_; rintro e v5 ⟨t5, n5, rfl, ok5, nl5, nh5, ⟨zs5, b5, L5, C5, D5⟩⟩; have G6 : Hid (GB w v5 g w1.heap.size zs5 b5 kd id 0 0 0 0 none 0 0 yy none 0 0) := G5.out.turn C5 L5; have G7 : Hid (GB w ((v5.setCell ⟨w1.heap.size, 4, none⟩ (.int .i64 t5)).setCell ⟨w1.heap.size, 5, none⟩ (.int .u8 n5)) g w1.heap.size zs5 b5 kd id 0 0 t5 n5 none 0 0 yy none 0 0) := G6.out.set4 t5 n5; have HD_5 : Hid (Rds stampP (stL zs4 b4) (stL zs5 b5) (t5, n5)) := D5; obtain ⟨y5_0, y5_1, y5_2, y5_3, y5_4, y5_5, y5_6, y5_7, y5_8⟩ := G6.out.box; have fy5_0 := G6.out.free 0; have fy5_1 := G6.out.free 1; have fy5_2 := G6.out.free 2; have fy5_3 := G6.out.free 3; have fy5_4 := G6.out.free 4; have fy5_5 := G6.out.free 5; have fy5_6 := G6.out.free 6; have fy5_7 := G6.out.free 7; have fy5_8 := G6.out.free 8; obtain ⟨z5_0, z5_1, z5_2, z5_3, z5_4, z5_5, z5_6, z5_7, z5_8⟩ := G7.out.box; have fz5_0 := G7.out.free 0; have fz5_1 := G7.out.free 1; have fz5_2 := G7.out.free 2; have fz5_3 := G7.out.free 3; have fz5_4 := G7.out.free 4; have fz5_5 := G7.out.free 5; have fz5_6 := G7.out.free 6; have fz5_7 := G7.out.free 7; have fz5_8 := G7.out.free 8; obtain ⟨rz5_0, rz5_1, rz5_2, rz5_3, rz5_4, rz5_5, rz5_6, rz5_7, rz5_8⟩ := G7.out.res; have tz5_0 := G7.out.rfree 0; have tz5_1 := G7.out.rfree 1; have tz5_2 := G7.out.rfree 2; have tz5_3 := G7.out.rfree 3; have tz5_4 := G7.out.rfree 4; have tz5_5 := G7.out.rfree 5; have tz5_6 := G7.out.rfree 6; have tz5_7 := G7.out.rfree 7; have tz5_8 := G7.out.rfree 8; clear L5 C5 D5 G5 G6)
      | (have hgo := G3.out; clear hgo; go_at_call 63; refine (lflag_any g zs2 b2 _ G3.out.lr).mono ?_; rintro e v4 ⟨yy, rfl, ⟨zs4, b4, L4, C4, D4⟩⟩; have G4 : Hid (GB w v4 g w1.heap.size zs4 b4 kd id 0 0 0 0 none 0 0 false none 0 0) := G3.out.turn C4 L4; have G5 : Hid (GB w (v4.setCell ⟨w1.heap.size, 7, none⟩ (.bool yy)) g w1.heap.size zs4 b4 kd id 0 0 0 0 none 0 0 yy none 0 0) := G4.out.set7 yy; have HD_4 : Hid (Rds flagP (stL zs2 b2) (stL zs4 b4) yy) := D4; obtain ⟨y4_0, y4_1, y4_2, y4_3, y4_4, y4_5, y4_6, y4_7, y4_8⟩ := G4.out.box; have fy4_0 := G4.out.free 0; have fy4_1 := G4.out.free 1; have fy4_2 := G4.out.free 2; have fy4_3 := G4.out.free 3; have fy4_4 := G4.out.free 4; have fy4_5 := G4.out.free 5; have fy4_6 := G4.out.free 6; have fy4_7 := G4.out.free 7; have fy4_8 := G4.out.free 8; obtain ⟨z4_0, z4_1, z4_2, z4_3, z4_4, z4_5, z4_6, z4_7, z4_8⟩ := G5.out.box; have fz4_0 := G5.out.free 0; have fz4_1 := G5.out.free 1; have fz4_2 := G5.out.free 2; have fz4_3 := G5.out.free 3; have fz4_4 := G5.out.free 4; have fz4_5 := G5.out.free 5; have fz4_6 := G5.out.free 6; have fz4_7 := G5.out.free 7; have fz4_8 := G5.out.free 8; obtain ⟨rz4_0, rz4_1, rz4_2, rz4_3, rz4_4, rz4_5, rz4_6, rz4_7, rz4_8⟩ := G5.out.res; have tz4_0 := G5.out.rfree 0; have tz4_1 := G5.out.rfree 1; have tz4_2 := G5.out.rfree 2; have tz4_3 := G5.out.rfree 3; have tz4_4 := G5.out.rfree 4; have tz4_5 := G5.out.rfree 5; have tz4_6 := G5.out.rfree 6; have tz4_7 := G5.out.rfree 7; have tz4_8 := G5.out.rfree 8; clear L4 C4 D4 G3 G4))
    have hd := G9.out.done [.int .i64 kd, .int .i64 id, .int .i64 0, .int .u8 0, .int .i64 t5, .int .u8 n5, .slice none 0 0, .bool yy, .slice ax N cx]
    refine bodyPost_ret (results_rcd rfl _ _ w.heap.size kd id 0 0 t5 n5 none 0 0 yy ax N cx rfl (G9.out.res.set9 kd id 0 0 t5 n5 none 0 0 yy ax N cx)) rfl ?_
    have hib := HIB.out
    have hkb := HK.out
    have hwl := HWL.out
    have hwa := ints_over (B := w1.heap.size + 1) HWL.out.2.2.2.1 (((Chg.set (X := fun j => j = w1.heap.size ∨ j = w.heap.size) v6 ⟨w1.heap.size, 8, none⟩ (.slice ax N cx) (.inl rfl)).trans ((chg_cells w.heap.size [.int .i64 kd, .int .i64 id, .int .i64 0, .int .u8 0, .int .i64 t5, .int .u8 n5, .slice none 0 0, .bool yy, .slice ax N cx] 0 _).mono (Y := fun j => j = w1.heap.size ∨ j = w.heap.size) (fun _ _ e => .inr e)) (fun _ _ x => x))) (fun j e => by have := G9.out.hq; omega) HWL.out.2.2.2.2
    refine ⟨⟨⟨kd, id, 0, 0, t5, n5, [], yy, l⟩, none, 0, ax, cx⟩, ?_, ⟨WrtsAt.none _ _, Nat.zero_le _, Nat.zero_le _, hwa, by show l.length ≤ cx; omega, by show l.length ≤ 1000; omega, ⟨by show -9223372036854775808 ≤ kd; omega, by show kd ≤ 9223372036854775807; omega⟩, ⟨hib.1, hib.2, by simp, by simp, nl5, nh5, fun W hW => by simp at hW, fun W hW => by simp at hW⟩⟩, fun W hW => by simp at hW, Nat.zero_le _, by show l.length ≤ 8; omega, fun h => absurd rfl h, fun h1 b o h2 => Nat.le_trans (Nat.le_of_lt G9.out.hq) (Nat.le_of_succ_le (HWL.out.2.2.2.2 h1 b o h2)), ⟨zs6, b6, hd.1, hd.2, ?_⟩⟩
    · unfold rcv encR
      simp only [HWL.out.1, List.length_nil]
    · refine HD1.out.seq (HD2.out.seq ?_)
      rw [← HID.out]
      unfold tlP
      rw [if_neg (by rw [HKD.out]; omega), if_neg (by rw [HKD.out]; omega), if_pos HKD.out]
      exact HD_4.out.seq (HD_5.out.seq (HD_6.out.seq (.ret _ _)))
  · have n1 : ¬ kd = 1 := ne_of_beq_false (by assumption)
    have n2 : ¬ kd = 2 := ne_of_beq_false (by assumption)
    have n5 : ¬ kd = 5 := ne_of_beq_false (by assumption)
    have n4 : ¬ kd = 4 := ne_of_beq_false (by assumption)
    have hd := G3.out.done [.int .i64 kd, .int .i64 id, .int .i64 0, .int .u8 0, .int .i64 0, .int .u8 0, .slice none 0 0, .bool false, .slice none 0 0]
    refine bodyPost_ret (results_rcd rfl _ _ w.heap.size kd id 0 0 0 0 none 0 0 false none 0 0 rfl (G3.out.res.set9 kd id 0 0 0 0 none 0 0 false none 0 0)) rfl ?_
    have hib := HIB.out
    have hkb := HK.out
    refine ⟨⟨⟨kd, id, 0, 0, 0, 0, [], false, []⟩, none, 0, none, 0⟩, ?_, ⟨WrtsAt.none _ _, Nat.zero_le _, Nat.zero_le _, IntsAt.none _ _, Nat.zero_le _, Nat.zero_le _, ⟨by show -9223372036854775808 ≤ kd; omega, by show kd ≤ 9223372036854775807; omega⟩, ⟨hib.1, hib.2, by simp, by simp, by simp, by simp, fun W hW => by simp at hW, fun W hW => by simp at hW⟩⟩, fun W hW => by simp at hW, Nat.zero_le _, Nat.zero_le _, fun h => absurd rfl h, fun h => absurd rfl h, ⟨zs2, b2, hd.1, hd.2, ?_⟩⟩
    · unfold rcv encR
      simp only [List.length_nil]
    · refine HD1.out.seq (HD2.out.seq ?_)
      rw [← HID.out]
      unfold tlP
      rw [if_neg n1, if_neg (by omega), if_neg n4]
      exact .ret _ _
end Go.Proofs.Ytmiafadmcpmjgaa

namespace Go.Proofs.Ytmiafadmcpmjgaa
open Go.RowKit
set_option linter.unusedVariables false
set_option linter.unusedSimpArgs false

def zeroR : Rcd := ⟨0, 0, 0, 0, 0, 0, [], false, []⟩
def zeroM : RcM := ⟨zeroR, none, 0, none, 0⟩
theorem zeroM_w (w : World) : RcW w zeroM := ⟨WrtsAt.none _ _, Nat.zero_le _, Nat.zero_le _, IntsAt.none _ _, Nat.zero_le _, Nat.zero_le _, ⟨by decide, by decide⟩, ⟨by decide, by decide, by decide, by decide, by decide, by decide, fun W hW => by simp [zeroM, zeroR] at hW, fun W hW => by simp [zeroM, zeroR] at hW⟩⟩
theorem get_bad {zs zs' : List Int} {r : Rcd} (h : Rds rcP (some zs) (stL zs' true) r) : getL zs = none := by
  rcases h.cases with ⟨e, _⟩ | ⟨s, _, e⟩
  · unfold getL; rw [e]
  · exact absurd e (by unfold stL; simp)
theorem get_ok {zs zs' : List Int} {r : Rcd} (h : Rds rcP (some zs) (stL zs' false) r) : rcP zs = some (r, zs') := by
  rcases h.cases with ⟨_, e⟩ | ⟨s, e1, e2⟩
  · exact absurd e (by unfold stL; simp)
  · unfold stL at e2
    simp at e2
    rw [e1, e2]
theorem results_rcd2 {fn : Func} {c d : Tmp} (h : fn.results = #[.cell c 28, .tmp d]) (tmps : Array Value) (w : World) (b : Nat) (kd id s m t n : Int) (a : Option Addr) (N cp : Nat) (y : Bool) (pa : Option Addr) (M pc : Nat) (v : Value) (hp : tmps.getD c undef = .pointer (some ⟨b, 0, none⟩)) (hv : tmps.getD d undef = v) (hb : RBox w b kd id s m t n a N cp y pa M pc) :
    (results fn tmps).run Try.prog w = .ok (.tuple #[.agg #[.int .i64 kd, .int .i64 id, .int .i64 s, .int .u8 m, .int .i64 t, .int .u8 n, .slice a N cp, .bool y, .slice pa M pc], v]) w := by
  obtain ⟨c0, c1, c2, c3, c4, c5, c6, c7, c8⟩ := hb
  have hl := run_loadVar_mid (P := Try.prog) w b 0 28 [.int .i64 kd, .int .i64 id, .int .i64 s, .int .u8 m, .int .i64 t, .int .u8 n, .slice a N cp, .bool y, .slice pa M pc] _ (fun j v hv => by
    have hj : j = 0 ∨ j = 1 ∨ j = 2 ∨ j = 3 ∨ j = 4 ∨ j = 5 ∨ j = 6 ∨ j = 7 ∨ j = 8 := by
      have := (List.getElem?_eq_some_iff.1 hv).1
      simp at this; omega
    rw [Nat.zero_add]
    rcases hj with rfl | rfl | rfl | rfl | rfl | rfl | rfl | rfl | rfl <;> (injection hv with hv; rw [← hv]; assumption)) Try.underlying28 rfl (by rw [info_rcd]; rfl)
  unfold results
  rw [h]
  simp only [List.mapM_toArray, List.mapM_cons, List.mapM_nil, hp, hv]
  simp [asAddr, hl]
/-- The answer's box, and what was read in another. -/
structure GG (w u : World) (q : Nat) (x : RcM) : Prop where
  box : RBox u q x.r.kd x.r.id x.r.s x.r.m x.r.t x.r.n x.a x.r.l.length x.c x.r.y x.pa x.r.ps.length x.pc
  res : RBox u w.heap.size 0 0 0 0 0 0 none 0 0 false none 0 0
  rfree : ∀ i, u.frozen? ⟨w.heap.size, i, none⟩ = false
  rc : RcW u x
  below : Below w.heap.size w u
  hq : w.heap.size < q
  farl : x.r.l ≠ [] → ∀ b o, x.a = some ⟨b, o, none⟩ → w.heap.size + 1 ≤ b
  farp : x.r.ps ≠ [] → ∀ b o, x.pa = some ⟨b, o, none⟩ → w.heap.size + 1 ≤ b
theorem GG.past {w u u' : World} {q : Nat} {x : RcM} (h : GG w u q x) (hb : Below u.heap.size u u') : GG w u' q x :=
  ⟨h.box.past hb, h.res.past hb, fun i => (hb.frozen (p := ⟨w.heap.size, i, none⟩) h.res.lt).trans (h.rfree i), h.rc.past hb, h.below.trans (hb.mono h.below.size), h.hq, h.farl, h.farp⟩
theorem GG.done {w u : World} {q : Nat} {x : RcM} (h : GG w u q x) (vs : List Value) : RcW (u.setCells w.heap.size 0 vs) x ∧ Below w.heap.size w (u.setCells w.heap.size 0 vs) := by
  have c := chg_cells w.heap.size vs 0 u
  refine ⟨⟨wrts_over h.rc.wr c (B := w.heap.size + 1) (fun j e => by omega) h.farl, h.rc.room, h.rc.few, ints_over h.rc.ps c (B := w.heap.size + 1) (fun j e => by omega) h.farp, h.rc.proom, h.rc.pfew, h.rc.kd, h.rc.ok⟩, ?_⟩
  exact h.below.trans ((c.mono (Y := fun j => w.heap.size ≤ j) (fun k _ e => by omega)).below h.below.size (fun k e => e))
/-- What get leaves, field by field. -/
structure GotR (w w' : World) (g : Nat) (zs : List Int) (x : RcM) : Prop where
  ex : ∃ (zs2 : List Int) (b2 : Bool), LR w' g zs2 b2 ∧ Chg w w' (fun j => j = g) ∧ Rds rcP (some zs) (stL zs2 b2) x.r
  rc : RcW w' x
  vals : ∀ W ∈ x.r.l, W.v.length ≤ 200
  few : x.r.l.length ≤ 16
  pfew : x.r.ps.length ≤ 8
  farl : x.r.l ≠ [] → ∀ b o, x.a = some ⟨b, o, none⟩ → w.heap.size ≤ b
  farp : x.r.ps ≠ [] → ∀ b o, x.pa = some ⟨b, o, none⟩ → w.heap.size ≤ b
theorem lget_ex (g : Nat) (zs : List Int) (w : World) (h : LR w g zs false) :
    Calls Try.prog 25 #[.pointer (some ⟨g, 0, none⟩)] w fun e w' => ∃ (kd id s m t n : Int) (l : List Wrt) (y : Bool) (ps : List Int) (ax : Option Addr) (N cx : Nat) (pa : Option Addr) (M pc : Nat), e = .returned (.agg #[.int .i64 kd, .int .i64 id, .int .i64 s, .int .u8 m, .int .i64 t, .int .u8 n, .slice ax N cx, .bool y, .slice pa M pc]) ∧ l.length = N ∧ ps.length = M ∧ GotR w w' g zs ⟨⟨kd, id, s, m, t, n, l, y, ps⟩, ax, cx, pa, pc⟩ := by
  refine (lget_any g zs false w h).mono ?_
  rintro e w' ⟨⟨⟨kd, id, s, m, t, n, l, y, ps⟩, ax, cx, pa, pc⟩, rfl, h1, h2, h3, h4, h5, h6, ⟨zs2, b2, L2, C2, D2⟩⟩
  exact ⟨kd, id, s, m, t, n, l, y, ps, ax, l.length, cx, pa, ps.length, pc, rfl, rfl, rfl, ⟨⟨zs2, b2, L2, C2, D2⟩, h1, h2, h3, h4, h5, h6⟩⟩
set_option maxHeartbeats 8000000 in
set_option maxRecDepth 8000 in
theorem lGet_any (a : Option Addr) (cap len : Nat) (zs : List Int) (w : World) (hr : Row w a zs) (hl : zs.length = len) (hc : len ≤ cap) (hm : len ≤ 1000000) :
    Calls Try.prog 8 #[.slice a len cap] w fun e w' => ∃ (x : RcM) (E : Int), e = .returned (.tuple #[rcv x, .int .i64 E]) ∧ RcW w' x ∧ (∀ W ∈ x.r.l, W.v.length ≤ 200) ∧ x.r.l.length ≤ 16 ∧ x.r.ps.length ≤ 8 ∧ ((getL zs = some x.r ∧ E = 0) ∨ (getL zs = none ∧ E = 3 ∧ x = zeroM)) ∧ Below w.heap.size w w' := by
  obtain ⟨W0, hW0⟩ : ∃ W0, W0 = w.alloc (.cells #[.int .i64 0, .int .i64 0, .int .i64 0, .int .u8 0, .int .i64 0, .int .u8 0, .slice none 0 0, .bool false, .slice none 0 0] 28) := ⟨_, rfl⟩
  have HW0 : Hid (w.alloc (.cells #[.int .i64 0, .int .i64 0, .int .i64 0, .int .u8 0, .int .i64 0, .int .u8 0, .slice none 0 0, .bool false, .slice none 0 0] 28) = W0) := hW0.symm
  have hs0 : W0.heap.size = w.heap.size + 1 := by rw [hW0]; exact World.size_alloc _ _
  have hb0 : Below w.heap.size w W0 := by rw [hW0]; exact (Below.refl _ _).alloc (Nat.le_refl _) _
  have hres : RBox W0 w.heap.size 0 0 0 0 0 0 none 0 0 false none 0 0 := by rw [hW0]; exact RBox.made w 28 0 0 0 0 0 0 none 0 0 false none 0 0
  have hfr : ∀ i, W0.frozen? ⟨w.heap.size, i, none⟩ = false := fun i => by rw [hW0]; exact World.frozen?_alloc_new _ _ _ _
  have CO : Hid (Calls Try.prog 24 #[.slice a len cap] W0 fun e w' => e = .returned (.pointer (some ⟨w.heap.size + 1, 0, none⟩)) ∧ LR w' (w.heap.size + 1) zs false ∧ Below W0.heap.size W0 w') := by
    have := lover_any a cap len zs W0 (hr.below hb0 (Nat.le_refl _)) hl hc (by omega)
    rw [hs0] at this ⊢
    exact this
  -- what lies behind get
  have HG : Hid (∀ w1 w2 kd id s m t n l y ps ax N cx pa M pc, Below W0.heap.size W0 w1 → l.length = N → ps.length = M → GotR w1 w2 (w.heap.size + 1) zs ⟨⟨kd, id, s, m, t, n, l, y, ps⟩, ax, cx, pa, pc⟩ → GG w (w2.alloc (.cells #[.int .i64 kd, .int .i64 id, .int .i64 s, .int .u8 m, .int .i64 t, .int .u8 n, .slice ax N cx, .bool y, .slice pa M pc] 28)) w2.heap.size ⟨⟨kd, id, s, m, t, n, l, y, ps⟩, ax, cx, pa, pc⟩ ∧ ∃ (zs2 : List Int) (b2 : Bool), LR (w2.alloc (.cells #[.int .i64 kd, .int .i64 id, .int .i64 s, .int .u8 m, .int .i64 t, .int .u8 n, .slice ax N cx, .bool y, .slice pa M pc] 28)) (w.heap.size + 1) zs2 b2 ∧ Rds rcP (some zs) (stL zs2 b2) ⟨kd, id, s, m, t, n, l, y, ps⟩) := fun w1 w2 kd id s m t n l y ps ax N cx pa M pc hb1 hl hM hg => by
    subst hl hM
    obtain ⟨⟨zs2, b2, L2, C2, D2⟩, h1, h2, h3, h4, h5, h6⟩ := hg
    have hs1 : w.heap.size + 1 ≤ w1.heap.size := by have := hb1.size; omega
    have ba : Below w2.heap.size w2 (w2.alloc (.cells #[.int .i64 kd, .int .i64 id, .int .i64 s, .int .u8 m, .int .i64 t, .int .u8 n, .slice ax l.length cx, .bool y, .slice pa ps.length pc] 28)) := (Below.refl _ _).alloc (Nat.le_refl _) _
    have bk : w2.heap[w.heap.size]? = W0.heap[w.heap.size]? := (C2.block w.heap.size (by omega) (by omega)).trans (hb1.block w.heap.size (by omega))
    have bw : Below w.heap.size w w2 := (hb0.trans (hb1.mono (by omega))).trans ((C2.mono (Y := fun j => w.heap.size ≤ j) (fun k _ e => by omega)).below (by omega) (fun k e => e))
    have hs2 : w1.heap.size ≤ w2.heap.size := C2.size
    refine ⟨⟨RBox.made w2 28 kd id s m t n ax l.length cx y pa ps.length pc, (hres.kept bk).past ba, fun i => ?_, h1.past ba, bw.trans (ba.mono (by omega)), by omega, fun x b o e => by have := h5 x b o e; omega, fun x b o e => by have := h6 x b o e; omega⟩, zs2, b2, L2.past ba, D2⟩
    rw [ba.frozen (p := ⟨w.heap.size, i, none⟩) (show w.heap.size < w2.heap.size by omega), (cell_of_block bk i).2]
    exact hfr i
  have HLR : Hid (∀ w1, Below W0.heap.size W0 w1 → w1.heap.size ≥ w.heap.size + 1) := fun w1 hb => by have := hb.size; omega
  clear hr hl hc hm hW0 hres hfr
  go_enter Try.func8, Try.ntmps8
  go_wp2_with (first
    | (have hgo := HY.out; clear hgo; go_at_call 11; refine (CG.out).mono ?_; rintro e u2 ⟨rfl, hb2⟩; have HZ : Hid (GG w u2 w2.heap.size ⟨⟨kd, id, s, m, t, n, l, y, ps⟩, ax, cx, pa, pc⟩) := HY.out.1.past hb2; clear x0 x1 x2 x3 x4 x5 x6 x7 x8 r0 r1 r2 r3 r4 r5 r6 r7 r8 t0_ t1_ t2_ t3_ t4_ t5_ t6_ t7_ t8_; have hgz := HZ.out; obtain ⟨x0, x1, x2, x3, x4, x5, x6, x7, x8⟩ := hgz.box; obtain ⟨r0, r1, r2, r3, r4, r5, r6, r7, r8⟩ := hgz.res; have t0_ := hgz.rfree 0; have t1_ := hgz.rfree 1; have t2_ := hgz.rfree 2; have t3_ := hgz.rfree 3; have t4_ := hgz.rfree 4; have t5_ := hgz.rfree 5; have t6_ := hgz.rfree 6; have t7_ := hgz.rfree 7; have t8_ := hgz.rfree 8; simp only [HY.out.2.2.2.2.2.2.1, HY.out.2.2.2.2.2.2.2] at x6 x8; clear hgz; clear hb2)
    | (have hgo := HY.out; clear hgo; go_at_call 27; refine (lleft_any _ zs2 b2 _ HY.out.2.1).mono ?_; rintro e u1 ⟨rfl, hu⟩; obtain rfl : U = u1 := hu.symm; clear hu)
    | (have hgo := HX.out; clear hgo; go_at_call 26; obtain ⟨U, hU⟩ : ∃ U, U = w2.alloc (.cells #[.int .i64 kd, .int .i64 id, .int .i64 s, .int .u8 m, .int .i64 t, .int .u8 n, .slice ax N cx, .bool y, .slice pa M pc] 28) := ⟨_, rfl⟩; rw [← hU] at HX ⊢; have HY : Hid (GG w U w2.heap.size ⟨⟨kd, id, s, m, t, n, l, y, ps⟩, ax, cx, pa, pc⟩ ∧ LR U (w.heap.size + 1) zs2 b2 ∧ Rds rcP (some zs) (stL zs2 b2) ⟨kd, id, s, m, t, n, l, y, ps⟩ ∧ (∀ W ∈ l, W.v.length ≤ 200) ∧ l.length ≤ 16 ∧ ps.length ≤ 8 ∧ l.length = N ∧ ps.length = M) := HX.out; have hgy := HY.out.1; obtain ⟨x0, x1, x2, x3, x4, x5, x6, x7, x8⟩ := hgy.box; obtain ⟨r0, r1, r2, r3, r4, r5, r6, r7, r8⟩ := hgy.res; have t0_ := hgy.rfree 0; have t1_ := hgy.rfree 1; have t2_ := hgy.rfree 2; have t3_ := hgy.rfree 3; have t4_ := hgy.rfree 4; have t5_ := hgy.rfree 5; have t6_ := hgy.rfree 6; have t7_ := hgy.rfree 7; have t8_ := hgy.rfree 8; simp only [HY.out.2.2.2.2.2.2.1, HY.out.2.2.2.2.2.2.2] at x6 x8; clear hgy; have CG : Hid (Calls Try.prog 11 #[.agg #[.int .i64 kd, .int .i64 id, .int .i64 s, .int .u8 m, .int .i64 t, .int .u8 n, .slice ax N cx, .bool y, .slice pa M pc]] U fun e w' => e = .returned (.bool (goodR ⟨kd, id, s, m, t, n, l, y, ps⟩)) ∧ Below U.heap.size U w') := (by have h := lgood_any ⟨⟨kd, id, s, m, t, n, l, y, ps⟩, ax, cx, pa, pc⟩ U HY.out.1.rc; unfold rcv encR at h; simp only [HY.out.2.2.2.2.2.2.1, HY.out.2.2.2.2.2.2.2] at h; exact h); obtain ⟨gr, hgr⟩ : ∃ gr, gr = goodR ⟨kd, id, s, m, t, n, l, y, ps⟩ := ⟨_, rfl⟩; rw [← hgr] at CG; have HGR : Hid (gr = goodR ⟨kd, id, s, m, t, n, l, y, ps⟩) := hgr; clear hU HX hgr; refine (lbad_any _ zs2 b2 _ HY.out.2.1).mono ?_; rintro e u1 ⟨rfl, hu⟩; obtain rfl : U = u1 := hu.symm; clear hu)
    | (have hgo := H1.out; clear hgo; go_at_call 25; refine (lget_ex _ zs _ H1.out.1).mono ?_; rintro e w2 ⟨kd, id, s, m, t, n, l, y, ps, ax, N, cx, pa, M, pc, rfl, hN, hM, hg⟩; obtain ⟨hgg, zs2, b2, hL, hD⟩ := HG.out w1 w2 kd id s m t n l y ps ax N cx pa M pc H1.out.2 hN hM hg; have HX : Hid (GG w (w2.alloc (.cells #[.int .i64 kd, .int .i64 id, .int .i64 s, .int .u8 m, .int .i64 t, .int .u8 n, .slice ax N cx, .bool y, .slice pa M pc] 28)) w2.heap.size ⟨⟨kd, id, s, m, t, n, l, y, ps⟩, ax, cx, pa, pc⟩ ∧ LR (w2.alloc (.cells #[.int .i64 kd, .int .i64 id, .int .i64 s, .int .u8 m, .int .i64 t, .int .u8 n, .slice ax N cx, .bool y, .slice pa M pc] 28)) (w.heap.size + 1) zs2 b2 ∧ Rds rcP (some zs) (stL zs2 b2) ⟨kd, id, s, m, t, n, l, y, ps⟩ ∧ (∀ W ∈ l, W.v.length ≤ 200) ∧ l.length ≤ 16 ∧ ps.length ≤ 8 ∧ l.length = N ∧ ps.length = M) := ⟨hgg, hL, hD, hg.vals, hg.few, hg.pfew, hN, hM⟩; clear hgg hL hD hg hN hM H1)
    | (go_at_call 24; rw [HW0.out]; refine CO.out.mono ?_; rintro e w1 ⟨rfl, hL, hB⟩; have H1 : Hid (LR w1 (w.heap.size + 1) zs false ∧ Below W0.heap.size W0 w1) := ⟨hL, hB⟩; clear hL hB))
  · have hb : b2 = true := by assumption
    subst hb
    have HBAD : getL zs = none := get_bad HY.out.2.2.1
    refine bodyPost_ret (results_rcd2 rfl _ _ w.heap.size 0 0 0 0 0 0 none 0 0 false none 0 0 (.int .i64 3) rfl rfl (HY.out.1.res.set9 0 0 0 0 0 0 none 0 0 false none 0 0)) rfl ?_
    exact ⟨zeroM, 3, rfl, zeroM_w _, fun W hW => by simp [zeroM, zeroR] at hW, Nat.zero_le _, Nat.zero_le _, .inr ⟨HBAD, rfl, rfl⟩, (HY.out.1.done [.int .i64 0, .int .i64 0, .int .i64 0, .int .u8 0, .int .i64 0, .int .u8 0, .slice none 0 0, .bool false, .slice none 0 0]).2⟩
  · have hb : b2 = false := by cases b2 <;> simp_all
    have hz : zs2 = [] := by assumption
    have hg : gr = false := by cases gr <;> simp_all
    subst hb hz
    have h1 := get_ok HY.out.2.2.1
    have HBAD : getL zs = none := by unfold getL; rw [h1]; simp only; rw [← HGR.out, hg]; rfl
    refine bodyPost_ret (results_rcd2 rfl _ _ w.heap.size 0 0 0 0 0 0 none 0 0 false none 0 0 (.int .i64 3) rfl rfl (HZ.out.res.set9 0 0 0 0 0 0 none 0 0 false none 0 0)) rfl ?_
    exact ⟨zeroM, 3, rfl, zeroM_w _, fun W hW => by simp [zeroM, zeroR] at hW, Nat.zero_le _, Nat.zero_le _, .inr ⟨HBAD, rfl, rfl⟩, (HZ.out.done [.int .i64 0, .int .i64 0, .int .i64 0, .int .u8 0, .int .i64 0, .int .u8 0, .slice none 0 0, .bool false, .slice none 0 0]).2⟩
  · have hb : b2 = false := by cases b2 <;> simp_all
    have hz : zs2 = [] := by assumption
    have hg : gr = true := by cases gr <;> simp_all
    subst hb hz
    have h1 := get_ok HY.out.2.2.1
    have HOK : getL zs = some ⟨kd, id, s, m, t, n, l, y, ps⟩ := by unfold getL; rw [h1]; simp only; rw [← HGR.out, hg]; rfl
    refine bodyPost_ret (results_rcd2 rfl _ _ w.heap.size kd id s m t n ax N cx y pa M pc (.int .i64 0) rfl rfl (HZ.out.res.set9 kd id s m t n ax N cx y pa M pc)) rfl ?_
    have hd := HZ.out.done [.int .i64 kd, .int .i64 id, .int .i64 s, .int .u8 m, .int .i64 t, .int .u8 n, .slice ax N cx, .bool y, .slice pa M pc]
    refine ⟨⟨⟨kd, id, s, m, t, n, l, y, ps⟩, ax, cx, pa, pc⟩, 0, ?_, hd.1, HY.out.2.2.2.1, HY.out.2.2.2.2.1, HY.out.2.2.2.2.2.1, .inl ⟨HOK, rfl⟩, hd.2⟩
    unfold rcv encR
    simp only [HY.out.2.2.2.2.2.2.1, HY.out.2.2.2.2.2.2.2]
  · have hb : b2 = false := by cases b2 <;> simp_all
    have hz : ¬ zs2 = [] := by assumption
    subst hb
    have h1 := get_ok HY.out.2.2.1
    have HBAD : getL zs = none := by
      unfold getL; rw [h1]
      cases zs2 with
      | nil => exact absurd rfl hz
      | cons z r => rfl
    refine bodyPost_ret (results_rcd2 rfl _ _ w.heap.size 0 0 0 0 0 0 none 0 0 false none 0 0 (.int .i64 3) rfl rfl (HY.out.1.res.set9 0 0 0 0 0 0 none 0 0 false none 0 0)) rfl ?_
    exact ⟨zeroM, 3, rfl, zeroM_w _, fun W hW => by simp [zeroM, zeroR] at hW, Nat.zero_le _, Nat.zero_le _, .inr ⟨HBAD, rfl, rfl⟩, (HY.out.1.done [.int .i64 0, .int .i64 0, .int .i64 0, .int .u8 0, .int .i64 0, .int .u8 0, .slice none 0 0, .bool false, .slice none 0 0]).2⟩
  · exfalso
    have hz : ¬ zs2 = [] := by assumption
    exact hz (List.eq_nil_of_length_eq_zero (by omega))
end Go.Proofs.Ytmiafadmcpmjgaa

